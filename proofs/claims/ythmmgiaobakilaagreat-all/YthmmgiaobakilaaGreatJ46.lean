import Derived.Test.YthmmgiaobakilaaGreatJ01
import Derived.Test.YthmmgiaobakilaaGreatJ28
import Derived.Test.YthmmgiaobakilaaGreatJ36
import Derived.Test.YthmmgiaobakilaaGreatJ45
set_option maxRecDepth 100000
set_option maxHeartbeats 8000000
set_option linter.all false
namespace Go.Proofs.YthmmgiaobakilaaGreat
open Go.RowKit Go.Deep
variable {B B' b n:Nat} {E P:Int} {T:List aH} {ao sd so:Option Addr} {ds:List (aH×Bool)} {e:Ending} {l:List (Int×Int)} {r:Option dx} {src:ByteArray} {us:List Value} {v:Value} {w w':World} {xs:List Int}
theorem G6 (E:bB):∀(ds:List (aH×Bool)) (σ:St),(Av E ds σ).cells=σ.cells++dcC ds
 | [],σ=>by show σ.cells=σ.cells++[];rw[eP]
 | d::ds,σ=>by
  show(Av E ds (dN E σ d.1 d.2 true)).cells=_;rw[G6 E ds,(mf E σ d.1 d.2 true).cells];unfold dcC;simp
theorem Qi {t:Sx} (h:yL src ds t):src.size<=300/\∃l p j,oN src src.size 0 []=(some l,p)/\dV 1000 (l++[aI p])=some (.ok ((ds,t),j))/\eQ (l++[aI p])/\(l++[aI p]).length<=900/\fE t (kX 0 0 ds)/\ds.length<=900:=by
 obtain⟨hs,l,p,j,hl,hr,htr⟩:=h;have hW:=rF hs hl;obtain⟨t1,t2,t3⟩:=wM hs hl;have hlen:=FZ src src.size 0 [] l p (by simp) (by omega) hl;have hT:(l++[aI p]).length<=301:=by simp;omega
 have hd:Bl src=(0,0):=by
  rw[<-I9];unfold iX;rw[ae (by omega),hl];show xJ (l++[aI p])=(0,0);unfold xJ;rw[hr];exact htr
 have hj:=Ay t1 hr;obtain⟨T,eT⟩:∃T,l++[aI p]=T:=⟨_,rfl⟩;have hd2:Lx T=(0,0):=by
  unfold Bl at hd;rw[ae (by omega),hl]at hd;rw[<-eT];exact hd
 rw[eT]at hr hW t1 t2 t3 hT hj;have h1:(ky T 1 ds t).fault=0:=by
  apply Classical.byContradiction;intro hn;have e:Lx T=((ky T 1 ds t).fault,(ky T 1 ds t).place):=by
   unfold Lx;rw[hr];exact ae hn
  rw[hd2]at e;exact hn (dO Prod.fst e).symm
 have nok:zu T:=λi=>⟨by have:=t2 i;omega,by have:=t2 i;omega⟩;obtain⟨_,_,hsh⟩:=E9 (X:=GE) (λn i e j h=>(Pg n).1 T i e j nok h) (λi u h hu=>by
  rcases hu with rfl|rfl
  .exact(ZJ hW (by unfold dI qg lD;simp) h).1
  .exact(ZJ hW (by unfold dI qg dY;simp) h).1) hr
 have ff:=PX (E:=vS T 1) rfl (dS t) t (af _) hsh _ h1;rw[G6]at ff;obtain⟨g1,_⟩:=AX (p:=λ_=>True) (λ_=>trivial) trivial hr;exact⟨hs,l,p,j,hl,by rw[eT];exact hr,by rw[eT];exact hW,by rw[eT];omega,ff,by omega⟩
theorem Ry {base g:Nat} {l:List Int} (h:w.heap[g]?=some (kY l)) (hb:base<=g) (hl:l.length<=maxLen):w.ownsRow base 3 1 (.slice (some ⟨g,0,none⟩) l.length l.length) l.length (l.map (Value.int .i64)):=by
 refine⟨by simp,.inr ⟨g,l.length,(l.map (Value.int .i64)).toArray,rfl,hb,h,af _,hl,by simp,?_⟩⟩;simp;exact oD (by simp)
def Em (toks:List aH) (sw sh:Int) (xs ys:List Int) (src:ByteArray) (p:Int):bB:=⟨toks,3,sw,sh,xs,ys,src,p⟩
def Qn7 (tv:Value) (W H:Int) (so sd ov hv:Value) (src:ByteArray):Obj:=.cells #[tv,.int .i64 3,.int .i64 0,.int .i64 0,.slice none 0 0,.int .i64 W,.int .i64 H,so,sd,.string src,ov,hv,.int .i64 0,.int .i64 0,.slice none 0 0,.int .i64 0,.bool false] 59 (0,0)
theorem Y5 {w3 W:World} {sw sh:Int} {ys:List Int} {N g cap c1 c2 b1 b2:Nat}
  (own:W.ownsRow 0 86 4 (.slice (some ⟨g,0,none⟩) T.length cap) T.length (bX T)) (hg:g<w3.heap.size) (h0:0<T.length) (h1:T.length<=1000)
  (hx:aF w3.heap.size W so xs) (hy:aF w3.heap.size W sd ys) (hN:N<=36) (e1:w3.heap.size<b1) (e2:w3.heap.size<b2) (ne:b1≠b2)
  (p1:W.heap[b1]?=some (kY (List.replicate N 0))) (p2:W.heap[b2]?=some (kY (List.replicate N 0)))
  (blk:W.heap[w3.heap.size]?=some (Qn7 (.slice (some ⟨g,0,none⟩) T.length cap) sw sh (.slice so xs.length c1) (.slice sd ys.length c2) (.slice (some ⟨b1,0,none⟩) N N) (.slice (some ⟨b2,0,none⟩) N N) src)) :
  Wk W w3.heap.size [] (Em T sw sh xs ys src 0) (Ru N):=by
 have o1:=Ry (base:=w3.heap.size+1) p1 (by omega) (by rw[mO];unfold maxLen;omega);have o2:=Ry (base:=w3.heap.size+1) p2 (by omega) (by rw[mO];unfold maxLen;omega);rw[mO]at o1 o2;have f1:(Ru N).opn.length=N:=mO ..;have f2:(Ru N).hid.length=N:=mO ..;refine⟨.slice (some ⟨g,0,none⟩) T.length cap,.slice none 0 0,.slice so xs.length c1,.slice sd ys.length c2,.slice (some ⟨b1,0,none⟩) N N,.slice (some ⟨b2,0,none⟩) N N,.slice none 0 0,⟨blk,own,λk hk=>?_,h0,h1,fD _ _ _ _,fD _ _ _ _,by rw[f1];exact o1,by rw[f2];exact o2,.inl rfl,.inl rfl,.inl rfl,.inl rfl,.inl rfl,.inr ?_,⟨so,c1,rfl,hx⟩,⟨sd,c2,rfl,hy⟩,λp hp=>by cases hp⟩⟩
 .have e:g=k:=by simpa[Value.ownBlock] using hk
  omega
 .intro e;simp[Value.ownBlock]at e;exact ne e
def Sz (w:World) (b:Nat) (c0 c1 c2 c3 c4:Value):Prop:=w.heap[b]?=some (.cells #[c0,c1,c2,c3,c4] 24 (0,0))
def Rz (w:World) (b:Nat) (c0 c1 c2 c3 c4:Value):Prop:=w.heap[b]?=some (.cells #[c0,c1,c2,c3,c4] 36 (0,0))
theorem Sz.later {c0 c1 c2 c3 c4:Value} (h:Sz w b c0 c1 c2 c3 c4) (hb:Below B w w') (hB:b<B):Sz w' b c0 c1 c2 c3 c4:=(hb.block b hB).trans h
theorem Rz.later {c0 c1 c2 c3 c4:Value} (h:Rz w b c0 c1 c2 c3 c4) (hb:Below B w w') (hB:b<B):Rz w' b c0 c1 c2 c3 c4:=(hb.block b hB).trans h
abbrev jG:Value:=.slice none 0 0
def Pf (w:World) (E P:Int) (r:Option dx) (e:Ending) (w':World):Prop:=Below w.heap.size w w'/\match r with
 | none=>e=.returned (.tuple #[lV,.int .i64 E,.int .i64 P])
 | some S=>∃ov hv rv,e=.returned (.tuple #[.agg #[ov,hv,.int .i64 S.steps,.int .i64 S.touched,rv],.int .i64 E,.int .i64 P])/\w'.ownsRow w.heap.size 3 1 ov S.opn.length (S.opn.map (Value.int .i64))/\w'.ownsRow w.heap.size 3 1 hv S.hid.length (S.hid.map (Value.int .i64))/\w'.ownsRow w.heap.size 61 2 rv S.trace.length (mF S.trace)
def Lt (w:World) (sw sh:Int) (xs ys:List Int) (src:ByteArray) (e:Ending) (w':World):Prop:=∃E P r,YD sw sh xs ys src E P r/\Pf w E P r e w'
theorem dJ {base e size:Nat} (h:w.ownsRow base e size v n us):∃ao c,v=.slice ao n c:=by
 rcases h.2 with⟨rfl,h0⟩|⟨g,cap,cur,rfl,_⟩
 .exact⟨none,0,by rw[h0]⟩
 .exact⟨_,_,rfl⟩
theorem P3.any {E E':bB} {D:PD} {σ:St} {S:dx} (h:P3 E D σ S):P3 E' D σ S:=⟨h.al,h.st,h.le,h.t0,h.tk,h.tt,h.tr,h.op,h.hi,h.lo,h.lh⟩
theorem Lf (w:World) (sw sh:Int) (so sd:Option Addr) (c1 c2:Nat) (xs ys:List Int) (src:ByteArray) (hx:aF w.heap.size w so xs) (hy:aF w.heap.size w sd ys) (lx:xs.length<=maxLen) (ly:ys.length<=maxLen) :
  Calls Tryz.prog 9 #[Cz sw sh so sd c1 c2 xs ys src] w (Lt w sw sh xs ys src):=by
 unfold Cz;obtain⟨w0,hw0⟩:∃w0,(w.alloc (.cells #[.int .i64 sw,.int .i64 sh,.slice so xs.length c1,.slice sd ys.length c2,.string src] 24)).alloc (.cells #[jG,jG,.int .i64 0,.int .i64 0,jG] 36)=w0:=⟨_,rfl⟩;have z0:w0.heap.size=w.heap.size+2:=by rw[<-hw0];simp
 have b0:Below w.heap.size w w0:=by rw[<-hw0];exact((ax _ w).alloc (af _) _).alloc (by simp) _
 have s0:Sz w0 w.heap.size (.int .i64 sw) (.int .i64 sh) (.slice so xs.length c1) (.slice sd ys.length c2) (.string src):=by rw[<-hw0];exact(av _ _ _ (by simp)).trans (aA w _)
 have r0:Rz w0 (w.heap.size+1) jG jG (.int .i64 0) (.int .i64 0) jG:=by
  rw[<-hw0];have:=aA (w.alloc (.cells #[.int .i64 sw,.int .i64 sh,.slice so xs.length c1,.slice sd ys.length c2,.string src] 24)) (.cells #[jG,jG,.int .i64 0,.int .i64 0,jG] 36);rw[bE]at this;exact this
 have F:=aj (CK sw sh so sd c1 c2 xs ys (.string src) w0 ((hx.later b0 (af _)).mono (by omega)) ((hy.later b0 (af _)).mono (by omega)) lx ly);have B0:=aj b0;have HX:=aj hx;have HY:=aj hy;have Z0:=aj z0;have fin:∀(W:World) (E P:Int),Rz W (w.heap.size+1) jG jG (.int .i64 0) (.int .i64 0) jG->Below w.heap.size w W->YD sw sh xs ys src E P none->∀W',(((((W.setCell ⟨w.heap.size+1,0,none⟩ jG).setCell ⟨w.heap.size+1,1,none⟩ jG).setCell ⟨w.heap.size+1,2,none⟩ (.int .i64 0)).setCell ⟨w.heap.size+1,3,none⟩ (.int .i64 0)).setCell ⟨w.heap.size+1,4,none⟩ jG)=W'->Rz W' (w.heap.size+1) jG jG (.int .i64 0) (.int .i64 0) jG/\Lt w sw sh xs ys src (.returned (.tuple #[lV,.int .i64 E,.int .i64 P])) W':=λW E P hr hb ha W' hW'=>by
  have r':Rz W' (w.heap.size+1) jG jG (.int .i64 0) (.int .i64 0) jG:=by rw[<-hW'];exact ZK hr _ _ _ _ _
  refine⟨r',E,P,none,ha,?_,rfl⟩;rw[<-hW'];exact((((hb.setCell (p:=⟨w.heap.size+1,0,none⟩) (by simp) _).setCell (p:=⟨w.heap.size+1,1,none⟩) (by simp) _).setCell (p:=⟨w.heap.size+1,2,none⟩) (by simp) _).setCell (p:=⟨w.heap.size+1,3,none⟩) (by simp) _).setCell (p:=⟨w.heap.size+1,4,none⟩) (by simp) _
 have FIN:=aj fin;obtain⟨⟨y0,y1,y2,y3,y4⟩,_⟩:=kE s0;clear hx hy b0 z0 fin;go_enter Tryz.func9,Tryz.ntmps9;go_wp2_with fail;clear hw0 y0 y1 y2 y3 y4;refine(aa F).mono ?_;rintro e w1 ⟨rfl,b1⟩;have z0:=aa Z0;have s1:=s0.later b1 (by omega);have r1:=r0.later b1 (by omega);have B1:Hid (Below w.heap.size w w1):=(aa B0).trans (b1.mono (by omega));have Z1:Hid (w.heap.size+2<=w1.heap.size):=by show _<=_;have:=b1.size;omega
 clear F B0 b1 s0 r0 z0 Z0;by_cases hs:bi sw sh xs ys=0
 .rw[hs];obtain⟨⟨y0,y1,y2,y3,y4⟩,_⟩:=kE s1;go_wp2_with fail;clear y0 y1 y2 y3 y4;refine(CY src _).mono ?_;rintro e w2 ⟨rfl,b2⟩;rw[<-I9];have z1:=aa Z1;have s2:=s1.later b2 (by omega);have r2:=r1.later b2 (by omega);have B2:Hid (Below w.heap.size w w2):=(aa B1).trans (b2.mono (by omega));have Z2:Hid (w.heap.size+2<=w2.heap.size):=by show _<=_;have:=b2.size;omega
  clear B1 b2 s1 r1 z1 Z1;by_cases hr:(iX src).1=0
  .obtain⟨ds,t,hT,hrd⟩:=QP hr;rw[hrd];obtain⟨hs3,l,p,jj,hl,hps,hW,hTl,hF3,hdl⟩:=Qi hT;have hsd:(dz sw&&dz sh)=true:=by
    unfold bi at hs;split at hs
    .assumption
    .cases hs
   rw[dC]at hsd;obtain⟨a1,a2,a3,a4,a5,a6⟩:=pO hsd.1 hsd.2;obtain⟨W,rfl⟩:∃W:Nat,sw=(W:Int):=⟨sw.toNat,by omega⟩;obtain⟨H,rfl⟩:∃H:Nat,sh=(H:Int):=⟨sh.toNat,by omega⟩;obtain⟨N,hN⟩:∃N:Nat,(W:Int)*(H:Int)=(N:Int):=⟨W*H,by rw[Int.natCast_mul]⟩;rw[hN]at a5 a6;have TK:=aj (BU src w2 hs3);have HL:=aj hl;have HT:=aj hT;have HPS:=aj hps;have HW:=aj hW;have HF3:=aj hF3;have HS:=aj hs;have HRD:=aj hrd;obtain⟨⟨y0,y1,y2,y3,y4⟩,_⟩:=kE s2;clear hl hT hps hW hF3 hs hrd hr hsd;go_wp2_with fail;clear y0 y1 y2 y3 y4;refine(aa TK).mono ?_;rintro e w3 ⟨ho,b3⟩;unfold tu at ho;rw[aa HL]at ho;obtain⟨v,rfl,own⟩:=ho;obtain⟨T,eT⟩:∃T,l++[aI p]=T:=⟨_,rfl⟩;have hTl':T.length=l.length+1:=by rw[<-eT];simp
   obtain⟨g,cap,rfl⟩:=iM own;rw[eT,<-hTl']at own;rw[eT]at hTl HPS HW;have z2:=aa Z2;have s3:=s2.later b3 (by omega);have r3:=r2.later b3 (by omega);have B3:Hid (Below w.heap.size w w3):=(aa B2).trans (b3.mono (by omega));have Z3:Hid (w.heap.size+2<=w3.heap.size):=by show _<=_;have:=b3.size;omega
   clear B2 b3 s2 r2 z2 Z2 TK HL eT;obtain⟨⟨y0,y1,y2,y3,y4⟩,_⟩:=kE s3;obtain⟨w4,hw4⟩:∃w4,w3.alloc (.cells #[.slice (some ⟨g,0,none⟩) (l.length+1) cap,.int .i64 3,.int .i64 0,.int .i64 0,jG,.int .i64 (W:Int),.int .i64 (H:Int),.slice so xs.length c1,.slice sd ys.length c2,.string src,jG,jG,.int .i64 0,.int .i64 0,jG,.int .i64 0,.bool false] 59)=w4:=⟨_,rfl⟩;have b4:Below w3.heap.size w3 w4:=by rw[<-hw4];exact(ax _ w3).alloc (af _) _
   have k4:w4.heap[w3.heap.size]?=some (.cells #[.slice (some ⟨g,0,none⟩) (l.length+1) cap,.int .i64 3,.int .i64 0,.int .i64 0,jG,.int .i64 (W:Int),.int .i64 (H:Int),.slice so xs.length c1,.slice sd ys.length c2,.string src,jG,jG,.int .i64 0,.int .i64 0,jG,.int .i64 0,.bool false] 59 (0,0)):=by rw[<-hw4];exact aA w3 _
   have z3:=aa Z3;have z4:w4.heap.size=w3.heap.size+1:=by rw[<-hw4];simp
   obtain⟨w5,hw5⟩:∃w5,w4.alloc (kY (List.replicate N 0))=w5:=⟨_,rfl⟩;have z5:w5.heap.size=w3.heap.size+2:=by rw[<-hw5];simp;omega
   have b5:Below w4.heap.size w4 w5:=by rw[<-hw5];exact(ax _ w4).alloc (af _) _
   have p5:w5.heap[w4.heap.size]?=some (kY (List.replicate N 0)):=by rw[<-hw5];exact aA w4 _
   have k5:=(b5.block w3.heap.size (by omega)).trans k4;obtain⟨w6,hw6⟩:∃w6,w5.setCell ⟨w3.heap.size,10,none⟩ (.slice (some ⟨w4.heap.size,0,none⟩) N N)=w6:=⟨_,rfl⟩;have z6:w6.heap.size=w3.heap.size+2:=by rw[<-hw6];simp;omega
   have k6:=aM w5 w3.heap.size 10 _ _ (.slice (some ⟨w4.heap.size,0,none⟩) N N) k5;rw[hw6]at k6;have oth6:∀k,k≠w3.heap.size->w6.heap[k]?=w5.heap[k]?:=λk hk=>by rw[<-hw6];exact ay _ _ _ _ hk
   have p6:=(oth6 _ (by omega)).trans p5;obtain⟨w7,hw7⟩:∃w7,w6.alloc (kY (List.replicate N 0))=w7:=⟨_,rfl⟩;have b7:Below w6.heap.size w6 w7:=by rw[<-hw7];exact(ax _ w6).alloc (af _) _
   have q7:w7.heap[w6.heap.size]?=some (kY (List.replicate N 0)):=by rw[<-hw7];exact aA w6 _
   have p7:=(b7.block w4.heap.size (by omega)).trans p6;have k7:=(b7.block w3.heap.size (by omega)).trans k6;obtain⟨w8,hw8⟩:∃w8,w7.setCell ⟨w3.heap.size,11,none⟩ (.slice (some ⟨w6.heap.size,0,none⟩) N N)=w8:=⟨_,rfl⟩;have z7:w7.heap.size=w3.heap.size+3:=by rw[<-hw7];simp;omega
   have z8:w8.heap.size=w3.heap.size+3:=by rw[<-hw8];simp;omega
   have k8:=aM w7 w3.heap.size 11 _ _ (.slice (some ⟨w6.heap.size,0,none⟩) N N) k7;rw[hw8]at k8;have oth8:∀k,k≠w3.heap.size->w8.heap[k]?=w7.heap[k]?:=λk hk=>by rw[<-hw8];exact ay _ _ _ _ hk
   have p8:=(oth8 _ (by omega)).trans p7;have q8:=(oth8 _ (by omega)).trans q7;have b8:Below w3.heap.size w3 w8:=by
    rw[<-hw8,<-hw7,<-hw6,<-hw5];refine((((b4.alloc (by omega) _).setCell (p:=⟨w3.heap.size,10,none⟩) (by simp) _).alloc ?_ _).setCell (p:=⟨w3.heap.size,11,none⟩) (by simp) _);simp;omega
   have s4:=s3.later b4 (by omega);have b6:Below w3.heap.size w3 w6:=by
    rw[<-hw6,<-hw5];exact(b4.alloc (by omega) _).setCell (p:=⟨w3.heap.size,10,none⟩) (by simp) _
   have s6:=s3.later b6 (by omega);have s8:=s3.later b8 (by omega);have r8:=r3.later b8 (by omega);have B8:Hid (Below w.heap.size w w8):=(aa B3).trans (b8.mono (by omega));have hgl:=(own.lt g rfl).2;have hwk:Wk w8 w3.heap.size [] (Em T W H xs ys src 0) (Ru N):=by
    refine Y5 (cu (Pi own (bO _)) (λk hk=>b8.block k (own.lt k hk).2)) hgl (by omega) (by omega) ?_ ?_ (by omega) (by omega) (by omega) (by omega) p8 q8 (by rw[hTl'];exact k8)
    .exact((aa HX).later (aa B8) (af _)).mono (by omega)
    .exact((aa HY).later (aa B8) (af _)).mono (by omega)
   have WK:=aj hwk;have S8:=aj s8;have R8:=aj r8;obtain⟨⟨x0,x1,x2,x3,x4⟩,_⟩:=kE s4;obtain⟨⟨u0,u1,u2,u3,u4⟩,_⟩:=kE s6;obtain⟨⟨v0,v1,v2,v3,v4⟩,_⟩:=kE s8;have m4:=IA w4 N a6;have m6:=IA w6 N a6;rw[hw5]at m4;rw[hw7]at m6;have c5:w5.cell? ⟨w3.heap.size,10,none⟩=some jG:=by simp[World.cell?,k5]
   have f5:w5.frozen? ⟨w3.heap.size,10,none⟩=false:=by simp[World.frozen?,k5]
   have c7:w7.cell? ⟨w3.heap.size,11,none⟩=some jG:=by simp[World.cell?,k7]
   have f7:w7.frozen? ⟨w3.heap.size,11,none⟩=false:=by simp[World.frozen?,k7]
   have Z8:Hid (w.heap.size+2<=w3.heap.size/\w8.heap.size=w3.heap.size+3):=⟨z3,z8⟩;clear z3 z4 z5 z6 z7 z8 k4 k5 k6 k7 k8 p5 p6 p7 p8 q7 q8 b4 b5 b6 b7 b8 s3 s4 s6 s8 r3 r8 own hwk oth6 oth8 hgl B3 Z3;go_wp2;clear hw4 hw5 hw6 hw7 hw8 m4 m6 c5 f5 c7 f7 x0 x1 x2 x3 x4 y0 y1 y2 y3 y4 u0 u1 u2 u3 u4 v0 v1 v2 v3 v4;have hWH:W*H=N:=by
    have:((W*H:Nat):Int)=(N:Int):=by rw[Int.natCast_mul];exact hN
    omega
   have ANS:Hid (∀r,r=Cm (uV W H xs ys) t (fV W H) (jg N)->YD W H xs ys src (if r.isSome then 0 else 12) 0 r):=λr hr=>by
    refine .inr (.inr ⟨aa HS,aa HRD,rfl,ds,t,aa HT,?_,rfl⟩);rw[gU,gU,hWH];exact hr
   have PT:Hid (∀(q:Nat) (σ:St) (S:dx),q<N->P3 (Em T W H xs ys src q) (uV W H xs ys) σ S->∃σ',qi 1000 (Em T W H xs ys src q) σ=some σ'/\lI σ'/\(((nK (uV W H xs ys) t S (((q % W:Nat):Int),((q / W:Nat):Int))).steps<=20000/\P3 (Em T W H xs ys src q) (uV W H xs ys) σ' (nK (uV W H xs ys) t S (((q % W:Nat):Int),((q / W:Nat):Int))))∨(20000<(nK (uV W H xs ys) t S (((q % W:Nat):Int),((q / W:Nat):Int))).steps/\σ'.dead=true))):=λq σ S hq hP=>by
    have hE:E3 (Em T W H xs ys src q) (uV W H xs ys):=Qo6 rfl rfl rfl rfl rfl (aa HS) (by show(0:Int)<=(q:Int);omega) (by show(q:Int)<(W:Int)*(H:Int);omega);have hTW:=aa HW;exact ZO hE ⟨hTW.last,hTW.nums⟩ hTW (by show T.length<=900;omega) 999 (aa HPS) hdl (aa HF3) hP
   have GS:Hid (∀(q:Nat) (S:dx),q<N->Cm (uV W H xs ys) t ((fV W H).take q) (jg N)=some S->Cm (uV W H xs ys) t ((fV W H).take (q+1)) (jg N)=if 20000<(nK (uV W H xs ys) t S (((q % W:Nat):Int),((q / W:Nat):Int))).steps then none else some (nK (uV W H xs ys) t S (((q % W:Nat):Int),((q / W:Nat):Int)))):=λq S hq hg=>by
    rw[Ui (by omega) (by omega) (by omega)];exact CF _ _ _ _ _ _ hg
   have Nb:P3 (Em T W H xs ys src 0) (uV W H xs ys) (Ru N) (jg N):=XP (by show(N:Int)=(W:Int)*(H:Int);omega);have OK0:lI (Ru N):=⟨by show 0<=1000;omega,by show(0:Int)<=0;decide,by show(0:Int)<=0;decide,by show(0:Int)<=_;decide⟩;clear HT HF3 HS HRD HW HPS
   go_loopw [11] (λi wr=>∃(q:Nat) (pp:Int) (σ:St) (S:dx),q<=N/\i=.int .i64 (q:Int)/\Wk wr w3.heap.size [] (Em T W H xs ys src pp) σ/\lI σ/\P3 (Em T W H xs ys src 0) (uV W H xs ys) σ S/\Cm (uV W H xs ys) t ((fV W H).take q) (jg N)=some S/\Below w3.heap.size w8 wr) (λi _=>N-(intOf i).toNat)
   case atStart=>exact⟨0,0,Ru N,jg N,bO _,rfl,aa WK,OK0,Nb,rfl,ax _ _⟩
   case round=>
    clear Nb OK0 WK;obtain⟨q,pp,σ,S,hq,rfl,hwk,hok,hP,hg,hnx⟩:=hrel;obtain⟨z1,z2⟩:=aa Z8;have sr:=(aa S8).later hnx (by omega);have rr:=(aa R8).later hnx (by omega);have Bn:Hid (Below w.heap.size w wr):=(aa B8).trans (hnx.mono (by omega));obtain⟨⟨v0,v1,v2,v3,v4⟩,_⟩:=kE sr;obtain⟨tv,lv,sv,dv,ov,hv,rv,hc⟩:=hwk;by_cases hlt:q<N
    .have hlt':(q:Int)<(N:Int):=by omega
     have c15:=hc.cell 15;have f15:=hc.thaw 15;simp at c15;obtain⟨w9,hw9⟩:∃w9,wr.setCell ⟨w3.heap.size,15,none⟩ (.int .i64 (q:Int))=w9:=⟨_,rfl⟩;have h9:Wk w9 w3.heap.size [] (Em T W H xs ys src q) σ:=by rw[<-hw9];exact⟨_,_,_,_,_,_,_,hc.point (q:Int)⟩
     have b9:Below w3.heap.size w8 w9:=by rw[<-hw9];exact hnx.setCell (p:=⟨w3.heap.size,15,none⟩) (by simp) _
     obtain⟨σ',e1,e2,e3⟩:=aa PT q σ S hlt hP.any;have SR:=aj (Ue 1000 w9 w3.heap.size [] (Em T W H xs ys src q) σ σ' h9 hok rfl ⟨by show(1:Int)<=(W:Int);omega,by show(W:Int)<=6;omega⟩ ⟨by show(0:Int)<=(q:Int);omega,by show(q:Int)<1000;omega⟩ e1);have B9:=aj b9;have E3':=aj e3;have G:=aj (aa GS q S hlt hg);clear hc h9 b9 e1 e3 hP hg hnx sr rr Bn;go_wp2_with fail;clear hw9 c15 f15 v0 v1 v2 v3 v4;refine(aa SR).mono ?_;rintro e w10 ⟨rfl,h10,b10⟩;have bb:=(aa B9).trans b10;obtain⟨tv',lv',sv',dv',ov',hv',rv',hc'⟩:=h10;have c16:=hc'.cell 16;simp at c16;have r10:=(aa R8).later bb (by omega);have B10:Hid (Below w.heap.size w w10):=(aa B8).trans (bb.mono (by omega));rcases aa E3' with⟨g1,g2⟩|⟨g1,g2⟩
     .have g3:=g2.al;rw[g3]at c16;have gg:=aa G;rw[ae (by omega)]at gg;have NX:Hid (∃(q':Nat) (pp':Int) (σ2:St) (S2:dx),q'<=N/\Value.int .i64 ((q:Int)+1)=.int .i64 (q':Int)/\Wk w10 w3.heap.size [] (Em T W H xs ys src pp') σ2/\lI σ2/\P3 (Em T W H xs ys src 0) (uV W H xs ys) σ2 S2/\Cm (uV W H xs ys) t ((fV W H).take q') (jg N)=some S2/\Below w3.heap.size w8 w10):=
       ⟨q+1,(q:Int),σ',_,by omega,by rw[Int.natCast_add];rfl,⟨_,_,_,_,_,_,_,hc'⟩,e2,g2.any,gg,bb⟩
      clear hc' r10 B10 bb b10 g1 g2 g3 gg E3' G SR B9 e2;go_wp2
      go_roundw
      case rel=>exact aa NX
      case measure=>simp[intOf];omega
     .rw[g2]at c16;have gg:=aa G;rw[ag g1]at gg;have gn:Cm (uV W H xs ys) t (fV W H) (jg N)=none:=by
       rw[Tu W H (q+1)];exact LG _ _ _ _ _ gg
      obtain⟨w11,hw11⟩:∃w11,(((((w10.setCell ⟨w.heap.size+1,0,none⟩ jG).setCell ⟨w.heap.size+1,1,none⟩ jG).setCell ⟨w.heap.size+1,2,none⟩ (.int .i64 0)).setCell ⟨w.heap.size+1,3,none⟩ (.int .i64 0)).setCell ⟨w.heap.size+1,4,none⟩ jG)=w11:=⟨_,rfl⟩;obtain⟨r11,O⟩:=aa FIN w10 12 0 r10 (aa B10) (aa ANS none gn.symm) w11 hw11;obtain⟨_,k0,k1,k2,k3,k4⟩:=kE r10;obtain⟨⟨x0,x1,x2,x3,x4⟩,_⟩:=kE r11;have O':=aj O;clear O r10 r11 FIN hc' bb b10 g1 g2 gg gn E3' G SR B9 B10 e2 PT GS ANS;go_wp2;refine aL (v:=.tuple #[lV,.int .i64 12,.int .i64 0]) (by simp[results,lV,Tryz.results9,go_sem,x0,x1,x2,x3,x4]) rfl ?_;exact aa O'
    .have hge:decide ((q:Int)<(N:Int))=false:=by simp;omega
     have qN:q=N:=by omega
     have gn:Cm (uV W H xs ys) t (fV W H) (jg N)=some S:=by
      rw[qN,oD (by rw[Eg,hWH];exact af _)]at hg;exact hg
     obtain⟨oa,oc,rfl⟩:=dJ hc.rowO;obtain⟨ha,hcp,rfl⟩:=dJ hc.rowH;obtain⟨ra,rc,rfl⟩:=dJ hc.rowR;have c10:=hc.cell 10;have c11:=hc.cell 11;have c12:=hc.cell 12;have c13:=hc.cell 13;have c14:=hc.cell 14;simp at c10 c11 c12 c13 c14;rw[hP.st]at c12;rw[hP.tt]at c13;obtain⟨w11,hw11⟩:∃w11,(((((wr.setCell ⟨w.heap.size+1,0,none⟩ (.slice oa σ.opn.length oc)).setCell ⟨w.heap.size+1,1,none⟩ (.slice ha σ.hid.length hcp)).setCell ⟨w.heap.size+1,2,none⟩ (.int .i64 S.steps)).setCell ⟨w.heap.size+1,3,none⟩ (.int .i64 S.touched)).setCell ⟨w.heap.size+1,4,none⟩ (.slice ra σ.trace.length rc))=w11:=⟨_,rfl⟩;have r11:Rz w11 (w.heap.size+1) (.slice oa σ.opn.length oc) (.slice ha σ.hid.length hcp) (.int .i64 S.steps) (.int .i64 S.touched) (.slice ra σ.trace.length rc):=by rw[<-hw11];exact ZK rr _ _ _ _ _
     have keep:∀(e size n:Nat) (x:Value) (us:List Value),wr.ownsRow (w3.heap.size+1) e size x n us->w11.ownsRow w.heap.size e size x n us:=λe size n x us h=>by
      rw[<-hw11];have lt:w.heap.size+1<w3.heap.size+1:=by omega
      exact Pi (ownsRow_setCell_below (ownsRow_setCell_below (ownsRow_setCell_below (ownsRow_setCell_below (ownsRow_setCell_below h (a:=⟨w.heap.size+1,0,none⟩) lt (.slice oa σ.opn.length oc)) (a:=⟨w.heap.size+1,1,none⟩) lt (.slice ha σ.hid.length hcp)) (a:=⟨w.heap.size+1,2,none⟩) lt (.int .i64 S.steps)) (a:=⟨w.heap.size+1,3,none⟩) lt (.int .i64 S.touched)) (a:=⟨w.heap.size+1,4,none⟩) lt (.slice ra σ.trace.length rc)) (by omega)
     have o1:=keep _ _ _ _ _ hc.rowO;have o2:=keep _ _ _ _ _ hc.rowH;have o3:=keep _ _ _ _ _ hc.rowR;rw[hP.op]at o1;rw[hP.hi]at o2;rw[hP.tr]at o3;have bw:Below w.heap.size w w11:=by
      rw[<-hw11];exact(((((aa Bn).setCell (p:=⟨w.heap.size+1,0,none⟩) (by simp) _).setCell (p:=⟨w.heap.size+1,1,none⟩) (by simp) _).setCell (p:=⟨w.heap.size+1,2,none⟩) (by simp) _).setCell (p:=⟨w.heap.size+1,3,none⟩) (by simp) _).setCell (p:=⟨w.heap.size+1,4,none⟩) (by simp) _
     have O:Hid (Lt w W H xs ys src (.returned (.tuple #[.agg #[(.slice oa σ.opn.length oc),(.slice ha σ.hid.length hcp),.int .i64 S.steps,.int .i64 S.touched,(.slice ra σ.trace.length rc)],.int .i64 0,.int .i64 0])) w11):=by
      show Lt w W H xs ys src _ w11;rw[hP.op,hP.hi,hP.tr];exact⟨0,0,some S,aa ANS (some S) gn.symm,bw,_,_,_,rfl,o1,o2,o3⟩
     obtain⟨_,k0,k1,k2,k3,k4⟩:=kE rr;obtain⟨⟨x0,x1,x2,x3,x4⟩,_⟩:=kE r11;clear hc hP hg gn o1 o2 o3 bw keep r11 rr sr hnx Bn PT GS ANS FIN;go_wp2;refine aL (v:=.tuple #[.agg #[(.slice oa σ.opn.length oc),(.slice ha σ.hid.length hcp),.int .i64 S.steps,.int .i64 S.touched,(.slice ra σ.trace.length rc)],.int .i64 0,.int .i64 0]) (by simp[results,Tryz.results9,go_sem,x0,x1,x2,x3,x4]) rfl ?_;exact aa O
  .obtain⟨w3,hw3⟩:∃w3,(((((w2.setCell ⟨w.heap.size+1,0,none⟩ jG).setCell ⟨w.heap.size+1,1,none⟩ jG).setCell ⟨w.heap.size+1,2,none⟩ (.int .i64 0)).setCell ⟨w.heap.size+1,3,none⟩ (.int .i64 0)).setCell ⟨w.heap.size+1,4,none⟩ jG)=w3:=⟨_,rfl⟩;obtain⟨r3,O⟩:=aa FIN w2 _ _ r2 (aa B2) (.inr (.inl ⟨hs,hr,rfl,rfl,rfl⟩)) w3 hw3;obtain⟨_,f0,f1,f2,f3,f4⟩:=kE r2;obtain⟨⟨x0,x1,x2,x3,x4⟩,_⟩:=kE r3;have O':=aj O;have hr':((iX src).1 != 0)=true:=by simp[hr]
   clear O r2 r3 s2 FIN;go_wp2;refine aL (v:=.tuple #[lV,.int .i64 (iX src).1,.int .i64 (iX src).2]) (by simp[results,lV,Tryz.results9,go_sem,x0,x1,x2,x3,x4]) rfl ?_;exact aa O'
 .obtain⟨w3,hw3⟩:∃w3,(((((w1.setCell ⟨w.heap.size+1,0,none⟩ jG).setCell ⟨w.heap.size+1,1,none⟩ jG).setCell ⟨w.heap.size+1,2,none⟩ (.int .i64 0)).setCell ⟨w.heap.size+1,3,none⟩ (.int .i64 0)).setCell ⟨w.heap.size+1,4,none⟩ jG)=w3:=⟨_,rfl⟩;obtain⟨r3,O⟩:=aa FIN w1 _ _ r1 (aa B1) (.inl ⟨hs,rfl,rfl,rfl⟩) w3 hw3;obtain⟨_,f0,f1,f2,f3,f4⟩:=kE r1;obtain⟨⟨x0,x1,x2,x3,x4⟩,_⟩:=kE r3;have O':=aj O;have hs':(bi sw sh xs ys != 0)=true:=by simp[hs]
  clear O r1 r3 s1 FIN;go_wp2;refine aL (v:=.tuple #[lV,.int .i64 (bi sw sh xs ys),.int .i64 0]) (by simp[results,lV,Tryz.results9,go_sem,x0,x1,x2,x3,x4]) rfl ?_;exact aa O'
def wS (B:Nat) (w:World) (ao:Option Addr) (l:List (Int×Int)):Prop:=
 l=[]∨∃g,ao=some ⟨g,0,none⟩/\g<B/\∀j,j<l.length->w.cell? ⟨g,j*2,none⟩=some (.int .i64 (l.getD j (0,0)).1)/\w.cell? ⟨g,j*2+1,none⟩=some (.int .i64 (l.getD j (0,0)).2)
theorem wS.later (h:wS B w ao l) (hb:Below B' w w') (hB:B<=B'):wS B w' ao l:=by
 rcases h with h|⟨g,h1,h2,h3⟩
 .exact .inl h
 .exact .inr ⟨g,h1,h2,λj hj=>⟨(hb.cell (p:=⟨g,j*2,none⟩) (by show g<B';omega)).trans (h3 j hj).1,(hb.cell (p:=⟨g,j*2+1,none⟩) (by show g<B';omega)).trans (h3 j hj).2⟩⟩
theorem wS.mono (h:wS B w ao l) (hB:B<=B'):wS B' w ao l:=by
 rcases h with h|⟨g,h1,h2,h3⟩
 .exact .inl h
 .exact .inr ⟨g,h1,by omega,h3⟩
theorem QX:∀(l:List (Int×Int)) (j:Nat),j<l.length->(yg l)[j*2]?=some (.int .i64 (l.getD j (0,0)).1)/\(yg l)[j*2+1]?=some (.int .i64 (l.getD j (0,0)).2)
 | [],j,h=>by simp at h
 | (a,b)::l,0,_=>⟨rfl,rfl⟩
 | (a,b)::l,j+1,h=>by
  have:=QX l j (by simpa using h);have e:yg ((a,b)::l)=.int .i64 a::.int .i64 b::yg l:=rfl;rw[e,show(j+1)*2=j*2+1+1 by omega,show j*2+1+1+1=(j*2+1)+1+1 by omega];simpa using this
theorem Ms {base e:Nat} (h:w.ownsRow base e 1 v n (xs.map (Value.int .i64))) (hn:n=xs.length):∃ao c,v=.slice ao xs.length c/\aF w.heap.size w ao xs/\xs.length<=maxLen:=by
 subst hn;rcases h.2 with⟨h1,h0⟩|⟨g,cap,cur,hv,_,_,k1,k2,_⟩
 .exact⟨none,0,by rw[h1,h0],.inl (Bc h0),by rw[h0];exact bO _⟩
 .subst hv;refine⟨_,_,rfl,.inr ⟨g,0,rfl,(h.lt g rfl).2,λj hj=>?_⟩,by omega⟩;have:=h.cellAt j (by omega);rw[pM];refine this.trans ?_;simp[lY,aU hj,List.getD]
theorem Ns {base e:Nat} (h:w.ownsRow base e 2 v n (yg l)) (hn:n=l.length):∃ao c,v=.slice ao l.length c/\wS w.heap.size w ao l/\l.length<=maxLen:=by
 subst hn;rcases h.2 with⟨h1,h0⟩|⟨g,cap,cur,hv,_,_,k1,k2,_⟩
 .exact⟨none,0,by rw[h1,h0],.inl (Bc h0),by rw[h0];exact bO _⟩
 .subst hv;refine⟨_,_,rfl,.inr ⟨g,rfl,(h.lt g rfl).2,λj hj=>?_⟩,by omega⟩;obtain⟨t1,t2⟩:=QX l j hj;exact⟨(h.cellAt _ (by omega)).trans t1,(h.cellAt _ (by omega)).trans t2⟩
theorem DY (ao bo:Option Addr) (c d:Nat) (xs:List Int) (w:World) (hx:aF w.heap.size w ao xs) (hy:aF w.heap.size w bo xs) (hm:xs.length<=maxLen) :
  Calls Tryz.prog 26 #[.slice ao xs.length c,.slice bo xs.length d] w λe w'=>e=.returned (.bool true)/\Below w.heap.size w w':=by
 have hl:xs.length<=9223372036854775807:=by unfold maxLen at hm;omega
 clear hm;go_enter Tryz.func26,Tryz.ntmps26;go_wp2
 go_loopw [5] (λi wr=>∃k:Nat,k<=xs.length/\i=.int .i64 k/\Below w.heap.size w wr) (λi _=>xs.length-(intOf i).toNat)
 case atStart=>exact⟨0,bO _,rfl,ax _ _⟩
 case round=>
  obtain⟨k,hk,rfl,hnx⟩:=hrel;by_cases hlt:k<xs.length
  .rcases hx with hx|⟨b1,off1,rfl,hb1,hc1⟩
   .simp[hx]at hlt
   rcases hy with hy|⟨b2,off2,rfl,hb2,hc2⟩
   .simp[hy]at hlt
   have x1:=(hnx.cell (p:=⟨b1,off1+k,none⟩) hb1).trans (hc1 k hlt);have x2:=(hnx.cell (p:=⟨b2,off2+k,none⟩) hb2).trans (hc2 k hlt);clear hc1 hc2;generalize xs.getD k 0=v at x1 x2;have hi:(k:Int)<(xs.length:Int):=by omega
   have R:=aj hnx.drew;clear hnx;go_wp2
   go_region
   all_goals (try go_wp2)
   all_goals
    go_roundw
    case rel=>exact⟨k+1,by omega,by go_num,aa R⟩
    case measure=>simp[intOf];omega
  .go_wp2;go_ret;exact⟨rfl,hnx⟩
theorem Rz.new (w:World) (c0 c1 c2 c3 c4:Value):Rz (w.alloc (.cells #[c0,c1,c2,c3,c4] 36)) w.heap.size c0 c1 c2 c3 c4:=aA w _
theorem Sz.new (w:World) (c0 c1 c2 c3 c4:Value):Sz (w.alloc (.cells #[c0,c1,c2,c3,c4] 24)) w.heap.size c0 c1 c2 c3 c4:=aA w _
theorem MG (ao bo to ao' bo' to':Option Addr) (c d f c' d' f':Nat) (xs ys:List Int) (st tt:Int) (l:List (Int×Int)) (w:World)
  (hx:aF w.heap.size w ao xs) (hy:aF w.heap.size w bo ys) (ht:wS w.heap.size w to l) (hx':aF w.heap.size w ao' xs) (hy':aF w.heap.size w bo' ys) (ht':wS w.heap.size w to' l) (lx:xs.length<=maxLen) (ly:ys.length<=maxLen) (hm:l.length<=maxLen) :
  Calls Tryz.prog 10 #[.agg #[.slice ao xs.length c,.slice bo ys.length d,.int .i64 st,.int .i64 tt,.slice to l.length f],.agg #[.slice ao' xs.length c',.slice bo' ys.length d',.int .i64 st,.int .i64 tt,.slice to' l.length f']] w λe w'=>e=.returned (.bool true)/\Below w.heap.size w w':=by
 have hl:l.length<=9223372036854775807:=by unfold maxLen at hm;omega
 clear hm;obtain⟨w1,hw1⟩:∃w1,(w.alloc (.cells #[.slice ao xs.length c,.slice bo ys.length d,.int .i64 st,.int .i64 tt,.slice to l.length f] 36)).alloc (.cells #[.slice ao' xs.length c',.slice bo' ys.length d',.int .i64 st,.int .i64 tt,.slice to' l.length f'] 36)=w1:=⟨_,rfl⟩;have z1:w1.heap.size=w.heap.size+2:=by rw[<-hw1];simp
 have b1:Below w.heap.size w w1:=by rw[<-hw1];exact((ax _ w).alloc (af _) _).alloc (by simp) _
 have r1:Rz w1 w.heap.size (.slice ao xs.length c) (.slice bo ys.length d) (.int .i64 st) (.int .i64 tt) (.slice to l.length f):=by rw[<-hw1];exact(av _ _ _ (by simp)).trans (aA w _)
 have s1:Rz w1 (w.heap.size+1) (.slice ao' xs.length c') (.slice bo' ys.length d') (.int .i64 st) (.int .i64 tt) (.slice to' l.length f'):=by
  rw[<-hw1];have:=Rz.new (w.alloc (.cells #[.slice ao xs.length c,.slice bo ys.length d,.int .i64 st,.int .i64 tt,.slice to l.length f] 36)) (.slice ao' xs.length c') (.slice bo' ys.length d') (.int .i64 st) (.int .i64 tt) (.slice to' l.length f');rw[bE]at this;exact this
 obtain⟨⟨x0,x1,x2,x3,x4⟩,_⟩:=kE r1;obtain⟨⟨y0,y1,y2,y3,y4⟩,_⟩:=kE s1;have S1:=aj (DY ao ao' c c' xs w1 ((hx.later b1 (af _)).mono b1.size) ((hx'.later b1 (af _)).mono b1.size) lx);have S2:=aj (λw2 (b2:Below w.heap.size w w2)=>DY bo bo' d d' ys w2 ((hy.later b2 (af _)).mono b2.size) ((hy'.later b2 (af _)).mono b2.size) ly);have HT:Hid (∀w2,Below w.heap.size w w2->wS w.heap.size w2 to l/\wS w.heap.size w2 to' l):=λw2 b2=>⟨ht.later b2 (af _),ht'.later b2 (af _)⟩;have B1:=aj b1;have R1:Hid (Rz w1 w.heap.size _ _ _ _ _/\Rz w1 (w.heap.size+1) _ _ _ _ _):=⟨r1,s1⟩;have Z1:=aj z1;clear b1 r1 s1 z1 hx hy ht hx' hy' ht' lx ly;go_enter Tryz.func10,Tryz.ntmps10;go_wp2_with fail;clear hw1 x0 x1 x2 x3 x4 y0 y1 y2 y3 y4;refine(aa S1).mono ?_;rintro e w2 ⟨rfl,b2⟩;have z1:=aa Z1;have r2:=(aa R1).1.later b2 (by omega);have s2:=(aa R1).2.later b2 (by omega);have B2:=aj ((aa B1).trans (b2.mono (by omega)));have e2:=b2.size;obtain⟨⟨x0,x1,x2,x3,x4⟩,_⟩:=kE r2;obtain⟨⟨y0,y1,y2,y3,y4⟩,_⟩:=kE s2;have R2:Hid ((Rz w2 w.heap.size _ _ _ _ _/\Rz w2 (w.heap.size+1) _ _ _ _ _)/\w.heap.size+2<=w2.heap.size):=⟨⟨r2,s2⟩,by omega⟩;clear S1 z1 r2 s2 b2 e2 B1 R1 Z1;go_wp2_with fail;clear x0 x1 x2 x3 x4 y0 y1 y2 y3 y4;refine(aa S2 w2 (aa B2)).mono ?_;rintro e w3 ⟨rfl,b3⟩;have r3:=(aa R2).1.1.later b3 (by have:=(aa R2).2;omega);have s3:=(aa R2).1.2.later b3 (by have:=(aa R2).2;omega);have B3:=aj ((aa B2).trans (b3.mono (by have:=(aa R2).2;omega)));have e3:=b3.size;have HT3:=aj (aa HT w3 (aa B3))
 obtain⟨⟨x0,x1,x2,x3,x4⟩,_⟩:=kE r3;obtain⟨⟨y0,y1,y2,y3,y4⟩,_⟩:=kE s3;have R3:Hid ((Rz w3 w.heap.size _ _ _ _ _/\Rz w3 (w.heap.size+1) _ _ _ _ _)/\w.heap.size+2<=w3.heap.size):=⟨⟨r3,s3⟩,by have:=(aa R2).2;omega⟩;clear S2 r3 s3 b3 e3 B2 R2 HT;go_wp2;clear x0 x1 x2 x3 x4 y0 y1 y2 y3 y4
 go_loopw [7] (λi wr=>∃k:Nat,k<=l.length/\i=.int .i64 k/\Below w3.heap.size w3 wr) (λi _=>l.length-(intOf i).toNat)
 case atStart=>exact⟨0,bO _,rfl,ax _ _⟩
 case round=>
  obtain⟨k,hk,rfl,hnx⟩:=hrel;have z3:=(aa R3).2;obtain⟨⟨_,_,_,_,x4⟩,_⟩:=kE ((aa R3).1.1.later hnx (by omega));obtain⟨⟨_,_,_,_,y4⟩,_⟩:=kE ((aa R3).1.2.later hnx (by omega));by_cases hlt:k<l.length
  .obtain⟨ht,ht'⟩:=aa HT3;rcases ht with hx|⟨g1,rfl,hb1,hc1⟩
   .simp[hx]at hlt
   rcases ht' with hy|⟨g2,rfl,hb2,hc2⟩
   .simp[hy]at hlt
   have u1:=(hnx.cell (p:=⟨g1,k*2,none⟩) (by show g1<w3.heap.size;omega)).trans (hc1 k hlt).1;have u2:=(hnx.cell (p:=⟨g1,k*2+1,none⟩) (by show g1<w3.heap.size;omega)).trans (hc1 k hlt).2;have u3:=(hnx.cell (p:=⟨g2,k*2,none⟩) (by show g2<w3.heap.size;omega)).trans (hc2 k hlt).1;have u4:=(hnx.cell (p:=⟨g2,k*2+1,none⟩) (by show g2<w3.heap.size;omega)).trans (hc2 k hlt).2;clear hc1 hc2;generalize (l.getD k (0,0)).1=v1 at u1 u3;generalize (l.getD k (0,0)).2=v2 at u2 u4;have hi:(k:Int)<(l.length:Int):=by omega
   have R:=aj hnx.drew;clear hnx z3 R3 B3 HT3;go_wp2
   go_region
   all_goals (try go_wp2)
   all_goals
    go_roundw
    case rel=>exact⟨k+1,by omega,by go_num,aa R⟩
    case measure=>simp[intOf];omega
  .go_wp2;go_ret;exact⟨rfl,(aa B3).trans (hnx.mono (by omega))⟩
theorem jV (w:World) (o:Obj):Below w.heap.size w (w.alloc o):=(ax _ w).alloc (af _) o
def Xw:Option dx->List Int|none=>[]|some S=>S.opn
def WV:Option dx->List Int|none=>[]|some S=>S.hid
def rSt:Option dx->Int|none=>0|some S=>S.steps
def rTt:Option dx->Int|none=>0|some S=>S.touched
def Y4:Option dx->List (Int×Int)|none=>[]|some S=>S.trace
theorem tF.shape (h:tF w E P r e w'):∃ao c bo d to f,e=.returned (.tuple #[.agg #[.slice ao (Xw r).length c,.slice bo (WV r).length d,.int .i64 (rSt r),.int .i64 (rTt r),.slice to (Y4 r).length f],.int .i64 E,.int .i64 P])/\aF w'.heap.size w' ao (Xw r)/\aF w'.heap.size w' bo (WV r)/\wS w'.heap.size w' to (Y4 r)/\Below w.heap.size w w':=by
 cases r with
 | none=>exact⟨none,0,none,0,none,0,h.2,.inl rfl,.inl rfl,.inl rfl,h.1⟩
 | some S=>
  obtain⟨hb,ob,hb',rv,he,ho,hh,hr,_⟩:=h;have i1:aF w'.heap.size w' (some ⟨ob,0,none⟩) S.opn:=by
   refine .inr ⟨ob,0,rfl,(az.1 ho).1,λj hj=>?_⟩;rw[pM];exact(lZ ho hj).1
  have i2:aF w'.heap.size w' (some ⟨hb',0,none⟩) S.hid:=by
   refine .inr ⟨hb',0,rfl,(az.1 hh).1,λj hj=>?_⟩;rw[pM];exact(lZ hh hj).1
  obtain⟨to,f,rfl,i3,_⟩:=Ns hr rfl;exact⟨_,_,_,_,to,f,he,i1,i2,i3,hb⟩
theorem Pf.shape (h:Pf w E P r e w'):∃ao c bo d to f,e=.returned (.tuple #[.agg #[.slice ao (Xw r).length c,.slice bo (WV r).length d,.int .i64 (rSt r),.int .i64 (rTt r),.slice to (Y4 r).length f],.int .i64 E,.int .i64 P])/\aF w'.heap.size w' ao (Xw r)/\aF w'.heap.size w' bo (WV r)/\wS w'.heap.size w' to (Y4 r)/\(Xw r).length<=maxLen/\(WV r).length<=maxLen/\(Y4 r).length<=maxLen/\Below w.heap.size w w':=by
 cases r with
 | none=>exact⟨none,0,none,0,none,0,h.2,.inl rfl,.inl rfl,.inl rfl,bO _,bO _,bO _,h.1⟩
 | some S=>
  obtain⟨hb,ov,hv,rv,he,ho,hh,hr⟩:=h;obtain⟨ao,c,rfl,i1,l1⟩:=Ms ho rfl;obtain⟨bo,d,rfl,i2,l2⟩:=Ms hh rfl;obtain⟨to,f,rfl,i3,l3⟩:=Ns hr rfl;exact⟨ao,c,bo,d,to,f,he,i1,i2,i3,l1,l2,l3,hb⟩
theorem IQ (w:World) (sw sh:Int) (so sd:Option Addr) (c1 c2:Nat) (xs ys:List Int) (src:ByteArray) (hx:aF w.heap.size w so xs) (hy:aF w.heap.size w sd ys) (lx:xs.length<=maxLen) (ly:ys.length<=maxLen) (ls:src.size<=maxLen) :
  Calls Tryz.prog 5 #[Cz sw sh so sd c1 c2 xs ys src] w λe w'=>e=.returned (.bool true)/\Below w.heap.size w w':=by
 unfold Cz;obtain⟨w1,hw1⟩:∃w1,w.alloc (.cells #[.int .i64 sw,.int .i64 sh,.slice so xs.length c1,.slice sd ys.length c2,.string src] 24)=w1:=⟨_,rfl⟩;have z1:w1.heap.size=w.heap.size+1:=by rw[<-hw1];simp
 have b1:Below w.heap.size w w1:=by rw[<-hw1];exact jV _ _
 have s1:Sz w1 w.heap.size (.int .i64 sw) (.int .i64 sh) (.slice so xs.length c1) (.slice sd ys.length c2) (.string src):=by rw[<-hw1];exact Sz.new _ _ _ _ _ _
 have PP:=aj (Kh w1 sw sh so sd c1 c2 xs ys src ((hx.later b1 (af _)).mono (by omega)) ((hy.later b1 (af _)).mono (by omega)) lx ly ls);have RP:=aj (λw2 (b2:Below w.heap.size w w2)=>Lf w2 sw sh so sd c1 c2 xs ys src ((hx.later b2 (af _)).mono b2.size) ((hy.later b2 (af _)).mono b2.size) lx ly);unfold Cz at PP RP;obtain⟨⟨x0,x1,x2,x3,x4⟩,_⟩:=kE s1;have B1:=aj b1;have SS1:=aj s1;have Z1:=aj z1;clear b1 s1 z1 hx hy lx ly ls;go_enter Tryz.func5,Tryz.ntmps5;go_wp2_with fail;clear hw1 x0 x1 x2 x3 x4;refine(aa PP).mono ?_;rintro e w2 ⟨E,P,r,hA,hR⟩;obtain⟨ao,c,bo,d,to,f,rfl,i1,i2,i3,b2⟩:=hR.shape;have z1:=aa Z1;have e2:=b2.size;obtain⟨w3,hw3⟩:∃w3,w2.alloc (.cells #[.slice ao (Xw r).length c,.slice bo (WV r).length d,.int .i64 (rSt r),.int .i64 (rTt r),.slice to (Y4 r).length f] 36)=w3:=⟨_,rfl⟩;have z3:w3.heap.size=w2.heap.size+1:=by rw[<-hw3];simp
 have b3:Below w2.heap.size w2 w3:=by rw[<-hw3];exact jV _ _
 have r3:=Rz.new w2 (.slice ao (Xw r).length c) (.slice bo (WV r).length d) (.int .i64 (rSt r)) (.int .i64 (rTt r)) (.slice to (Y4 r).length f);rw[hw3]at r3;have s3:=((aa SS1).later b2 (by omega)).later b3 (by omega);have B3:=aj (((aa B1).trans (b2.mono (by omega))).trans (b3.mono (by omega)));obtain⟨⟨x0,x1,x2,x3,x4⟩,_⟩:=kE s3;have I3:Hid (aF w3.heap.size w3 ao (Xw r)/\aF w3.heap.size w3 bo (WV r)/\wS w3.heap.size w3 to (Y4 r)):=⟨(i1.later b3 (af _)).mono (by omega),(i2.later b3 (af _)).mono (by omega),(i3.later b3 (af _)).mono (by omega)⟩;have R3:=aj r3;have Z3:Hid (w3.heap.size=w2.heap.size+1/\w.heap.size<w2.heap.size):=⟨z3,by omega⟩;have HA:=aj hA;clear PP hA hR i1 i2 i3 b2 z1 e2 z3 b3 r3 s3 B1 SS1 Z1;go_wp2_with fail;clear hw3 x0 x1 x2 x3 x4;refine(aa RP w3 (aa B3)).mono ?_;rintro e w4 ⟨E',P',r',hA',hR'⟩;obtain⟨rfl,rfl,rfl⟩:=QH (aa HA) hA';obtain⟨ao',c',bo',d',to',f',rfl,i1',i2',i3',l1,l2,l3,b4⟩:=hR'.shape;have z3:=aa Z3;have e4:=b4.size;obtain⟨w5,hw5⟩:∃w5,w4.alloc (.cells #[.slice ao' (Xw r').length c',.slice bo' (WV r').length d',.int .i64 (rSt r'),.int .i64 (rTt r'),.slice to' (Y4 r').length f'] 36)=w5:=⟨_,rfl⟩;have z5:w5.heap.size=w4.heap.size+1:=by rw[<-hw5];simp
 have b5:Below w4.heap.size w4 w5:=by rw[<-hw5];exact jV _ _
 have r5:=Rz.new w4 (.slice ao' (Xw r').length c') (.slice bo' (WV r').length d') (.int .i64 (rSt r')) (.int .i64 (rTt r')) (.slice to' (Y4 r').length f');rw[hw5]at r5;have q5:=((aa R3).later b4 (by omega)).later b5 (by omega);have B5:=aj (((aa B3).trans (b4.mono (by omega))).trans (b5.mono (by omega)));have b35:Below w3.heap.size w3 w5:=b4.trans (b5.mono e4);obtain⟨j1,j2,j3⟩:=aa I3;have SR:=aj (MG ao bo to ao' bo' to' c d f c' d' f' (Xw r') (WV r') (rSt r') (rTt r') (Y4 r') w5 ((j1.later b35 (af _)).mono (by omega)) ((j2.later b35 (af _)).mono (by omega)) ((j3.later b35 (af _)).mono (by omega)) ((i1'.later b5 (af _)).mono (by omega)) ((i2'.later b5 (af _)).mono (by omega)) ((i3'.later b5 (af _)).mono (by omega)) l1 l2 l3);obtain⟨⟨x0,x1,x2,x3,x4⟩,_⟩:=kE r5;obtain⟨⟨y0,y1,y2,y3,y4⟩,_⟩:=kE q5;have Z5:Hid (w.heap.size<=w5.heap.size):=by show _<=_;omega
 clear RP HA hA' hR' i1' i2' i3' l1 l2 l3 b4 z3 e4 z5 b5 r5 q5 B3 b35 j1 j2 j3 I3 R3 Z3;go_wp2_with fail;clear hw5 x0 x1 x2 x3 x4 y0 y1 y2 y3 y4;refine(aa SR).mono ?_;rintro e w6 ⟨rfl,b6⟩;have B6:=aj ((aa B5).trans (b6.mono (aa Z5)));clear SR b6 B5 Z5;go_wp2;go_ret;exact⟨rfl,aa B6⟩
def D6:ByteArray:=⟨#[111,117,116,32,112,101,101,107,91,120,44,32,121,93,59,32,104,105,100,101,32,115,112,121,91,49,32,45,32,120,44,32,121,93,59]⟩
theorem Ny {x y:Int} (h:w.heap[b]?=some (.cells #[.int .i64 x,.int .i64 y] 3 (0,0))):aF (b+1) w (some ⟨b,0,none⟩) [x,y]:=by
 refine .inr ⟨b,0,rfl,by omega,λj hj=>?_⟩;have hj':j=0∨j=1:=by simp at hj;omega
 rcases hj' with rfl|rfl
 .exact(yo h).1.1
 .exact(yo h).1.2
theorem U0 (w:World):Calls Tryz.prog 6 #[] w λe w'=>∃so sd,e=.returned (Cz 2 1 so sd 2 2 [10,20] [30,40] D6)/\aF w'.heap.size w' so [10,20]/\aF w'.heap.size w' sd [30,40]/\Below w.heap.size w w':=by
 obtain⟨w1,hw1⟩:∃w1,w.alloc (.cells #[.int .i64 2,.int .i64 1,.slice (some ⟨w.heap.size+1,0,none⟩) 2 2,.slice (some ⟨w.heap.size+1+1,0,none⟩) 2 2,.string D6] 24)=w1:=⟨_,rfl⟩;have z1:w1.heap.size=w.heap.size+1:=by rw[<-hw1];simp
 have b1:Below w.heap.size w w1:=by rw[<-hw1];exact jV _ _
 have s1:Sz w1 w.heap.size (.int .i64 2) (.int .i64 1) (.slice (some ⟨w.heap.size+1,0,none⟩) 2 2) (.slice (some ⟨w.heap.size+1+1,0,none⟩) 2 2) (.string D6):=by rw[<-hw1];exact Sz.new _ _ _ _ _ _
 obtain⟨w2,hw2⟩:∃w2,w1.alloc (.cells #[.int .i64 10,.int .i64 20] 3)=w2:=⟨_,rfl⟩;have z2:w2.heap.size=w1.heap.size+1:=by rw[<-hw2];simp
 have b2:Below w1.heap.size w1 w2:=by rw[<-hw2];exact jV _ _
 have i2:aF (w1.heap.size+1) w2 (some ⟨w1.heap.size,0,none⟩) [10,20]:=by rw[<-hw2];exact Ny (aA w1 _)
 obtain⟨w3,hw3⟩:∃w3,w2.alloc (.cells #[.int .i64 30,.int .i64 40] 3)=w3:=⟨_,rfl⟩;have z3:w3.heap.size=w2.heap.size+1:=by rw[<-hw3];simp
 have b3:Below w2.heap.size w2 w3:=by rw[<-hw3];exact jV _ _
 have i3:aF (w2.heap.size+1) w3 (some ⟨w2.heap.size,0,none⟩) [30,40]:=by rw[<-hw3];exact Ny (aA w2 _)
 have s3:=(s1.later b2 (by omega)).later b3 (by omega);obtain⟨⟨x0,x1,x2,x3,x4⟩,_⟩:=kE s3;have F:Hid (aF w3.heap.size w3 (some ⟨w.heap.size+1,0,none⟩) [10,20]/\aF w3.heap.size w3 (some ⟨w.heap.size+1+1,0,none⟩) [30,40]/\Below w.heap.size w w3):=by
  rw[<-z1,<-z2];exact⟨(i2.later b3 (by omega)).mono (by omega),i3.mono (by omega),(b1.trans (b2.mono (by omega))).trans (b3.mono (by omega))⟩
 have HW:Hid (((w.alloc (.cells #[.int .i64 2,.int .i64 1,.slice (some ⟨w.heap.size+1,0,none⟩) 2 2,.slice (some ⟨w.heap.size+1+1,0,none⟩) 2 2,.string D6] 24)).alloc (.cells #[.int .i64 10,.int .i64 20] 3)).alloc (.cells #[.int .i64 30,.int .i64 40] 3)=w3):=by show _=_;rw[hw1,hw2,hw3]
 clear z1 b1 s1 z2 b2 i2 z3 b3 i3 s3 hw1 hw2 hw3;go_enter Tryz.func6,Tryz.ntmps6;go_wp2;have HW':=aa HW;unfold D6 at HW';rw[HW'];unfold D6 at x4;refine aL (v:=Cz 2 1 (some ⟨w.heap.size+1,0,none⟩) (some ⟨w.heap.size+1+1,0,none⟩) 2 2 [10,20] [30,40] D6) (by simp[results,Tryz.results6,go_sem,x0,x1,x2,x3,x4,Cz,D6]) rfl ⟨_,_,rfl,(aa F).1,(aa F).2.1,(aa F).2.2⟩
theorem Og (w:World) (sw sh:Int) (so sd:Option Addr) (c1 c2:Nat) (xs ys:List Int) (src:ByteArray) (hx:aF w.heap.size w so xs) (hy:aF w.heap.size w sd ys) (lx:xs.length<=maxLen) (ly:ys.length<=maxLen) (ls:src.size<=maxLen) :
  Calls Tryz.prog 3 #[Cz sw sh so sd c1 c2 xs ys src] w λe w'=>e=.returned (.bool true)/\Below w.heap.size w w':=by
 unfold Cz;obtain⟨w1,hw1⟩:∃w1,w.alloc (.cells #[.int .i64 sw,.int .i64 sh,.slice so xs.length c1,.slice sd ys.length c2,.string src] 24)=w1:=⟨_,rfl⟩;have z1:w1.heap.size=w.heap.size+1:=by rw[<-hw1];simp
 have b1:Below w.heap.size w w1:=by rw[<-hw1];exact jV _ _
 have s1:Sz w1 w.heap.size (.int .i64 sw) (.int .i64 sh) (.slice so xs.length c1) (.slice sd ys.length c2) (.string src):=by rw[<-hw1];exact Sz.new _ _ _ _ _ _
 have PP:=aj (λw2 (b2:Below w.heap.size w w2)=>IQ w2 sw sh so sd c1 c2 xs ys src ((hx.later b2 (af _)).mono b2.size) ((hy.later b2 (af _)).mono b2.size) lx ly ls);unfold Cz at PP;have B1:=aj b1;have SS1:=aj s1;have Z1:=aj z1;clear b1 s1 z1 hx hy lx ly ls;go_enter Tryz.func3,Tryz.ntmps3;go_wp2_with fail;clear hw1;refine(U0 w1).mono ?_;rintro e w2 ⟨so',sd',rfl,i1,i2,b2⟩;go_wp2_with fail;have hm:(2:Nat)<=maxLen:=by unfold maxLen;decide
 refine(IQ w2 2 1 so' sd' 2 2 [10,20] [30,40] D6 i1 i2 hm hm (by unfold maxLen;decide)).mono ?_;rintro e w3 ⟨rfl,b3⟩;have z1:=aa Z1;have e2:=b2.size;have e3:=b3.size;have s3:=((aa SS1).later b2 (by omega)).later b3 (by omega);have B3:=aj (((aa B1).trans (b2.mono (by omega))).trans (b3.mono (by omega)));obtain⟨⟨x0,x1,x2,x3,x4⟩,_⟩:=kE s3;have Z3:Hid (w.heap.size<=w3.heap.size):=by show _<=_;omega
 clear i1 i2 b2 b3 z1 e2 e3 s3 B1 SS1 Z1 hm;go_wp2_with fail;clear x0 x1 x2 x3 x4;refine(aa PP w3 (aa B3)).mono ?_;rintro e w4 ⟨rfl,b4⟩;have B4:=aj ((aa B3).trans (b4.mono (aa Z3)));clear PP b4 B3 Z3;go_wp2;go_ret;exact⟨rfl,aa B4⟩
end Go.Proofs.YthmmgiaobakilaaGreat
