import Derived.Test.YthmmgiaobakilaaGreatJ01
import Derived.Test.YthmmgiaobakilaaGreatJ10
import Derived.Test.YthmmgiaobakilaaGreatJ11
set_option maxRecDepth 100000
set_option maxHeartbeats 8000000
set_option linter.all false
namespace Go.Proofs.YthmmgiaobakilaaGreat
open Go.RowKit Go.Deep
variable {W w w' w2:World} {ao:Option Addr} {c:Int×Int} {size:Nat} {ty:TypeId} {v v':Value} {vs:List Int} {xs:List Value}
def lK (x:Int):Prop:=-2147483648<=x/\x<=2147483647
def Bt (b:Bool):Int:=if b then 1 else 0
def Uz (a b:Int):Int:=if b=0 then 0 else wrap32 (Int.tdiv a b)
def fP (n c:Int):Int:=min (max n 0) (c-1)
theorem AO (x:Int):lK (wrap32 x):=by unfold lK wrap32;omega
theorem XY (b:Bool):lK (Bt b):=by unfold lK;cases b<;>decide
theorem Xy (a b:Int):lK (Uz a b):=by
 unfold Uz;split
 .unfold lK;decide
 .exact AO _
theorem Gf (w:World) (n c:Int) (hn:lK n) (hc:1<=c/\c<=1000):Calls Tryz.prog 135 #[.int .i32 n,.int .i64 c] w λe w'=>e=.returned (.int .i64 (fP n c))/\w'=w:=by
 obtain⟨h1,h2⟩:=hn;obtain⟨h3,h4⟩:=hc;unfold fP;go_enter Tryz.func135,Tryz.ntmps135;go_wp2;go_ret;exact⟨rfl,rfl⟩
theorem ze (w:World) (b:Bool):Calls Tryz.prog 122 #[.bool b] w λe w'=>e=.returned (.int .i32 (Bt b))/\w'=w:=by
 go_enter Tryz.func122,Tryz.ntmps122
 cases b
 .go_wp2;go_ret;exact⟨rfl,rfl⟩
 .go_wp2;go_ret;exact⟨rfl,rfl⟩
theorem Lc (w:World) (a b:Int):Calls Tryz.prog 121 #[.int .i32 a,.int .i32 b] w λe w'=>e=.returned (.int .i32 (Uz a b))/\w'=w:=by
 unfold Uz;by_cases hb:b=0
 .subst hb;go_enter Tryz.func121,Tryz.ntmps121;go_wp2;go_ret;exact⟨rfl,rfl⟩
 .rw[ae hb];go_enter Tryz.func121,Tryz.ntmps121;go_wp2;go_ret;exact⟨rfl,rfl⟩
def vM (w:World) (ao:Option Addr) (vs:List Int):Prop:=vs=[]∨∃g,ao=some ⟨g,0,none⟩/\∀j v,vs[j]?=some v->w.cell? ⟨g,j,none⟩=some (.int .i32 v)
theorem vM.cells {v:Int} (h:vM w ao (v::vs)):∃g,ao=some ⟨g,0,none⟩/\∀j x,(v::vs)[j]?=some x->w.cell? ⟨g,j,none⟩=some (.int .i32 x):=by
 rcases h with h|h
 .cases h
 .exact h
def Je (r a b:Int):Int:=
 if r=43 then wrap32 (a+b) else
 if r=45 then wrap32 (a-b) else
 if r=215 then wrap32 (a*b) else
 if r=247 then Uz a b else
 if r=61 then Bt (a==b) else
 if r=8800 then Bt (a != b) else
 if r=60 then Bt (decide (a<b)) else Bt (decide (a<=b))
def BD (r:Int) (vs:List Int):Int:=if vs.length=1 then wrap32 (-(vs.getD 0 0)) else Je r (vs.getD 0 0) (vs.getD 1 0)
theorem YO (r a b:Int):lK (Je r a b):=by
 unfold Je
 repeat' split
 all_goals first|exact AO _|exact Xy _ _|exact XY _
theorem UB (r:Int) (vs:List Int):lK (BD r vs):=by
 unfold BD;split
 .exact AO _
 .exact YO _ _ _
theorem Wu (w:World) (r a:Int) (ao:Option Addr) (c:Nat) (h:vM w ao [a]):Calls Tryz.prog 93 #[.int .i32 r,.slice ao 1 c] w λe w'=>e=.returned (.int .i32 (BD r [a]))/\Below w.heap.size w w':=by
 obtain⟨g,rfl,hc⟩:=h.cells;have c0:=hc 0 a rfl;go_enter Tryz.func93,Tryz.ntmps93;go_wp2;go_ret;exact⟨rfl,ax _ _⟩
theorem Y6 (w:World) (r a b:Int) (ao:Option Addr) (c:Nat) (h:vM w ao [a,b]):Calls Tryz.prog 93 #[.int .i32 r,.slice ao 2 c] w λe w'=>e=.returned (.int .i32 (Je r a b))/\Below w.heap.size w w':=by
 obtain⟨g,rfl,hc⟩:=h.cells;have c0:=hc 0 a rfl;have c1:=hc 1 b rfl;have bd:Below w.heap.size w w.drew:=(ax _ w).drew;clear h hc;go_enter Tryz.func93,Tryz.ntmps93;go_wp2
 go_region
 by_cases h1:r=43
 .have eo:Je r a b=wrap32 (a+b):=by unfold Je;rw[ag h1]
  have e1:(r==43)=true:=by simp[h1]
  go_wp2;go_ret;exact⟨by rw[eo];rfl,bd⟩
 have e1:(r==43)=false:=by simp[h1]
 by_cases h2:r=45
 .have eo:Je r a b=wrap32 (a-b):=by unfold Je;rw[ae h1,ag h2]
  have e2:(r==45)=true:=by simp[h2]
  go_wp2;go_ret;exact⟨by rw[eo];rfl,bd⟩
 have e2:(r==45)=false:=by simp[h2]
 by_cases h3:r=215
 .have eo:Je r a b=wrap32 (a*b):=by unfold Je;rw[ae h1,ae h2,ag h3]
  have e3:(r==215)=true:=by simp[h3]
  go_wp2;go_ret;exact⟨by rw[eo];rfl,bd⟩
 have e3:(r==215)=false:=by simp[h3]
 by_cases h4:r=247
 .have eo:Je r a b=Uz a b:=by unfold Je;rw[ae h1,ae h2,ae h3,ag h4]
  have e4:(r==247)=true:=by simp[h4]
  go_wp2_with fail;refine(Lc _ a b).mono ?_;rintro e w' ⟨rfl,rfl⟩;go_wp2;go_ret;exact⟨by rw[eo];rfl,bd⟩
 have e4:(r==247)=false:=by simp[h4]
 by_cases h5:r=61
 .have eo:Je r a b=Bt (a==b):=by unfold Je;rw[ae h1,ae h2,ae h3,ae h4,ag h5]
  have e5:(r==61)=true:=by simp[h5]
  go_wp2_with fail;refine(ze _ (a==b)).mono ?_;rintro e w' ⟨rfl,rfl⟩;go_wp2;go_ret;exact⟨by rw[eo];rfl,bd⟩
 have e5:(r==61)=false:=by simp[h5]
 by_cases h6:r=8800
 .have eo:Je r a b=Bt (a != b):=by unfold Je;rw[ae h1,ae h2,ae h3,ae h4,ae h5,ag h6]
  have e6:(r==8800)=true:=by simp[h6]
  go_wp2_with fail;refine(ze _ (a != b)).mono ?_;rintro e w' ⟨rfl,rfl⟩;go_wp2;go_ret;exact⟨by rw[eo];rfl,bd⟩
 have e6:(r==8800)=false:=by simp[h6]
 by_cases h7:r=60
 .have eo:Je r a b=Bt (decide (a<b)):=by unfold Je;rw[ae h1,ae h2,ae h3,ae h4,ae h5,ae h6,ag h7]
  have e7:(r==60)=true:=by simp[h7]
  go_wp2_with fail;refine(ze _ (decide (a<b))).mono ?_;rintro e w' ⟨rfl,rfl⟩;go_wp2;go_ret;exact⟨by rw[eo];rfl,bd⟩
 have e7:(r==60)=false:=by simp[h7]
 have eo:Je r a b=Bt (decide (a<=b)):=by unfold Je;rw[ae h1,ae h2,ae h3,ae h4,ae h5,ae h6,ae h7]
 go_wp2_with fail;refine(ze _ (decide (a<=b))).mono ?_;rintro e w' ⟨rfl,rfl⟩;go_wp2;go_ret;exact⟨by rw[eo];rfl,bd⟩
def OY (t:Int×Int):List Value:=[.int .i64 t.1,.int .i64 t.2]
def yg (l:List (Int×Int)):List Value:=l.flatMap OY
theorem Ps (l:List (Int×Int)) (c:Int×Int):yg (l++[c])=yg l++OY c:=by simp[yg]
theorem Qb1 (t:Int×Int):∀u∈OY t,u.oneCell'=true:=by
 intro u hu;simp only[OY,aO,aQ,aR]at hu;rcases hu with rfl|rfl<;>rfl
theorem Zm:(Tryz.prog.info? 61).map (λi=>(i.zero,i.size,i.bytes))=some (some (.agg #[.int .i64 0,.int .i64 0]),2,16):=by kernel_rfl
structure PD where
 pb:Nat
 mb:Nat
 ob:Nat
 hb:Nat
 B:Nat
 sw:Int
 sh:Int
 so:Option Addr
 sd:Option Addr
 c1:Nat
 c2:Nat
 opens:List Int
 hids:List Int
 src:ByteArray
structure dx where
 cx:Int
 cy:Int
 vals:ByteArray->Int
 steps:Int
 touched:Int
 trace:List (Int×Int)
 opn:List Int
 hid:List Int
def Jt (D:PD) (S:dx) (rv:Value):Obj:=.cells #[.int .i64 D.sw,.int .i64 D.sh,.slice D.so D.opens.length D.c1,.slice D.sd D.hids.length D.c2,.string D.src,.int .i64 S.cx,.int .i64 S.cy,.map (some D.mb),.slice (some ⟨D.ob,0,none⟩) S.opn.length S.opn.length,.slice (some ⟨D.hb,0,none⟩) S.hid.length S.hid.length,.int .i64 S.steps,.int .i64 S.touched,rv] 82 (0,0)
def kY (l:List Int):Obj:=.cells (l.map (Value.int .i64)).toArray 3 (0,0)
def PD.own (D:PD) (k:Nat):Prop:=k=D.pb∨k=D.mb∨k=D.ob∨k=D.hb
structure bI (w:World) (D:PD) (S:dx) (n:Nat) (rv:Value):Prop where
 blk:w.heap[D.pb]?=some (Jt D S rv)
 map:mQ 21 .i32 w D.mb n S.vals
 rowO:w.heap[D.ob]?=some (kY S.opn)
 rowH:w.heap[D.hb]?=some (kY S.hid)
 rowR:w.ownsRow D.B 61 2 rv S.trace.length (yg S.trace)
 ne:D.pb≠D.mb/\D.pb≠D.ob/\D.pb≠D.hb/\D.mb≠D.ob/\D.mb≠D.hb/\D.ob≠D.hb
 base:∀k,D.own k->D.B<=k
 away:∀k,rv.ownBlock=some k->¬ D.own k
 tex1:aF D.B w D.so D.opens
 tex2:aF D.B w D.sd D.hids
structure aS (D:PD) (rv:Value) (w w':World) (rv':Value):Prop where
 size:w.heap.size<=w'.heap.size
 block:∀k,k<w.heap.size->¬ D.own k->rv.ownBlock≠some k->w'.heap[k]?=w.heap[k]?
 same:bY w w'
 tr:rv'.ownBlock=rv.ownBlock∨∃k,rv'.ownBlock=some k/\w.heap.size<=k
theorem aS.refl (D:PD) (rv:Value) (w:World):aS D rv w w rv:=⟨af _,λ_ _ _ _=>rfl,bY.refl _,.inl rfl⟩
theorem aS.trans {D:PD} {r1 r2 r3:Value} {a b c:World} (h1:aS D r1 a b r2) (h2:aS D r2 b c r3):aS D r1 a c r3:=by
 have s1:=h1.size;have s2:=h2.size;refine⟨by omega,λk hk ho hr=>?_,h1.same.trans h2.same,?_⟩
 .refine(h2.block k (by omega) ho ?_).trans (h1.block k hk ho hr);rcases h1.tr with e|⟨j,e,hj⟩
  .rw[e];exact hr
  .rw[e];intro e2;cases e2;omega
 .rcases h2.tr with e|⟨j,e,hj⟩
  .rw[e];exact h1.tr
  .exact .inr ⟨j,e,by omega⟩
theorem aS.alloc (D:PD) (rv:Value) (w:World) (o:Obj):aS D rv w (w.alloc o) rv:=⟨by simp,λk hk _ _=>av w o k hk,bY.alloc (bY.refl _) o,.inl rfl⟩
theorem aS.below (D:PD) (rv:Value) (h:Below w.heap.size w w'):aS D rv w w' rv:=⟨h.size,λk hk _ _=>h.block k hk,⟨h.os,h.tape,h.output⟩,.inl rfl⟩
theorem aS.drew (D:PD) (rv:Value) (w:World):aS D rv w w.drew rv:=⟨af _,λ_ _ _ _=>rfl,⟨rfl,rfl,rfl⟩,.inl rfl⟩
theorem aS.set {D:PD} {rv rv':Value} {w w':World} (h:aS D rv w w' rv') {p:Addr} (hp:D.own p.block) (v:Value):aS D rv w (w'.setCell p v) rv':=
 ⟨by have:=h.size;simpa using this,λk hk ho hr=>(ay _ _ _ _ (λe=>ho (by rw[e];exact hp))).trans (h.block k hk ho hr),h.same.set p v,h.tr⟩
theorem aF.sameP {B:Nat} {xs:List Int} (h:aF B w ao xs) (hs:∀k,k<B->w'.heap[k]?=w.heap[k]?):aF B w' ao xs:=by
 rcases h with h|⟨b,off,e,hb,hc⟩
 .exact .inl h
 .exact .inr ⟨b,off,e,hb,λj hj=>(iY (hs b hb)).trans (hc j hj)⟩
theorem cu {base e n:Nat} (h:w.ownsRow base e size v n xs) (hs:∀k,v.ownBlock=some k->w'.heap[k]?=w.heap[k]?):w'.ownsRow base e size v n xs:=by
 obtain⟨hl,h⟩:=h;refine⟨hl,?_⟩;rcases h with h|⟨g,cap,cur,rfl,h1,h2,h3⟩
 .exact .inl h
 .exact .inr ⟨g,cap,cur,rfl,h1,(hs g rfl).trans h2,h3⟩
section
variable {w:World} {D:PD} {S:dx} {n:Nat} {rv:Value}
theorem bI.ltP (h:bI w D S n rv):D.pb<w.heap.size:=(az.1 h.blk).1
theorem bI.ltO (h:bI w D S n rv):D.ob<w.heap.size:=(az.1 h.rowO).1
theorem bI.ltH (h:bI w D S n rv):D.hb<w.heap.size:=(az.1 h.rowH).1
theorem bI.ltM (h:bI w D S n rv):D.mb<w.heap.size:=h.map.lt
theorem bI.later {w':World} (h:bI w D S n rv) (hk:∀k,k<w.heap.size->w'.heap[k]?=w.heap[k]?):bI w' D S n rv:=by
 refine⟨(hk _ h.ltP).trans h.blk,h.map.later (hk _ h.ltM),(hk _ h.ltO).trans h.rowO,(hk _ h.ltH).trans h.rowH,cu h.rowR (λk e=>hk k (h.rowR.lt k e).2),h.ne,h.base,h.away,?_,?_⟩
 .exact h.tex1.sameP (λk hb=>hk k (by have:=h.base _ (.inl rfl);have:=h.ltP;omega))
 .exact h.tex2.sameP (λk hb=>hk k (by have:=h.base _ (.inl rfl);have:=h.ltP;omega))
theorem bI.below (h:bI w D S n rv) (hb:Below w.heap.size w w'):bI w' D S n rv:=h.later (λk hk=>hb.block k hk)
theorem bI.turn {S':dx} (h:bI w D S n rv) (e1:S'.vals=S.vals) (e2:S'.trace=S.trace) (e3:S'.opn=S.opn) (e4:S'.hid=S.hid) (hb:w'.heap[D.pb]?=some (Jt D S' rv)) (hk:∀k,k≠D.pb->w'.heap[k]?=w.heap[k]?):bI w' D S' n rv:=by
 obtain⟨n1,n2,n3,_⟩:=h.ne;refine⟨hb,?_,?_,?_,?_,h.ne,h.base,h.away,?_,?_⟩
 .rw[e1];exact h.map.later (hk _ (Ne.symm n1))
 .rw[e3];exact(hk _ (Ne.symm n2)).trans h.rowO
 .rw[e4];exact(hk _ (Ne.symm n3)).trans h.rowH
 .rw[e2];exact cu h.rowR (λk e=>hk k (λe2=>h.away k e (.inl e2)))
 .exact h.tex1.sameP (λk hl=>hk k (by have:=h.base _ (.inl rfl);omega))
 .exact h.tex2.sameP (λk hl=>hk k (by have:=h.base _ (.inl rfl);omega))
end
def aK (S:dx):dx:={ S with steps:=S.steps+1 }
def bC (S:dx) (a b:Int):dx:=if S.trace.length<100 then { S with touched:=S.touched+1,trace:=S.trace++[(a,b)] } else { S with touched:=S.touched+1 }
theorem GY (w:World) (D:PD) (S:dx) (n:Nat) (rv:Value) (h:bI w D S n rv) (h0:0<=S.steps) (h1:S.steps<=1000000) :
  Calls Tryz.prog 62 #[.pointer (some ⟨D.pb,0,none⟩)] w λe w'=>e=.returned (.tuple #[])/\bI w' D (aK S) n rv/\aS D rv w w' rv:=by
 have hb:=h.blk;unfold Jt at hb;obtain⟨cs,zs⟩:=qR hb;have HT:Hid (bI (w.setCell ⟨D.pb,10,none⟩ (.int .i64 (S.steps+1))) D (aK S) n rv):=h.turn rfl rfl rfl rfl (aM _ D.pb 10 _ _ _ h.blk) (λk hk=>ay _ _ _ _ hk);have HS:Hid (aS D rv w (w.setCell ⟨D.pb,10,none⟩ (.int .i64 (S.steps+1))) rv):=(aS.refl D rv w).set (.inl rfl) _;obtain⟨x0,x1,x2,x3,x4,x5,x6,x7,x8,x9,x10,x11,x12⟩:=cs;obtain⟨y0,y1,y2,y3,y4,y5,y6,y7,y8,y9,y10,y11,y12⟩:=zs;clear h hb x0 x1 x2 x3 x4 x5 x6 x7 x8 x9 x11 x12;go_enter Tryz.func62,Tryz.ntmps62;go_wp2
 go_end0
 exact⟨rfl,aa HT,aa HS⟩
theorem MP (w:World) (D:PD) (S:dx) (n:Nat) (rv:Value) (h:bI w D S n rv) :
  Calls Tryz.prog 39 #[.pointer (some ⟨D.pb,0,none⟩)] w λe w'=>e=.returned (.bool (decide (20000<S.steps)))/\w'=w:=by
 have hb:=h.blk;unfold Jt at hb;obtain⟨cs,zs⟩:=qR hb;obtain⟨x0,x1,x2,x3,x4,x5,x6,x7,x8,x9,x10,x11,x12⟩:=cs;clear h hb x0 x1 x2 x3 x4 x5 x6 x7 x8 x9 x11 x12 zs;go_enter Tryz.func39,Tryz.ntmps39;go_wp2;go_ret;exact⟨rfl,rfl⟩
theorem yo {b:Nat} {c0 c1:Value} (h:w.heap[b]?=some (.cells #[c0,c1] ty (0,0))):(w.cell? ⟨b,0,none⟩=some c0/\w.cell? ⟨b,1,none⟩=some c1)/\w.frozen? ⟨b,0,none⟩=false/\w.frozen? ⟨b,1,none⟩=false:=by
 refine⟨⟨?_,?_⟩,?_,?_⟩<;>simp[World.cell?,World.frozen?,h]
theorem U9 {base e:Nat} {k:Nat} (h:W.ownsRow base e size v (k+1) xs):∃g cap,v=.slice (some ⟨g,0,none⟩) (k+1) cap:=by
 rcases h.2 with⟨h1,h0⟩|⟨g,cap,cur,rfl,_⟩
 .cases h0
 .exact⟨_,_,rfl⟩
theorem KC (w:World) (n:Nat) (hn:n=w.heap.size) (cs:List Value) (T:TypeId):∀j u,cs[j]?=some u->(w.alloc (.cells cs.toArray T)).cell? ((⟨n,0,none⟩:Addr).add j)=some u:=by
 subst hn;exact Ho w cs T
section
variable {w:World} {D:PD} {S:dx} {n:Nat} {rv:Value}
theorem bI.lenR (h:bI w D S n rv):∃ao c,rv=.slice ao S.trace.length c:=by
 rcases h.rowR.2 with⟨h1,h0⟩|⟨g,cap,cur,rfl,_⟩
 .rw[h0];exact⟨_,_,h1⟩
 .exact⟨_,_,rfl⟩
theorem bI.grew (h:bI w D S n rv) (U:Obj)
  (hown:w2.ownsRow D.B 61 2 v' (S.trace.length+1) (yg S.trace++OY c)) (hg:(w.alloc U).grownBy w2 rv.ownBlock) (hat:v'.ownBlock=rv.ownBlock∨v'.ownBlock=some (w.heap.size+1)) :
  bI (w2.setCell ⟨D.pb,12,none⟩ v') D { S with trace:=S.trace++[c] } n v'/\aS D rv w (w2.setCell ⟨D.pb,12,none⟩ v') v'/\w2.heap[D.pb]?=some (Jt D S rv):=by
 have keep:∀k,k<w.heap.size->rv.ownBlock≠some k->w2.heap[k]?=w.heap[k]?:=λk hk hne=>(hg.block k (by simp;omega) (λe=>hne e.symm)).trans (av w U k hk);have ow:∀k,D.own k->rv.ownBlock≠some k:=λk hk e=>h.away k e hk;have blk2:w2.heap[D.pb]?=some (Jt D S rv):=(keep _ h.ltP (ow _ (.inl rfl))).trans h.blk;obtain⟨n1,n2,n3,_⟩:=h.ne;have hB:D.B<=D.pb:=h.base _ (.inl rfl);have low:∀k,k<D.B->(w2.setCell ⟨D.pb,12,none⟩ v').heap[k]?=w.heap[k]?:=λk hk=>(ay _ _ _ _ (by show k≠D.pb;omega)).trans (keep k (by have:=h.ltP;omega) (λe=>by have:=(h.rowR.lt k e).1;omega));have away':∀k,v'.ownBlock=some k->¬ D.own k:=λk e=>by
  rcases hat with e2|e2
  .exact h.away k (by rw[<-e2];exact e)
  .rw[e2]at e
   cases e;rintro(o|o|o|o)
   .have:=h.ltP;omega
   .have:=h.ltM;omega
   .have:=h.ltO;omega
   .have:=h.ltH;omega
 have hsz:=hg.size;simp only[bE]at hsz;refine⟨⟨aM _ D.pb 12 _ _ _ blk2,?_,?_,?_,?_,h.ne,h.base,away',h.tex1.sameP low,h.tex2.sameP low⟩,?_,blk2⟩
 .exact h.map.later ((ay _ _ _ _ (Ne.symm n1)).trans (keep _ h.ltM (ow _ (.inr (.inl rfl)))))
 .exact((ay _ _ _ _ (Ne.symm n2)).trans (keep _ h.ltO (ow _ (.inr (.inr (.inl rfl)))))).trans h.rowO
 .exact((ay _ _ _ _ (Ne.symm n3)).trans (keep _ h.ltH (ow _ (.inr (.inr (.inr rfl)))))).trans h.rowH
 .have:w2.ownsRow D.B 61 2 v' (S.trace++[c]).length (yg (S.trace++[c])):=by rw[Ps,iZ];exact hown
  exact cu this (λk hk=>ay _ _ _ _ (λe=>away' k hk (.inl e)))
 .refine aS.set (w':=w2) ⟨by omega,λk hk ho hr=>keep k hk hr,bY.trans (bY.alloc (bY.refl _) U) (bY.grown hg),?_⟩ (.inl rfl) _;rcases hat with e|e
  .exact .inl e
  .exact .inr ⟨_,e,by omega⟩
end
theorem Gs (w:World) (D:PD) (S:dx) (n:Nat) (rv:Value) (x y wh:Int) (h:bI w D S n rv) (ht0:0<=S.touched) (ht1:S.touched<=1000000) (hx:0<=x/\x<=100) (hy:0<=y/\y<=100) (hw:1<=D.sw/\D.sw<=100) :
  Calls Tryz.prog 96 #[.pointer (some ⟨D.pb,0,none⟩),.int .i64 wh,.agg #[.int .i64 x,.int .i64 y]] w λe w'=>e=.returned (.int .i64 (y*D.sw+x))/\∃rv',bI w' D (bC S wh (y*D.sw+x)) n rv'/\aS D rv w w' rv':=by
 obtain⟨pl,hpl⟩:∃pl,y*D.sw+x=pl:=⟨_,rfl⟩;have hm:0<=y*D.sw/\y*D.sw<=10000:=⟨Int.mul_nonneg hy.1 (by omega),Int.le_trans (uy hy.2 hw.2 (by omega) (by omega)) (by decide)⟩;obtain⟨hm1,hm2⟩:=hm;obtain⟨hx1,hx2⟩:=hx;have k1:wrap64 (y*D.sw)=y*D.sw:=by unfold wrap64;omega
 rw[hpl];have w1e:∃w1,w.alloc (.cells #[.int .i64 x,.int .i64 y] 77)=w1:=⟨_,rfl⟩;obtain⟨w1,hw1⟩:=w1e;have h1:bI w1 D S n rv:=by rw[<-hw1];exact h.later (λk hk=>av w _ k hk)
 have p1:aS D rv w w1.drew rv:=by rw[<-hw1];exact(aS.alloc D rv w _).trans (aS.drew D rv _)
 have s1:w1.heap[w.heap.size]?=some (.cells #[.int .i64 x,.int .i64 y] 77 (0,0)):=by rw[<-hw1];exact aA w _
 have z1:w1.heap.size=w.heap.size+1:=by rw[<-hw1];simp
 have h1d:bI w1.drew D S n rv:=h1.later (λ_ _=>rfl);obtain⟨ao,cp,rfl⟩:=h.lenR;have HT:Hid (bI (w1.drew.setCell ⟨D.pb,11,none⟩ (.int .i64 (S.touched+1))) D { S with touched:=S.touched+1 } n _):=h1d.turn rfl rfl rfl rfl (aM _ D.pb 11 _ _ _ h1d.blk) (λk hk=>ay _ _ _ _ hk);have HP:Hid (aS D _ w (w1.drew.setCell ⟨D.pb,11,none⟩ (.int .i64 (S.touched+1))) _):=p1.set (.inl rfl) _;have hb:=h1.blk;unfold Jt at hb;have hlt:=h1.ltP;have hlt0:=h.ltP;have hne1:¬ D.pb=w.heap.size:=by omega
 obtain⟨cs,zs⟩:=qR hb;obtain⟨x0,x1,x2,x3,x4,x5,x6,x7,x8,x9,x10,x11,x12⟩:=cs;obtain⟨y0,y1,y2,y3,y4,y5,y6,y7,y8,y9,y10,y11,y12⟩:=zs;obtain⟨⟨q0,q1⟩,_⟩:=yo s1;clear h h1 h1d p1 hb x1 x2 x3 x4 x5 x6 x7 x8 x9 x10 y0 y1 y2 y3 y4 y5 y6 y7 y8 y9 y10;have z2:(w1.drew.setCell ⟨D.pb,11,none⟩ (.int .i64 (S.touched+1))).heap.size=w.heap.size+1:=by simp;exact z1
 obtain⟨i0,hi0,hz0,hz1,hz2⟩:=dG Zm;by_cases hl:S.trace.length<100
 .have hl':(S.trace.length:Int)<100:=by omega
  have eS:bC S wh pl = { S with touched:=S.touched+1,trace:=S.trace++[(wh,pl)] }:=by simp[bC,hl]
  rw[eS];clear eS;go_enter Tryz.func96,Tryz.ntmps96;go_wp2;clear hw1
  go_region
  go_wp2_with (at_builtin;refine nR _ rfl _ _ 34 rfl D.B 61 i0 (.agg #[.int .i64 0,.int .i64 0]) 2 16 Tryz.underlying34 hi0 hz0 hz1 hz2 rfl (by decide) _ _ _ rfl ((aa HT).rowR.alloc _) ⟨w.heap.size+1,0,none⟩ 1 1 (OY (wh,pl)) rfl rfl ?c1 ?c2 ?c3 ?c4 ?c5 ?_)
  case c1=>exact KC (w1.drew.setCell ⟨D.pb,11,none⟩ (.int .i64 (S.touched+1))) _ z2.symm (OY (wh,pl)) _
  case c2=>exact Qb1 _
  case c3=>unfold maxLen;simp;omega
  case c4=>omega
  case c5=>have:=(aa HT).base _ (.inl rfl);have:=(aa HT).ltP;simp at this ⊢;omega
  intro v' w2 h1 hg _ hat;obtain⟨g,cp',rfl⟩:=U9 h1;obtain⟨R1,R2,R3⟩:=(aa HT).grew _ h1 hg (by rw[z2];simpa[z1] using hat);have RR:=aj (And.intro R1 ((aa HP).trans R2));unfold Jt at R3;obtain⟨e12,e13⟩:=qR R3;obtain⟨y0,y1,y2,y3,y4,y5,y6,y7,y8,y9,y10,y11,y12⟩:=e13;obtain⟨_,_,_,_,_,_,_,_,_,_,_,_,c12⟩:=e12;clear R1 R2 R3 h1 hg hat HT HP x0 x11 x12 q0 q1;go_wp2;go_ret;exact⟨rfl,_,(aa RR).1,(aa RR).2⟩
 .have hl':decide ((S.trace.length:Int)<100)=false:=by simp;omega
  have eS:bC S wh pl = { S with touched:=S.touched+1 }:=by simp[bC,hl]
  rw[eS];clear eS;go_enter Tryz.func96,Tryz.ntmps96;go_wp2;clear hw1
  go_region
  go_wp2;go_ret;exact⟨rfl,_,aa HT,aa HP⟩
end Go.Proofs.YthmmgiaobakilaaGreat
