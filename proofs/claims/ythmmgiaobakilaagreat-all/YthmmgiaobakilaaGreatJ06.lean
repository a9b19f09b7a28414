import Derived.Test.YthmmgiaobakilaaGreatJ05
import Derived.Deep.LoopGhost
set_option maxRecDepth 100000
set_option maxHeartbeats 8000000
set_option linter.all false
namespace Go.Proofs.YthmmgiaobakilaaGreat
open Go.RowKit Go.Deep
variable {P:PE} {Q:Nat->Prop} {T:List aH} {W w w6:World} {b:Nat} {f k n p pl s:Int} {ops:List ByteArray} {r r2:Except Nat (Ex×Nat)} {sv sw v:Value} {t:aH} {ty:TypeId} {wd:ByteArray}
def gT (w:World) (b:Nat) (k p:Int) (wd:ByteArray) (n s:Int) (sv:Value):Prop:=w.heap[b]?=some (.cells #[.int .i64 k,.int .i64 p,.string wd,.int .i32 n,.int .i32 s,sv] 119 (0,0))
theorem jR {k0:Nat} (h:k0≠b):(put6 w b k p wd n s sv).heap[k0]?=w.heap[k0]?:=by
 unfold put6;exact(ay _ _ _ _ h).trans ((ay _ _ _ _ h).trans ((ay _ _ _ _ h).trans ((ay _ _ _ _ h).trans ((ay _ _ _ _ h).trans (ay _ _ _ _ h)))))
theorem iV {c0 c1 c2 c3 c4:Value} (h:w.heap[b]?=some (.cells #[c0,c1,c2,c3,c4] ty (0,0))) :
  w.cell? ⟨b,0,none⟩=some c0/\w.cell? ⟨b,1,none⟩=some c1/\w.cell? ⟨b,2,none⟩=some c2/\w.cell? ⟨b,3,none⟩=some c3/\w.cell? ⟨b,4,none⟩=some c4:=by
 refine⟨?_,?_,?_,?_,?_⟩<;>simp[World.cell?,h]
theorem Iu {k' p' n' s':Int} {wd':ByteArray} {sv':Value} (h:gT w b k p wd n s sv):gT (put6 w b k' p' wd' n' s' sv') b k' p' wd' n' s' sv':=
 aM _ b 5 _ _ _ (aM _ b 4 _ _ _ (aM _ b 3 _ _ _ (aM _ b 2 _ _ _ (aM _ b 1 _ _ _ (aM _ b 0 _ _ _ h)))))
def uM (P:PE) (ops:List ByteArray) (T:List aH) (Q:Nat->Prop) (pb tb cap:Nat) (f pl:Int) (r:Except Nat (Ex×Nat)) (m:Nat) (v:Value) (w:World):Prop:=
 (∃e i,bg w pb tb cap T i f pl/\gD w Q v e/\iB P ops T m e i=some r)∨(∃x,r=.error x/\bg w pb tb cap T (T.length-1) (mo f) (nY f pl (ah T x).place))
theorem wO (h:nN k p wd n s sv=qV t sw):k=kP t/\p=t.place/\wd=wP t/\n=nP t/\s=sP t/\sv=sw:=by
 unfold nN qV at h;simpa using h
theorem ng : (put6 w b k p wd n s sv).heap.size=w.heap.size:=by
 unfold put6;simp
theorem Zh {g:Nat} {c0 c1 c2 c3 c4 c5 c6 c7 c8 c9 ca cb:Value} (h:w.heap[g]?=some (.cells #[c0,c1,c2,c3,c4,c5,c6,c7,c8,c9,ca,cb] ty (0,0))) (k:Nat):w.cell? ⟨g,k,none⟩=#[c0,c1,c2,c3,c4,c5,c6,c7,c8,c9,ca,cb][k]?:=by
 simp only[World.cell?];rw[h];simp
theorem BI {pb tb cap eb B6 m:Nat} {e:Ex} {b0 b1 b3 b4 c0 c1 c3 c4:Int} {b2 c2:ByteArray} {bs cs:Value}
  (hrep:gD w6 Q (nN b0 b1 b2 b3 b4 bs) e)
  (h6:zT w6 (λg=>B6<=g) pb tb cap T f pl (nN c0 c1 c2 c3 c4 cs) r2)
  (hpc:andThen (some r2) (λx j=>iB P ops T m (uf t e x) j)=some r)
  (hQ:∀g,B6<=g->g<w6.heap.size->Q g) (hQn:Q w6.heap.size) (heQ:¬ Q eb) (hep:eb≠pb) (het:eb≠tb) :
  uM P ops T Q pb tb cap f pl r m (nN (kP t) t.place (wP t) (nP t) (sP t) (.slice (some ⟨w6.heap.size,0,none⟩) 2 2)) ((put6 w6 eb (kP t) t.place (wP t) (nP t) (sP t) (.slice (some ⟨w6.heap.size,0,none⟩) 2 2)).alloc (.cells #[.int .i64 b0,.int .i64 b1,.string b2,.int .i32 b3,.int .i32 b4,bs,.int .i64 c0,.int .i64 c1,.string c2,.int .i32 c3,.int .i32 c4,cs] 119)):=by
 generalize hW:((put6 w6 eb (kP t) t.place (wP t) (nP t) (sP t) (.slice (some ⟨w6.heap.size,0,none⟩) 2 2)).alloc (.cells #[.int .i64 b0,.int .i64 b1,.string b2,.int .i32 b3,.int .i32 b4,bs,.int .i64 c0,.int .i64 c1,.string c2,.int .i32 c3,.int .i32 c4,cs] 119))=W;have stay:∀k,k≠eb->k<w6.heap.size->W.heap[k]?=w6.heap[k]?:=λk hk hl=>by rw[<-hW];exact(av _ _ k (by rw[ng];exact hl)).trans (jR hk)
 have new:W.heap[w6.heap.size]?=some (.cells #[.int .i64 b0,.int .i64 b1,.string b2,.int .i32 b3,.int .i32 b4,bs,.int .i64 c0,.int .i64 c1,.string c2,.int .i32 c3,.int .i32 c4,cs] 119 (0,0)):=by
  have:=aA (put6 w6 eb (kP t) t.place (wP t) (nP t) (sP t) (.slice (some ⟨w6.heap.size,0,none⟩) 2 2)) (.cells #[.int .i64 b0,.int .i64 b1,.string b2,.int .i32 b3,.int .i32 b4,bs,.int .i64 c0,.int .i64 c1,.string c2,.int .i32 c3,.int .i32 c4,cs] 119);rw[ng]at this;rw[<-hW];exact this
 have ps:∀ {i:Nat} {f pl:Int},bg w6 pb tb cap T i f pl->bg W pb tb cap T i f pl:=λh=>by rw[<-hW];exact(h.put6 hep het).alloc _
 have sQ:nz Q w6 W:=λk hk hl=>stay k (λe=>heQ (e ▸ hk)) hl
 cases r2 with
 | error x=>cases hpc;exact .inr ⟨x,rfl,ps h6⟩
 | ok xj=>
  obtain⟨x,j⟩:=xj;refine .inl ⟨uf t e x,j,ps h6.1,?_,hpc⟩;have hrx:gD w6 Q (nN c0 c1 c2 c3 c4 cs) x:=h6.2.later (λ_ _ _=>rfl) hQ;obtain⟨_,_,te,ke,re,sve,rfl,eve,hke⟩:=hrep;obtain⟨_,_,tx,kx,rx,svx,rfl,evx,hkx⟩:=hrx;obtain⟨rfl,rfl,rfl,rfl,rfl,rfl⟩:=wO eve;obtain⟨rfl,rfl,rfl,rfl,rfl,rfl⟩:=wO evx;refine⟨0,0,t,_,.nil,.slice (some ⟨w6.heap.size,0,none⟩) 2 2,rfl,rfl,.inr ⟨(λh=>by(cases h)),w6.heap.size,2,rfl,hQn,?_⟩⟩;have cell:=Zh new;refine⟨⟨bs,⟨by rw[cell];rfl,by rw[cell];rfl,by rw[cell];rfl,by rw[cell];rfl,by rw[cell];rfl,by rw[cell];rfl⟩,?_⟩,⟨cs,⟨by rw[cell];rfl,by rw[cell];rfl,by rw[cell];rfl,by rw[cell];rfl,by rw[cell];rfl,by rw[cell];rfl⟩,?_⟩,trivial⟩
  .exact hke.later sQ (λ_ h _=>h)
  .exact hkx.later sQ (λ_ h _=>h)
def Ia:List Int:=[215,247]
theorem Qo8 (hT:eQ T) (i:Nat):((kP (ah T i)==4)&&Ia.any (λt=>sP (ah T i)==t))=lT.any (bJ T i):=by
 have e:Ia=lT.map aX:=by unfold aX;simp only[aJ];decide
 have m:∀s∈lT,s∈aY:=by intro s hs;simp only[lT,aO,aQ,aR]at hs;rcases hs with rfl|rfl<;>simp[aY]
 rw[e,List.any_map];have:∀l:List ByteArray,(∀s∈l,s∈aY)->((kP (ah T i)==4)&&l.any ((λt=>sP (ah T i)==t) ∘ aX))=l.any (bJ T i):=λl=>by
  induction l with
  | nil=>intro _;simp
  | cons a l ih=>
   intro hm;rw[df,df,Bool.and_or_distrib_left,ih (λs hs=>hm s (uA _ hs))];have:=pq hT i (hm a oq);unfold IZ at this;rw[<-this];rfl
 exact this _ m
theorem JH (hP:gP 149 P) (m:Nat):gP 144 (jk P lT m):=by
 intro w pb tb cap i T f pl r hT h hr;have hp:=h.plt;have hlow:=h.low;unfold jk at hr;split at hr
 .cases hr
 cases hx:P T i with
 | none=>rw[hx]at hr;cases hr
 | some r1=>
 rw[hx]at hr;have HX:=aj hx;have HR:=aj hr;clear hx hr;go_enter Tryz.func144,Tryz.ntmps144;go_wp2_with fail;refine(hP _ pb tb cap i T f pl r1 hT (h.alloc _) (aa HX)).mono ?_;rintro e w1 ⟨k1,a0,a1,a2,a3,a4,ao,len,c,rfl,h1⟩;have q1:w1.heap[w.heap.size]?=some (.cells #[.int .i64 0,.int .i64 0,.string ⟨#[]⟩,.int .i32 0,.int .i32 0,.slice none 0 0] 119 (0,0)):=(k1.2 _ (by simp) (by omega)).trans (aA w _);have K1:=(aB.alloc pb w _).trans k1;have lt1:w.heap.size<w1.heap.size:=(az.1 q1).1;clear h k1 HX;unfold nN;have hc0:uM P lT T (λg=>w.heap.size<g/\g≠w1.heap.size) pb tb cap f pl r m (nN a0 a1 a2 a3 a4 (.slice ao len c)) w1:=by
  have hr:=aa HR
  cases r1 with
  | error x=>cases hr;exact .inr ⟨x,rfl,h1⟩
  | ok xj=>
   obtain⟨t,j⟩:=xj;exact .inl ⟨t,j,h1.1,h1.2.later (λ_ _ _=>rfl) (λk hk hl=>⟨by have:w.heap.size+1<=k:=(by simpa using hk);omega,by omega⟩),hr⟩
 go_wp2
 go_loopg [4] m (λk _ wr=>∃b0 b1 b2 b3 b4 bo bl bc,gT wr w1.heap.size b0 b1 b2 b3 b4 (.slice bo bl bc)/\gT wr w.heap.size 0 0 ⟨#[]⟩ 0 0 (.slice none 0 0)/\aB pb w wr/\uM P lT T (λg=>w.heap.size<g/\g≠w1.heap.size) pb tb cap f pl r k (nN b0 b1 b2 b3 b4 (.slice bo bl bc)) wr)
 case atStart=>
  refine⟨a0,a1,a2,a3,a4,ao,len,c,aA w1 _,(av w1 _ _ lt1).trans q1,K1.trans (aB.alloc pb w1 _),?_⟩;rcases hc0 with⟨e,i',h2,h3,h4⟩|⟨x,h2,h3⟩
  .exact .inl ⟨e,i',h2.alloc _,h3.later (λk _ hl=>av w1 _ k hl) (λ_ hk _=>hk),h4⟩
  .exact .inr ⟨x,h2,h3.alloc _⟩
 case round=>
  clear HR h1 hc0;obtain⟨b0,b1,b2,b3,b4,bo,bl,bc,he,hz,kw,hch⟩:=hrel;have ltE:w1.heap.size<wr.heap.size:=(az.1 he).1;obtain⟨i',f',pl',hps,hdead⟩:∃i' f' pl',bg wr pb tb cap T i' f' pl'/\((∃e,f'=f/\pl'=pl/\gD wr (λg=>w.heap.size<g/\g≠w1.heap.size) (nN b0 b1 b2 b3 b4 (.slice bo bl bc)) e/\iB P lT T gk e i'=some r)∨(∃x,i'=T.length-1/\r=.error x/\f'=mo f/\pl'=nY f pl (ah T x).place)):=by
   rcases hch with⟨e,i',h2,h3,h4⟩|⟨x,h2,h3⟩
   .exact⟨i',f,pl,h2,.inl ⟨e,rfl,rfl,h3,h4⟩⟩
   .exact⟨_,_,_,h3,.inr ⟨x,rfl,h2,rfl,rfl⟩⟩
  clear hch;go_wp2_with fail;refine(dM wr pb tb cap i' T f' pl' hps).mono ?_;rintro e w2 ⟨rfl,hb2⟩;have h2:=hps.below hb2 (af _);go_wp2_with fail;refine(di _ (kP (ah T i')) (ah T i').place (nP (ah T i')) (sP (ah T i')) (wP (ah T i')) w2.heap.size 0 2 Ia (AQ w2 Ia) (by simp[Ia])).mono ?_;rintro e w3 ⟨rfl,hb3⟩;have h3:=(h2.alloc _).below hb3 (af _);have B3:Below wr.heap.size wr w3:=(hb2.alloc hb2.size _).trans (hb3.mono (by have:=hb2.size;simp;omega));have he3:gT w3 w1.heap.size b0 b1 b2 b3 b4 (.slice bo bl bc):=(B3.block _ ltE).trans he;have hz3:gT w3 w.heap.size 0 0 ⟨#[]⟩ 0 0 (.slice none 0 0):=(B3.block _ (by omega)).trans hz;have K3:aB pb w w3:=kw.trans (aB.below B3);have sz3:=B3.size;rw[Qo8 hT i'];clear hps h2 hb2 hb3 he hz kw;obtain⟨⟨d0,d1,d2,d3,d4,d5⟩,z0,z1,z2,z3,z4,z5⟩:=iy hz3;obtain⟨⟨x0,x1,x2,x3,x4,x5⟩,y0,y1,y2,y3,y4,y5⟩:=iy he3
  cases hany:lT.any (bJ T i')
  .have KK:=aj K3;have BB:=aj B3;have HE:=aj he3;have HZ:=aj hz3;have H3:=aj h3;have HD:=aj hdead;clear K3 B3 he3 hz3 h3 hdead;go_wp2;refine aL (v:=nN b0 b1 b2 b3 b4 (.slice bo bl bc)) (by simp[results,Tryz.results144,go_sem,nN,d0,d1,d2,d3,d4,d5]) rfl ⟨(aa KK).put6 (af _),b0,b1,b2,b3,b4,bo,bl,bc,rfl,?_⟩;have h3:=aa H3;rcases aa HD with⟨e,rfl,rfl,hrep,hpc⟩|⟨x,rfl,rfl,rfl,rfl⟩
   .cases gk with
    | zero=>cases hpc
    | succ gk=>
     rw[iB,hany,ae (by simp)]at hpc
     cases hpc;refine⟨h3.put6 (by omega) (by omega),hrep.later (λk hk hl=>?_) (λk hk _=>by show _<=k;have:=hk.1;omega)⟩;exact(jR (by have:=hk.1;omega)).trans ((aa BB).block k hl)
   .exact h3.put6 (by omega) (by omega)
  .have hi1:i'+1<T.length:=by
    obtain⟨s,_,hs⟩:=dD.1 hany;exact aD hT.last h3.lt hs
   rcases hdead with⟨e,rfl,rfl,hrep,hpc⟩|⟨x,rfl,_⟩
   .cases gk with
    | zero=>cases hpc
    | succ gk=>
    rw[iB,hany,ag rfl]at hpc
    cases hx:P T (i'+1) with
    | none=>rw[hx]at hpc;cases hpc
    | some r2=>
    rw[hx]at hpc;have HX:=aj hx;have HPC:=aj hpc;have KK:=aj K3;have BB:=aj B3;clear hx hpc K3 B3 x0 x1 x2 x3 x4 x5 y0 y1 y2 y3 y4 y5 d0 d1 d2 d3 d4 d5 z0 z1 z2 z3 z4 z5;go_wp2_with fail;refine(jB w3 pb tb cap i' T f' pl' h3 hi1).mono ?_;rintro e w4 ⟨rfl,h4,k4⟩;have he4:gT w4 w1.heap.size b0 b1 b2 b3 b4 (.slice bo bl bc):=(k4.2 _ (by omega) (by omega)).trans he3;have hz4:gT w4 w.heap.size 0 0 ⟨#[]⟩ 0 0 (.slice none 0 0):=(k4.2 _ (by omega) (by omega)).trans hz3;have sz4:=k4.1;clear he3 hz3 h3;have K4:=(aa KK).trans k4;have S4:nz (λg=>w.heap.size<g/\g≠w1.heap.size) wr w4:=λk hk hl=>(k4.2 k (by omega) (by have:=hk.1;omega)).trans ((aa BB).block k hl);have hpE:pb≠w1.heap.size:=by omega
    have hpZ:pb≠w.heap.size:=by omega
    clear k4 KK;unfold jC pE;obtain⟨t0,ht0⟩:∃t0,kP (ah T i')=t0:=⟨_,rfl⟩;obtain⟨t1,ht1⟩:∃t1,(ah T i').place=t1:=⟨_,rfl⟩;obtain⟨t2,ht2⟩:∃t2,wP (ah T i')=t2:=⟨_,rfl⟩;obtain⟨t3,ht3⟩:∃t3,nP (ah T i')=t3:=⟨_,rfl⟩;obtain⟨t4,ht4⟩:∃t4,sP (ah T i')=t4:=⟨_,rfl⟩;rw[ht0,ht1,ht2,ht3,ht4];have HT:=aj (And.intro ht0 (And.intro ht1 (And.intro ht2 (And.intro ht3 ht4))));clear ht0 ht1 ht2 ht3 ht4;go_wp2_with fail;obtain⟨w5,hw5⟩:∃w5,w4.alloc (.cells #[.int .i64 t0,.int .i64 t1,.string t2,.int .i32 t3,.int .i32 t4] 116)=w5:=⟨_,rfl⟩;rw[hw5];have s5:w5.heap[w4.heap.size]?=some (.cells #[.int .i64 t0,.int .i64 t1,.string t2,.int .i32 t3,.int .i32 t4] 116 (0,0)):=by rw[<-hw5];exact aA w4 _
    have h5:bg w5.drew pb tb cap T (i'+1) f' pl':=by rw[<-hw5];exact(h4.alloc _).later (λ_ _=>rfl)
    have he5:gT w5 w1.heap.size b0 b1 b2 b3 b4 (.slice bo bl bc):=by rw[<-hw5];exact(av w4 _ _ (by omega)).trans he4
    have hz5:gT w5 w.heap.size 0 0 ⟨#[]⟩ 0 0 (.slice none 0 0):=by rw[<-hw5];exact(av w4 _ _ (by omega)).trans hz4
    have K5:aB pb w w5:=by rw[<-hw5];exact K4.trans (aB.alloc pb w4 _)
    have S5:nz (λg=>w.heap.size<g/\g≠w1.heap.size) wr w5:=by rw[<-hw5];exact λk hk hl=>(av w4 _ k (by omega)).trans (S4 k hk hl)
    have sz5:w4.heap.size<w5.heap.size:=(az.1 s5).1;have fin:∀(w6:World) (c0 c1:Int) (c2:ByteArray) (c3 c4:Int) (co:Option Addr) (cl cc:Nat),aB pb w5.drew w6->zT w6 (λg=>w5.drew.heap.size<=g) pb tb cap T f' pl' (nN c0 c1 c2 c3 c4 (.slice co cl cc)) r2 ->
      ∃b0' b1' b2' b3' b4' bo' bl' bc',gT ((put6 w6 w1.heap.size t0 t1 t2 t3 t4 (.slice (some ⟨w6.heap.size,0,none⟩) 2 2)).alloc (.cells #[.int .i64 b0,.int .i64 b1,.string b2,.int .i32 b3,.int .i32 b4,.slice bo bl bc,.int .i64 c0,.int .i64 c1,.string c2,.int .i32 c3,.int .i32 c4,.slice co cl cc] 119)) w1.heap.size b0' b1' b2' b3' b4' (.slice bo' bl' bc') /\
       gT ((put6 w6 w1.heap.size t0 t1 t2 t3 t4 (.slice (some ⟨w6.heap.size,0,none⟩) 2 2)).alloc (.cells #[.int .i64 b0,.int .i64 b1,.string b2,.int .i32 b3,.int .i32 b4,.slice bo bl bc,.int .i64 c0,.int .i64 c1,.string c2,.int .i32 c3,.int .i32 c4,.slice co cl cc] 119)) w.heap.size 0 0 ⟨#[]⟩ 0 0 (.slice none 0 0) /\
       aB pb w ((put6 w6 w1.heap.size t0 t1 t2 t3 t4 (.slice (some ⟨w6.heap.size,0,none⟩) 2 2)).alloc (.cells #[.int .i64 b0,.int .i64 b1,.string b2,.int .i32 b3,.int .i32 b4,.slice bo bl bc,.int .i64 c0,.int .i64 c1,.string c2,.int .i32 c3,.int .i32 c4,.slice co cl cc] 119)) /\
       uM P lT T (λg=>w.heap.size<g/\g≠w1.heap.size) pb tb cap f' pl' r gk (nN b0' b1' b2' b3' b4' (.slice bo' bl' bc')) ((put6 w6 w1.heap.size t0 t1 t2 t3 t4 (.slice (some ⟨w6.heap.size,0,none⟩) 2 2)).alloc (.cells #[.int .i64 b0,.int .i64 b1,.string b2,.int .i32 b3,.int .i32 b4,.slice bo bl bc,.int .i64 c0,.int .i64 c1,.string c2,.int .i32 c3,.int .i32 c4,.slice co cl cc] 119)):=by
     intro w6 c0 c1 c2 c3 c4 co cl cc k6 h6;have k6':aB pb w5 w6:=k6.undrew;have sz6:=k6'.1;have he6:gT w6 w1.heap.size b0 b1 b2 b3 b4 (.slice bo bl bc):=(k6'.2 _ (by omega) (by omega)).trans he5;have hz6:gT w6 w.heap.size 0 0 ⟨#[]⟩ 0 0 (.slice none 0 0):=(k6'.2 _ (by omega) (by omega)).trans hz5;have S6:nz (λg=>w.heap.size<g/\g≠w1.heap.size) w5 w6:=k6'.stay (λh=>by have:=h.1;omega);have sw5:wr.heap.size<=w5.heap.size:=by omega
     obtain⟨ht0,ht1,ht2,ht3,ht4⟩:=aa HT;refine⟨t0,t1,t2,t3,t4,some ⟨w6.heap.size,0,none⟩,2,2,?_,?_,?_,?_⟩
     .exact(av _ _ _ (by rw[ng];omega)).trans (Iu he6)
     .exact(av _ _ _ (by rw[ng];omega)).trans ((jR (by omega)).trans hz6)
     .exact((K5.trans k6').put6 (by omega)).trans (aB.alloc _ _ _)
     .rw[<-ht0,<-ht1,<-ht2,<-ht3,<-ht4];exact BI (hrep.later (S5.trans sw5 S6) (λ_ h _=>h)) h6 (aa HPC) (λg hg _=>⟨by have:w5.heap.size<=g:=hg;omega,by have:w5.heap.size<=g:=hg;omega⟩) ⟨by omega,by omega⟩ (λh=>h.2 rfl) (by omega) (by omega)
    clear hw5 h4 he4 hz4 K4;obtain⟨⟨x0,x1,x2,x3,x4,x5⟩,y0,y1,y2,y3,y4,y5⟩:=iy he5;obtain⟨g0,g1,g2,g3,g4⟩:=iV s5
    go_region_with (go_at_call_of 149 (Value.pointer (some ⟨pb,0,none⟩));refine(hP _ pb tb cap (i'+1) T f' pl' r2 hT ?_ (aa HX)).mono ?_;exact h5;rintro e w6 ⟨k6,c0,c1,c2,c3,c4,co,cl,cc,rfl,h6⟩;have he6:gT w6 w1.heap.size b0 b1 b2 b3 b4 (.slice bo bl bc):=(k6.2 _ (by show _<w5.heap.size;omega) (by omega)).trans he5;have s6:=(k6.2 _ (by show _<w5.heap.size;omega) (by omega)).trans s5;obtain⟨⟨v0,v1,v2,v3,v4,v5⟩,u0,u1,u2,u3,u4,u5⟩:=iy he6;obtain⟨n0,n1,n2,n3,n4⟩:=iV s6;have l6:w1.heap.size<w6.heap.size:=(az.1 he6).1;have m6:w1.heap.size≠w6.heap.size:=(by omega);have l7:w4.heap.size<w6.heap.size:=(az.1 s6).1;have m7:w4.heap.size≠w6.heap.size:=(by omega);unfold nN)
    all_goals go_wp2
    all_goals go_roundg gk
    all_goals first|exact fin w6 c0 c1 c2 c3 c4 co cl cc k6 h6|omega
   .exfalso;have:=dD.1 hany;obtain⟨s,_,hs⟩:=this;rw[ku hT.last s]at hs
    cases hs
def Gi:List Int:=[43,45]
theorem Qo2 (hT:eQ T) (i:Nat):((kP (ah T i)==4)&&Gi.any (λt=>sP (ah T i)==t))=lQ.any (bJ T i):=by
 have e:Gi=lQ.map aX:=by unfold aX;simp only[aJ];decide
 have m:∀s∈lQ,s∈aY:=by intro s hs;simp only[lQ,aO,aQ,aR]at hs;rcases hs with rfl|rfl<;>simp[aY]
 rw[e,List.any_map];have:∀l:List ByteArray,(∀s∈l,s∈aY)->((kP (ah T i)==4)&&l.any ((λt=>sP (ah T i)==t) ∘ aX))=l.any (bJ T i):=λl=>by
  induction l with
  | nil=>intro _;simp
  | cons a l ih=>
   intro hm;rw[df,df,Bool.and_or_distrib_left,ih (λs hs=>hm s (uA _ hs))];have:=pq hT i (hm a oq);unfold IZ at this;rw[<-this];rfl
 exact this _ m
theorem ML (hP:gP 144 P) (m:Nat):gP 141 (jk P lQ m):=by
 intro w pb tb cap i T f pl r hT h hr;have hp:=h.plt;have hlow:=h.low;unfold jk at hr;split at hr
 .cases hr
 cases hx:P T i with
 | none=>rw[hx]at hr;cases hr
 | some r1=>
 rw[hx]at hr;have HX:=aj hx;have HR:=aj hr;clear hx hr;go_enter Tryz.func141,Tryz.ntmps141;go_wp2_with fail;refine(hP _ pb tb cap i T f pl r1 hT (h.alloc _) (aa HX)).mono ?_;rintro e w1 ⟨k1,a0,a1,a2,a3,a4,ao,len,c,rfl,h1⟩;have q1:w1.heap[w.heap.size]?=some (.cells #[.int .i64 0,.int .i64 0,.string ⟨#[]⟩,.int .i32 0,.int .i32 0,.slice none 0 0] 119 (0,0)):=(k1.2 _ (by simp) (by omega)).trans (aA w _);have K1:=(aB.alloc pb w _).trans k1;have lt1:w.heap.size<w1.heap.size:=(az.1 q1).1;clear h k1 HX;unfold nN;have hc0:uM P lQ T (λg=>w.heap.size<g/\g≠w1.heap.size) pb tb cap f pl r m (nN a0 a1 a2 a3 a4 (.slice ao len c)) w1:=by
  have hr:=aa HR
  cases r1 with
  | error x=>cases hr;exact .inr ⟨x,rfl,h1⟩
  | ok xj=>
   obtain⟨t,j⟩:=xj;exact .inl ⟨t,j,h1.1,h1.2.later (λ_ _ _=>rfl) (λk hk hl=>⟨by have:w.heap.size+1<=k:=(by simpa using hk);omega,by omega⟩),hr⟩
 go_wp2
 go_loopg [4] m (λk _ wr=>∃b0 b1 b2 b3 b4 bo bl bc,gT wr w1.heap.size b0 b1 b2 b3 b4 (.slice bo bl bc)/\gT wr w.heap.size 0 0 ⟨#[]⟩ 0 0 (.slice none 0 0)/\aB pb w wr/\uM P lQ T (λg=>w.heap.size<g/\g≠w1.heap.size) pb tb cap f pl r k (nN b0 b1 b2 b3 b4 (.slice bo bl bc)) wr)
 case atStart=>
  refine⟨a0,a1,a2,a3,a4,ao,len,c,aA w1 _,(av w1 _ _ lt1).trans q1,K1.trans (aB.alloc pb w1 _),?_⟩;rcases hc0 with⟨e,i',h2,h3,h4⟩|⟨x,h2,h3⟩
  .exact .inl ⟨e,i',h2.alloc _,h3.later (λk _ hl=>av w1 _ k hl) (λ_ hk _=>hk),h4⟩
  .exact .inr ⟨x,h2,h3.alloc _⟩
 case round=>
  clear HR h1 hc0;obtain⟨b0,b1,b2,b3,b4,bo,bl,bc,he,hz,kw,hch⟩:=hrel;have ltE:w1.heap.size<wr.heap.size:=(az.1 he).1;obtain⟨i',f',pl',hps,hdead⟩:∃i' f' pl',bg wr pb tb cap T i' f' pl'/\((∃e,f'=f/\pl'=pl/\gD wr (λg=>w.heap.size<g/\g≠w1.heap.size) (nN b0 b1 b2 b3 b4 (.slice bo bl bc)) e/\iB P lQ T gk e i'=some r)∨(∃x,i'=T.length-1/\r=.error x/\f'=mo f/\pl'=nY f pl (ah T x).place)):=by
   rcases hch with⟨e,i',h2,h3,h4⟩|⟨x,h2,h3⟩
   .exact⟨i',f,pl,h2,.inl ⟨e,rfl,rfl,h3,h4⟩⟩
   .exact⟨_,_,_,h3,.inr ⟨x,rfl,h2,rfl,rfl⟩⟩
  clear hch;go_wp2_with fail;refine(dM wr pb tb cap i' T f' pl' hps).mono ?_;rintro e w2 ⟨rfl,hb2⟩;have h2:=hps.below hb2 (af _);go_wp2_with fail;refine(di _ (kP (ah T i')) (ah T i').place (nP (ah T i')) (sP (ah T i')) (wP (ah T i')) w2.heap.size 0 2 Gi (AQ w2 Gi) (by simp[Gi])).mono ?_;rintro e w3 ⟨rfl,hb3⟩;have h3:=(h2.alloc _).below hb3 (af _);have B3:Below wr.heap.size wr w3:=(hb2.alloc hb2.size _).trans (hb3.mono (by have:=hb2.size;simp;omega));have he3:gT w3 w1.heap.size b0 b1 b2 b3 b4 (.slice bo bl bc):=(B3.block _ ltE).trans he;have hz3:gT w3 w.heap.size 0 0 ⟨#[]⟩ 0 0 (.slice none 0 0):=(B3.block _ (by omega)).trans hz;have K3:aB pb w w3:=kw.trans (aB.below B3);have sz3:=B3.size;rw[Qo2 hT i'];clear hps h2 hb2 hb3 he hz kw;obtain⟨⟨d0,d1,d2,d3,d4,d5⟩,z0,z1,z2,z3,z4,z5⟩:=iy hz3;obtain⟨⟨x0,x1,x2,x3,x4,x5⟩,y0,y1,y2,y3,y4,y5⟩:=iy he3
  cases hany:lQ.any (bJ T i')
  .have KK:=aj K3;have BB:=aj B3;have HE:=aj he3;have HZ:=aj hz3;have H3:=aj h3;have HD:=aj hdead;clear K3 B3 he3 hz3 h3 hdead;go_wp2;refine aL (v:=nN b0 b1 b2 b3 b4 (.slice bo bl bc)) (by simp[results,Tryz.results141,go_sem,nN,d0,d1,d2,d3,d4,d5]) rfl ⟨(aa KK).put6 (af _),b0,b1,b2,b3,b4,bo,bl,bc,rfl,?_⟩;have h3:=aa H3;rcases aa HD with⟨e,rfl,rfl,hrep,hpc⟩|⟨x,rfl,rfl,rfl,rfl⟩
   .cases gk with
    | zero=>cases hpc
    | succ gk=>
     rw[iB,hany,ae (by simp)]at hpc
     cases hpc;refine⟨h3.put6 (by omega) (by omega),hrep.later (λk hk hl=>?_) (λk hk _=>by show _<=k;have:=hk.1;omega)⟩;exact(jR (by have:=hk.1;omega)).trans ((aa BB).block k hl)
   .exact h3.put6 (by omega) (by omega)
  .have hi1:i'+1<T.length:=by
    obtain⟨s,_,hs⟩:=dD.1 hany;exact aD hT.last h3.lt hs
   rcases hdead with⟨e,rfl,rfl,hrep,hpc⟩|⟨x,rfl,_⟩
   .cases gk with
    | zero=>cases hpc
    | succ gk=>
    rw[iB,hany,ag rfl]at hpc
    cases hx:P T (i'+1) with
    | none=>rw[hx]at hpc;cases hpc
    | some r2=>
    rw[hx]at hpc;have HX:=aj hx;have HPC:=aj hpc;have KK:=aj K3;have BB:=aj B3;clear hx hpc K3 B3 x0 x1 x2 x3 x4 x5 y0 y1 y2 y3 y4 y5 d0 d1 d2 d3 d4 d5 z0 z1 z2 z3 z4 z5;go_wp2_with fail;refine(jB w3 pb tb cap i' T f' pl' h3 hi1).mono ?_;rintro e w4 ⟨rfl,h4,k4⟩;have he4:gT w4 w1.heap.size b0 b1 b2 b3 b4 (.slice bo bl bc):=(k4.2 _ (by omega) (by omega)).trans he3;have hz4:gT w4 w.heap.size 0 0 ⟨#[]⟩ 0 0 (.slice none 0 0):=(k4.2 _ (by omega) (by omega)).trans hz3;have sz4:=k4.1;clear he3 hz3 h3;have K4:=(aa KK).trans k4;have S4:nz (λg=>w.heap.size<g/\g≠w1.heap.size) wr w4:=λk hk hl=>(k4.2 k (by omega) (by have:=hk.1;omega)).trans ((aa BB).block k hl);have hpE:pb≠w1.heap.size:=by omega
    have hpZ:pb≠w.heap.size:=by omega
    clear k4 KK;unfold jC pE;obtain⟨t0,ht0⟩:∃t0,kP (ah T i')=t0:=⟨_,rfl⟩;obtain⟨t1,ht1⟩:∃t1,(ah T i').place=t1:=⟨_,rfl⟩;obtain⟨t2,ht2⟩:∃t2,wP (ah T i')=t2:=⟨_,rfl⟩;obtain⟨t3,ht3⟩:∃t3,nP (ah T i')=t3:=⟨_,rfl⟩;obtain⟨t4,ht4⟩:∃t4,sP (ah T i')=t4:=⟨_,rfl⟩;rw[ht0,ht1,ht2,ht3,ht4];have HT:=aj (And.intro ht0 (And.intro ht1 (And.intro ht2 (And.intro ht3 ht4))));clear ht0 ht1 ht2 ht3 ht4;go_wp2_with fail;obtain⟨w5,hw5⟩:∃w5,w4.alloc (.cells #[.int .i64 t0,.int .i64 t1,.string t2,.int .i32 t3,.int .i32 t4] 116)=w5:=⟨_,rfl⟩;rw[hw5];have s5:w5.heap[w4.heap.size]?=some (.cells #[.int .i64 t0,.int .i64 t1,.string t2,.int .i32 t3,.int .i32 t4] 116 (0,0)):=by rw[<-hw5];exact aA w4 _
    have h5:bg w5.drew pb tb cap T (i'+1) f' pl':=by rw[<-hw5];exact(h4.alloc _).later (λ_ _=>rfl)
    have he5:gT w5 w1.heap.size b0 b1 b2 b3 b4 (.slice bo bl bc):=by rw[<-hw5];exact(av w4 _ _ (by omega)).trans he4
    have hz5:gT w5 w.heap.size 0 0 ⟨#[]⟩ 0 0 (.slice none 0 0):=by rw[<-hw5];exact(av w4 _ _ (by omega)).trans hz4
    have K5:aB pb w w5:=by rw[<-hw5];exact K4.trans (aB.alloc pb w4 _)
    have S5:nz (λg=>w.heap.size<g/\g≠w1.heap.size) wr w5:=by rw[<-hw5];exact λk hk hl=>(av w4 _ k (by omega)).trans (S4 k hk hl)
    have sz5:w4.heap.size<w5.heap.size:=(az.1 s5).1;have fin:∀(w6:World) (c0 c1:Int) (c2:ByteArray) (c3 c4:Int) (co:Option Addr) (cl cc:Nat),aB pb w5.drew w6->zT w6 (λg=>w5.drew.heap.size<=g) pb tb cap T f' pl' (nN c0 c1 c2 c3 c4 (.slice co cl cc)) r2 ->
      ∃b0' b1' b2' b3' b4' bo' bl' bc',gT ((put6 w6 w1.heap.size t0 t1 t2 t3 t4 (.slice (some ⟨w6.heap.size,0,none⟩) 2 2)).alloc (.cells #[.int .i64 b0,.int .i64 b1,.string b2,.int .i32 b3,.int .i32 b4,.slice bo bl bc,.int .i64 c0,.int .i64 c1,.string c2,.int .i32 c3,.int .i32 c4,.slice co cl cc] 119)) w1.heap.size b0' b1' b2' b3' b4' (.slice bo' bl' bc') /\
       gT ((put6 w6 w1.heap.size t0 t1 t2 t3 t4 (.slice (some ⟨w6.heap.size,0,none⟩) 2 2)).alloc (.cells #[.int .i64 b0,.int .i64 b1,.string b2,.int .i32 b3,.int .i32 b4,.slice bo bl bc,.int .i64 c0,.int .i64 c1,.string c2,.int .i32 c3,.int .i32 c4,.slice co cl cc] 119)) w.heap.size 0 0 ⟨#[]⟩ 0 0 (.slice none 0 0) /\
       aB pb w ((put6 w6 w1.heap.size t0 t1 t2 t3 t4 (.slice (some ⟨w6.heap.size,0,none⟩) 2 2)).alloc (.cells #[.int .i64 b0,.int .i64 b1,.string b2,.int .i32 b3,.int .i32 b4,.slice bo bl bc,.int .i64 c0,.int .i64 c1,.string c2,.int .i32 c3,.int .i32 c4,.slice co cl cc] 119)) /\
       uM P lQ T (λg=>w.heap.size<g/\g≠w1.heap.size) pb tb cap f' pl' r gk (nN b0' b1' b2' b3' b4' (.slice bo' bl' bc')) ((put6 w6 w1.heap.size t0 t1 t2 t3 t4 (.slice (some ⟨w6.heap.size,0,none⟩) 2 2)).alloc (.cells #[.int .i64 b0,.int .i64 b1,.string b2,.int .i32 b3,.int .i32 b4,.slice bo bl bc,.int .i64 c0,.int .i64 c1,.string c2,.int .i32 c3,.int .i32 c4,.slice co cl cc] 119)):=by
     intro w6 c0 c1 c2 c3 c4 co cl cc k6 h6;have k6':aB pb w5 w6:=k6.undrew;have sz6:=k6'.1;have he6:gT w6 w1.heap.size b0 b1 b2 b3 b4 (.slice bo bl bc):=(k6'.2 _ (by omega) (by omega)).trans he5;have hz6:gT w6 w.heap.size 0 0 ⟨#[]⟩ 0 0 (.slice none 0 0):=(k6'.2 _ (by omega) (by omega)).trans hz5;have S6:nz (λg=>w.heap.size<g/\g≠w1.heap.size) w5 w6:=k6'.stay (λh=>by have:=h.1;omega);have sw5:wr.heap.size<=w5.heap.size:=by omega
     obtain⟨ht0,ht1,ht2,ht3,ht4⟩:=aa HT;refine⟨t0,t1,t2,t3,t4,some ⟨w6.heap.size,0,none⟩,2,2,?_,?_,?_,?_⟩
     .exact(av _ _ _ (by rw[ng];omega)).trans (Iu he6)
     .exact(av _ _ _ (by rw[ng];omega)).trans ((jR (by omega)).trans hz6)
     .exact((K5.trans k6').put6 (by omega)).trans (aB.alloc _ _ _)
     .rw[<-ht0,<-ht1,<-ht2,<-ht3,<-ht4];exact BI (hrep.later (S5.trans sw5 S6) (λ_ h _=>h)) h6 (aa HPC) (λg hg _=>⟨by have:w5.heap.size<=g:=hg;omega,by have:w5.heap.size<=g:=hg;omega⟩) ⟨by omega,by omega⟩ (λh=>h.2 rfl) (by omega) (by omega)
    clear hw5 h4 he4 hz4 K4;obtain⟨⟨x0,x1,x2,x3,x4,x5⟩,y0,y1,y2,y3,y4,y5⟩:=iy he5;obtain⟨g0,g1,g2,g3,g4⟩:=iV s5
    go_region_with (go_at_call_of 144 (Value.pointer (some ⟨pb,0,none⟩));refine(hP _ pb tb cap (i'+1) T f' pl' r2 hT ?_ (aa HX)).mono ?_;exact h5;rintro e w6 ⟨k6,c0,c1,c2,c3,c4,co,cl,cc,rfl,h6⟩;have he6:gT w6 w1.heap.size b0 b1 b2 b3 b4 (.slice bo bl bc):=(k6.2 _ (by show _<w5.heap.size;omega) (by omega)).trans he5;have s6:=(k6.2 _ (by show _<w5.heap.size;omega) (by omega)).trans s5;obtain⟨⟨v0,v1,v2,v3,v4,v5⟩,u0,u1,u2,u3,u4,u5⟩:=iy he6;obtain⟨n0,n1,n2,n3,n4⟩:=iV s6;have l6:w1.heap.size<w6.heap.size:=(az.1 he6).1;have m6:w1.heap.size≠w6.heap.size:=(by omega);have l7:w4.heap.size<w6.heap.size:=(az.1 s6).1;have m7:w4.heap.size≠w6.heap.size:=(by omega);unfold nN)
    all_goals go_wp2
    all_goals go_roundg gk
    all_goals first|exact fin w6 c0 c1 c2 c3 c4 co cl cc k6 h6|omega
   .exfalso;have:=dD.1 hany;obtain⟨s,_,hs⟩:=this;rw[ku hT.last s]at hs
    cases hs
def GA:List Int:=[61,8800,60,8804]
theorem Qn2 (hT:eQ T) (i:Nat):((kP (ah T i)==4)&&GA.any (λt=>sP (ah T i)==t))=sD.any (bJ T i):=by
 have e:GA=sD.map aX:=by unfold aX;simp only[aJ];decide
 have m:∀s∈sD,s∈aY:=by intro s hs;simp only[sD,aO,aQ,aR]at hs;rcases hs with rfl|rfl|rfl|rfl<;>simp[aY]
 rw[e,List.any_map];have:∀l:List ByteArray,(∀s∈l,s∈aY)->((kP (ah T i)==4)&&l.any ((λt=>sP (ah T i)==t) ∘ aX))=l.any (bJ T i):=λl=>by
  induction l with
  | nil=>intro _;simp
  | cons a l ih=>
   intro hm;rw[df,df,Bool.and_or_distrib_left,ih (λs hs=>hm s (uA _ hs))];have:=pq hT i (hm a oq);unfold IZ at this;rw[<-this];rfl
 exact this _ m
theorem Te {pb tb cap B:Nat} (h:uM P [] T Q pb tb cap f pl r 1 v W) (h1:b≠pb) (h2:b≠tb) (hQb:¬ Q b) (hQ:∀k,Q k->B<=k) :
  zT (put6 W b k p wd n s sv) (λg=>B<=g) pb tb cap T f pl v r:=by
 rcases h with⟨e,i,g1,g2,g3⟩|⟨x,rfl,g1⟩
 .have g4:(some (Except.ok (e,i)):PR Ex)=some r:=g3
  cases g4;exact⟨g1.put6 h1 h2,g2.later (λj hj _=>jR (λ(e:j=b)=>hQb (by rw[<-e];exact hj))) (λk hk _=>hQ k hk)⟩
 .exact g1.put6 h1 h2
theorem JR (hP:gP 141 P):gP 130 (vV P):=by
 intro w pb tb cap i T f pl r hT h hr;have hp:=h.plt;have hlow:=h.low;unfold vV at hr
 cases hx:P T i with
 | none=>rw[hx]at hr;cases hr
 | some r1=>
 rw[hx]at hr;have HX:=aj hx;have HR:=aj hr;clear hx hr;go_enter Tryz.func130,Tryz.ntmps130;go_wp2_with fail;refine(hP _ pb tb cap i T f pl r1 hT (h.alloc _) (aa HX)).mono ?_;rintro e w1 ⟨k1,b0,b1,b2,b3,b4,bo,bl,bc,rfl,h1⟩;have q1:w1.heap[w.heap.size]?=some (.cells #[.int .i64 0,.int .i64 0,.string ⟨#[]⟩,.int .i32 0,.int .i32 0,.slice none 0 0] 119 (0,0)):=(k1.2 _ (by simp) (by omega)).trans (aA w _);have K1:=(aB.alloc pb w _).trans k1;have lt1:w.heap.size<w1.heap.size:=(az.1 q1).1;clear h k1 HX;unfold nN;obtain⟨wr,hwr⟩:∃wr,w1.alloc (.cells #[.int .i64 b0,.int .i64 b1,.string b2,.int .i32 b3,.int .i32 b4,.slice bo bl bc] 119)=wr:=⟨_,rfl⟩;have he:gT wr w1.heap.size b0 b1 b2 b3 b4 (.slice bo bl bc):=by rw[<-hwr];exact aA w1 _
 have hz:gT wr w.heap.size 0 0 ⟨#[]⟩ 0 0 (.slice none 0 0):=by rw[<-hwr];exact(av w1 _ _ lt1).trans q1
 have kw:aB pb w wr:=by rw[<-hwr];exact K1.trans (aB.alloc pb w1 _)
 have ltE:w1.heap.size<wr.heap.size:=(az.1 he).1;obtain⟨i',f',pl',hps,hdead⟩:∃i' f' pl',bg wr pb tb cap T i' f' pl'/\((∃e,f'=f/\pl'=pl/\gD wr (λg=>w.heap.size<g/\g≠w1.heap.size) (nN b0 b1 b2 b3 b4 (.slice bo bl bc)) e/\wV P T e i'=some r)∨(∃x,i'=T.length-1/\r=.error x/\f'=mo f/\pl'=nY f pl (ah T x).place)):=by
  have hr:=aa HR
  cases r1 with
  | error x=>cases hr;exact⟨_,_,_,by rw[<-hwr];exact bg.alloc h1 _,.inr ⟨x,rfl,rfl,rfl,rfl⟩⟩
  | ok xj=>
   obtain⟨t,j⟩:=xj;refine⟨j,f,pl,by rw[<-hwr];exact h1.1.alloc _,.inl ⟨t,rfl,rfl,?_,hr⟩⟩;exact h1.2.later (by rw[<-hwr];exact λk _ hl=>av w1 _ k hl) (λk hk hl=>⟨by have:w.heap.size+1<=k:=(by simpa using hk);omega,by omega⟩)
 clear HR h1 K1 q1;go_wp2_with fail;clear hwr;refine(dM wr pb tb cap i' T f' pl' hps).mono ?_;rintro e w2 ⟨rfl,hb2⟩;have h2:=hps.below hb2 (af _);go_wp2_with fail;refine(di _ (kP (ah T i')) (ah T i').place (nP (ah T i')) (sP (ah T i')) (wP (ah T i')) w2.heap.size 0 4 GA (AQ w2 GA) (by simp[GA])).mono ?_;rintro e w3 ⟨rfl,hb3⟩;have h3:=(h2.alloc _).below hb3 (af _);have B3:Below wr.heap.size wr w3:=(hb2.alloc hb2.size _).trans (hb3.mono (by have:=hb2.size;simp;omega));have he3:gT w3 w1.heap.size b0 b1 b2 b3 b4 (.slice bo bl bc):=(B3.block _ ltE).trans he;have hz3:gT w3 w.heap.size 0 0 ⟨#[]⟩ 0 0 (.slice none 0 0):=(B3.block _ (by omega)).trans hz;have K3:aB pb w w3:=kw.trans (aB.below B3);have sz3:=B3.size;rw[Qn2 hT i'];clear hps h2 hb2 hb3 he hz kw;obtain⟨⟨d0,d1,d2,d3,d4,d5⟩,z0,z1,z2,z3,z4,z5⟩:=iy hz3;obtain⟨⟨x0,x1,x2,x3,x4,x5⟩,y0,y1,y2,y3,y4,y5⟩:=iy he3
 cases hany:sD.any (bJ T i')
 .have KK:=aj K3;have BB:=aj B3;have HE:=aj he3;have HZ:=aj hz3;have H3:=aj h3;have HD:=aj hdead;clear K3 B3 he3 hz3 h3 hdead;go_wp2;refine aL (v:=nN b0 b1 b2 b3 b4 (.slice bo bl bc)) (by simp[results,Tryz.results130,go_sem,nN,d0,d1,d2,d3,d4,d5]) rfl ⟨(aa KK).put6 (af _),b0,b1,b2,b3,b4,bo,bl,bc,rfl,?_⟩;have h3:=aa H3;rcases aa HD with⟨e,rfl,rfl,hrep,hpc⟩|⟨x,rfl,rfl,rfl,rfl⟩
  .rw[wV,hany,ae (by simp)]at hpc
   cases hpc;refine⟨h3.put6 (by omega) (by omega),hrep.later (λk hk hl=>?_) (λk hk _=>by show _<=k;have:=hk.1;omega)⟩;exact(jR (by have:=hk.1;omega)).trans ((aa BB).block k hl)
  .exact h3.put6 (by omega) (by omega)
 .have hi1:i'+1<T.length:=by
   obtain⟨s,_,hs⟩:=dD.1 hany;exact aD hT.last h3.lt hs
  rcases hdead with⟨e,rfl,rfl,hrep,hpc⟩|⟨x,rfl,_⟩
  .rw[wV,hany,ag rfl]at hpc
   cases hx:P T (i'+1) with
   | none=>rw[hx]at hpc;cases hpc
   | some r2=>
   rw[hx]at hpc;have HX:=aj hx;have HPC:=aj hpc;have KK:=aj K3;have BB:=aj B3;clear hx hpc K3 B3 x0 x1 x2 x3 x4 x5 y0 y1 y2 y3 y4 y5 d0 d1 d2 d3 d4 d5 z0 z1 z2 z3 z4 z5;go_wp2_with fail;refine(jB w3 pb tb cap i' T f' pl' h3 hi1).mono ?_;rintro e w4 ⟨rfl,h4,k4⟩;have he4:gT w4 w1.heap.size b0 b1 b2 b3 b4 (.slice bo bl bc):=(k4.2 _ (by omega) (by omega)).trans he3;have hz4:gT w4 w.heap.size 0 0 ⟨#[]⟩ 0 0 (.slice none 0 0):=(k4.2 _ (by omega) (by omega)).trans hz3;have sz4:=k4.1;clear he3 hz3 h3;have K4:=(aa KK).trans k4;have S4:nz (λg=>w.heap.size<g/\g≠w1.heap.size) wr w4:=λk hk hl=>(k4.2 k (by omega) (by have:=hk.1;omega)).trans ((aa BB).block k hl);have hpE:pb≠w1.heap.size:=by omega
   have hpZ:pb≠w.heap.size:=by omega
   clear k4 KK;unfold jC pE;obtain⟨t0,ht0⟩:∃t0,kP (ah T i')=t0:=⟨_,rfl⟩;obtain⟨t1,ht1⟩:∃t1,(ah T i').place=t1:=⟨_,rfl⟩;obtain⟨t2,ht2⟩:∃t2,wP (ah T i')=t2:=⟨_,rfl⟩;obtain⟨t3,ht3⟩:∃t3,nP (ah T i')=t3:=⟨_,rfl⟩;obtain⟨t4,ht4⟩:∃t4,sP (ah T i')=t4:=⟨_,rfl⟩;rw[ht0,ht1,ht2,ht3,ht4];have HT:=aj (And.intro ht0 (And.intro ht1 (And.intro ht2 (And.intro ht3 ht4))));clear ht0 ht1 ht2 ht3 ht4;go_wp2_with fail;obtain⟨w5,hw5⟩:∃w5,w4.alloc (.cells #[.int .i64 t0,.int .i64 t1,.string t2,.int .i32 t3,.int .i32 t4] 116)=w5:=⟨_,rfl⟩;rw[hw5];have s5:w5.heap[w4.heap.size]?=some (.cells #[.int .i64 t0,.int .i64 t1,.string t2,.int .i32 t3,.int .i32 t4] 116 (0,0)):=by rw[<-hw5];exact aA w4 _
   have h5:bg w5.drew pb tb cap T (i'+1) f' pl':=by rw[<-hw5];exact(h4.alloc _).later (λ_ _=>rfl)
   have he5:gT w5 w1.heap.size b0 b1 b2 b3 b4 (.slice bo bl bc):=by rw[<-hw5];exact(av w4 _ _ (by omega)).trans he4
   have hz5:gT w5 w.heap.size 0 0 ⟨#[]⟩ 0 0 (.slice none 0 0):=by rw[<-hw5];exact(av w4 _ _ (by omega)).trans hz4
   have K5:aB pb w w5:=by rw[<-hw5];exact K4.trans (aB.alloc pb w4 _)
   have S5:nz (λg=>w.heap.size<g/\g≠w1.heap.size) wr w5:=by rw[<-hw5];exact λk hk hl=>(av w4 _ k (by omega)).trans (S4 k hk hl)
   have sz5:w4.heap.size<w5.heap.size:=(az.1 s5).1;have fin:∀(w6:World) (c0 c1:Int) (c2:ByteArray) (c3 c4:Int) (co:Option Addr) (cl cc:Nat),aB pb w5.drew w6->zT w6 (λg=>w5.drew.heap.size<=g) pb tb cap T f' pl' (nN c0 c1 c2 c3 c4 (.slice co cl cc)) r2 ->
     ∃b0' b1' b2' b3' b4' bo' bl' bc',gT ((put6 w6 w1.heap.size t0 t1 t2 t3 t4 (.slice (some ⟨w6.heap.size,0,none⟩) 2 2)).alloc (.cells #[.int .i64 b0,.int .i64 b1,.string b2,.int .i32 b3,.int .i32 b4,.slice bo bl bc,.int .i64 c0,.int .i64 c1,.string c2,.int .i32 c3,.int .i32 c4,.slice co cl cc] 119)) w1.heap.size b0' b1' b2' b3' b4' (.slice bo' bl' bc') /\
      gT ((put6 w6 w1.heap.size t0 t1 t2 t3 t4 (.slice (some ⟨w6.heap.size,0,none⟩) 2 2)).alloc (.cells #[.int .i64 b0,.int .i64 b1,.string b2,.int .i32 b3,.int .i32 b4,.slice bo bl bc,.int .i64 c0,.int .i64 c1,.string c2,.int .i32 c3,.int .i32 c4,.slice co cl cc] 119)) w.heap.size 0 0 ⟨#[]⟩ 0 0 (.slice none 0 0) /\
      aB pb w ((put6 w6 w1.heap.size t0 t1 t2 t3 t4 (.slice (some ⟨w6.heap.size,0,none⟩) 2 2)).alloc (.cells #[.int .i64 b0,.int .i64 b1,.string b2,.int .i32 b3,.int .i32 b4,.slice bo bl bc,.int .i64 c0,.int .i64 c1,.string c2,.int .i32 c3,.int .i32 c4,.slice co cl cc] 119)) /\
      uM P [] T (λg=>w.heap.size<g/\g≠w1.heap.size) pb tb cap f' pl' r 1 (nN b0' b1' b2' b3' b4' (.slice bo' bl' bc')) ((put6 w6 w1.heap.size t0 t1 t2 t3 t4 (.slice (some ⟨w6.heap.size,0,none⟩) 2 2)).alloc (.cells #[.int .i64 b0,.int .i64 b1,.string b2,.int .i32 b3,.int .i32 b4,.slice bo bl bc,.int .i64 c0,.int .i64 c1,.string c2,.int .i32 c3,.int .i32 c4,.slice co cl cc] 119)):=by
    intro w6 c0 c1 c2 c3 c4 co cl cc k6 h6;have k6':aB pb w5 w6:=k6.undrew;have sz6:=k6'.1;have he6:gT w6 w1.heap.size b0 b1 b2 b3 b4 (.slice bo bl bc):=(k6'.2 _ (by omega) (by omega)).trans he5;have hz6:gT w6 w.heap.size 0 0 ⟨#[]⟩ 0 0 (.slice none 0 0):=(k6'.2 _ (by omega) (by omega)).trans hz5;have S6:nz (λg=>w.heap.size<g/\g≠w1.heap.size) w5 w6:=k6'.stay (λh=>by have:=h.1;omega);have sw5:wr.heap.size<=w5.heap.size:=by omega
    obtain⟨ht0,ht1,ht2,ht3,ht4⟩:=aa HT;refine⟨t0,t1,t2,t3,t4,some ⟨w6.heap.size,0,none⟩,2,2,?_,?_,?_,?_⟩
    .exact(av _ _ _ (by rw[ng];omega)).trans (Iu he6)
    .exact(av _ _ _ (by rw[ng];omega)).trans ((jR (by omega)).trans hz6)
    .exact((K5.trans k6').put6 (by omega)).trans (aB.alloc _ _ _)
    .rw[<-ht0,<-ht1,<-ht2,<-ht3,<-ht4];exact BI (hrep.later (S5.trans sw5 S6) (λ_ h _=>h)) h6 (aa HPC) (λg hg _=>⟨by have:w5.heap.size<=g:=hg;omega,by have:w5.heap.size<=g:=hg;omega⟩) ⟨by omega,by omega⟩ (λh=>h.2 rfl) (by omega) (by omega)
   clear hw5 h4 he4 hz4 K4;obtain⟨⟨x0,x1,x2,x3,x4,x5⟩,y0,y1,y2,y3,y4,y5⟩:=iy he5;obtain⟨g0,g1,g2,g3,g4⟩:=iV s5
   go_region_with (go_at_call_of 141 (Value.pointer (some ⟨pb,0,none⟩));refine(hP _ pb tb cap (i'+1) T f' pl' r2 hT ?_ (aa HX)).mono ?_;exact h5;rintro e w6 ⟨k6,c0,c1,c2,c3,c4,co,cl,cc,rfl,h6⟩;have he6:gT w6 w1.heap.size b0 b1 b2 b3 b4 (.slice bo bl bc):=(k6.2 _ (by show _<w5.heap.size;omega) (by omega)).trans he5;have s6:=(k6.2 _ (by show _<w5.heap.size;omega) (by omega)).trans s5;obtain⟨⟨v0,v1,v2,v3,v4,v5⟩,u0,u1,u2,u3,u4,u5⟩:=iy he6;obtain⟨n0,n1,n2,n3,n4⟩:=iV s6;have l6:w1.heap.size<w6.heap.size:=(az.1 he6).1;have m6:w1.heap.size≠w6.heap.size:=(by omega);have l7:w4.heap.size<w6.heap.size:=(az.1 s6).1;have m7:w4.heap.size≠w6.heap.size:=(by omega);unfold nN)
   all_goals obtain⟨o0,o1,o2,o3,o4,oo,ol,oc,qe,qz,qk,qc⟩:=fin w6 c0 c1 c2 c3 c4 co cl cc k6 h6
   all_goals unfold put6 at qe qz qk qc
   all_goals generalize hW:(((((((w6.setCell ⟨w1.heap.size,0,none⟩ (.int .i64 t0)).setCell ⟨w1.heap.size,1,none⟩ (.int .i64 t1)).setCell ⟨w1.heap.size,2,none⟩ (.string t2)).setCell ⟨w1.heap.size,3,none⟩ (.int .i32 t3)).setCell ⟨w1.heap.size,4,none⟩ (.int .i32 t4)).setCell ⟨w1.heap.size,5,none⟩ (.slice (some ⟨w6.heap.size,0,none⟩) 2 2)).alloc (.cells #[.int .i64 b0,.int .i64 b1,.string b2,.int .i32 b3,.int .i32 b4,.slice bo bl bc,.int .i64 c0,.int .i64 c1,.string c2,.int .i32 c3,.int .i32 c4,.slice co cl cc] 119))=W at qe qz qk qc ⊢
   all_goals clear hW
   all_goals obtain⟨⟨i0,i1,i2,i3,i4,i5⟩,j0,j1,j2,j3,j4,j5⟩:=iy qe
   all_goals obtain⟨⟨d0,d1,d2,d3,d4,d5⟩,z0,z1,z2,z3,z4,z5⟩:=iy qz
   all_goals have QK:=aj qk
   all_goals have QC:=aj qc
   all_goals clear qe qz qk qc fin h6 k6
   all_goals go_wp2
   all_goals refine aL (v:=nN o0 o1 o2 o3 o4 (.slice oo ol oc)) (by simp[results,Tryz.results130,go_sem,nN,d0,d1,d2,d3,d4,d5]) rfl ⟨(aa QK).put6 (af _),o0,o1,o2,o3,o4,oo,ol,oc,rfl,Te (aa QC) (by omega) (by omega) (λh=>by have:=h.1;omega) (λk hk=>by have:=hk.1;omega)⟩
  .exfalso;have:=dD.1 hany;obtain⟨s,_,hs⟩:=this;rw[ku hT.last s]at hs
   cases hs
end Go.Proofs.YthmmgiaobakilaaGreat
