import Derived.Test.YthmmgiaobakilaaGreatJ04
import Derived.Test.YthmmgiaobakilaaGreatJ05
set_option maxRecDepth 100000
set_option maxHeartbeats 8000000
set_option linter.all false
namespace Go.Proofs.YthmmgiaobakilaaGreat
open Go.RowKit Go.Deep
variable {M:PE} {S:PS} {T l:List aH} {X:Ex->Prop} {ds:List (aH×Bool)} {e:Ex} {i j n p:Nat} {ops:List ByteArray} {r s u:ByteArray} {t:aH}
def fa (t:aH):Bool:=(t.kind==1)||((t.kind==0)&&((t.text.toList==bf.toList)||(t.text.toList==cz.toList)))
def DI (t:aH):List aH:=if fa t then [t] else []
def lJ:Ex->List aH
 | .nil=>[]
 | .node _ _ t k r=>DI t++(lJ k++lJ r)
def nL:Ex->List aH
 | .nil=>[]
 | .node _ _ t k _=>DI t++lJ k
def yA (p:SP):List aH:=if p.tag=5 then [] else if p.tag=2 then [p.t,p.a] else [p.t]
def eU:Sx->List aH
 | .nil=>[]
 | .node _ _ p k r=>yA p++(nL p.e++(eU k++eU r))
def vw (T:List aH) (i j:Nat) (l:List aH):Prop:=∃xs:List Nat,l=xs.map (ah T)/\xs.Pairwise (· < ·)/\∀x∈xs,i<=x/\x<j
section
variable {T:List aH}
theorem vw.nil (i j:Nat):vw T i j []:=⟨[],rfl,List.Pairwise.nil,λ_ h=>by cases h⟩
theorem vw.one (i:Nat):vw T i (i+1) [ah T i]:=⟨[i],rfl,List.pairwise_singleton _ _,λx h=>by simp at h;omega⟩
theorem vw.mono {i' j':Nat} (h:vw T i j l) (h1:i'<=i) (h2:j<=j'):vw T i' j' l:=by
 obtain⟨xs,e,p,b⟩:=h;exact⟨xs,e,p,λx hx=>by have:=b x hx;omega⟩
theorem vw.app {k m:Nat} {l':List aH} (h:vw T i j l) (h':vw T k m l') (hk:j<=k) (hi:i<=k) (hm:j<=m):vw T i m (l++l'):=by
 obtain⟨xs,e,p,b⟩:=h;obtain⟨ys,e',p',b'⟩:=h';refine⟨xs++ys,by rw[e,e',jc],List.pairwise_append.2 ⟨p,p',λx hx y hy=>?_⟩,λx hx=>?_⟩
 .have:=b x hx;have:=b' y hy;omega
 .rcases dW.1 hx with hx|hx
  .have:=b x hx;omega
  .have:=b' x hx;omega
theorem vw.hd (i:Nat):vw T i (i+1) (DI (ah T i)):=by
 unfold DI;split
 .exact vw.one i
 .exact vw.nil _ _
theorem oG {a:Ex} (r:Ex) (h:∃b o t k,a=.node b o t k .nil):lJ (bD a r)=nL a++lJ r:=by
 obtain⟨b,o,t,k,rfl⟩:=h;simp[bD,lJ,nL]
structure OdE (T:List aH) (e:Ex) (i j:Nat):Prop where
 one:∃b o t k,e=.node b o t k .nil
 lt:i<j
 seg:vw T i j (nL e)
def UR (T:List aH) (P:PE):Prop:=∀i e j,P T i=some (.ok (e,j))->OdE T e i j
theorem Qh5 (h:bJ T i s=true) (h1:(s.toList==bf.toList)=false) (h2:(s.toList==cz.toList)=false):fa (ah T i)=false:=by
 unfold bJ at h;simp only[dC,pU,beq_iff_eq]at h;unfold fa;rw[h.2,h1,h2];rcases h.1 with e|e<;>rw[e]<;>rfl
theorem VO {a b:Ex} {k m q:Nat} (hq:fa (ah T q)=false) (h1:OdE T a i j) (h2:OdE T b k m) (hk:j<=k):OdE T (uf (ah T q) a b) i m:=by
 have l1:=h1.lt;have l2:=h2.lt;refine⟨⟨_,_,_,_,rfl⟩,by omega,?_⟩;show vw T i m (DI (ah T q)++lJ (bD a (bD b .nil)));rw[oG _ h1.one,oG _ h2.one];have e:DI (ah T q)=[]:=by unfold DI;rw[hq];rfl
 rw[e];simp only[lJ,eP,gI];exact h1.seg.app h2.seg hk (by omega) (by omega)
theorem XR (ho:∀s∈ops,(s.toList==bf.toList)=false/\(s.toList==cz.toList)=false) (h:ops.any (bJ T i)=true):fa (ah T i)=false:=by
 obtain⟨s,hs,hi⟩:=dD.1 h;exact Qh5 hi (ho s hs).1 (ho s hs).2
theorem YA (hM:UR T M) (ho:∀s∈ops,(s.toList==bf.toList)=false/\(s.toList==cz.toList)=false):∀(n:Nat) (e:Ex) (i0 i:Nat) (r:Ex) (j:Nat),OdE T e i0 i->iB M ops T n e i=some (.ok (r,j))->OdE T r i0 j:=by
 intro n
 induction n with
 | zero=>intro e i0 i r j _ h;cases h
 | succ n ih=>
  intro e i0 i r j he h;rw[iB]at h;split at h
  .rename_i ha;obtain⟨x,k,h1,h2⟩:=au h;exact ih _ i0 k r j (VO (XR ho ha) he (hM _ _ _ h1) (by omega)) h2
  .cases h;exact he
theorem Nw (hM:UR T M) (ho:∀s∈ops,(s.toList==bf.toList)=false/\(s.toList==cz.toList)=false) (n:Nat):UR T (jk M ops n):=by
 intro i e j h;unfold jk at h;split at h
 .cases h
 .obtain⟨x,k,h1,h2⟩:=au h;exact YA hM ho n x i k e j (hM _ _ _ h1) h2
theorem Zc:∀s∈lT,(s.toList==bf.toList)=false/\(s.toList==cz.toList)=false:=by
 simp only[aJ];decide
theorem Qd2:∀s∈lQ,(s.toList==bf.toList)=false/\(s.toList==cz.toList)=false:=by
 simp only[aJ];decide
theorem Zl:∀s∈sD,(s.toList==bf.toList)=false/\(s.toList==cz.toList)=false:=by
 simp only[aJ];decide
theorem Zg (hM:UR T M):UR T (vV M):=by
 intro i e j h;obtain⟨x,k,h1,h2⟩:=au h;unfold wV at h2;split at h2
 .rename_i ha;obtain⟨y,l,h3,h4⟩:=au h2
  cases h4;exact VO (XR Zl ha) (hM _ _ _ h1) (hM _ _ _ h3) (by omega)
 .cases h2;exact hM _ _ _ h1
theorem Cy {X:PE} (hX:UR T X) {l:ByteArray} (h:oU X l r T i=some (.ok (e,j))):OdE T e i j:=by
 unfold oU at h;obtain⟨_,j1,h1,h⟩:=au h;obtain⟨a,j2,h2,h⟩:=au h;obtain⟨_,j3,h3,h⟩:=au h;obtain⟨b,j4,h4,h⟩:=au h;obtain⟨_,j5,h5,h⟩:=au h
 cases h;have g1:=hX _ _ _ h2;have g2:=hX _ _ _ h4;have e1:=eF h1;have e3:=eF h3;have e5:=eF h5;have s1:=g1.lt;have s2:=g2.lt;refine⟨⟨_,_,_,_,rfl⟩,by omega,?_⟩;show vw T i j (DI (ah T i)++lJ (bD a (bD b .nil)));rw[oG _ g1.one,oG _ g2.one];simp only[lJ,eP];exact(vw.hd i).app (g1.seg.app (g2.seg.mono (af _) (by omega:j4<=j)) (by omega) (by omega) (by omega)) (by omega) (by omega) (by omega)
theorem Vw {X:PE} (hX:UR T X) {l:ByteArray} (h:jN X l r T i=some (.ok (e,j))):OdE T e i j:=by
 unfold jN at h;obtain⟨_,j1,h1,h⟩:=au h;obtain⟨a,j2,h2,h⟩:=au h;obtain⟨_,j3,h3,h⟩:=au h;obtain⟨b,j4,h4,h⟩:=au h;obtain⟨_,j5,h5,h⟩:=au h;obtain⟨c,j6,h6,h⟩:=au h;obtain⟨_,j7,h7,h⟩:=au h
 cases h;have g1:=hX _ _ _ h2;have g2:=hX _ _ _ h4;have g3:=hX _ _ _ h6;have e1:=eF h1;have e3:=eF h3;have e5:=eF h5;have e7:=eF h7;have s1:=g1.lt;have s2:=g2.lt;have s3:=g3.lt;refine⟨⟨_,_,_,_,rfl⟩,by omega,?_⟩;show vw T i j (DI (ah T i)++lJ (bD a (bD b (bD c .nil))));rw[oG _ g1.one,oG _ g2.one,oG _ g3.one];simp only[lJ,eP];exact(vw.hd i).app (g1.seg.app (g2.seg.app (g3.seg.mono (af _) (by omega:j6<=j)) (by omega) (by omega) (by omega)) (by omega) (by omega) (by omega)) (by omega) (by omega) (by omega)
theorem Tv {X F:PE} (hX:UR T X) (hF:UR T F):UR T (iD X F):=by
 intro i e j h;have leaf:OdE T (BG (ah T i)) i (i+1):=⟨⟨_,_,_,_,rfl⟩,by omega,by
  show vw T i (i+1) (DI (ah T i)++lJ .nil);rw[lJ,eP];exact vw.hd i⟩
 unfold iD at h;split at h
 .cases h;exact leaf
 split at h
 .cases h;exact leaf
 split at h
 .obtain⟨a,j2,h2,h⟩:=au h;obtain⟨_,j3,h3,h⟩:=au h
  cases h;have g:=hX _ _ _ h2;have e3:=eF h3;have s:=g.lt;exact⟨g.one,by omega,g.seg.mono (by omega) (by omega)⟩
 split at h
 .rename_i hs;obtain⟨a,j2,h2,h⟩:=au h
  cases h;have g:=hF _ _ _ h2;have s:=g.lt;refine⟨⟨_,_,_,_,rfl⟩,by omega,?_⟩;show vw T i j (DI (ah T i)++lJ (bD a .nil));rw[oG _ g.one];simp only[lJ,eP];exact(vw.hd i).app g.seg (by omega) (by omega) (by omega)
 split at h
 .exact Cy hX h
 split at h
 .exact Cy hX h
 split at h
 .exact Cy hX h
 split at h
 .exact Cy hX h
 split at h
 .exact Vw hX h
 .cases h
theorem Qp5 (n:Nat):UR T (yG n).1/\UR T (yG n).2:=by
 induction n with
 | zero=>exact⟨λ_ _ _ h=>by(cases h),λ_ _ _ h=>by(cases h)⟩
 | succ n ih=>
  rw[yG];split
  .exact⟨λ_ _ _ h=>by(cases h),λ_ _ _ h=>by(cases h)⟩
  have f:=Tv ih.1 ih.2;exact⟨Zg (Nw (Nw f Zc _) Qd2 _),f⟩
def BO (X:Ex->Prop):Sx->Prop
 | .nil=>True
 | .node _ _ p k r=>BO X r/\((p.tag=0/\p.t.kind=1/\X p.e/\k=.nil)∨(p.tag=1/\X p.e/\(match k with
  | .nil=>False
  | .node _ _ q s u=>q.tag=5/\q.e=.nil/\BO X s/\BO X u))∨(p.tag=2/\p.t.kind=1/\p.a.kind=2/\p.b.kind=2/\p.e=.nil/\BO X k)∨(p.tag=3/\p.t.kind=0/\(p.t.text.toList==dY.toList)=false/\X p.e/\k=.nil)∨(p.tag=4/\p.t.kind=0/\(p.t.text.toList==dY.toList)=true/\X p.e/\k=.nil))
structure OdS (T:List aH) (X:Ex->Prop) (s:Sx) (i j:Nat):Prop where
 le:i<=j
 seg:vw T i j (eU s)
 sh:BO X s
def Qc3 (T:List aH) (X:Ex->Prop) (P:PS):Prop:=∀i s j,P T i=some (.ok (s,j))->One s/\i<j/\OdS T X s i j
def Qo1 (T:List aH) (X:Ex->Prop) (P:PS):Prop:=∀i s j,P T i=some (.ok (s,j))->i<j/\OdS T X s i j
theorem EJ {a:Sx} (r:Sx) (h:One a):eU (kV a r)=eU a++eU r:=by
 obtain⟨b,o,t,k,rfl⟩:=h;simp[kV,eU]
theorem GG {a r:Sx} (ha:BO X a) (hr:BO X r):BO X (kV a r):=by
 cases a with
 | nil=>exact trivial
 | node b o t k r'=>
  unfold BO at ha;show BO X (.node b o t k r);unfold BO;exact⟨hr,ha.2⟩
theorem Dq {k:Int} (h:ib T k i=some (.ok (t,j))):(ah T i).kind=k:=by
 unfold ib at h;split at h
 .rename_i hs;simpa using hs
 .cases h
theorem wQ (h:bJ T i s=true):(ah T i).text.toList=s.toList:=by
 unfold bJ at h;simp only[dC,beq_iff_eq]at h;exact h.2
theorem Qm2 {P:PE} {B:PS} (hX:∀i e j,P T i=some (.ok (e,j))->X e) (hk:∀i s,bJ T i s=true->s=lD∨s=dY->(ah T i).kind=0) (hP:UR T P) (hB:Qo1 T X B):Qc3 T X (dU P B):=by
 intro i s j h;unfold dU at h;split at h
 .rename_i hs;unfold mi at h;obtain⟨_,j1,h1,h⟩:=au h;obtain⟨e,j2,h2,h⟩:=au h;obtain⟨_,j3,h3,h⟩:=au h
  cases h;have e1:=eF h1;have e3:=eF h3;have g:=hP _ _ _ h2;have s2:=g.lt;refine⟨⟨_,_,_,_,rfl⟩,by omega,by omega,?_,by unfold BO;exact⟨trivial,.inl ⟨rfl,by simpa using hs,hX _ _ _ h2,rfl⟩⟩⟩;show vw T i j ([ah T i]++(nL e++(eU .nil++eU .nil)));simp only[eU,eP];exact(vw.one i).app (g.seg.mono (af _) (by omega)) (by omega) (by omega) (by omega)
 split at h
 .unfold Pj at h;obtain⟨e,j1,h1,h⟩:=au h;obtain⟨a,j2,h2,h⟩:=au h;have g:=hP _ _ _ h1;have s1:=g.lt;obtain⟨l2,b1⟩:=hB _ _ _ h2;unfold uz at h;split at h
  .obtain⟨u,j3,h3,h⟩:=au h
   cases h;obtain⟨l3,b2⟩:=hB _ _ _ h3;refine⟨⟨_,_,_,_,rfl⟩,by omega,by omega,?_,by unfold BO;exact⟨trivial,.inr (.inl ⟨rfl,hX _ _ _ h1,rfl,rfl,b1.sh,b2.sh⟩)⟩⟩;show vw T i j ([ah T i]++(nL e++(([]++([]++(eU a++eU u)))++eU .nil)));simp only[eU,eP,gI];exact(vw.one i).app (g.seg.app (b1.seg.app b2.seg (by omega) (by omega) (by omega)) (by omega) (by omega) (by omega)) (by omega) (by omega) (by omega)
  .cases h;refine⟨⟨_,_,_,_,rfl⟩,by omega,by omega,?_,by unfold BO;exact⟨trivial,.inr (.inl ⟨rfl,hX _ _ _ h1,rfl,rfl,b1.sh,trivial⟩)⟩⟩;show vw T i j ([ah T i]++(nL e++(([]++([]++(eU a++eU .nil)))++eU .nil)));simp only[eU,eP,gI];exact(vw.one i).app (g.seg.app b1.seg (by omega) (by omega) (by omega)) (by omega) (by omega) (by omega)
 split at h
 .unfold BS at h;obtain⟨n,j1,h1,h⟩:=au h;obtain⟨a,j2,h2,h⟩:=au h;obtain⟨_,j3,h3,h⟩:=au h;obtain⟨b,j4,h4,h⟩:=au h;obtain⟨q,j5,h5,h⟩:=au h
  cases h;have k1:=Dq h1;have k2:=Dq h2;have k4:=Dq h4;obtain⟨e1,rfl⟩:=wZ h1;obtain⟨e2,rfl⟩:=wZ h2;have e3:=eF h3;obtain⟨e4,rfl⟩:=wZ h4;obtain⟨l5,b1⟩:=hB _ _ _ h5;refine⟨⟨_,_,_,_,rfl⟩,by omega,by omega,?_,by unfold BO;exact⟨trivial,.inr (.inr (.inl ⟨rfl,k1,k2,k4,rfl,b1.sh⟩))⟩⟩;show vw T i j ([ah T (i+1),ah T j1]++([]++(eU q++eU .nil)));simp only[eU,eP,gI];have o:vw T (i+1) (j1+1) ([ah T (i+1)]++[ah T j1]):=(vw.one (i+1)).app (vw.one j1) (by omega) (by omega) (by omega);exact(o.mono (i':=i) (j':=j4) (by omega) (by omega)).app b1.seg (af _) (by omega) (by omega)
 have put:∀tag,(tag=3/\(ah T i).kind=0/\((ah T i).text.toList==dY.toList)=false)∨(tag=4/\(ah T i).kind=0/\((ah T i).text.toList==dY.toList)=true)->wJ P tag T i=some (.ok (s,j))->One s/\i<j/\OdS T X s i j:=λtag ht h=>by
  unfold wJ at h;obtain⟨e,j2,h2,h⟩:=au h;obtain⟨_,j3,h3,h⟩:=au h
  cases h;have e3:=eF h3;have g:=hP _ _ _ h2;have s2:=g.lt;have hx:=hX _ _ _ h2;refine⟨⟨_,_,_,_,rfl⟩,by omega,by omega,?_,?_⟩
  .have eh:yA ⟨tag,ah T i,bK,bK,e⟩=[ah T i]:=by
    unfold yA;rw[ae (by show ¬ tag=5;omega),ae (by show ¬ tag=2;omega)]
   show vw T i j (yA _++(nL e++(eU .nil++eU .nil)));rw[eh];simp only[eU,eP];exact(vw.one i).app (g.seg.mono (af _) (by omega)) (by omega) (by omega) (by omega)
  .unfold BO;refine⟨trivial,?_⟩;rcases ht with⟨a,b,c⟩|⟨a,b,c⟩
   .exact .inr (.inr (.inr (.inl ⟨a,b,c,hx,rfl⟩)))
   .exact .inr (.inr (.inr (.inr ⟨a,b,c,hx,rfl⟩)))
 split at h
 .rename_i hs;refine put 3 (.inl ⟨rfl,hk i _ hs (.inl rfl),?_⟩) h;rw[wQ hs];simp only[aJ];decide
 split at h
 .rename_i hs;refine put 4 (.inr ⟨rfl,hk i _ hs (.inr rfl),?_⟩) h;rw[wQ hs];simp
 .cases h
theorem VF (hS:Qc3 T X S):∀(n i:Nat) (s:Sx) (j:Nat),kz S T n i=some (.ok (s,j))->i<j/\OdS T X s i j:=by
 intro n
 induction n with
 | zero=>intro i s j h;cases h
 | succ n ih=>
  intro i s j h;rw[kz]at h;split at h
  .cases h;exact⟨by omega,by omega,vw.nil _ _,trivial⟩
  .obtain⟨a,j1,h1,h⟩:=au h;obtain⟨r,j2,h2,h⟩:=au h
   cases h;obtain⟨o1,l1,s1⟩:=hS _ _ _ h1;obtain⟨l2,g⟩:=ih _ _ _ h2;exact⟨by omega,by omega,by rw[EJ _ o1];exact s1.seg.app g.seg (by omega) (by omega) (by omega),GG s1.sh g.sh⟩
theorem Qb6 (hS:Qc3 T X S):∀(n i:Nat) (s:Sx) (j:Nat),mH S T n i=some (.ok (s,j))->OdS T X s i j:=by
 intro n
 induction n with
 | zero=>intro i s j h;cases h
 | succ n ih=>
  intro i s j h;rw[mH]at h;split at h
  .cases h;exact⟨by omega,vw.nil _ _,trivial⟩
  .obtain⟨a,j1,h1,h⟩:=au h;obtain⟨r,j2,h2,h⟩:=au h
   cases h;obtain⟨o1,l1,s1⟩:=hS _ _ _ h1;have g:=ih _ _ _ h2;have l2:=g.le;exact⟨by omega,by rw[EJ _ o1];exact s1.seg.app g.seg (by omega) (by omega) (by omega),GG s1.sh g.sh⟩
theorem Qp4 (hX:∀n i e j,(yG n).1 T i=some (.ok (e,j))->X e) (hk:∀i s,bJ T i s=true->s=lD∨s=dY->(ah T i).kind=0):∀n,Qc3 T X (zB n).1/\Qo1 T X (zB n).2:=by
 intro n
 induction n with
 | zero=>exact⟨λ_ _ _ h=>by(cases h),λ_ _ _ h=>by(cases h)⟩
 | succ n ih=>
  rw[zB];split
  .exact⟨λ_ _ _ h=>by(cases h),λ_ _ _ h=>by(cases h)⟩
  refine⟨Qm2 (hX n) hk (Qp5 n).1 ih.2,?_⟩;intro i s j h;dsimp only at h;unfold r9 at h;split at h
  .cases h
  obtain⟨_,j1,h1,h⟩:=au h;have e1:=eF h1;obtain⟨l,g⟩:=VF ih.1 _ _ _ _ h;exact⟨by omega,by omega,g.seg.mono (by omega) (by omega),g.sh⟩
theorem Wd (hd:Bool):∀(n i:Nat) (l:List (aH×Bool)) (j:Nat),jO T hd n i=some (.ok (l,j))->i<j/\vw T i j (l.map (·.1))/\∀d∈l,d.1.kind=1:=by
 intro n
 induction n with
 | zero=>intro i l j h;cases h
 | succ n ih=>
  intro i l j h;rw[jO]at h;obtain⟨t,j1,h1,h⟩:=au h;have k1:=Dq h1;obtain⟨e1,rfl⟩:=wZ h1;split at h
  .obtain⟨l2,j2,h2,h⟩:=au h
   cases h;obtain⟨a,b,c⟩:=ih _ _ _ h2;refine⟨by omega,(vw.one i).app b (by omega) (by omega) (by omega),λd hd=>?_⟩;rcases aO.1 hd with rfl|hd
   .exact k1
   .exact c d hd
  .obtain⟨_,j2,h2,h⟩:=au h
   cases h;have e2:=eF h2;refine⟨by omega,(vw.one i).mono (af _) (by omega),λd hd=>?_⟩;simp at hd;subst hd;exact k1
theorem Vp (f:Nat):∀(n i:Nat) (l:List (aH×Bool)) (j:Nat),jY T f n i=some (.ok (l,j))->i<=j/\vw T i j (l.map (·.1))/\∀d∈l,d.1.kind=1:=by
 intro n
 induction n with
 | zero=>intro i l j h;cases h
 | succ n ih=>
  intro i l j h;rw[jY]at h;split at h
  .obtain⟨l1,j1,h1,h⟩:=au h;obtain⟨l2,j2,h2,h⟩:=au h
   cases h;obtain⟨a,b,c⟩:=Wd _ _ _ _ _ h1;obtain⟨d,e,f⟩:=ih _ _ _ h2;refine⟨by omega,?_,λx hx=>?_⟩
   .rw[jc];exact(b.mono (by omega) (af _)).app e (af _) (by omega) (by omega)
   rcases dW.1 hx with hx|hx
   .exact c x hx
   .exact f x hx
  .cases h;exact⟨by omega,vw.nil _ _,λd hd=>by cases hd⟩
theorem E9 (hX:∀n i e j,(yG n).1 T i=some (.ok (e,j))->X e) (hk:∀i s,bJ T i s=true->s=lD∨s=dY->(ah T i).kind=0) {s:Sx} (h:dV n T=some (.ok ((ds,s),j))):vw T 0 j (ds.map (·.1)++eU s)/\(∀d∈ds,d.1.kind=1)/\BO X s:=by
 unfold dV at h;obtain⟨l,j1,h1,h⟩:=au h;obtain⟨s',j2,h2,h⟩:=au h
 cases h;obtain⟨a,b,c⟩:=Vp _ _ _ _ _ h1;have g:=Qb6 (Qp4 hX hk n).1 _ _ _ _ h2;have l:=g.le;exact⟨b.app g.seg (af _) (by omega) (by omega),c,g.sh⟩
def BZ (l:List aH):Prop:=l.Pairwise (λa b=>a.place<b.place)
theorem vw.inc (h:vw T i j l) (hT:∀a b,a<b->b<j->(ah T a).place<(ah T b).place):BZ l:=by
 obtain⟨xs,rfl,p,b⟩:=h;unfold BZ;rw[List.pairwise_map];refine p.imp_of_mem ?_;intro x y hx hy hl;exact hT x y hl (b y hy).2
end
theorem CB {a:Nat} (h:BZ l) (hb:∀u∈l,u.place<(a:Int)) (ht:t.place=a):BZ (l++[t]):=by
 unfold BZ;refine List.pairwise_append.2 ⟨h,List.pairwise_singleton _ _,λx hx y hy=>?_⟩;simp only[rJ]at hy;rw[hy,ht];exact hb x hx
theorem Cc {a:Nat} (hb:∀u∈l,u.place<(a:Int)) (ht:t.place=a) (hn:0<n):∀u∈l++[t],u.place<((a+n:Nat):Int):=by
 intro u hu;rcases dW.1 hu with hu|hu
 .have:=hb u hu;omega
 .simp only[rJ]at hu;rw[hu,ht];omega
theorem YZ (s:ByteArray) (f:Nat):∀(a:Nat) (acc l:List aH) (p:Nat),BZ acc->(∀u∈acc,u.place<(a:Int))->oN s f a acc=(some l,p)->BZ l/\∀u∈l,u.place<(p:Int):=by
 induction f with
 | zero=>
  intro a acc l p h1 h2 h;simp only[oN,je,ko]at h;rw[<-h.1,<-h.2];exact⟨h1,h2⟩
 | succ f ih=>
  intro a acc l p h1 h2 h;rw[oN]at h;split at h
  .split at h
   .exact ih _ _ l p h1 (λu hu=>by have:=h2 u hu;omega) h
   split at h
   .rename_i hz;exact ih _ _ l p (CB h1 h2 rfl) (Cc h2 rfl hz) h
   split at h
   .rename_i hz;split at h
    .cases h
    .exact ih _ _ l p (CB h1 h2 rfl) (Cc h2 rfl hz) h
   split at h
   .rename_i hz;exact ih _ _ l p (CB h1 h2 rfl) (Cc h2 rfl hz) h
   .cases h
  .simp only[je,ko]at h;rw[<-h.1,<-h.2];exact⟨h1,h2⟩
theorem PU (h:oN s s.size 0 []=(some l,p)):∀a b,a<b->b<(l++[aI p]).length->(ah (l++[aI p]) a).place<(ah (l++[aI p]) b).place:=by
 obtain⟨h1,h2⟩:=YZ s s.size 0 [] l p List.Pairwise.nil (λu hu=>by cases hu) h;have hi:BZ (l++[aI p]):=CB h1 h2 rfl;intro a b hab hb;unfold ah;simp only[List.getD,aU hb,aU (show a<(l++[aI p]).length by omega),rQ];exact List.pairwise_iff_getElem.1 hi a b _ hb hab
theorem Qc1 (hS:dL S) (hT:bP T) (n:Nat):∀i s j,i<T.length->mH S T n i=some (.ok (s,j))->j<T.length:=by
 induction n with
 | zero=>intro i s j _ h;cases h
 | succ n ih=>
  intro i s j hi h;rw[mH]at h;split at h
  .cases h;exact hi
  .obtain⟨a,j1,h1,h⟩:=au h;obtain⟨r,j2,h2,h⟩:=au h
   cases h;have f:=hS T i hT hi;rw[h1]at f;exact ih _ _ _ f.2 h2
theorem Ay (hT:bP T) {s:Sx} (h:dV n T=some (.ok ((ds,s),j))):j<T.length:=by
 unfold dV at h;obtain⟨l,j1,h1,h⟩:=au h;obtain⟨s',j2,h2,h⟩:=au h
 cases h;have f:=xF hT n (n-1) 0 hT.1;rw[h1]at f;exact Qc1 (oV n).1 hT _ _ _ _ f.2 h2
structure uT (t:aH):Prop where
 kinds:t.kind=0∨t.kind=1∨t.kind=2∨t.kind=3∨t.kind=4
 key:t.kind=0->dI t.text qg=true
 name:t.kind=1->dI t.text qg=false
 peek:t.kind≠0->(t.text.toList==bf.toList)=false/\(t.text.toList==cz.toList)=false
theorem WH (s:ByteArray) (f:Nat):∀(a:Nat) (acc l:List aH) (p:Nat),(∀t∈acc,t.kind=2->∃b,t.text=gL s b)->oN s f a acc=(some l,p)->∀t∈l,t.kind=2->∃b,t.text=gL s b:=by
 induction f with
 | zero=>
  intro a acc l p h1 h;simp only[oN,je,ko]at h;rw[<-h.1];exact h1
 | succ f ih=>
  intro a acc l p h1 h;rw[oN]at h;have sn:∀t:aH,(t.kind=2->∃b,t.text=gL s b)->∀u∈acc++[t],u.kind=2->∃b,u.text=gL s b:=λt ht u hu=>by
   rcases dW.1 hu with hu|hu
   .exact h1 u hu
   .simp only[rJ]at hu;rw[hu];exact ht
  split at h
  .split at h
   .exact ih _ _ l p h1 h
   split at h
   .refine ih _ _ l p (sn _ (λh=>?_)) h;unfold ql at h;dsimp only at h;split at h<;>cases h
   split at h
   .split at h
    .cases h
    .exact ih _ _ l p (sn _ (λ_=>⟨a,rfl⟩)) h
   split at h
   .exact ih _ _ l p (sn _ (λh=>by cases h)) h
   .cases h
  .simp only[je,ko]at h;rw[<-h.1];exact h1
theorem RY (s:ByteArray) (b:Nat) (hu:∃x∈nums u,oQ x=false):((gL s b).toList==u.toList)=false:=by
 cases h:((gL s b).toList==u.toList)
 .rfl
 .exfalso;have e:(gL s b).toList=u.toList:=by simpa using h
  obtain⟨x,hx,hd⟩:=hu;have e2:nums (gL s b)=nums u:=by unfold nums;rw[<-aJ,<-aJ,e]
  have:=za s b x (by rw[e2];exact hx);rw[hd]at this
  cases this
theorem Ux:∀t∈aY,(t.toList==bf.toList)=false/\(t.toList==cz.toList)=false:=by
 simp only[aJ];decide
theorem YN {t:ByteArray} (h:dI t qg=false):(t.toList==bf.toList)=false/\(t.toList==cz.toList)=false:=by
 unfold dI at h;rw[jw]at h;constructor
 .have:=h bf (by simp[qg,bf])
  cases e:(t.toList==bf.toList)
  .rfl
  .exfalso;apply this;simp at e ⊢;exact e.symm
 .have:=h cz (by simp[qg,cz])
  cases e:(t.toList==cz.toList)
  .rfl
  .exfalso;apply this;simp at e ⊢;exact e.symm
theorem Xl (hs:s.size<=300) (h:oN s s.size 0 []=(some l,p)):∀i,uT (ah (l++[aI p]) i):=by
 have hW:=rF hs h;have hn:=WH s s.size 0 [] l p (λt ht=>by cases ht) h;intro i;refine⟨hW.kinds i,hW.key i,hW.name i,λhk=>?_⟩;rcases hW.kinds i with e|e|e|e|e
 .exact absurd e hk
 .exact YN (hW.name i e)
 .have hm:ah (l++[aI p]) i∈l:=by
   unfold ah at e ⊢;rcases nV i (l++[aI p]).length with hi|hi
   .rw[List.getD,aU hi,rQ]at e ⊢;rcases dW.1 (jW hi) with hm|hm
    .exact hm
    .simp only[rJ]at hm;rw[hm]at e
     cases e
   .rw[List.getD,ou hi,wm]at e
    cases e
  obtain⟨b,hb⟩:=hn _ hm e;rw[hb];exact⟨RY s b ⟨112,by decide,by decide⟩,RY s b ⟨115,by decide,by decide⟩⟩
 .exact Ux _ (hW.sign i e)
 .have ht:(ah (l++[aI p]) i).text=⟨#[]⟩:=by
   have hg:=Qe9 s s.size 0 [] l p (by intro t ht;cases ht) h;unfold ah at e ⊢;rcases nV i (l++[aI p]).length with hi|hi
   .rw[List.getD,aU hi,rQ]at e ⊢;rcases dW.1 (jW hi) with hm|hm
    .rcases hg _ hm with g|g|g|g
     .rw[g.1]at e;cases e
     .rw[g.1]at e;cases e
     .rw[g]at e;cases e
     .rw[g.1]at e;cases e
    .simp only[rJ]at hm;rw[hm];rfl
   .rw[List.getD,ou hi,wm]
  rw[ht];simp only[aJ];decide
theorem Qc9:uT bK:=by
 refine⟨.inr (.inr (.inr (.inr rfl))),λh=>?_,λh=>?_,λ_=>?_⟩
 .cases h
 .cases h
 .unfold bK;simp only[aJ];decide
end Go.Proofs.YthmmgiaobakilaaGreat
