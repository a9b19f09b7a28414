import Derived.Test.YthmmgiaobakilaaGreatJ16
import Derived.Test.YthmmgiaobakilaaGreatJ17
import Derived.Test.YthmmgiaobakilaaGreatJ35
set_option maxRecDepth 100000
set_option maxHeartbeats 8000000
set_option linter.all false
namespace Go.Proofs.YthmmgiaobakilaaGreat
open Go.RowKit Go.Deep
variable {F M X:PE} {b e:Ex} {ds:List (aH×Bool)} {i j q:Nat} {l r s src:ByteArray} {ops:List ByteArray}
section
variable {T:List aH}
def Vg (T:List aH) (P:PE):Prop:=∀i e j,P T i=some (.ok (e,j))->(∃b o t k,e=.node b o t k .nil)/\Gq e
theorem Ka (hT:eQ T) (hs:s∈aY) (h:bJ T i s=true):kP (ah T i)=4:=by
 have ht:(ah T i).text=s:=gV (wQ h);rcases hT.kinds i with e|e|e|e|e
 .exfalso;have a:=hT.key i e;rw[ht,kR s hs]at a
  cases a
 .exfalso;unfold bJ at h;rw[e]at h;simp at h
 .exfalso;unfold bJ at h;rw[e]at h;simp at h
 .unfold kP;rw[e];rfl
 .exfalso;unfold bJ at h;rw[e]at h;simp at h
theorem JU (hT:eQ T) (hs:dI s qg=true) (h:bJ T i s=true):kP (ah T i)=2/\wP (ah T i)=s:=by
 have ht:(ah T i).text=s:=gV (wQ h);rcases hT.kinds i with e|e|e|e|e
 .have:wP (ah T i)=(ah T i).text:=by unfold wP;rw[e];rfl
  exact⟨by unfold kP;rw[e];rfl,this.trans ht⟩
 .exfalso;unfold bJ at h;rw[e]at h;simp at h
 .exfalso;unfold bJ at h;rw[e]at h;simp at h
 .exfalso;have a:=kR _ (hT.sign i e);rw[ht,hs]at a
  cases a
 .exfalso;unfold bJ at h;rw[e]at h;simp at h
theorem oL {a r:Ex} (ha:(∃b o t k,a=.node b o t k .nil)/\Gq a) (hr:Gq r):Gq (bD a r)/\lenE (bD a r)=lenE r+1:=by
 obtain⟨⟨b,o,t,k,rfl⟩,h⟩:=ha;exact⟨⟨h.1,h.2.1,hr⟩,rfl⟩
theorem WM (hT:eQ T) (hB:∀i,kD (ah T i)) {a:Ex} (hs:s∈aY) (h:bJ T q s=true) (ha:(∃b o t k,a=.node b o t k .nil)/\Gq a) (hb:(∃b' o t k,b=.node b' o t k .nil)/\Gq b):(∃b' o t k,uf (ah T q) a b=.node b' o t k .nil)/\Gq (uf (ah T q) a b):=by
 have k:=Ka hT hs h;obtain⟨r1,r2⟩:=oL hb (r:=.nil) trivial;obtain⟨r3,r4⟩:=oL ha r1;refine⟨⟨_,_,_,_,rfl⟩,⟨λ_=>.inr (by rw[r4,r2];rfl),λ_ h4=>absurd k h4,hB q⟩,r3,trivial⟩
theorem RI (hT:eQ T) (hB:∀i,kD (ah T i)) (hs:dI s qg=true) (h:bJ T i s=true) {k:Ex} (hk:Gq k) (hn:Sc s (lenE k)):Gq (.node 0 0 (ah T i) k .nil):=by
 obtain⟨k1,k2⟩:=JU hT hs h;exact⟨⟨(λe=>by rw[k1]at e;cases e),λ_ _=>by rw[k2];exact hn,hB i⟩,hk,trivial⟩
theorem Y3 (hT:eQ T) (hB:∀i,kD (ah T i)) (hM:Vg T M) (ho:∀s∈ops,s∈aY):∀(n:Nat) (e:Ex) (i:Nat) (r:Ex) (j:Nat),(∃b o t k,e=.node b o t k .nil)/\Gq e->iB M ops T n e i=some (.ok (r,j))->(∃b o t k,r=.node b o t k .nil)/\Gq r:=by
 intro n
 induction n with
 | zero=>intro e i r j _ h;cases h
 | succ n ih=>
  intro e i r j he h;rw[iB]at h;split at h
  .rename_i ha;obtain⟨s,hs,hi⟩:=dD.1 ha;obtain⟨x,k,h1,h2⟩:=au h;exact ih _ k r j (WM hT hB (ho s hs) hi he (hM _ _ _ h1)) h2
  .cases h;exact he
theorem Oe (hT:eQ T) (hB:∀i,kD (ah T i)) (hM:Vg T M) (ho:∀s∈ops,s∈aY) (n:Nat):Vg T (jk M ops n):=by
 intro i e j h;unfold jk at h;split at h
 .cases h
 .obtain⟨x,k,h1,h2⟩:=au h;exact Y3 hT hB hM ho n x k e j (hM _ _ _ h1) h2
theorem Kn:∀s∈lT,s∈aY:=by intro s hs;simp[lT]at hs;rcases hs with rfl|rfl<;>simp[aY]
theorem Ki:∀s∈lQ,s∈aY:=by intro s hs;simp[lQ]at hs;rcases hs with rfl|rfl<;>simp[aY]
theorem Ky:∀s∈sD,s∈aY:=by intro s hs;simp[sD]at hs;rcases hs with rfl|rfl|rfl|rfl<;>simp[aY]
theorem Qb9 (hT:eQ T) (hB:∀i,kD (ah T i)) (hM:Vg T M):Vg T (vV M):=by
 intro i e j h;obtain⟨x,k,h1,h2⟩:=au h;unfold wV at h2;split at h2
 .rename_i ha;obtain⟨s,hs,hi⟩:=dD.1 ha;obtain⟨y,l,h3,h4⟩:=au h2
  cases h4;exact WM hT hB (Ky s hs) hi (hM _ _ _ h1) (hM _ _ _ h3)
 .cases h2;exact hM _ _ _ h1
theorem TM (h:s≠jo):Sc s 2:=⟨λe=>absurd e h,λ_=>rfl⟩
theorem FJ (hT:eQ T) (hB:∀i,kD (ah T i)) (hX:Vg T X) (hs:dI s qg=true) (hne:s≠jo) (hi:bJ T i s=true) (h:oU X l r T i=some (.ok (e,j))):(∃b o t k,e=.node b o t k .nil)/\Gq e:=by
 unfold oU at h;obtain⟨_,j1,h1,h⟩:=au h;obtain⟨a,j2,h2,h⟩:=au h;obtain⟨_,j3,h3,h⟩:=au h;obtain⟨b,j4,h4,h⟩:=au h;obtain⟨_,j5,h5,h⟩:=au h
 cases h;obtain⟨r1,r2⟩:=oL (hX _ _ _ h4) (r:=.nil) trivial;obtain⟨r3,r4⟩:=oL (hX _ _ _ h2) r1;exact⟨⟨_,_,_,_,rfl⟩,RI hT hB hs hi r3 (by rw[r4,r2];exact TM hne)⟩
theorem Uj (hT:eQ T) (hB:∀i,kD (ah T i)) (hX:Vg T X) (hi:bJ T i jo=true) (h:jN X l r T i=some (.ok (e,j))):(∃b o t k,e=.node b o t k .nil)/\Gq e:=by
 unfold jN at h;obtain⟨_,j1,h1,h⟩:=au h;obtain⟨a,j2,h2,h⟩:=au h;obtain⟨_,j3,h3,h⟩:=au h;obtain⟨b,j4,h4,h⟩:=au h;obtain⟨_,j5,h5,h⟩:=au h;obtain⟨c,j6,h6,h⟩:=au h;obtain⟨_,j7,h7,h⟩:=au h
 cases h;obtain⟨r1,r2⟩:=oL (hX _ _ _ h6) (r:=.nil) trivial;obtain⟨r3,r4⟩:=oL (hX _ _ _ h4) r1;obtain⟨r5,r6⟩:=oL (hX _ _ _ h2) r3;refine⟨⟨_,_,_,_,rfl⟩,RI hT hB (by unfold dI qg jo;simp) hi r5 ⟨λ_=>by rw[r6,r4,r2];rfl,λe=>?_⟩⟩;exfalso;unfold jo kU kI bf cz at e;simp at e
theorem TC (hT:eQ T) (hB:∀i,kD (ah T i)) (hX:Vg T X) (hF:Vg T F):Vg T (iD X F):=by
 intro i e j h;unfold iD at h;split at h
 .rename_i hs
  cases h;have hk:kP (ah T i)=3:=by have e:(ah T i).kind=2:=(by simpa using hs);unfold kP;rw[e];rfl
  exact⟨⟨_,_,_,_,rfl⟩,⟨(λe=>by rw[hk]at e;cases e),λh3 _=>absurd hk h3,hB i⟩,trivial,trivial⟩
 split at h
 .rename_i hs
  cases h;have e1:(ah T i).kind=1:=by simpa using hs
  have hk:kP (ah T i)=2:=by unfold kP;rw[e1];rfl
  have hw:wP (ah T i)=(ah T i).text:=by unfold wP;rw[e1];rfl
  have hn:=hT.name i e1;have no:∀s,dI s qg=true->wP (ah T i)≠s:=λs hs e=>by rw[hw]at e;rw[e,hs]at hn;cases hn
  refine⟨⟨_,_,_,_,rfl⟩,⟨(λe=>by rw[hk]at e;cases e),λ_ _=>⟨λe=>absurd e (no _ (by unfold dI qg jo;simp)),λe=>?_⟩,hB i⟩,trivial,trivial⟩;exfalso;rcases e with e|e|e|e
  .exact no _ (by unfold dI qg kU;simp) e
  .exact no _ (by unfold dI qg kI;simp) e
  .exact no _ (by unfold dI qg bf;simp) e
  .exact no _ (by unfold dI qg cz;simp) e
 split at h
 .obtain⟨a,j2,h2,h⟩:=au h;obtain⟨_,j3,h3,h⟩:=au h
  cases h;exact hX _ _ _ h2
 split at h
 .rename_i hs;obtain⟨a,j2,h2,h⟩:=au h
  cases h;obtain⟨r1,r2⟩:=oL (hF _ _ _ h2) (r:=.nil) trivial;have k:=Ka hT (by unfold Ag aY;simp) hs;exact⟨⟨_,_,_,_,rfl⟩,⟨λ_=>.inl (by rw[r2];rfl),λ_ h4=>absurd k h4,hB i⟩,r1,trivial⟩
 split at h
 .rename_i hs;exact FJ hT hB hX (by unfold dI qg bf;simp) (by unfold bf jo;simp) hs h
 split at h
 .rename_i hs;exact FJ hT hB hX (by unfold dI qg cz;simp) (by unfold cz jo;simp) hs h
 split at h
 .rename_i hs;exact FJ hT hB hX (by unfold dI qg kU;simp) (by unfold kU jo;simp) hs h
 split at h
 .rename_i hs;exact FJ hT hB hX (by unfold dI qg kI;simp) (by unfold kI jo;simp) hs h
 split at h
 .rename_i hs;exact Uj hT hB hX hs h
 .cases h
theorem Qn4 (hT:eQ T) (hB:∀i,kD (ah T i)) (n:Nat):Vg T (yG n).1/\Vg T (yG n).2:=by
 induction n with
 | zero=>exact⟨λ_ _ _ h=>by(cases h),λ_ _ _ h=>by(cases h)⟩
 | succ n ih=>
  rw[yG];split
  .exact⟨λ_ _ _ h=>by(cases h),λ_ _ _ h=>by(cases h)⟩
  have f:=TC hT hB ih.1 ih.2;exact⟨Qb9 hT hB (Oe hT hB (Oe hT hB f Kn _) Ki _),f⟩
end
def GV (e:Ex):Prop:=(∃b o t k,e=.node b o t k .nil)/\Gq e
theorem Qm5 (n:Nat):∀(s:Sx),dS s<=n->uR kD s->BO GV s->Ls s->Ul s:=by
 induction n with
 | zero=>
  intro s hs _ _ _
  cases s with
  | nil=>trivial
  | node b o p k r=>simp[dS]at hs
 | succ n ih=>
  intro s hs ha hsh hn
  cases s with
  | nil=>trivial
  | node b o p k r=>
   simp only[dS]at hs;obtain⟨a1,a2,a3,a4,a5,a6⟩:=ha;unfold BO at hsh;unfold Ls at hn;obtain⟨shr,hsh⟩:=hsh;obtain⟨nr,n1,n2⟩:=hn;have wr:=ih r (by omega) a6 shr nr;have nil:Ul (.nil:Sx):=trivial;rcases hsh with⟨t0,_,te,rfl⟩|⟨t1,te,hk⟩|⟨t2,_,_,_,pe,hk⟩|⟨t3,_,_,te,rfl⟩|⟨t4,_,_,te,rfl⟩
   .exact⟨⟨te.2,a1,a2,a3,λe=>by omega⟩,nil,wr⟩
   .cases k with
    | nil=>cases hk
    | node b1 o1 q s u=>
     simp only[dS]at hs;obtain⟨q5,qe,hs1,hs2⟩:=hk;obtain⟨m1,m2,m3,m4,m5,m6⟩:=a5;obtain⟨x1,x2⟩:=n1 t1;exact⟨⟨te.2,a1,a2,a3,λe=>by omega⟩,⟨⟨by rw[qe];trivial,m1,m2,m3,λe=>by omega⟩,ih s (by omega) m5 hs1 x1,ih u (by omega) m6 hs2 x2⟩,wr⟩
   .obtain⟨x1,x2⟩:=n2 t2;exact⟨⟨by rw[pe];trivial,a1,a2,a3,λ_=>x1⟩,ih k (by omega) a5 hk x2,wr⟩
   .exact⟨⟨te.2,a1,a2,a3,λe=>by omega⟩,nil,wr⟩
   .exact⟨⟨te.2,a1,a2,a3,λe=>by omega⟩,nil,wr⟩
theorem XL {m:Nat} : ∀(s:Sx),Dx m s->zK s<=dS s*(m+22)
 | .nil,_=>by simp[zK,dS]
 | .node _ _ p k r,⟨a,b,c⟩=>by
  have h1:=XL k b;have h2:=XL r c;have e:(dS k+dS r+1)*(m+22)=dS k*(m+22)+dS r*(m+22)+(m+22):=by rw[Nat.add_mul,Nat.add_mul,Nat.one_mul]
  simp only[zK,dS];rw[e];omega
theorem Zu {t:Sx} (h:yL src ds t):Ul t/\dS t<100000/\zK t<=100000:=by
 obtain⟨hs,l,p,j,hl,hr,h0⟩:=h;have hW:=rF hs hl;have hB:=Ot hs hl;obtain⟨t1,t2,t3⟩:=wM hs hl;have hj:=Ay t1 hr;have hlen:(l++[aI p]).length<=301:=by
  have:=FZ src src.size 0 [] l p (by simp) (by omega) hl;simp;omega
 obtain⟨g1,g2,g3,g4⟩:=AX (p:=kD) hB QQ hr;obtain⟨_,_,hsh⟩:=E9 (X:=GV) (λn i e j h=>(Qn4 hW hB n).1 i e j h) (λi u h hu=>by
  rcases hW.kinds i with e|e|e|e|e
  .exact e
  .exfalso;unfold bJ at h;rw[e]at h;simp at h
  .exfalso;unfold bJ at h;rw[e]at h;simp at h
  .exfalso;have hm:=hW.sign i e;have ht:(ah (l++[aI p]) i).text=u:=gV (wQ h);have hn:=kR _ hm;rw[ht]at hn;rcases hu with rfl|rfl
   .exact absurd hn (by unfold dI qg lD;simp)
   .exact absurd hn (by unfold dI qg dY;simp)
  .exfalso;unfold bJ at h;rw[e]at h;simp at h) hr
 have hn0:(lN ds t).1=0:=by
  unfold sG at h0;split at h0
  .rename_i hne;exfalso;apply hne;rw[h0]
  .rename_i hne;exact Classical.not_not.1 hne
 have hN:Ls t:=Qa9 _ t (af _) _ hn0;refine⟨Qm5 _ t (af _) g3 hsh hN,by omega,?_⟩;have a:=XL t g4;have b:dS t*(j+22)<=301*(301+22):=Nat.mul_le_mul (by omega) (by omega);omega
theorem QP (h:(iX src).1=0):∃ds t,yL src ds t/\iX src=(0,0):=by
 unfold iX at h ⊢;by_cases hs:300<src.size
 .rw[ag hs]at h;cases h
 rw[ae hs]at h ⊢;obtain⟨o,p,hl⟩:∃o p,oN src src.size 0 []=(o,p):=⟨_,_,rfl⟩;rw[hl]at h ⊢
 cases o with
 | none=>cases h
 | some l=>
  have h':(xJ (l++[aI p])).1=0:=h;show ∃ds t,yL src ds t/\xJ (l++[aI p])=(0,0);obtain⟨t1,t2,t3⟩:=wM (by omega) hl;obtain⟨r,hr⟩:=BR t1 (n:=1000) (by omega);unfold xJ at h' ⊢;rw[hr]at h' ⊢
  cases r with
  | error k=>cases h'
  | ok x=>
   obtain⟨⟨ds,t⟩,j⟩:=x;have h2:(sG ds t).1=0:=h';have h3:sG ds t=(0,0):=by
    unfold sG at h2 ⊢;split at h2
    .rename_i hn;exact absurd h2 hn
    .split at h2
     .rename_i hn;exact absurd h2 hn
     .rename_i a b;rw[ae a,ae b]
   exact⟨ds,t,⟨by omega,l,p,j,hl,hr,h3⟩,h3⟩
def Ef:List ByteArray:=lT++(lQ++sD)
def Qg0 (t:aH) (k:Ex):Prop:=
 (t.kind=2/\k=.nil/\0<=t.num/\t.num<=65536)∨(t.kind=1/\k=.nil/\dI t.text qg=false)∨(t.kind=3/\t.text=Ag/\lenE k=1)∨(t.kind=3/\t.text∈Ef/\lenE k=2) ∨
 (t.kind=0/\(t.text=bf∨t.text=cz∨t.text=kU∨t.text=kI)/\lenE k=2)∨(t.kind=0/\t.text=jo/\lenE k=3)
def Qo:Ex->Prop
 | .nil=>True
 | .node _ _ t k r=>Qg0 t k/\Qo k/\Qo r
def OA (T:List aH) (P:PE):Prop:=∀i e j,P T i=some (.ok (e,j))->(∃b o t k,e=.node b o t k .nil)/\Qo e
section
variable {T:List aH}
theorem Qn5 (hT:eQ T) (hs:s∈aY) (h:bJ T i s=true):(ah T i).kind=3/\(ah T i).text=s:=by
 have ht:(ah T i).text=s:=gV (wQ h);refine⟨?_,ht⟩;rcases hT.kinds i with e|e|e|e|e
 .exfalso;have a:=hT.key i e;rw[ht,kR s hs]at a
  cases a
 .exfalso;unfold bJ at h;rw[e]at h;simp at h
 .exfalso;unfold bJ at h;rw[e]at h;simp at h
 .exact e
 .exfalso;unfold bJ at h;rw[e]at h;simp at h
theorem ZJ (hT:eQ T) (hs:dI s qg=true) (h:bJ T i s=true):(ah T i).kind=0/\(ah T i).text=s:=by
 have ht:(ah T i).text=s:=gV (wQ h);refine⟨?_,ht⟩;rcases hT.kinds i with e|e|e|e|e
 .exact e
 .exfalso;unfold bJ at h;rw[e]at h;simp at h
 .exfalso;unfold bJ at h;rw[e]at h;simp at h
 .exfalso;have a:=kR _ (hT.sign i e);rw[ht,hs]at a
  cases a
 .exfalso;unfold bJ at h;rw[e]at h;simp at h
theorem qO {a r:Ex} (ha:(∃b o t k,a=.node b o t k .nil)/\Qo a) (hr:Qo r):Qo (bD a r)/\lenE (bD a r)=lenE r+1:=by
 obtain⟨⟨b,o,t,k,rfl⟩,h⟩:=ha;exact⟨⟨h.1,h.2.1,hr⟩,rfl⟩
theorem VT (hT:eQ T) {a:Ex} (hs:s∈aY) (h8:s∈Ef) (h:bJ T q s=true) (ha:(∃b o t k,a=.node b o t k .nil)/\Qo a) (hb:(∃b' o t k,b=.node b' o t k .nil)/\Qo b):(∃b' o t k,uf (ah T q) a b=.node b' o t k .nil)/\Qo (uf (ah T q) a b):=by
 obtain⟨k1,k2⟩:=Qn5 hT hs h;obtain⟨r1,r2⟩:=qO hb (r:=.nil) trivial;obtain⟨r3,r4⟩:=qO ha r1;exact⟨⟨_,_,_,_,rfl⟩,.inr (.inr (.inr (.inl ⟨k1,by rw[k2];exact h8,by rw[r4,r2];rfl⟩))),r3,trivial⟩
theorem XZ (hT:eQ T) (hM:OA T M) (ho:∀s∈ops,s∈aY/\s∈Ef):∀(n:Nat) (e:Ex) (i:Nat) (r:Ex) (j:Nat),(∃b o t k,e=.node b o t k .nil)/\Qo e->iB M ops T n e i=some (.ok (r,j))->(∃b o t k,r=.node b o t k .nil)/\Qo r:=by
 intro n
 induction n with
 | zero=>intro e i r j _ h;cases h
 | succ n ih=>
  intro e i r j he h;rw[iB]at h;split at h
  .rename_i ha;obtain⟨s,hs,hi⟩:=dD.1 ha;obtain⟨x,k,h1,h2⟩:=au h;exact ih _ k r j (VT hT (ho s hs).1 (ho s hs).2 hi he (hM _ _ _ h1)) h2
  .cases h;exact he
theorem O8 (hT:eQ T) (hM:OA T M) (ho:∀s∈ops,s∈aY/\s∈Ef) (n:Nat):OA T (jk M ops n):=by
 intro i e j h;unfold jk at h;split at h
 .cases h
 .obtain⟨x,k,h1,h2⟩:=au h;exact XZ hT hM ho n x k e j (hM _ _ _ h1) h2
theorem Qm4:∀s∈lT,s∈aY/\s∈Ef:=λs hs=>⟨Kn s hs,List.mem_append_left _ hs⟩
theorem Ql9:∀s∈lQ,s∈aY/\s∈Ef:=λs hs=>⟨Ki s hs,List.mem_append_right _ (List.mem_append_left _ hs)⟩
theorem WC:∀s∈sD,s∈aY/\s∈Ef:=λs hs=>⟨Ky s hs,List.mem_append_right _ (List.mem_append_right _ hs)⟩
theorem Qb7 (hT:eQ T) (hM:OA T M):OA T (vV M):=by
 intro i e j h;obtain⟨x,k,h1,h2⟩:=au h;unfold wV at h2;split at h2
 .rename_i ha;obtain⟨s,hs,hi⟩:=dD.1 ha;obtain⟨y,l,h3,h4⟩:=au h2
  cases h4;exact VT hT (WC s hs).1 (WC s hs).2 hi (hM _ _ _ h1) (hM _ _ _ h3)
 .cases h2;exact hM _ _ _ h1
theorem Fw (hT:eQ T) (hX:OA T X) (hs:dI s qg=true) (h4:s=bf∨s=cz∨s=kU∨s=kI) (hi:bJ T i s=true) (h:oU X l r T i=some (.ok (e,j))):(∃b o t k,e=.node b o t k .nil)/\Qo e:=by
 unfold oU at h;obtain⟨_,j1,h1,h⟩:=au h;obtain⟨a,j2,h2,h⟩:=au h;obtain⟨_,j3,h3,h⟩:=au h;obtain⟨b,j4,h5,h⟩:=au h;obtain⟨_,j5,h6,h⟩:=au h
 cases h;obtain⟨k1,k2⟩:=ZJ hT hs hi;obtain⟨r1,r2⟩:=qO (hX _ _ _ h5) (r:=.nil) trivial;obtain⟨r3,r4⟩:=qO (hX _ _ _ h2) r1;exact⟨⟨_,_,_,_,rfl⟩,.inr (.inr (.inr (.inr (.inl ⟨k1,by rw[k2];exact h4,by rw[r4,r2];rfl⟩)))),r3,trivial⟩
theorem TG (hT:eQ T) (hX:OA T X) (hi:bJ T i jo=true) (h:jN X l r T i=some (.ok (e,j))):(∃b o t k,e=.node b o t k .nil)/\Qo e:=by
 unfold jN at h;obtain⟨_,j1,h1,h⟩:=au h;obtain⟨a,j2,h2,h⟩:=au h;obtain⟨_,j3,h3,h⟩:=au h;obtain⟨b,j4,h4,h⟩:=au h;obtain⟨_,j5,h5,h⟩:=au h;obtain⟨c,j6,h6,h⟩:=au h;obtain⟨_,j7,h7,h⟩:=au h
 cases h;obtain⟨k1,k2⟩:=ZJ hT (by unfold dI qg jo;simp) hi;obtain⟨r1,r2⟩:=qO (hX _ _ _ h6) (r:=.nil) trivial;obtain⟨r3,r4⟩:=qO (hX _ _ _ h4) r1;obtain⟨r5,r6⟩:=qO (hX _ _ _ h2) r3;exact⟨⟨_,_,_,_,rfl⟩,.inr (.inr (.inr (.inr (.inr ⟨k1,k2,by rw[r6,r4,r2];rfl⟩)))),r5,trivial⟩
theorem Va (hT:eQ T) (hX:OA T X) (hF:OA T F):OA T (iD X F):=by
 intro i e j h;unfold iD at h;split at h
 .rename_i hs
  cases h;exact⟨⟨_,_,_,_,rfl⟩,.inl ⟨by simpa using hs,rfl,hT.nums i⟩,trivial,trivial⟩
 split at h
 .rename_i hs
  cases h;have e1:(ah T i).kind=1:=by simpa using hs
  exact⟨⟨_,_,_,_,rfl⟩,.inr (.inl ⟨e1,rfl,hT.name i e1⟩),trivial,trivial⟩
 split at h
 .obtain⟨a,j2,h2,h⟩:=au h;obtain⟨_,j3,h3,h⟩:=au h
  cases h;exact hX _ _ _ h2
 split at h
 .rename_i hs;obtain⟨a,j2,h2,h⟩:=au h
  cases h;obtain⟨k1,k2⟩:=Qn5 hT (by simp[aY,Ag]) hs;obtain⟨r1,r2⟩:=qO (hF _ _ _ h2) (r:=.nil) trivial;exact⟨⟨_,_,_,_,rfl⟩,.inr (.inr (.inl ⟨k1,k2,by rw[r2];rfl⟩)),r1,trivial⟩
 split at h
 .rename_i hs;exact Fw hT hX (by unfold dI qg bf;simp) (.inl rfl) hs h
 split at h
 .rename_i hs;exact Fw hT hX (by unfold dI qg cz;simp) (.inr (.inl rfl)) hs h
 split at h
 .rename_i hs;exact Fw hT hX (by unfold dI qg kU;simp) (.inr (.inr (.inl rfl))) hs h
 split at h
 .rename_i hs;exact Fw hT hX (by unfold dI qg kI;simp) (.inr (.inr (.inr rfl))) hs h
 split at h
 .rename_i hs;exact TG hT hX hs h
 .cases h
theorem Qj8 (hT:eQ T) (n:Nat):OA T (yG n).1/\OA T (yG n).2:=by
 induction n with
 | zero=>exact⟨λi e j h=>by(cases h),λi e j h=>by(cases h)⟩
 | succ n ih=>
  rw[yG];split
  .exact⟨λi e j h=>by(cases h),λi e j h=>by(cases h)⟩
  have f:=Va hT ih.1 ih.2;exact⟨Qb7 hT (O8 hT (O8 hT f Qm4 _) Ql9 _),f⟩
end
end Go.Proofs.YthmmgiaobakilaaGreat
