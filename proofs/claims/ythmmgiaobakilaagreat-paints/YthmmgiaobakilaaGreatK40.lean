import Derived.Test.YthmmgiaobakilaaGreatK17
import Derived.Test.YthmmgiaobakilaaGreatK38
import Derived.Test.YthmmgiaobakilaaGreatK39
set_option maxRecDepth 100000
namespace Go.Proofs.YthmmgiaobakilaaGreat
open Go.RowKit Go.Deep
section
variable {T:List Tok}
def WvP (T:List Tok) (P:PE):Prop:=∀i e j,P T i=some (.ok (e,j))→(∃b o t k,e = .node b o t k .nil)∧WfV e
theorem sign_kind (hT:TokW T) {i:Nat} {s:ByteArray} (hs:s∈signs) (h:isT T i s=true):kP (tkAt T i)=4:=by
 have ht:(tkAt T i).text=s:=bytes_eq (isT_key h)
 rcases hT.kinds i with e | e | e | e | e
 ·exfalso
  have a:=hT.key i e
  rw [ht,sign_not_key s hs] at a
  cases a
 ·exfalso;unfold isT at h;rw [e] at h;simp at h
 ·exfalso;unfold isT at h;rw [e] at h;simp at h
 ·unfold kP;rw [e];rfl
 ·exfalso;unfold isT at h;rw [e] at h;simp at h
theorem word_kind (hT:TokW T) {i:Nat} {s:ByteArray} (hs:memB s kws=true) (h:isT T i s=true):kP (tkAt T i)=2∧wP (tkAt T i)=s:=by
 have ht:(tkAt T i).text=s:=bytes_eq (isT_key h)
 rcases hT.kinds i with e | e | e | e | e
 ·have:wP (tkAt T i)=(tkAt T i).text:=by unfold wP;rw [e];rfl
  exact ⟨by unfold kP;rw [e];rfl,this.trans ht⟩
 ·exfalso;unfold isT at h;rw [e] at h;simp at h
 ·exfalso;unfold isT at h;rw [e] at h;simp at h
 ·exfalso
  have a:=sign_not_key _ (hT.sign i e)
  rw [ht,hs] at a
  cases a
 ·exfalso;unfold isT at h;rw [e] at h;simp at h
theorem wfv_beside {a r:Ex} (ha:(∃b o t k,a = .node b o t k .nil)∧WfV a) (hr:WfV r):WfV (besideE a r)∧lenE (besideE a r)=lenE r+1:=by
 obtain ⟨⟨b,o,t,k,rfl⟩,h⟩:=ha
 exact ⟨⟨h.1,h.2.1,hr⟩,rfl⟩
theorem wv_two (hT:TokW T) (hB:∀i,TokB (tkAt T i)) {a b:Ex} {q:Nat} {s:ByteArray} (hs:s∈signs) (h:isT T q s=true) (ha:(∃b o t k,a = .node b o t k .nil)∧WfV a) (hb:(∃b' o t k,b = .node b' o t k .nil)∧WfV b):(∃b' o t k,node2 (tkAt T q) a b = .node b' o t k .nil)∧WfV (node2 (tkAt T q) a b):=by
 have k:=sign_kind hT hs h
 obtain ⟨r1,r2⟩:=wfv_beside hb (r:=.nil) trivial
 obtain ⟨r3,r4⟩:=wfv_beside ha r1
 refine ⟨⟨_,_,_,_,rfl⟩,⟨fun _=>.inr (by rw [r4,r2];rfl),fun _ h4=>absurd k h4,hB q⟩,r3,trivial⟩
theorem wv_call (hT:TokW T) (hB:∀i,TokB (tkAt T i)) {i:Nat} {s:ByteArray} (hs:memB s kws=true) (h:isT T i s=true) {k:Ex} (hk:WfV k) (hn:wordN s (lenE k)):WfV (.node 0 0 (tkAt T i) k .nil):=by
 obtain ⟨k1,k2⟩:=word_kind hT hs h
 exact ⟨⟨(fun e=>by rw [k1] at e;cases e),fun _ _=>by rw [k2];exact hn,hB i⟩,hk,trivial⟩
theorem wv_chain (hT:TokW T) (hB:∀i,TokB (tkAt T i)) {M:PE} (hM:WvP T M) {ops:List ByteArray} (ho:∀s∈ops,s∈signs):∀(n:Nat) (e:Ex) (i:Nat) (r:Ex) (j:Nat),(∃b o t k,e = .node b o t k .nil)∧WfV e→pChain M ops T n e i=some (.ok (r,j))→(∃b o t k,r = .node b o t k .nil)∧WfV r:=by
 intro n
 induction n with
 | zero=>intro e i r j _ h;cases h
 | succ n ih=>
  intro e i r j he h
  rw [pChain] at h
  split at h
  ·rename_i ha
   obtain ⟨s,hs,hi⟩:=List.any_eq_true.1 ha
   obtain ⟨x,k,h1,h2⟩:=then_ok h
   exact ih _ k r j (wv_two hT hB (ho s hs) hi he (hM _ _ _ h1)) h2
  ·cases h;exact he
theorem wv_level (hT:TokW T) (hB:∀i,TokB (tkAt T i)) {M:PE} (hM:WvP T M) {ops:List ByteArray} (ho:∀s∈ops,s∈signs) (n:Nat):WvP T (pLevel M ops n):=by
 intro i e j h
 unfold pLevel at h
 split at h
 ·cases h
 ·obtain ⟨x,k,h1,h2⟩:=then_ok h
  exact wv_chain hT hB hM ho n x k e j (hM _ _ _ h1) h2
theorem opsT_sign:∀s∈opsT,s∈signs:=by intro s hs;simp [opsT] at hs;rcases hs with rfl | rfl <;> simp [signs]
theorem opsS_sign:∀s∈opsS,s∈signs:=by intro s hs;simp [opsS] at hs;rcases hs with rfl | rfl <;> simp [signs]
theorem opsE_sign:∀s∈opsE,s∈signs:=by intro s hs;simp [opsE] at hs;rcases hs with rfl | rfl | rfl | rfl <;> simp [signs]
theorem wv_expr (hT:TokW T) (hB:∀i,TokB (tkAt T i)) {M:PE} (hM:WvP T M):WvP T (pExpr M):=by
 intro i e j h
 obtain ⟨x,k,h1,h2⟩:=then_ok h
 unfold pPair at h2
 split at h2
 ·rename_i ha
  obtain ⟨s,hs,hi⟩:=List.any_eq_true.1 ha
  obtain ⟨y,l,h3,h4⟩:=then_ok h2
  cases h4
  exact wv_two hT hB (opsE_sign s hs) hi (hM _ _ _ h1) (hM _ _ _ h3)
 ·cases h2
  exact hM _ _ _ h1
theorem wordN_two {s:ByteArray} (h:s≠sSEL):wordN s 2:=⟨fun e=>absurd e h,fun _=>rfl⟩
theorem wv_pTwo (hT:TokW T) (hB:∀i,TokB (tkAt T i)) {X:PE} (hX:WvP T X) {l r s:ByteArray} (hs:memB s kws=true) (hne:s≠sSEL) {i:Nat} (hi:isT T i s=true) {e:Ex} {j:Nat} (h:pTwo X l r T i=some (.ok (e,j))):(∃b o t k,e = .node b o t k .nil)∧WfV e:=by
 unfold pTwo at h
 obtain ⟨_,j1,h1,h⟩:=then_ok h
 obtain ⟨a,j2,h2,h⟩:=then_ok h
 obtain ⟨_,j3,h3,h⟩:=then_ok h
 obtain ⟨b,j4,h4,h⟩:=then_ok h
 obtain ⟨_,j5,h5,h⟩:=then_ok h
 cases h
 obtain ⟨r1,r2⟩:=wfv_beside (hX _ _ _ h4) (r:=.nil) trivial
 obtain ⟨r3,r4⟩:=wfv_beside (hX _ _ _ h2) r1
 exact ⟨⟨_,_,_,_,rfl⟩,wv_call hT hB hs hi r3 (by rw [r4,r2];exact wordN_two hne)⟩
theorem wv_pThree (hT:TokW T) (hB:∀i,TokB (tkAt T i)) {X:PE} (hX:WvP T X) {l r:ByteArray} {i:Nat} (hi:isT T i sSEL=true) {e:Ex} {j:Nat} (h:pThree X l r T i=some (.ok (e,j))):(∃b o t k,e = .node b o t k .nil)∧WfV e:=by
 unfold pThree at h
 obtain ⟨_,j1,h1,h⟩:=then_ok h
 obtain ⟨a,j2,h2,h⟩:=then_ok h
 obtain ⟨_,j3,h3,h⟩:=then_ok h
 obtain ⟨b,j4,h4,h⟩:=then_ok h
 obtain ⟨_,j5,h5,h⟩:=then_ok h
 obtain ⟨c,j6,h6,h⟩:=then_ok h
 obtain ⟨_,j7,h7,h⟩:=then_ok h
 cases h
 obtain ⟨r1,r2⟩:=wfv_beside (hX _ _ _ h6) (r:=.nil) trivial
 obtain ⟨r3,r4⟩:=wfv_beside (hX _ _ _ h4) r1
 obtain ⟨r5,r6⟩:=wfv_beside (hX _ _ _ h2) r3
 refine ⟨⟨_,_,_,_,rfl⟩,wv_call hT hB (by unfold memB kws sSEL;simp) hi r5 ⟨fun _=>by rw [r6,r4,r2];rfl,fun e=>?_⟩⟩
 exfalso
 unfold sSEL sMIN sMAX sPEEK sSPY at e
 simp at e
theorem wv_factor (hT:TokW T) (hB:∀i,TokB (tkAt T i)) {X F:PE} (hX:WvP T X) (hF:WvP T F):WvP T (pFactor X F):=by
 intro i e j h
 unfold pFactor at h
 split at h
 ·rename_i hs
  cases h
  have hk:kP (tkAt T i)=3:=by have e:(tkAt T i).kind=2:=(by simpa using hs);unfold kP;rw [e];rfl
  exact ⟨⟨_,_,_,_,rfl⟩,⟨(fun e=>by rw [hk] at e;cases e),fun h3 _=>absurd hk h3,hB i⟩,trivial,trivial⟩
 split at h
 ·rename_i hs
  cases h
  have e1:(tkAt T i).kind=1:=by simpa using hs
  have hk:kP (tkAt T i)=2:=by unfold kP;rw [e1];rfl
  have hw:wP (tkAt T i)=(tkAt T i).text:=by unfold wP;rw [e1];rfl
  have hn:=hT.name i e1
  have no:∀s,memB s kws=true→wP (tkAt T i)≠s:=fun s hs e=>by rw [hw] at e;rw [e,hs] at hn;cases hn
  refine ⟨⟨_,_,_,_,rfl⟩,⟨(fun e=>by rw [hk] at e;cases e),fun _ _=>⟨fun e=>absurd e (no _ (by unfold memB kws sSEL;simp)),fun e=>?_⟩,hB i⟩,trivial,trivial⟩
  exfalso
  rcases e with e | e | e | e
  ·exact no _ (by unfold memB kws sMIN;simp) e
  ·exact no _ (by unfold memB kws sMAX;simp) e
  ·exact no _ (by unfold memB kws sPEEK;simp) e
  ·exact no _ (by unfold memB kws sSPY;simp) e
 split at h
 ·obtain ⟨a,j2,h2,h⟩:=then_ok h
  obtain ⟨_,j3,h3,h⟩:=then_ok h
  cases h
  exact hX _ _ _ h2
 split at h
 ·rename_i hs
  obtain ⟨a,j2,h2,h⟩:=then_ok h
  cases h
  obtain ⟨r1,r2⟩:=wfv_beside (hF _ _ _ h2) (r:=.nil) trivial
  have k:=sign_kind hT (by unfold sNEG signs;simp) hs
  exact ⟨⟨_,_,_,_,rfl⟩,⟨fun _=>.inl (by rw [r2];rfl),fun _ h4=>absurd k h4,hB i⟩,r1,trivial⟩
 split at h
 ·rename_i hs;exact wv_pTwo hT hB hX (by unfold memB kws sPEEK;simp) (by unfold sPEEK sSEL;simp) hs h
 split at h
 ·rename_i hs;exact wv_pTwo hT hB hX (by unfold memB kws sSPY;simp) (by unfold sSPY sSEL;simp) hs h
 split at h
 ·rename_i hs;exact wv_pTwo hT hB hX (by unfold memB kws sMIN;simp) (by unfold sMIN sSEL;simp) hs h
 split at h
 ·rename_i hs;exact wv_pTwo hT hB hX (by unfold memB kws sMAX;simp) (by unfold sMAX sSEL;simp) hs h
 split at h
 ·rename_i hs;exact wv_pThree hT hB hX hs h
 ·cases h
theorem wv_XF (hT:TokW T) (hB:∀i,TokB (tkAt T i)) (n:Nat):WvP T (pXF n).1∧WvP T (pXF n).2:=by
 induction n with
 | zero=>exact ⟨fun _ _ _ h=>by (cases h),fun _ _ _ h=>by (cases h)⟩
 | succ n ih=>
  rw [pXF]
  split
  ·exact ⟨fun _ _ _ h=>by (cases h),fun _ _ _ h=>by (cases h)⟩
  have f:=wv_factor hT hB ih.1 ih.2
  exact ⟨wv_expr hT hB (wv_level hT hB (wv_level hT hB f opsT_sign _) opsS_sign _),f⟩
end
def GV (e:Ex):Prop:=(∃b o t k,e = .node b o t k .nil)∧WfV e
theorem wfs_of (n:Nat):∀(s:Sx),szS s≤n→AllS TokB s→ShS GV s→NumS s→WfS s:=by
 induction n with
 | zero=>
  intro s hs _ _ _
  cases s with
  | nil=>trivial
  | node b o p k r=>simp [szS] at hs
 | succ n ih=>
  intro s hs ha hsh hn
  cases s with
  | nil=>trivial
  | node b o p k r=>
   simp only [szS] at hs
   obtain ⟨a1,a2,a3,a4,a5,a6⟩:=ha
   unfold ShS at hsh
   unfold NumS at hn
   obtain ⟨shr,hsh⟩:=hsh
   obtain ⟨nr,n1,n2⟩:=hn
   have wr:=ih r (by omega) a6 shr nr
   have nil:WfS (.nil:Sx):=trivial
   rcases hsh with ⟨t0,_,te,rfl⟩ | ⟨t1,te,hk⟩ | ⟨t2,_,_,_,pe,hk⟩ | ⟨t3,_,_,te,rfl⟩ | ⟨t4,_,_,te,rfl⟩
   ·exact ⟨⟨te.2,a1,a2,a3,fun e=>by omega⟩,nil,wr⟩
   ·cases k with
    | nil=>cases hk
    | node b1 o1 q s u=>
     simp only [szS] at hs
     obtain ⟨q5,qe,hs1,hs2⟩:=hk
     obtain ⟨m1,m2,m3,m4,m5,m6⟩:=a5
     obtain ⟨x1,x2⟩:=n1 t1
     exact ⟨⟨te.2,a1,a2,a3,fun e=>by omega⟩,⟨⟨by rw [qe];trivial,m1,m2,m3,fun e=>by omega⟩,ih s (by omega) m5 hs1 x1,ih u (by omega) m6 hs2 x2⟩,wr⟩
   ·obtain ⟨x1,x2⟩:=n2 t2
    exact ⟨⟨by rw [pe];trivial,a1,a2,a3,fun _=>x1⟩,ih k (by omega) a5 hk x2,wr⟩
   ·exact ⟨⟨te.2,a1,a2,a3,fun e=>by omega⟩,nil,wr⟩
   ·exact ⟨⟨te.2,a1,a2,a3,fun e=>by omega⟩,nil,wr⟩
theorem wt_le {m:Nat} : ∀(s:Sx),AllM m s→wtS s≤szS s*(m+22)
 | .nil,_=>by simp [wtS,szS]
 | .node _ _ p k r,⟨a,b,c⟩=>by
  have h1:=wt_le k b
  have h2:=wt_le r c
  have e:(szS k+szS r+1)*(m+22)=szS k*(m+22)+szS r*(m+22)+(m+22):=by rw [Nat.add_mul,Nat.add_mul,Nat.one_mul]
  simp only [wtS,szS]
  rw [e]
  omega
theorem tree_wf {src:ByteArray} {ds:List (Tok×Bool)} {t:Sx} (h:IsTree src ds t):WfS t∧szS t < 100000∧wtS t≤100000:=by
 obtain ⟨hs,l,p,j,hl,hr,h0⟩:=h
 have hW:=lex_tokW hs hl
 have hB:=lex_tokB hs hl
 obtain ⟨t1,t2,t3⟩:=toks_ok hs hl
 have hj:=source_lt t1 hr
 have hlen:(l++[overTok p]).length≤301:=by
  have:=lex_len src src.size 0 [] l p (by simp) (by omega) hl
  simp
  omega
 obtain ⟨g1,g2,g3,g4⟩:=gd_source (p:=TokB) hB noTok_b hr
 obtain ⟨_,_,hsh⟩:=od_source (X:=GV) (fun n i e j h=>(wv_XF hW hB n).1 i e j h) (fun i u h hu=>by
  rcases hW.kinds i with e | e | e | e | e
  ·exact e
  ·exfalso;unfold isT at h;rw [e] at h;simp at h
  ·exfalso;unfold isT at h;rw [e] at h;simp at h
  ·exfalso
   have hm:=hW.sign i e
   have ht:(tkAt (l++[overTok p]) i).text=u:=bytes_eq (isT_key h)
   have hn:=sign_not_key _ hm
   rw [ht] at hn
   rcases hu with rfl | rfl
   ·exact absurd hn (by unfold memB kws sOUT;simp)
   ·exact absurd hn (by unfold memB kws sHIDE;simp)
  ·exfalso;unfold isT at h;rw [e] at h;simp at h) hr
 have hn0:(namesF ds t).1=0:=by
  unfold treeF at h0
  split at h0
  ·rename_i hne
   exfalso
   apply hne
   rw [h0]
  ·rename_i hne
   exact Classical.not_not.1 hne
 have hN:NumS t:=nums_ok _ t (Nat.le_refl _) _ hn0
 refine ⟨wfs_of _ t (Nat.le_refl _) g3 hsh hN,by omega,?_⟩
 have a:=wt_le t g4
 have b:szS t*(j+22)≤301*(301+22):=Nat.mul_le_mul (by omega) (by omega)
 omega
theorem tree_is {src:ByteArray} (h:(readF src).1=0):∃ds t,IsTree src ds t∧readF src=(0,0):=by
 unfold readF at h ⊢
 by_cases hs:300 < src.size
 ·rw [if_pos hs] at h;cases h
 rw [if_neg hs] at h ⊢
 obtain ⟨o,p,hl⟩:∃o p,lex src src.size 0 []=(o,p):=⟨_,_,rfl⟩
 rw [hl] at h ⊢
 cases o with
 | none=>cases h
 | some l=>
  have h':(toksF (l++[overTok p])).1=0:=h
  show ∃ds t,IsTree src ds t∧toksF (l++[overTok p])=(0,0)
  obtain ⟨t1,t2,t3⟩:=toks_ok (by omega) hl
  obtain ⟨r,hr⟩:=source_tot t1 (n:=1000) (by omega)
  unfold toksF at h' ⊢
  rw [hr] at h' ⊢
  cases r with
  | error k=>cases h'
  | ok x=>
   obtain ⟨⟨ds,t⟩,j⟩:=x
   have h2:(treeF ds t).1=0:=h'
   have h3:treeF ds t=(0,0):=by
    unfold treeF at h2 ⊢
    split at h2
    ·rename_i hn;exact absurd h2 hn
    ·split at h2
     ·rename_i hn;exact absurd h2 hn
     ·rename_i a b;rw [if_neg a,if_neg b]
   exact ⟨ds,t,⟨by omega,l,p,j,hl,hr,h3⟩,h3⟩
end Go.Proofs.YthmmgiaobakilaaGreat

set_option maxRecDepth 100000
namespace Go.Proofs.YthmmgiaobakilaaGreat
open Go.RowKit Go.Deep
def ops8:List ByteArray:=opsT++(opsS++opsE)
def HeadOK (t:Tok) (k:Ex):Prop:=
 (t.kind=2∧k = .nil∧0≤t.num∧t.num≤65536)∨(t.kind=1∧k = .nil∧memB t.text kws=false)∨(t.kind=3∧t.text=sNEG∧lenE k=1)∨(t.kind=3∧t.text∈ops8∧lenE k=2) ∨
 (t.kind=0∧(t.text=sPEEK∨t.text=sSPY∨t.text=sMIN∨t.text=sMAX)∧lenE k=2)∨(t.kind=0∧t.text=sSEL∧lenE k=3)
def WF3:Ex→Prop
 | .nil=>True
 | .node _ _ t k r=>HeadOK t k∧WF3 k∧WF3 r
def W3P (T:List Tok) (P:PE):Prop:=∀i e j,P T i=some (.ok (e,j))→(∃b o t k,e = .node b o t k .nil)∧WF3 e
section
variable {T:List Tok}
theorem sgn3 (hT:TokW T) {i:Nat} {s:ByteArray} (hs:s∈signs) (h:isT T i s=true):(tkAt T i).kind=3∧(tkAt T i).text=s:=by
 have ht:(tkAt T i).text=s:=bytes_eq (isT_key h)
 refine ⟨?_,ht⟩
 rcases hT.kinds i with e | e | e | e | e
 ·exfalso
  have a:=hT.key i e
  rw [ht,sign_not_key s hs] at a
  cases a
 ·exfalso;unfold isT at h;rw [e] at h;simp at h
 ·exfalso;unfold isT at h;rw [e] at h;simp at h
 ·exact e
 ·exfalso;unfold isT at h;rw [e] at h;simp at h
theorem wrd3 (hT:TokW T) {i:Nat} {s:ByteArray} (hs:memB s kws=true) (h:isT T i s=true):(tkAt T i).kind=0∧(tkAt T i).text=s:=by
 have ht:(tkAt T i).text=s:=bytes_eq (isT_key h)
 refine ⟨?_,ht⟩
 rcases hT.kinds i with e | e | e | e | e
 ·exact e
 ·exfalso;unfold isT at h;rw [e] at h;simp at h
 ·exfalso;unfold isT at h;rw [e] at h;simp at h
 ·exfalso
  have a:=sign_not_key _ (hT.sign i e)
  rw [ht,hs] at a
  cases a
 ·exfalso;unfold isT at h;rw [e] at h;simp at h
theorem w3_beside {a r:Ex} (ha:(∃b o t k,a = .node b o t k .nil)∧WF3 a) (hr:WF3 r):WF3 (besideE a r)∧lenE (besideE a r)=lenE r+1:=by
 obtain ⟨⟨b,o,t,k,rfl⟩,h⟩:=ha
 exact ⟨⟨h.1,h.2.1,hr⟩,rfl⟩
theorem w3_two (hT:TokW T) {a b:Ex} {q:Nat} {s:ByteArray} (hs:s∈signs) (h8:s∈ops8) (h:isT T q s=true) (ha:(∃b o t k,a = .node b o t k .nil)∧WF3 a) (hb:(∃b' o t k,b = .node b' o t k .nil)∧WF3 b):(∃b' o t k,node2 (tkAt T q) a b = .node b' o t k .nil)∧WF3 (node2 (tkAt T q) a b):=by
 obtain ⟨k1,k2⟩:=sgn3 hT hs h
 obtain ⟨r1,r2⟩:=w3_beside hb (r:=.nil) trivial
 obtain ⟨r3,r4⟩:=w3_beside ha r1
 exact ⟨⟨_,_,_,_,rfl⟩,.inr (.inr (.inr (.inl ⟨k1,by rw [k2];exact h8,by rw [r4,r2];rfl⟩))),r3,trivial⟩
theorem w3_chain (hT:TokW T) {M:PE} (hM:W3P T M) {ops:List ByteArray} (ho:∀s∈ops,s∈signs∧s∈ops8):∀(n:Nat) (e:Ex) (i:Nat) (r:Ex) (j:Nat),(∃b o t k,e = .node b o t k .nil)∧WF3 e→pChain M ops T n e i=some (.ok (r,j))→(∃b o t k,r = .node b o t k .nil)∧WF3 r:=by
 intro n
 induction n with
 | zero=>intro e i r j _ h;cases h
 | succ n ih=>
  intro e i r j he h
  rw [pChain] at h
  split at h
  ·rename_i ha
   obtain ⟨s,hs,hi⟩:=List.any_eq_true.1 ha
   obtain ⟨x,k,h1,h2⟩:=then_ok h
   exact ih _ k r j (w3_two hT (ho s hs).1 (ho s hs).2 hi he (hM _ _ _ h1)) h2
  ·cases h;exact he
theorem w3_level (hT:TokW T) {M:PE} (hM:W3P T M) {ops:List ByteArray} (ho:∀s∈ops,s∈signs∧s∈ops8) (n:Nat):W3P T (pLevel M ops n):=by
 intro i e j h
 unfold pLevel at h
 split at h
 ·cases h
 ·obtain ⟨x,k,h1,h2⟩:=then_ok h
  exact w3_chain hT hM ho n x k e j (hM _ _ _ h1) h2
theorem opsT_8:∀s∈opsT,s∈signs∧s∈ops8:=fun s hs=>⟨opsT_sign s hs,List.mem_append_left _ hs⟩
theorem opsS_8:∀s∈opsS,s∈signs∧s∈ops8:=fun s hs=>⟨opsS_sign s hs,List.mem_append_right _ (List.mem_append_left _ hs)⟩
theorem opsE_8:∀s∈opsE,s∈signs∧s∈ops8:=fun s hs=>⟨opsE_sign s hs,List.mem_append_right _ (List.mem_append_right _ hs)⟩
theorem w3_expr (hT:TokW T) {M:PE} (hM:W3P T M):W3P T (pExpr M):=by
 intro i e j h
 obtain ⟨x,k,h1,h2⟩:=then_ok h
 unfold pPair at h2
 split at h2
 ·rename_i ha
  obtain ⟨s,hs,hi⟩:=List.any_eq_true.1 ha
  obtain ⟨y,l,h3,h4⟩:=then_ok h2
  cases h4
  exact w3_two hT (opsE_8 s hs).1 (opsE_8 s hs).2 hi (hM _ _ _ h1) (hM _ _ _ h3)
 ·cases h2
  exact hM _ _ _ h1
theorem w3_pTwo (hT:TokW T) {X:PE} (hX:W3P T X) {l r s:ByteArray} (hs:memB s kws=true) (h4:s=sPEEK∨s=sSPY∨s=sMIN∨s=sMAX) {i:Nat} (hi:isT T i s=true) {e:Ex} {j:Nat} (h:pTwo X l r T i=some (.ok (e,j))):(∃b o t k,e = .node b o t k .nil)∧WF3 e:=by
 unfold pTwo at h
 obtain ⟨_,j1,h1,h⟩:=then_ok h
 obtain ⟨a,j2,h2,h⟩:=then_ok h
 obtain ⟨_,j3,h3,h⟩:=then_ok h
 obtain ⟨b,j4,h5,h⟩:=then_ok h
 obtain ⟨_,j5,h6,h⟩:=then_ok h
 cases h
 obtain ⟨k1,k2⟩:=wrd3 hT hs hi
 obtain ⟨r1,r2⟩:=w3_beside (hX _ _ _ h5) (r:=.nil) trivial
 obtain ⟨r3,r4⟩:=w3_beside (hX _ _ _ h2) r1
 exact ⟨⟨_,_,_,_,rfl⟩,.inr (.inr (.inr (.inr (.inl ⟨k1,by rw [k2];exact h4,by rw [r4,r2];rfl⟩)))),r3,trivial⟩
theorem w3_pThree (hT:TokW T) {X:PE} (hX:W3P T X) {l r:ByteArray} {i:Nat} (hi:isT T i sSEL=true) {e:Ex} {j:Nat} (h:pThree X l r T i=some (.ok (e,j))):(∃b o t k,e = .node b o t k .nil)∧WF3 e:=by
 unfold pThree at h
 obtain ⟨_,j1,h1,h⟩:=then_ok h
 obtain ⟨a,j2,h2,h⟩:=then_ok h
 obtain ⟨_,j3,h3,h⟩:=then_ok h
 obtain ⟨b,j4,h4,h⟩:=then_ok h
 obtain ⟨_,j5,h5,h⟩:=then_ok h
 obtain ⟨c,j6,h6,h⟩:=then_ok h
 obtain ⟨_,j7,h7,h⟩:=then_ok h
 cases h
 obtain ⟨k1,k2⟩:=wrd3 hT (by unfold memB kws sSEL;simp) hi
 obtain ⟨r1,r2⟩:=w3_beside (hX _ _ _ h6) (r:=.nil) trivial
 obtain ⟨r3,r4⟩:=w3_beside (hX _ _ _ h4) r1
 obtain ⟨r5,r6⟩:=w3_beside (hX _ _ _ h2) r3
 exact ⟨⟨_,_,_,_,rfl⟩,.inr (.inr (.inr (.inr (.inr ⟨k1,k2,by rw [r6,r4,r2];rfl⟩)))),r5,trivial⟩
theorem w3_factor (hT:TokW T) {X F:PE} (hX:W3P T X) (hF:W3P T F):W3P T (pFactor X F):=by
 intro i e j h
 unfold pFactor at h
 split at h
 ·rename_i hs
  cases h
  exact ⟨⟨_,_,_,_,rfl⟩,.inl ⟨by simpa using hs,rfl,hT.nums i⟩,trivial,trivial⟩
 split at h
 ·rename_i hs
  cases h
  have e1:(tkAt T i).kind=1:=by simpa using hs
  exact ⟨⟨_,_,_,_,rfl⟩,.inr (.inl ⟨e1,rfl,hT.name i e1⟩),trivial,trivial⟩
 split at h
 ·obtain ⟨a,j2,h2,h⟩:=then_ok h
  obtain ⟨_,j3,h3,h⟩:=then_ok h
  cases h
  exact hX _ _ _ h2
 split at h
 ·rename_i hs
  obtain ⟨a,j2,h2,h⟩:=then_ok h
  cases h
  obtain ⟨k1,k2⟩:=sgn3 hT (by simp [signs,sNEG]) hs
  obtain ⟨r1,r2⟩:=w3_beside (hF _ _ _ h2) (r:=.nil) trivial
  exact ⟨⟨_,_,_,_,rfl⟩,.inr (.inr (.inl ⟨k1,k2,by rw [r2];rfl⟩)),r1,trivial⟩
 split at h
 ·rename_i hs;exact w3_pTwo hT hX (by unfold memB kws sPEEK;simp) (.inl rfl) hs h
 split at h
 ·rename_i hs;exact w3_pTwo hT hX (by unfold memB kws sSPY;simp) (.inr (.inl rfl)) hs h
 split at h
 ·rename_i hs;exact w3_pTwo hT hX (by unfold memB kws sMIN;simp) (.inr (.inr (.inl rfl))) hs h
 split at h
 ·rename_i hs;exact w3_pTwo hT hX (by unfold memB kws sMAX;simp) (.inr (.inr (.inr rfl))) hs h
 split at h
 ·rename_i hs;exact w3_pThree hT hX hs h
 ·cases h
theorem w3_pXF (hT:TokW T) (n:Nat):W3P T (pXF n).1∧W3P T (pXF n).2:=by
 induction n with
 | zero=>exact ⟨fun i e j h=>by (cases h),fun i e j h=>by (cases h)⟩
 | succ n ih=>
  rw [pXF]
  split
  ·exact ⟨fun i e j h=>by (cases h),fun i e j h=>by (cases h)⟩
  have f:=w3_factor hT ih.1 ih.2
  exact ⟨w3_expr hT (w3_level hT (w3_level hT f opsT_8 _) opsS_8 _),f⟩
end
end Go.Proofs.YthmmgiaobakilaaGreat
