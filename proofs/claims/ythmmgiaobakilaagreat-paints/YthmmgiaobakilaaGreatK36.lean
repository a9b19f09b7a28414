import Derived.Test.YthmmgiaobakilaaGreatK03
set_option maxRecDepth 100000
namespace Go.Proofs.YthmmgiaobakilaaGreat
open Go.RowKit Go.Deep
def fa (t:Tok):Bool:=(t.kind==1)||((t.kind==0)&&((t.text.toList==sPEEK.toList)||(t.text.toList==sSPY.toList)))
def hdL (t:Tok):List Tok:=if fa t then [t] else []
def preE:Ex→List Tok
 | .nil=>[]
 | .node _ _ t k r=>hdL t++(preE k++preE r)
def pre1:Ex→List Tok
 | .nil=>[]
 | .node _ _ t k _=>hdL t++preE k
def hdP (p:SP):List Tok:=if p.tag=5 then [] else if p.tag=2 then [p.t,p.a] else [p.t]
def ordS:Sx→List Tok
 | .nil=>[]
 | .node _ _ p k r=>hdP p++(pre1 p.e++(ordS k++ordS r))
def Seg (T:List Tok) (i j:Nat) (l:List Tok):Prop:=∃xs:List Nat,l=xs.map (tkAt T)∧xs.Pairwise (· < ·)∧∀x∈xs,i≤x∧x < j
section
variable {T:List Tok}
theorem Seg.nil (i j:Nat):Seg T i j []:=⟨[],rfl,List.Pairwise.nil,fun _ h=>by cases h⟩
theorem Seg.one (i:Nat):Seg T i (i+1) [tkAt T i]:=⟨[i],rfl,List.pairwise_singleton _ _,fun x h=>by simp at h;omega⟩
theorem Seg.mono {i j i' j':Nat} {l:List Tok} (h:Seg T i j l) (h1:i'≤i) (h2:j≤j'):Seg T i' j' l:=by
 obtain ⟨xs,e,p,b⟩:=h
 exact ⟨xs,e,p,fun x hx=>by have:=b x hx;omega⟩
theorem Seg.app {i j k m:Nat} {l l':List Tok} (h:Seg T i j l) (h':Seg T k m l') (hk:j≤k) (hi:i≤k) (hm:j≤m):Seg T i m (l++l'):=by
 obtain ⟨xs,e,p,b⟩:=h
 obtain ⟨ys,e',p',b'⟩:=h'
 refine ⟨xs++ys,by rw [e,e',List.map_append],List.pairwise_append.2 ⟨p,p',fun x hx y hy=>?_⟩,fun x hx=>?_⟩
 ·have:=b x hx
  have:=b' y hy
  omega
 ·rcases List.mem_append.1 hx with hx | hx
  ·have:=b x hx;omega
  ·have:=b' x hx;omega
theorem Seg.hd (i:Nat):Seg T i (i+1) (hdL (tkAt T i)):=by
 unfold hdL
 split
 ·exact Seg.one i
 ·exact Seg.nil _ _
theorem pre_beside {a:Ex} (r:Ex) (h:∃b o t k,a = .node b o t k .nil):preE (besideE a r)=pre1 a++preE r:=by
 obtain ⟨b,o,t,k,rfl⟩:=h
 simp [besideE,preE,pre1]
structure OdE (T:List Tok) (e:Ex) (i j:Nat):Prop where
 one:∃b o t k,e = .node b o t k .nil
 lt:i < j
 seg:Seg T i j (pre1 e)
def OdP (T:List Tok) (P:PE):Prop:=∀i e j,P T i=some (.ok (e,j))→OdE T e i j
theorem isT_fa {i:Nat} {s:ByteArray} (h:isT T i s=true) (h1:(s.toList==sPEEK.toList)=false) (h2:(s.toList==sSPY.toList)=false):fa (tkAt T i)=false:=by
 unfold isT at h
 simp only [Bool.and_eq_true,Bool.or_eq_true,beq_iff_eq] at h
 unfold fa
 rw [h.2,h1,h2]
 rcases h.1 with e | e <;> rw [e] <;> rfl
theorem od_two {a b:Ex} {i j k m q:Nat} (hq:fa (tkAt T q)=false) (h1:OdE T a i j) (h2:OdE T b k m) (hk:j≤k):OdE T (node2 (tkAt T q) a b) i m:=by
 have l1:=h1.lt
 have l2:=h2.lt
 refine ⟨⟨_,_,_,_,rfl⟩,by omega,?_⟩
 show Seg T i m (hdL (tkAt T q)++preE (besideE a (besideE b .nil)))
 rw [pre_beside _ h1.one,pre_beside _ h2.one]
 have e:hdL (tkAt T q)=[]:=by unfold hdL;rw [hq];rfl
 rw [e]
 simp only [preE,List.append_nil,List.nil_append]
 exact h1.seg.app h2.seg hk (by omega) (by omega)
theorem ops_fa {ops:List ByteArray} (ho:∀s∈ops,(s.toList==sPEEK.toList)=false∧(s.toList==sSPY.toList)=false) {i:Nat} (h:ops.any (isT T i)=true):fa (tkAt T i)=false:=by
 obtain ⟨s,hs,hi⟩:=List.any_eq_true.1 h
 exact isT_fa hi (ho s hs).1 (ho s hs).2
theorem od_chain {M:PE} (hM:OdP T M) {ops:List ByteArray} (ho:∀s∈ops,(s.toList==sPEEK.toList)=false∧(s.toList==sSPY.toList)=false):∀(n:Nat) (e:Ex) (i0 i:Nat) (r:Ex) (j:Nat),OdE T e i0 i→pChain M ops T n e i=some (.ok (r,j))→OdE T r i0 j:=by
 intro n
 induction n with
 | zero=>intro e i0 i r j _ h;cases h
 | succ n ih=>
  intro e i0 i r j he h
  rw [pChain] at h
  split at h
  ·rename_i ha
   obtain ⟨x,k,h1,h2⟩:=then_ok h
   exact ih _ i0 k r j (od_two (ops_fa ho ha) he (hM _ _ _ h1) (by omega)) h2
  ·cases h;exact he
theorem od_level {M:PE} (hM:OdP T M) {ops:List ByteArray} (ho:∀s∈ops,(s.toList==sPEEK.toList)=false∧(s.toList==sSPY.toList)=false) (n:Nat):OdP T (pLevel M ops n):=by
 intro i e j h
 unfold pLevel at h
 split at h
 ·cases h
 ·obtain ⟨x,k,h1,h2⟩:=then_ok h
  exact od_chain hM ho n x i k e j (hM _ _ _ h1) h2
theorem opsT_fa:∀s∈opsT,(s.toList==sPEEK.toList)=false∧(s.toList==sSPY.toList)=false:=by
 simp only [ByteArray.toList_eq];decide
theorem opsS_fa:∀s∈opsS,(s.toList==sPEEK.toList)=false∧(s.toList==sSPY.toList)=false:=by
 simp only [ByteArray.toList_eq];decide
theorem opsE_fa:∀s∈opsE,(s.toList==sPEEK.toList)=false∧(s.toList==sSPY.toList)=false:=by
 simp only [ByteArray.toList_eq];decide
theorem od_expr {M:PE} (hM:OdP T M):OdP T (pExpr M):=by
 intro i e j h
 obtain ⟨x,k,h1,h2⟩:=then_ok h
 unfold pPair at h2
 split at h2
 ·rename_i ha
  obtain ⟨y,l,h3,h4⟩:=then_ok h2
  cases h4
  exact od_two (ops_fa opsE_fa ha) (hM _ _ _ h1) (hM _ _ _ h3) (by omega)
 ·cases h2
  exact hM _ _ _ h1
theorem od_call2 {X:PE} (hX:OdP T X) {l r:ByteArray} {i:Nat} {e:Ex} {j:Nat} (h:pTwo X l r T i=some (.ok (e,j))):OdE T e i j:=by
 unfold pTwo at h
 obtain ⟨_,j1,h1,h⟩:=then_ok h
 obtain ⟨a,j2,h2,h⟩:=then_ok h
 obtain ⟨_,j3,h3,h⟩:=then_ok h
 obtain ⟨b,j4,h4,h⟩:=then_ok h
 obtain ⟨_,j5,h5,h⟩:=then_ok h
 cases h
 have g1:=hX _ _ _ h2
 have g2:=hX _ _ _ h4
 have e1:=need_ok h1
 have e3:=need_ok h3
 have e5:=need_ok h5
 have s1:=g1.lt
 have s2:=g2.lt
 refine ⟨⟨_,_,_,_,rfl⟩,by omega,?_⟩
 show Seg T i j (hdL (tkAt T i)++preE (besideE a (besideE b .nil)))
 rw [pre_beside _ g1.one,pre_beside _ g2.one]
 simp only [preE,List.append_nil]
 exact (Seg.hd i).app (g1.seg.app (g2.seg.mono (Nat.le_refl _) (by omega:j4≤j)) (by omega) (by omega) (by omega)) (by omega) (by omega) (by omega)
theorem od_call3 {X:PE} (hX:OdP T X) {l r:ByteArray} {i:Nat} {e:Ex} {j:Nat} (h:pThree X l r T i=some (.ok (e,j))):OdE T e i j:=by
 unfold pThree at h
 obtain ⟨_,j1,h1,h⟩:=then_ok h
 obtain ⟨a,j2,h2,h⟩:=then_ok h
 obtain ⟨_,j3,h3,h⟩:=then_ok h
 obtain ⟨b,j4,h4,h⟩:=then_ok h
 obtain ⟨_,j5,h5,h⟩:=then_ok h
 obtain ⟨c,j6,h6,h⟩:=then_ok h
 obtain ⟨_,j7,h7,h⟩:=then_ok h
 cases h
 have g1:=hX _ _ _ h2
 have g2:=hX _ _ _ h4
 have g3:=hX _ _ _ h6
 have e1:=need_ok h1
 have e3:=need_ok h3
 have e5:=need_ok h5
 have e7:=need_ok h7
 have s1:=g1.lt
 have s2:=g2.lt
 have s3:=g3.lt
 refine ⟨⟨_,_,_,_,rfl⟩,by omega,?_⟩
 show Seg T i j (hdL (tkAt T i)++preE (besideE a (besideE b (besideE c .nil))))
 rw [pre_beside _ g1.one,pre_beside _ g2.one,pre_beside _ g3.one]
 simp only [preE,List.append_nil]
 exact (Seg.hd i).app (g1.seg.app (g2.seg.app (g3.seg.mono (Nat.le_refl _) (by omega:j6≤j)) (by omega) (by omega) (by omega)) (by omega) (by omega) (by omega)) (by omega) (by omega) (by omega)
theorem od_factor {X F:PE} (hX:OdP T X) (hF:OdP T F):OdP T (pFactor X F):=by
 intro i e j h
 have leaf:OdE T (leafE (tkAt T i)) i (i+1):=⟨⟨_,_,_,_,rfl⟩,by omega,by
  show Seg T i (i+1) (hdL (tkAt T i)++preE .nil)
  rw [preE,List.append_nil]
  exact Seg.hd i⟩
 unfold pFactor at h
 split at h
 ·cases h;exact leaf
 split at h
 ·cases h;exact leaf
 split at h
 ·obtain ⟨a,j2,h2,h⟩:=then_ok h
  obtain ⟨_,j3,h3,h⟩:=then_ok h
  cases h
  have g:=hX _ _ _ h2
  have e3:=need_ok h3
  have s:=g.lt
  exact ⟨g.one,by omega,g.seg.mono (by omega) (by omega)⟩
 split at h
 ·rename_i hs
  obtain ⟨a,j2,h2,h⟩:=then_ok h
  cases h
  have g:=hF _ _ _ h2
  have s:=g.lt
  refine ⟨⟨_,_,_,_,rfl⟩,by omega,?_⟩
  show Seg T i j (hdL (tkAt T i)++preE (besideE a .nil))
  rw [pre_beside _ g.one]
  simp only [preE,List.append_nil]
  exact (Seg.hd i).app g.seg (by omega) (by omega) (by omega)
 split at h
 ·exact od_call2 hX h
 split at h
 ·exact od_call2 hX h
 split at h
 ·exact od_call2 hX h
 split at h
 ·exact od_call2 hX h
 split at h
 ·exact od_call3 hX h
 ·cases h
theorem od_XF (n:Nat):OdP T (pXF n).1∧OdP T (pXF n).2:=by
 induction n with
 | zero=>exact ⟨fun _ _ _ h=>by (cases h),fun _ _ _ h=>by (cases h)⟩
 | succ n ih=>
  rw [pXF]
  split
  ·exact ⟨fun _ _ _ h=>by (cases h),fun _ _ _ h=>by (cases h)⟩
  have f:=od_factor ih.1 ih.2
  exact ⟨od_expr (od_level (od_level f opsT_fa _) opsS_fa _),f⟩
def ShS (X:Ex→Prop):Sx→Prop
 | .nil=>True
 | .node _ _ p k r=>ShS X r∧((p.tag=0∧p.t.kind=1∧X p.e∧k = .nil)∨(p.tag=1∧X p.e∧(match k with
  | .nil=>False
  | .node _ _ q s u=>q.tag=5∧q.e = .nil∧ShS X s∧ShS X u))∨(p.tag=2∧p.t.kind=1∧p.a.kind=2∧p.b.kind=2∧p.e = .nil∧ShS X k)∨(p.tag=3∧p.t.kind=0∧(p.t.text.toList==sHIDE.toList)=false∧X p.e∧k = .nil)∨(p.tag=4∧p.t.kind=0∧(p.t.text.toList==sHIDE.toList)=true∧X p.e∧k = .nil))
structure OdS (T:List Tok) (X:Ex→Prop) (s:Sx) (i j:Nat):Prop where
 le:i≤j
 seg:Seg T i j (ordS s)
 sh:ShS X s
def OdPS (T:List Tok) (X:Ex→Prop) (P:PS):Prop:=∀i s j,P T i=some (.ok (s,j))→One s∧i < j∧OdS T X s i j
def OdPL (T:List Tok) (X:Ex→Prop) (P:PS):Prop:=∀i s j,P T i=some (.ok (s,j))→i < j∧OdS T X s i j
theorem ordS_beside {a:Sx} (r:Sx) (h:One a):ordS (besideS a r)=ordS a++ordS r:=by
 obtain ⟨b,o,t,k,rfl⟩:=h
 simp [besideS,ordS]
theorem shS_beside {X:Ex→Prop} {a r:Sx} (ha:ShS X a) (hr:ShS X r):ShS X (besideS a r):=by
 cases a with
 | nil=>exact trivial
 | node b o t k r'=>
  unfold ShS at ha
  show ShS X (.node b o t k r)
  unfold ShS
  exact ⟨hr,ha.2⟩
theorem kind_ok2 {k:Int} {i j:Nat} {t:Tok} (h:pKind T k i=some (.ok (t,j))):(tkAt T i).kind=k:=by
 unfold pKind at h
 split at h
 ·rename_i hs;simpa using hs
 ·cases h
theorem isT_key {i:Nat} {s:ByteArray} (h:isT T i s=true):(tkAt T i).text.toList=s.toList:=by
 unfold isT at h
 simp only [Bool.and_eq_true,beq_iff_eq] at h
 exact h.2
theorem od_stm {X:Ex→Prop} {P:PE} {B:PS} (hX:∀i e j,P T i=some (.ok (e,j))→X e) (hk:∀i s,isT T i s=true→s=sOUT∨s=sHIDE→(tkAt T i).kind=0) (hP:OdP T P) (hB:OdPL T X B):OdPS T X (pStatement P B):=by
 intro i s j h
 unfold pStatement at h
 split at h
 ·rename_i hs
  unfold pAssign at h
  obtain ⟨_,j1,h1,h⟩:=then_ok h
  obtain ⟨e,j2,h2,h⟩:=then_ok h
  obtain ⟨_,j3,h3,h⟩:=then_ok h
  cases h
  have e1:=need_ok h1
  have e3:=need_ok h3
  have g:=hP _ _ _ h2
  have s2:=g.lt
  refine ⟨⟨_,_,_,_,rfl⟩,by omega,by omega,?_,by unfold ShS;exact ⟨trivial,.inl ⟨rfl,by simpa using hs,hX _ _ _ h2,rfl⟩⟩⟩
  show Seg T i j ([tkAt T i]++(pre1 e++(ordS .nil++ordS .nil)))
  simp only [ordS,List.append_nil]
  exact (Seg.one i).app (g.seg.mono (Nat.le_refl _) (by omega)) (by omega) (by omega) (by omega)
 split at h
 ·unfold pIf at h
  obtain ⟨e,j1,h1,h⟩:=then_ok h
  obtain ⟨a,j2,h2,h⟩:=then_ok h
  have g:=hP _ _ _ h1
  have s1:=g.lt
  obtain ⟨l2,b1⟩:=hB _ _ _ h2
  unfold pElse at h
  split at h
  ·obtain ⟨u,j3,h3,h⟩:=then_ok h
   cases h
   obtain ⟨l3,b2⟩:=hB _ _ _ h3
   refine ⟨⟨_,_,_,_,rfl⟩,by omega,by omega,?_,by unfold ShS;exact ⟨trivial,.inr (.inl ⟨rfl,hX _ _ _ h1,rfl,rfl,b1.sh,b2.sh⟩)⟩⟩
   show Seg T i j ([tkAt T i]++(pre1 e++(([]++([]++(ordS a++ordS u)))++ordS .nil)))
   simp only [ordS,List.append_nil,List.nil_append]
   exact (Seg.one i).app (g.seg.app (b1.seg.app b2.seg (by omega) (by omega) (by omega)) (by omega) (by omega) (by omega)) (by omega) (by omega) (by omega)
  ·cases h
   refine ⟨⟨_,_,_,_,rfl⟩,by omega,by omega,?_,by unfold ShS;exact ⟨trivial,.inr (.inl ⟨rfl,hX _ _ _ h1,rfl,rfl,b1.sh,trivial⟩)⟩⟩
   show Seg T i j ([tkAt T i]++(pre1 e++(([]++([]++(ordS a++ordS .nil)))++ordS .nil)))
   simp only [ordS,List.append_nil,List.nil_append]
   exact (Seg.one i).app (g.seg.app b1.seg (by omega) (by omega) (by omega)) (by omega) (by omega) (by omega)
 split at h
 ·unfold pFor at h
  obtain ⟨n,j1,h1,h⟩:=then_ok h
  obtain ⟨a,j2,h2,h⟩:=then_ok h
  obtain ⟨_,j3,h3,h⟩:=then_ok h
  obtain ⟨b,j4,h4,h⟩:=then_ok h
  obtain ⟨q,j5,h5,h⟩:=then_ok h
  cases h
  have k1:=kind_ok2 h1
  have k2:=kind_ok2 h2
  have k4:=kind_ok2 h4
  obtain ⟨e1,rfl⟩:=kind_ok h1
  obtain ⟨e2,rfl⟩:=kind_ok h2
  have e3:=need_ok h3
  obtain ⟨e4,rfl⟩:=kind_ok h4
  obtain ⟨l5,b1⟩:=hB _ _ _ h5
  refine ⟨⟨_,_,_,_,rfl⟩,by omega,by omega,?_,by unfold ShS;exact ⟨trivial,.inr (.inr (.inl ⟨rfl,k1,k2,k4,rfl,b1.sh⟩))⟩⟩
  show Seg T i j ([tkAt T (i+1),tkAt T j1]++([]++(ordS q++ordS .nil)))
  simp only [ordS,List.append_nil,List.nil_append]
  have o:Seg T (i+1) (j1+1) ([tkAt T (i+1)]++[tkAt T j1]):=(Seg.one (i+1)).app (Seg.one j1) (by omega) (by omega) (by omega)
  exact (o.mono (i':=i) (j':=j4) (by omega) (by omega)).app b1.seg (Nat.le_refl _) (by omega) (by omega)
 have put:∀tag,(tag=3∧(tkAt T i).kind=0∧((tkAt T i).text.toList==sHIDE.toList)=false)∨(tag=4∧(tkAt T i).kind=0∧((tkAt T i).text.toList==sHIDE.toList)=true)→pPut P tag T i=some (.ok (s,j))→One s∧i < j∧OdS T X s i j:=fun tag ht h=>by
  unfold pPut at h
  obtain ⟨e,j2,h2,h⟩:=then_ok h
  obtain ⟨_,j3,h3,h⟩:=then_ok h
  cases h
  have e3:=need_ok h3
  have g:=hP _ _ _ h2
  have s2:=g.lt
  have hx:=hX _ _ _ h2
  refine ⟨⟨_,_,_,_,rfl⟩,by omega,by omega,?_,?_⟩
  ·have eh:hdP ⟨tag,tkAt T i,noTok,noTok,e⟩=[tkAt T i]:=by
    unfold hdP
    rw [if_neg (by show ¬ tag=5;omega),if_neg (by show ¬ tag=2;omega)]
   show Seg T i j (hdP _++(pre1 e++(ordS .nil++ordS .nil)))
   rw [eh]
   simp only [ordS,List.append_nil]
   exact (Seg.one i).app (g.seg.mono (Nat.le_refl _) (by omega)) (by omega) (by omega) (by omega)
  ·unfold ShS
   refine ⟨trivial,?_⟩
   rcases ht with ⟨a,b,c⟩ | ⟨a,b,c⟩
   ·exact .inr (.inr (.inr (.inl ⟨a,b,c,hx,rfl⟩)))
   ·exact .inr (.inr (.inr (.inr ⟨a,b,c,hx,rfl⟩)))
 split at h
 ·rename_i hs
  refine put 3 (.inl ⟨rfl,hk i _ hs (.inl rfl),?_⟩) h
  rw [isT_key hs]
  simp only [ByteArray.toList_eq];decide
 split at h
 ·rename_i hs
  refine put 4 (.inr ⟨rfl,hk i _ hs (.inr rfl),?_⟩) h
  rw [isT_key hs]
  simp
 ·cases h
theorem od_items {X:Ex→Prop} {S:PS} (hS:OdPS T X S):∀(n i:Nat) (s:Sx) (j:Nat),pItems S T n i=some (.ok (s,j))→i < j∧OdS T X s i j:=by
 intro n
 induction n with
 | zero=>intro i s j h;cases h
 | succ n ih=>
  intro i s j h
  rw [pItems] at h
  split at h
  ·cases h;exact ⟨by omega,by omega,Seg.nil _ _,trivial⟩
  ·obtain ⟨a,j1,h1,h⟩:=then_ok h
   obtain ⟨r,j2,h2,h⟩:=then_ok h
   cases h
   obtain ⟨o1,l1,s1⟩:=hS _ _ _ h1
   obtain ⟨l2,g⟩:=ih _ _ _ h2
   exact ⟨by omega,by omega,by rw [ordS_beside _ o1];exact s1.seg.app g.seg (by omega) (by omega) (by omega),shS_beside s1.sh g.sh⟩
theorem od_body {X:Ex→Prop} {S:PS} (hS:OdPS T X S):∀(n i:Nat) (s:Sx) (j:Nat),pBody S T n i=some (.ok (s,j))→OdS T X s i j:=by
 intro n
 induction n with
 | zero=>intro i s j h;cases h
 | succ n ih=>
  intro i s j h
  rw [pBody] at h
  split at h
  ·cases h;exact ⟨by omega,Seg.nil _ _,trivial⟩
  ·obtain ⟨a,j1,h1,h⟩:=then_ok h
   obtain ⟨r,j2,h2,h⟩:=then_ok h
   cases h
   obtain ⟨o1,l1,s1⟩:=hS _ _ _ h1
   have g:=ih _ _ _ h2
   have l2:=g.le
   exact ⟨by omega,by rw [ordS_beside _ o1];exact s1.seg.app g.seg (by omega) (by omega) (by omega),shS_beside s1.sh g.sh⟩
theorem od_SB {X:Ex→Prop} (hX:∀n i e j,(pXF n).1 T i=some (.ok (e,j))→X e) (hk:∀i s,isT T i s=true→s=sOUT∨s=sHIDE→(tkAt T i).kind=0):∀n,OdPS T X (pSB n).1∧OdPL T X (pSB n).2:=by
 intro n
 induction n with
 | zero=>exact ⟨fun _ _ _ h=>by (cases h),fun _ _ _ h=>by (cases h)⟩
 | succ n ih=>
  rw [pSB]
  split
  ·exact ⟨fun _ _ _ h=>by (cases h),fun _ _ _ h=>by (cases h)⟩
  refine ⟨od_stm (hX n) hk (od_XF n).1 ih.2,?_⟩
  intro i s j h
  dsimp only at h
  unfold pBlock at h
  split at h
  ·cases h
  obtain ⟨_,j1,h1,h⟩:=then_ok h
  have e1:=need_ok h1
  obtain ⟨l,g⟩:=od_items ih.1 _ _ _ _ h
  exact ⟨by omega,by omega,g.seg.mono (by omega) (by omega),g.sh⟩
theorem od_names (hd:Bool):∀(n i:Nat) (l:List (Tok×Bool)) (j:Nat),pNames T hd n i=some (.ok (l,j))→i < j∧Seg T i j (l.map (·.1))∧∀d∈l,d.1.kind=1:=by
 intro n
 induction n with
 | zero=>intro i l j h;cases h
 | succ n ih=>
  intro i l j h
  rw [pNames] at h
  obtain ⟨t,j1,h1,h⟩:=then_ok h
  have k1:=kind_ok2 h1
  obtain ⟨e1,rfl⟩:=kind_ok h1
  split at h
  ·obtain ⟨l2,j2,h2,h⟩:=then_ok h
   cases h
   obtain ⟨a,b,c⟩:=ih _ _ _ h2
   refine ⟨by omega,(Seg.one i).app b (by omega) (by omega) (by omega),fun d hd=>?_⟩
   rcases List.mem_cons.1 hd with rfl | hd
   ·exact k1
   ·exact c d hd
  ·obtain ⟨_,j2,h2,h⟩:=then_ok h
   cases h
   have e2:=need_ok h2
   refine ⟨by omega,(Seg.one i).mono (Nat.le_refl _) (by omega),fun d hd=>?_⟩
   simp at hd
   subst hd
   exact k1
theorem od_decls (f:Nat):∀(n i:Nat) (l:List (Tok×Bool)) (j:Nat),pDecls T f n i=some (.ok (l,j))→i≤j∧Seg T i j (l.map (·.1))∧∀d∈l,d.1.kind=1:=by
 intro n
 induction n with
 | zero=>intro i l j h;cases h
 | succ n ih=>
  intro i l j h
  rw [pDecls] at h
  split at h
  ·obtain ⟨l1,j1,h1,h⟩:=then_ok h
   obtain ⟨l2,j2,h2,h⟩:=then_ok h
   cases h
   obtain ⟨a,b,c⟩:=od_names _ _ _ _ _ h1
   obtain ⟨d,e,f⟩:=ih _ _ _ h2
   refine ⟨by omega,?_,fun x hx=>?_⟩
   ·rw [List.map_append]
    exact (b.mono (by omega) (Nat.le_refl _)).app e (Nat.le_refl _) (by omega) (by omega)
   rcases List.mem_append.1 hx with hx | hx
   ·exact c x hx
   ·exact f x hx
  ·cases h;exact ⟨by omega,Seg.nil _ _,fun d hd=>by cases hd⟩
theorem od_source {X:Ex→Prop} (hX:∀n i e j,(pXF n).1 T i=some (.ok (e,j))→X e) (hk:∀i s,isT T i s=true→s=sOUT∨s=sHIDE→(tkAt T i).kind=0) {n:Nat} {ds:List (Tok×Bool)} {s:Sx} {j:Nat} (h:pSource n T=some (.ok ((ds,s),j))):Seg T 0 j (ds.map (·.1)++ordS s)∧(∀d∈ds,d.1.kind=1)∧ShS X s:=by
 unfold pSource at h
 obtain ⟨l,j1,h1,h⟩:=then_ok h
 obtain ⟨s',j2,h2,h⟩:=then_ok h
 cases h
 obtain ⟨a,b,c⟩:=od_decls _ _ _ _ _ h1
 have g:=od_body (od_SB hX hk n).1 _ _ _ _ h2
 have l:=g.le
 exact ⟨b.app g.seg (Nat.le_refl _) (by omega) (by omega),c,g.sh⟩
def Inc (l:List Tok):Prop:=l.Pairwise (fun a b=>a.place < b.place)
theorem Seg.inc {i j:Nat} {l:List Tok} (h:Seg T i j l) (hT:∀a b,a < b→b < j→(tkAt T a).place < (tkAt T b).place):Inc l:=by
 obtain ⟨xs,rfl,p,b⟩:=h
 unfold Inc
 rw [List.pairwise_map]
 refine p.imp_of_mem ?_
 intro x y hx hy hl
 exact hT x y hl (b y hy).2
end
end Go.Proofs.YthmmgiaobakilaaGreat
