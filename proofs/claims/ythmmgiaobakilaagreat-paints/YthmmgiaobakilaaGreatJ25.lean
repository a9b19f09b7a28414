import Derived.Test.YthmmgiaobakilaaGreatJ03
set_option maxRecDepth 100000
namespace Go.Proofs.YthmmgiaobakilaaGreat
open Go.RowKit Go.Deep
variable{P:PS}
theorem kind_fwd{T:List Tok}(h:LastOver T){i:Nat}{k:Int}(hk:k≠4)(hi:i < T.length):Fwd T i (i+1)(pKind T k i):=by
 unfold pKind
 split
 ·rename_i hs
  have e:(tkAt T i).kind=k:=by simpa using hs
  exact fwd_got (Nat.le_refl _)(next_lt h hi (by rw [e];exact hk))
 ·exact fwd_bad (Nat.le_refl _)hi
theorem kind_some (T:List Tok)(k:Int)(i:Nat):∃r,pKind T k i=some r:=by unfold pKind;split <;> exact⟨_,rfl⟩
theorem items_fwd (hF:FwdP P){T:List Tok}(hT:LastOver T)(m:Nat):∀j,j < T.length→Fwd T j (j+1)(pItems P T m j):=by
 induction m with
 | zero=>intro j hj;trivial
 | succ m ih=>
  intro j hj
  rw [pItems]
  split
  ·rename_i hs;exact fwd_got (Nat.le_refl _)(isT_next hT hj hs)
  ·refine fwd_then (hF T j hT hj)(fun _ j1 h1 l1=>?_)
   exact fwd_then ((ih j1 l1).mono (by omega)(Nat.le_refl _))(fun _ k hk hl=>fwd_got (by omega)hl)
theorem block_fwd (hF:FwdP P)(n:Nat):FwdP (pBlock P n):=by
 intro T i hT hi
 unfold pBlock
 split
 ·trivial
 ·exact fwd_then (need_fwd hT hi)(fun _ j hj hl=>(items_fwd hF hT n j hl).mono (by omega)(by omega))
theorem statement_fwd{P:PE}{Q:PS}(hF:FwdP P)(hQ:FwdP Q):FwdP (pStatement P Q):=by
 intro T i hT hi
 unfold pStatement
 split
 ·rename_i hk
  have e:(tkAt T i).kind=1:=by simpa using hk
  have h1:=next_lt hT hi (by rw [e];decide)
  unfold pAssign
  refine fwd_then ((need_fwd hT h1).mono (by omega)(Nat.le_refl _))(fun _ j hj hl=>?_)
  refine fwd_then ((hF T j hT hl).mono (by omega)(Nat.le_refl _))(fun _ j2 hj2 hl2=>?_)
  exact fwd_then ((need_fwd hT hl2).mono (by omega)(Nat.le_refl _))(fun _ j3 hj3 hl3=>fwd_got (by omega)hl3)
 split
 ·rename_i hs
  have h1:=isT_next hT hi hs
  unfold pIf
  refine fwd_then ((hF T (i+1)hT h1).mono (by omega)(Nat.le_refl _))(fun _ j hj hl=>?_)
  refine fwd_then ((hQ T j hT hl).mono (by omega)(Nat.le_refl _))(fun _ j2 hj2 hl2=>?_)
  unfold pElse
  split
  ·rename_i hs2
   exact fwd_then ((hQ T (j2+1)hT (isT_next hT hl2 hs2)).mono (by omega)(Nat.le_refl _))(fun _ j3 hj3 hl3=>fwd_got (by omega)hl3)
  ·exact fwd_got (by omega)hl2
 split
 ·rename_i hs
  have h1:=isT_next hT hi hs
  unfold pFor
  refine fwd_then ((kind_fwd hT (by decide)h1).mono (by omega)(Nat.le_refl _))(fun _ j hj hl=>?_)
  refine fwd_then ((kind_fwd hT (by decide)hl).mono (by omega)(Nat.le_refl _))(fun _ j2 hj2 hl2=>?_)
  refine fwd_then ((need_fwd hT hl2).mono (by omega)(Nat.le_refl _))(fun _ j3 hj3 hl3=>?_)
  refine fwd_then ((kind_fwd hT (by decide)hl3).mono (by omega)(Nat.le_refl _))(fun _ j4 hj4 hl4=>?_)
  exact fwd_then ((hQ T j4 hT hl4).mono (by omega)(Nat.le_refl _))(fun _ j5 hj5 hl5=>fwd_got (by omega)hl5)
 have put:∀tag s,isT T i s=true→Fwd T i (i+1)(pPut P tag T i):=fun tag s hs=>by
  unfold pPut
  refine fwd_then ((hF T (i+1)hT (isT_next hT hi hs)).mono (by omega)(Nat.le_refl _))(fun _ j hj hl=>?_)
  exact fwd_then ((need_fwd hT hl).mono (by omega)(Nat.le_refl _))(fun _ j3 hj3 hl3=>fwd_got (by omega)hl3)
 split
 ·rename_i hs;exact put 3 _ hs
 split
 ·rename_i hs;exact put 4 _ hs
 ·exact fwd_bad (Nat.le_refl _)hi
theorem pSB_fwd (n:Nat):FwdP (pSB n).1∧FwdP (pSB n).2:=by
 induction n with
 | zero=>exact⟨fun _ _ _ _=>trivial,fun _ _ _ _=>trivial⟩
 | succ n ih=>
  rw [pSB]
  split
  ·exact⟨fun _ _ _ _=>trivial,fun _ _ _ _=>trivial⟩
  ·exact⟨statement_fwd (pXF_fwd n).1 ih.2,block_fwd ih.1 _⟩
theorem names_fwd (hd:Bool){T:List Tok}(hT:LastOver T)(n:Nat):∀i,i < T.length→Fwd T i (i+1)(pNames T hd n i):=by
 induction n with
 | zero=>intro i hi;trivial
 | succ n ih=>
  intro i hi
  rw [pNames]
  refine fwd_then (kind_fwd hT (by decide)hi)(fun _ j hj hl=>?_)
  split
  ·rename_i hs
   exact fwd_then ((ih (j+1)(isT_next hT hl hs)).mono (by omega)(Nat.le_refl _))(fun _ k hk hl=>fwd_got (by omega)hl)
  ·exact fwd_then ((need_fwd hT hl).mono (by omega)(Nat.le_refl _))(fun _ k hk hl=>fwd_got (by omega)hl)
theorem decls_fwd{T:List Tok}(hT:LastOver T)(f n:Nat):∀i,i < T.length→Fwd T i i (pDecls T f n i):=by
 induction n with
 | zero=>intro i hi;trivial
 | succ n ih=>
  intro i hi
  rw [pDecls]
  split
  ·rename_i hs
   have h1:i+1 < T.length:=by
    simp only [Bool.or_eq_true]at hs
    rcases hs with hs | hs <;> exact isT_next hT hi hs
   refine fwd_then ((names_fwd _ hT f (i+1)h1).mono (by omega)(Nat.le_refl _))(fun _ j hj hl=>?_)
   exact fwd_then ((ih j hl).mono (by omega)(Nat.le_refl _))(fun _ k hk hl=>fwd_got (by omega)hl)
  ·exact fwd_got (Nat.le_refl _)hi
theorem then_ne{α β:Type}{r:PR α}{f:α→Nat→PR β}(hr:r≠none)(hf:∀x j,r=some (.ok (x,j))→f x j≠none):andThen r f≠none:=by
 match r,hr with
 | none,hr=>exact absurd rfl hr
 | some (.error k),_=>intro h;cases h
 | some (.ok (x,j)),_=>exact hf x j rfl
theorem need_ne (T:List Tok)(s:ByteArray)(i:Nat):pNeed T s i≠none:=by
 obtain⟨r,e⟩:=need_some T s i
 rw [e];intro h;cases h
theorem kind_ne (T:List Tok)(k:Int)(i:Nat):pKind T k i≠none:=by
 obtain⟨r,e⟩:=kind_some T k i
 rw [e];intro h;cases h
theorem got_ne{α:Type}(x:α)(j:Nat):got x j≠none:=by intro h;cases h
theorem bad_ne{α:Type}(k:Nat):(bad k:PR α)≠none:=by intro h;cases h
def TotAt{α:Type}(P:List Tok→Nat→PR α)(T:List Tok)(a:Nat):Prop:=∀i,a≤i→i < T.length→P T i≠none
theorem fwd_lt{α:Type}{P:List Tok→Nat→PR α}(hF:FwdP P){T:List Tok}(hT:LastOver T){i j:Nat}{x:α}(hi:i < T.length)(h:P T i=some (.ok (x,j))):i < j∧j < T.length:=by
 have:=hF T i hT hi
 rw [h]at this
 exact⟨this.1,this.2⟩
theorem need_lt'{T:List Tok}(hT:LastOver T){s:ByteArray}{i j:Nat}{u:Unit}(hi:i < T.length)(h:pNeed T s i=some (.ok (u,j))):i < j∧j < T.length:=by
 have:=need_fwd (s:=s)hT hi
 rw [h]at this
 exact⟨this.1,this.2⟩
theorem kind_lt'{T:List Tok}(hT:LastOver T){k:Int}(hk:k≠4){i j:Nat}{u:Tok}(hi:i < T.length)(h:pKind T k i=some (.ok (u,j))):i < j∧j < T.length:=by
 have:=kind_fwd hT hk hi
 rw [h]at this
 exact⟨this.1,this.2⟩
section
variable{T:List Tok}{a:Nat}
theorem chain_tot{M:PE}(hT:LastOver T)(hF:FwdP M)(hM:TotAt M T a)(ops:List ByteArray)(f:Nat):∀e j,a≤j→j < T.length→T.length-j≤f→pChain M ops T f e j≠none:=by
 induction f with
 | zero=>intro e j _ hj hf;omega
 | succ f ih=>
  intro e j ha hj hf
  rw [pChain]
  split
  ·rename_i hany
   obtain⟨s,_,hs⟩:=List.any_eq_true.1 hany
   have h1:=isT_next hT hj hs
   refine then_ne (hM (j+1)(by omega)h1)(fun x k hx=>?_)
   have:=fwd_lt hF hT h1 hx
   exact ih _ k (by omega)this.2 (by omega)
  ·exact got_ne _ _
theorem level_tot{M:PE}(hT:LastOver T)(hF:FwdP M)(hM:TotAt M T a)(ops:List ByteArray){f:Nat}(hf:T.length-a≤f+1)(h0:f≠0):TotAt (pLevel M ops f)T a:=by
 intro i ha hi
 unfold pLevel
 rw [if_neg h0]
 refine then_ne (hM i ha hi)(fun x j hx=>?_)
 have:=fwd_lt hF hT hi hx
 exact chain_tot hT hF hM ops f _ j (by omega)this.2 (by omega)
theorem expr_tot{M:PE}(hT:LastOver T)(hF:FwdP M)(hM:TotAt M T a):TotAt (pExpr M)T a:=by
 intro i ha hi
 refine then_ne (hM i ha hi)(fun x j hx=>?_)
 have h0:=fwd_lt hF hT hi hx
 unfold pPair
 split
 ·rename_i hany
  obtain⟨s,_,hs⟩:=List.any_eq_true.1 hany
  exact then_ne (hM (j+1)(by omega)(isT_next hT h0.2 hs))(fun _ _ _=>got_ne _ _)
 ·exact got_ne _ _
theorem two_tot{X:PE}(hT:LastOver T)(hF:FwdP X)(hX:TotAt X T (a+1)){l r:ByteArray}{i:Nat}(ha:a≤i)(hi:i+1 < T.length):pTwo X l r T i≠none:=by
 unfold pTwo
 refine then_ne (need_ne _ _ _)(fun _ j h1=>?_)
 have e1:=need_lt' hT hi h1
 refine then_ne (hX j (by omega)e1.2)(fun _ j2 h2=>?_)
 have e2:=fwd_lt hF hT e1.2 h2
 refine then_ne (need_ne _ _ _)(fun _ j3 h3=>?_)
 have e3:=need_lt' hT e2.2 h3
 refine then_ne (hX j3 (by omega)e3.2)(fun _ j4 h4=>?_)
 exact then_ne (need_ne _ _ _)(fun _ _ _=>got_ne _ _)
theorem three_tot{X:PE}(hT:LastOver T)(hF:FwdP X)(hX:TotAt X T (a+1)){l r:ByteArray}{i:Nat}(ha:a≤i)(hi:i+1 < T.length):pThree X l r T i≠none:=by
 unfold pThree
 refine then_ne (need_ne _ _ _)(fun _ j h1=>?_)
 have e1:=need_lt' hT hi h1
 refine then_ne (hX j (by omega)e1.2)(fun _ j2 h2=>?_)
 have e2:=fwd_lt hF hT e1.2 h2
 refine then_ne (need_ne _ _ _)(fun _ j3 h3=>?_)
 have e3:=need_lt' hT e2.2 h3
 refine then_ne (hX j3 (by omega)e3.2)(fun _ j4 h4=>?_)
 have e4:=fwd_lt hF hT e3.2 h4
 refine then_ne (need_ne _ _ _)(fun _ j5 h5=>?_)
 have e5:=need_lt' hT e4.2 h5
 refine then_ne (hX j5 (by omega)e5.2)(fun _ j6 h6=>?_)
 exact then_ne (need_ne _ _ _)(fun _ _ _=>got_ne _ _)
theorem factor_tot{X F:PE}(hT:LastOver T)(hF:FwdP X)(hX:TotAt X T (a+1))(hX2:TotAt F T (a+1)):TotAt (pFactor X F)T a:=by
 intro i ha hi
 unfold pFactor
 split
 ·exact got_ne _ _
 split
 ·exact got_ne _ _
 split
 ·rename_i hs
  exact then_ne (hX (i+1)(by omega)(isT_next hT hi hs))(fun _ _ _=>then_ne (need_ne _ _ _)(fun _ _ _=>got_ne _ _))
 split
 ·rename_i hs
  exact then_ne (hX2 (i+1)(by omega)(isT_next hT hi hs))(fun _ _ _=>got_ne _ _)
 split
 ·rename_i hs;exact two_tot hT hF hX ha (isT_next hT hi hs)
 split
 ·rename_i hs;exact two_tot hT hF hX ha (isT_next hT hi hs)
 split
 ·rename_i hs;exact two_tot hT hF hX ha (isT_next hT hi hs)
 split
 ·rename_i hs;exact two_tot hT hF hX ha (isT_next hT hi hs)
 split
 ·rename_i hs;exact three_tot hT hF hX ha (isT_next hT hi hs)
 ·exact bad_ne _
theorem past{α:Type}{P:List Tok→Nat→PR α}(h:T.length≤a):TotAt P T a:=fun i hi hl=>by omega
theorem pXF_tot (hT:LastOver T)(n:Nat):∀a,T.length-a+2≤n→TotAt (pXF n).1 T a∧TotAt (pXF n).2 T a:=by
 induction n with
 | zero=>intro a h;omega
 | succ n ih=>
  intro a h
  by_cases hl:T.length≤a
  ·exact⟨past hl,past hl⟩
  have i1:=ih (a+1)(by omega)
  rw [pXF,if_neg (by omega)]
  have fw:=pXF_fwd n
  have f:=factor_tot (F:=(pXF n).2)hT fw.1 i1.1 i1.2
  have ff:=factor_fwd fw.1 fw.2
  have t:=level_tot hT ff f opsT (f:=n-1)(by omega)(by omega)
  have tf:=level_fwd ff opsT (n-1)
  have s:=level_tot hT tf t opsS (f:=n-1)(by omega)(by omega)
  exact⟨expr_tot hT (level_fwd tf opsS (n-1))s,f⟩
theorem statement_tot{X:PE}{B:PS}(hT:LastOver T)(hF:FwdP X)(hX:TotAt X T (a+1))(hFB:FwdP B)(hB:TotAt B T (a+1)):TotAt (pStatement X B)T a:=by
 intro i ha hi
 unfold pStatement
 split
 ·rename_i hk
  have e:(tkAt T i).kind=1:=by simpa using hk
  have h1:=next_lt hT hi (by rw [e];decide)
  unfold pAssign
  refine then_ne (need_ne _ _ _)(fun _ j e1=>?_)
  have e2:=need_lt' hT h1 e1
  exact then_ne (hX j (by omega)e2.2)(fun _ _ _=>then_ne (need_ne _ _ _)(fun _ _ _=>got_ne _ _))
 split
 ·rename_i hs
  have h1:=isT_next hT hi hs
  unfold pIf
  refine then_ne (hX (i+1)(by omega)h1)(fun _ j e1=>?_)
  have e2:=fwd_lt hF hT h1 e1
  refine then_ne (hB j (by omega)e2.2)(fun _ j2 e3=>?_)
  have e4:=fwd_lt hFB hT e2.2 e3
  unfold pElse
  split
  ·rename_i hs2
   exact then_ne (hB (j2+1)(by omega)(isT_next hT e4.2 hs2))(fun _ _ _=>got_ne _ _)
  ·exact got_ne _ _
 split
 ·rename_i hs
  have h1:=isT_next hT hi hs
  unfold pFor
  refine then_ne (kind_ne _ _ _)(fun _ j e1=>?_)
  have f1:=kind_lt' hT (by decide)h1 e1
  refine then_ne (kind_ne _ _ _)(fun _ j2 e2=>?_)
  have f2:=kind_lt' hT (by decide)f1.2 e2
  refine then_ne (need_ne _ _ _)(fun _ j3 e3=>?_)
  have f3:=need_lt' hT f2.2 e3
  refine then_ne (kind_ne _ _ _)(fun _ j4 e4=>?_)
  have f4:=kind_lt' hT (by decide)f3.2 e4
  exact then_ne (hB j4 (by omega)f4.2)(fun _ _ _=>got_ne _ _)
 have put:∀tag s,isT T i s=true→pPut X tag T i≠none:=fun tag s hs=>by
  unfold pPut
  exact then_ne (hX (i+1)(by omega)(isT_next hT hi hs))(fun _ _ _=>then_ne (need_ne _ _ _)(fun _ _ _=>got_ne _ _))
 split
 ·rename_i hs;exact put 3 _ hs
 split
 ·rename_i hs;exact put 4 _ hs
 ·exact bad_ne _
theorem items_tot{S:PS}(hT:LastOver T)(hF:FwdP S)(hS:TotAt S T a)(f:Nat):∀j,a≤j→j < T.length→T.length-j≤f→pItems S T f j≠none:=by
 induction f with
 | zero=>intro j _ hj hf;omega
 | succ f ih=>
  intro j ha hj hf
  rw [pItems]
  split
  ·exact got_ne _ _
  ·refine then_ne (hS j ha hj)(fun _ k hk=>?_)
   have:=fwd_lt hF hT hj hk
   exact then_ne (ih k (by omega)this.2 (by omega))(fun _ _ _=>got_ne _ _)
theorem pSB_tot (hT:LastOver T)(n:Nat):∀a,T.length-a+3≤n→TotAt (pSB n).1 T a∧TotAt (pSB n).2 T a:=by
 induction n with
 | zero=>intro a h;omega
 | succ n ih=>
  intro a h
  by_cases hl:T.length≤a
  ·exact⟨past hl,past hl⟩
  have i1:=ih (a+1)(by omega)
  rw [pSB,if_neg (by omega)]
  refine⟨statement_tot hT (pXF_fwd n).1 (pXF_tot hT n (a+1)(by omega)).1 (pSB_fwd n).2 i1.2,fun i ha hi=>?_⟩
  show pBlock (pSB n).1 (n-1)T i≠none
  unfold pBlock
  rw [if_neg (by omega)]
  refine then_ne (need_ne _ _ _)(fun _ j e1=>?_)
  have e2:=need_lt' hT hi e1
  exact items_tot hT (pSB_fwd n).1 i1.1 (n-1)j (by omega)e2.2 (by omega)
theorem names_tot (hT:LastOver T)(hd:Bool)(f:Nat):∀j,j < T.length→T.length-j≤f→pNames T hd f j≠none:=by
 induction f with
 | zero=>intro j hj hf;omega
 | succ f ih=>
  intro j hj hf
  rw [pNames]
  refine then_ne (kind_ne _ _ _)(fun _ k hk=>?_)
  have:=kind_lt' hT (by decide)hj hk
  split
  ·rename_i hs
   exact then_ne (ih (k+1)(isT_next hT this.2 hs)(by omega))(fun _ _ _=>got_ne _ _)
  ·exact then_ne (need_ne _ _ _)(fun _ _ _=>got_ne _ _)
theorem decls_tot (hT:LastOver T)(g f:Nat)(hg:T.length≤g):∀j,j < T.length→T.length-j≤f→pDecls T g f j≠none:=by
 induction f with
 | zero=>intro j hj hf;omega
 | succ f ih=>
  intro j hj hf
  rw [pDecls]
  split
  ·rename_i hs
   have h1:j+1 < T.length:=by
    simp only [Bool.or_eq_true]at hs
    rcases hs with hs | hs <;> exact isT_next hT hj hs
   refine then_ne (names_tot hT _ g (j+1)h1 (by omega))(fun _ k hk=>?_)
   have f1:=names_fwd (isT T j sHIDDEN)hT g (j+1)h1
   rw [hk]at f1
   have f2:j+1+1≤k:=f1.1
   exact then_ne (ih k f1.2 (by omega))(fun _ _ _=>got_ne _ _)
  ·exact got_ne _ _
theorem body_tot{S:PS}(hT:LastOver T)(hF:FwdP S)(hS:TotAt S T 0)(f:Nat):∀j,j < T.length→T.length-j≤f→pBody S T f j≠none:=by
 induction f with
 | zero=>intro j hj hf;omega
 | succ f ih=>
  intro j hj hf
  rw [pBody]
  split
  ·exact got_ne _ _
  ·refine then_ne (hS j (by omega)hj)(fun _ k hk=>?_)
   have:=fwd_lt hF hT hj hk
   exact then_ne (ih k this.2 (by omega))(fun _ _ _=>got_ne _ _)
theorem source_tot (hT:LastOver T){n:Nat}(hn:T.length+3≤n):∃r,pSource n T=some r:=by
 have:pSource n T≠none:=by
  unfold pSource
  refine then_ne (decls_tot hT n (n-1)(by omega) 0 hT.1 (by omega))(fun _ j hj=>?_)
  have f1:=decls_fwd hT n (n-1) 0 hT.1
  rw [hj]at f1
  exact then_ne (body_tot hT (pSB_fwd n).1 (pSB_tot hT n 0 (by omega)).1 (n-1)j f1.2 (by omega))(fun _ _ _=>got_ne _ _)
 cases h:pSource n T with
 | none=>exact absurd h this
 | some r=>exact⟨r,rfl⟩
end
end Go.Proofs.YthmmgiaobakilaaGreat
