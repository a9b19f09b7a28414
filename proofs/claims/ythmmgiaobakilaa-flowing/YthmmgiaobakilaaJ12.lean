import Derived.Test.YthmmgiaobakilaaJ02
/- Trees as the grammar makes them: no greater than what was read; all their tokens are the source's. -/
set_option maxRecDepth 100000
namespace Go.Proofs.Ythmmgiaobakilaa
open Go.RowKit Go.Deep

/-- All tokens of a tree. -/
def AllE (p : Tok → Prop) : Ex → Prop
  | .nil => True
  | .node _ _ t k r => p t ∧ AllE p k ∧ AllE p r
def AllS (p : Tok → Prop) : Sx → Prop
  | .nil => True
  | .node _ _ s k r => p s.t ∧ p s.a ∧ p s.b ∧ AllE p s.e ∧ AllS p k ∧ AllS p r
def szE : Ex → Nat
  | .nil => 0
  | .node _ _ _ k r => szE k + szE r + 1
def szS : Sx → Nat
  | .nil => 0
  | .node _ _ _ k r => szS k + szS r + 1
section
variable {T : List Tok} {p : Tok → Prop}
/-- An expression as it is read from i to j. -/
structure GdE (p : Tok → Prop) (e : Ex) (i j : Nat) : Prop where
  one : ∃ b o t k, e = .node b o t k .nil
  sz : szE e + i ≤ j
  all : AllE p e
def GdPE (T : List Tok) (p : Tok → Prop) (P : PE) : Prop := ∀ i e j, P T i = some (.ok (e, j)) → GdE p e i j
theorem need_ok {s : ByteArray} {i j : Nat} {u : Unit} (h : pNeed T s i = some (.ok (u, j))) : j = i + 1 := by
  unfold pNeed at h
  split at h
  · cases h; rfl
  · cases h
theorem kind_ok {k : Int} {i j : Nat} {t : Tok} (h : pKind T k i = some (.ok (t, j))) : j = i + 1 ∧ t = tkAt T i := by
  unfold pKind at h
  split at h
  · cases h; exact ⟨rfl, rfl⟩
  · cases h
theorem gd_leaf (hp : ∀ i, p (tkAt T i)) (i : Nat) : GdE p (leafE (tkAt T i)) i (i + 1) := ⟨⟨_, _, _, _, rfl⟩, by simp [leafE, szE]; omega, ⟨hp i, trivial, trivial⟩⟩
theorem szE_beside {a : Ex} (h : ∃ b o t k, a = .node b o t k .nil) (r : Ex) : szE (besideE a r) = szE a + szE r := by
  obtain ⟨b, o, t, k, rfl⟩ := h
  simp [besideE, szE]; omega
theorem allE_beside {a r : Ex} (ha : AllE p a) (hr : AllE p r) : AllE p (besideE a r) := by
  cases a with
  | nil => exact trivial
  | node b o t k r' => exact ⟨ha.1, ha.2.1, hr⟩
theorem gd_node2 (hp : ∀ i, p (tkAt T i)) {a b : Ex} {i j k l q : Nat} (h1 : GdE p a i j) (h2 : GdE p b (k) l) (hk : j + 1 ≤ k ∨ (i + 1 ≤ i)) : GdE p (node2 (tkAt T q) a b) i l := by
  refine ⟨⟨_, _, _, _, rfl⟩, ?_, ⟨hp q, allE_beside h1.all (allE_beside h2.all trivial), trivial⟩⟩
  have s1 := h1.sz
  have s2 := h2.sz
  simp only [node2, szE, szE_beside h1.one, szE_beside h2.one]
  omega
theorem gd_chain (hp : ∀ i, p (tkAt T i)) {M : PE} (hM : GdPE T p M) (ops : List ByteArray) : ∀ (n : Nat) (e : Ex) (i0 i : Nat) (r : Ex) (j : Nat), GdE p e i0 i → pChain M ops T n e i = some (.ok (r, j)) → GdE p r i0 j := by
  intro n
  induction n with
  | zero => intro e i0 i r j _ h; cases h
  | succ n ih =>
    intro e i0 i r j he h
    rw [pChain] at h
    split at h
    · obtain ⟨x, k, h1, h2⟩ := then_ok h
      exact ih _ i0 k r j (gd_node2 hp he (hM _ _ _ h1) (.inl (Nat.le_refl _))) h2
    · cases h; exact he
theorem gd_level (hp : ∀ i, p (tkAt T i)) {M : PE} (hM : GdPE T p M) (ops : List ByteArray) (n : Nat) : GdPE T p (pLevel M ops n) := by
  intro i e j h
  unfold pLevel at h
  split at h
  · cases h
  · obtain ⟨x, k, h1, h2⟩ := then_ok h
    exact gd_chain hp hM ops n x i k e j (hM _ _ _ h1) h2
theorem gd_expr (hp : ∀ i, p (tkAt T i)) {M : PE} (hM : GdPE T p M) : GdPE T p (pExpr M) := by
  intro i e j h
  obtain ⟨x, k, h1, h2⟩ := then_ok h
  unfold pPair at h2
  split at h2
  · obtain ⟨y, l, h3, h4⟩ := then_ok h2
    cases h4
    exact gd_node2 hp (hM _ _ _ h1) (hM _ _ _ h3) (.inl (Nat.le_refl _))
  · cases h2
    exact hM _ _ _ h1
theorem gd_two (hp : ∀ i, p (tkAt T i)) {X : PE} (hX : GdPE T p X) {l r : ByteArray} {i : Nat} {e : Ex} {j : Nat} (h : pTwo X l r T i = some (.ok (e, j))) : GdE p e i j := by
  unfold pTwo at h
  obtain ⟨_, j1, h1, h⟩ := then_ok h
  obtain ⟨a, j2, h2, h⟩ := then_ok h
  obtain ⟨_, j3, h3, h⟩ := then_ok h
  obtain ⟨b, j4, h4, h⟩ := then_ok h
  obtain ⟨_, j5, h5, h⟩ := then_ok h
  cases h
  have g1 := hX _ _ _ h2
  have g2 := hX _ _ _ h4
  have e1 := need_ok h1
  have e3 := need_ok h3
  have e5 := need_ok h5
  have s1 := g1.sz
  have s2 := g2.sz
  refine ⟨⟨_, _, _, _, rfl⟩, ?_, ⟨hp i, allE_beside g1.all (allE_beside g2.all trivial), trivial⟩⟩
  simp only [node2, szE, szE_beside g1.one, szE_beside g2.one]
  omega
theorem gd_three (hp : ∀ i, p (tkAt T i)) {X : PE} (hX : GdPE T p X) {l r : ByteArray} {i : Nat} {e : Ex} {j : Nat} (h : pThree X l r T i = some (.ok (e, j))) : GdE p e i j := by
  unfold pThree at h
  obtain ⟨_, j1, h1, h⟩ := then_ok h
  obtain ⟨a, j2, h2, h⟩ := then_ok h
  obtain ⟨_, j3, h3, h⟩ := then_ok h
  obtain ⟨b, j4, h4, h⟩ := then_ok h
  obtain ⟨_, j5, h5, h⟩ := then_ok h
  obtain ⟨c, j6, h6, h⟩ := then_ok h
  obtain ⟨_, j7, h7, h⟩ := then_ok h
  cases h
  have g1 := hX _ _ _ h2
  have g2 := hX _ _ _ h4
  have g3 := hX _ _ _ h6
  have e1 := need_ok h1
  have e3 := need_ok h3
  have e5 := need_ok h5
  have e7 := need_ok h7
  have s1 := g1.sz
  have s2 := g2.sz
  have s3 := g3.sz
  refine ⟨⟨_, _, _, _, rfl⟩, ?_, ⟨hp i, allE_beside g1.all (allE_beside g2.all (allE_beside g3.all trivial)), trivial⟩⟩
  simp only [node3, szE, szE_beside g1.one, szE_beside g2.one, szE_beside g3.one]
  omega
theorem gd_factor (hp : ∀ i, p (tkAt T i)) {X F : PE} (hX : GdPE T p X) (hF : GdPE T p F) : GdPE T p (pFactor X F) := by
  intro i e j h
  unfold pFactor at h
  split at h
  · cases h; exact gd_leaf hp i
  split at h
  · cases h; exact gd_leaf hp i
  split at h
  · obtain ⟨a, j2, h2, h⟩ := then_ok h
    obtain ⟨_, j3, h3, h⟩ := then_ok h
    cases h
    have g := hX _ _ _ h2
    have e3 := need_ok h3
    have s := g.sz
    exact ⟨g.one, by omega, g.all⟩
  split at h
  · obtain ⟨a, j2, h2, h⟩ := then_ok h
    cases h
    have g := hF _ _ _ h2
    have s := g.sz
    refine ⟨⟨_, _, _, _, rfl⟩, ?_, ⟨hp i, allE_beside g.all trivial, trivial⟩⟩
    simp only [node1, szE, szE_beside g.one]
    omega
  split at h
  · exact gd_two hp hX h
  split at h
  · exact gd_two hp hX h
  split at h
  · exact gd_two hp hX h
  split at h
  · exact gd_two hp hX h
  split at h
  · exact gd_three hp hX h
  · cases h
theorem gd_XF (hp : ∀ i, p (tkAt T i)) (n : Nat) : GdPE T p (pXF n).1 ∧ GdPE T p (pXF n).2 := by
  induction n with
  | zero => exact ⟨fun _ _ _ h => by (cases h), fun _ _ _ h => by (cases h)⟩
  | succ n ih =>
    rw [pXF]
    split
    · exact ⟨fun _ _ _ h => by (cases h), fun _ _ _ h => by (cases h)⟩
    have f := gd_factor hp ih.1 ih.2
    exact ⟨gd_expr hp (gd_level hp (gd_level hp f opsT _) opsS _), f⟩
/-- All expressions of a tree of statements are no greater than m. -/
def AllM (m : Nat) : Sx → Prop
  | .nil => True
  | .node _ _ s k r => szE s.e ≤ m ∧ AllM m k ∧ AllM m r
theorem AllM.mono {m m' : Nat} (h : m ≤ m') : ∀ {s : Sx}, AllM m s → AllM m' s
  | .nil, _ => trivial
  | .node _ _ _ _ _, ⟨a, b, c⟩ => ⟨Nat.le_trans a h, AllM.mono h b, AllM.mono h c⟩
structure GdS (p : Tok → Prop) (s : Sx) (i j : Nat) : Prop where
  sz : szS s + i ≤ j
  all : AllS p s
  exs : AllM j s
/-- One statement stands alone. -/
def One (s : Sx) : Prop := ∃ b o t k, s = .node b o t k .nil
def GdPS (T : List Tok) (p : Tok → Prop) (P : PS) : Prop := ∀ i s j, P T i = some (.ok (s, j)) → One s ∧ GdS p s i j
def GdPL (T : List Tok) (p : Tok → Prop) (P : PS) : Prop := ∀ i s j, P T i = some (.ok (s, j)) → GdS p s (i + 1) j
theorem szS_beside {a : Sx} (h : One a) (r : Sx) : szS (besideS a r) = szS a + szS r := by
  obtain ⟨b, o, t, k, rfl⟩ := h
  simp [besideS, szS]; omega
theorem allS_beside {a r : Sx} (ha : AllS p a) (hr : AllS p r) : AllS p (besideS a r) := by
  cases a with
  | nil => exact trivial
  | node b o t k r' => exact ⟨ha.1, ha.2.1, ha.2.2.1, ha.2.2.2.1, ha.2.2.2.2.1, hr⟩
theorem allM_beside {m : Nat} {a r : Sx} (ha : AllM m a) (hr : AllM m r) : AllM m (besideS a r) := by
  cases a with
  | nil => exact trivial
  | node b o t k r' => exact ⟨ha.1, ha.2.1, hr⟩
theorem gd_stm (hp : ∀ i, p (tkAt T i)) (h0 : p noTok) {X : PE} {B : PS} (hX : GdPE T p X) (hB : GdPL T p B) : GdPS T p (pStatement X B) := by
  intro i s j h
  unfold pStatement at h
  split at h
  · unfold pAssign at h
    obtain ⟨_, j1, h1, h⟩ := then_ok h
    obtain ⟨e, j2, h2, h⟩ := then_ok h
    obtain ⟨_, j3, h3, h⟩ := then_ok h
    cases h
    have e1 := need_ok h1
    have e3 := need_ok h3
    have g := hX _ _ _ h2
    have s2 := g.sz
    exact ⟨⟨_, _, _, _, rfl⟩, by simp [szS]; omega, ⟨hp i, h0, h0, g.all, trivial, trivial⟩, ⟨by show szE e ≤ j; omega, trivial, trivial⟩⟩
  split at h
  · unfold pIf at h
    obtain ⟨e, j1, h1, h⟩ := then_ok h
    obtain ⟨a, j2, h2, h⟩ := then_ok h
    have g := hX _ _ _ h1
    have s1 := g.sz
    have b1 := hB _ _ _ h2
    have z1 := b1.sz
    unfold pElse at h
    split at h
    · obtain ⟨u, j3, h3, h⟩ := then_ok h
      cases h
      have b2 := hB _ _ _ h3
      have z2 := b2.sz
      exact ⟨⟨_, _, _, _, rfl⟩, by simp [szS]; omega, ⟨hp i, h0, h0, g.all, ⟨h0, h0, h0, trivial, b1.all, b2.all⟩, trivial⟩, ⟨by show szE e ≤ j; omega, ⟨by show 0 ≤ j; omega, b1.exs.mono (by omega), b2.exs⟩, trivial⟩⟩
    · cases h
      exact ⟨⟨_, _, _, _, rfl⟩, by simp [szS]; omega, ⟨hp i, h0, h0, g.all, ⟨h0, h0, h0, trivial, b1.all, trivial⟩, trivial⟩, ⟨by show szE e ≤ j; omega, ⟨by show 0 ≤ j; omega, b1.exs, trivial⟩, trivial⟩⟩
  split at h
  · unfold pFor at h
    obtain ⟨n, j1, h1, h⟩ := then_ok h
    obtain ⟨a, j2, h2, h⟩ := then_ok h
    obtain ⟨_, j3, h3, h⟩ := then_ok h
    obtain ⟨b, j4, h4, h⟩ := then_ok h
    obtain ⟨q, j5, h5, h⟩ := then_ok h
    cases h
    obtain ⟨e1, rfl⟩ := kind_ok h1
    obtain ⟨e2, rfl⟩ := kind_ok h2
    have e3 := need_ok h3
    obtain ⟨e4, rfl⟩ := kind_ok h4
    have b1 := hB _ _ _ h5
    have z1 := b1.sz
    exact ⟨⟨_, _, _, _, rfl⟩, by simp [szS]; omega, ⟨hp _, hp _, hp _, trivial, b1.all, trivial⟩, ⟨by show 0 ≤ j; omega, b1.exs, trivial⟩⟩
  have put : ∀ tag, pPut X tag T i = some (.ok (s, j)) → One s ∧ GdS p s i j := fun tag h => by
    unfold pPut at h
    obtain ⟨e, j2, h2, h⟩ := then_ok h
    obtain ⟨_, j3, h3, h⟩ := then_ok h
    cases h
    have e3 := need_ok h3
    have g := hX _ _ _ h2
    have s2 := g.sz
    exact ⟨⟨_, _, _, _, rfl⟩, by simp [szS]; omega, ⟨hp i, h0, h0, g.all, trivial, trivial⟩, ⟨by show szE e ≤ j; omega, trivial, trivial⟩⟩
  split at h
  · exact put 3 h
  split at h
  · exact put 4 h
  · cases h
theorem gd_items {S : PS} (hS : GdPS T p S) : ∀ (n i : Nat) (s : Sx) (j : Nat), pItems S T n i = some (.ok (s, j)) → GdS p s (i + 1) j := by
  intro n
  induction n with
  | zero => intro i s j h; cases h
  | succ n ih =>
    intro i s j h
    rw [pItems] at h
    split at h
    · cases h; exact ⟨by simp [szS], trivial, trivial⟩
    · obtain ⟨a, j1, h1, h⟩ := then_ok h
      obtain ⟨r, j2, h2, h⟩ := then_ok h
      cases h
      obtain ⟨o1, s1⟩ := hS _ _ _ h1
      have g := ih _ _ _ h2
      have z1 := s1.sz
      have z2 := g.sz
      exact ⟨by rw [szS_beside o1]; omega, allS_beside s1.all g.all, allM_beside (s1.exs.mono (by omega)) g.exs⟩
theorem gd_body {S : PS} (hS : GdPS T p S) : ∀ (n i : Nat) (s : Sx) (j : Nat), pBody S T n i = some (.ok (s, j)) → GdS p s i j := by
  intro n
  induction n with
  | zero => intro i s j h; cases h
  | succ n ih =>
    intro i s j h
    rw [pBody] at h
    split at h
    · cases h; exact ⟨by simp [szS], trivial, trivial⟩
    · obtain ⟨a, j1, h1, h⟩ := then_ok h
      obtain ⟨r, j2, h2, h⟩ := then_ok h
      cases h
      obtain ⟨o1, s1⟩ := hS _ _ _ h1
      have g := ih _ _ _ h2
      have z1 := s1.sz
      have z2 := g.sz
      exact ⟨by rw [szS_beside o1]; omega, allS_beside s1.all g.all, allM_beside (s1.exs.mono (by omega)) g.exs⟩
theorem gd_SB (hp : ∀ i, p (tkAt T i)) (h0 : p noTok) : ∀ n, GdPS T p (pSB n).1 ∧ GdPL T p (pSB n).2 := by
  intro n
  induction n with
  | zero => exact ⟨fun _ _ _ h => by (cases h), fun _ _ _ h => by (cases h)⟩
  | succ n ih =>
    rw [pSB]
    split
    · exact ⟨fun _ _ _ h => by (cases h), fun _ _ _ h => by (cases h)⟩
    refine ⟨gd_stm hp h0 (gd_XF hp n).1 ih.2, ?_⟩
    intro i s j h
    dsimp only at h
    unfold pBlock at h
    split at h
    · cases h
    obtain ⟨_, j1, h1, h⟩ := then_ok h
    have e1 := need_ok h1
    have g := gd_items ih.1 _ _ _ _ h
    have z := g.sz
    exact ⟨by omega, g.all, g.exs⟩
theorem gd_names (hp : ∀ i, p (tkAt T i)) (hd : Bool) : ∀ (n i : Nat) (l : List (Tok × Bool)) (j : Nat), pNames T hd n i = some (.ok (l, j)) → l.length + i ≤ j ∧ ∀ d ∈ l, p d.1 := by
  intro n
  induction n with
  | zero => intro i l j h; cases h
  | succ n ih =>
    intro i l j h
    rw [pNames] at h
    obtain ⟨t, j1, h1, h⟩ := then_ok h
    obtain ⟨e1, rfl⟩ := kind_ok h1
    split at h
    · obtain ⟨l2, j2, h2, h⟩ := then_ok h
      cases h
      obtain ⟨a, b⟩ := ih _ _ _ h2
      refine ⟨by simp; omega, fun d hd => ?_⟩
      rcases List.mem_cons.1 hd with rfl | hd
      · exact hp i
      · exact b d hd
    · obtain ⟨_, j2, h2, h⟩ := then_ok h
      cases h
      have e2 := need_ok h2
      refine ⟨by simp; omega, fun d hd => ?_⟩
      simp at hd
      subst hd
      exact hp i
theorem gd_decls (hp : ∀ i, p (tkAt T i)) (f : Nat) : ∀ (n i : Nat) (l : List (Tok × Bool)) (j : Nat), pDecls T f n i = some (.ok (l, j)) → l.length + i ≤ j ∧ ∀ d ∈ l, p d.1 := by
  intro n
  induction n with
  | zero => intro i l j h; cases h
  | succ n ih =>
    intro i l j h
    rw [pDecls] at h
    split at h
    · obtain ⟨l1, j1, h1, h⟩ := then_ok h
      obtain ⟨l2, j2, h2, h⟩ := then_ok h
      cases h
      obtain ⟨a, b⟩ := gd_names hp _ _ _ _ _ h1
      obtain ⟨c, d⟩ := ih _ _ _ h2
      refine ⟨by simp; omega, fun x hx => ?_⟩
      rcases List.mem_append.1 hx with hx | hx
      · exact b x hx
      · exact d x hx
    · cases h; exact ⟨by simp, fun d hd => by cases hd⟩
/-- A source's tree. -/
theorem gd_source (hp : ∀ i, p (tkAt T i)) (h0 : p noTok) {n : Nat} {ds : List (Tok × Bool)} {s : Sx} {j : Nat} (h : pSource n T = some (.ok ((ds, s), j))) : ds.length + szS s ≤ j ∧ (∀ d ∈ ds, p d.1) ∧ AllS p s ∧ AllM j s := by
  unfold pSource at h
  obtain ⟨l, j1, h1, h⟩ := then_ok h
  obtain ⟨s', j2, h2, h⟩ := then_ok h
  cases h
  obtain ⟨a, b⟩ := gd_decls hp _ _ _ _ _ h1
  have g := gd_body (gd_SB hp h0 n).1 _ _ _ _ h2
  have z := g.sz
  exact ⟨by omega, b, g.all, g.exs⟩
end

end Go.Proofs.Ythmmgiaobakilaa

/- The tokens of a tree at which something may be wrong, in their order: places grow; the shapes of statements. -/
set_option maxRecDepth 100000
namespace Go.Proofs.Ythmmgiaobakilaa
open Go.RowKit Go.Deep

/-- A name, peek or spy. -/
def fa (t : Tok) : Bool := (t.kind == 1) || ((t.kind == 0) && ((t.text.toList == sPEEK.toList) || (t.text.toList == sSPY.toList)))
def hdL (t : Tok) : List Tok := if fa t then [t] else []
def preE : Ex → List Tok
  | .nil => []
  | .node _ _ t k r => hdL t ++ (preE k ++ preE r)
def pre1 : Ex → List Tok
  | .nil => []
  | .node _ _ t k _ => hdL t ++ preE k
def hdP (p : SP) : List Tok := if p.tag = 5 then [] else if p.tag = 2 then [p.t, p.a] else [p.t]
def ordS : Sx → List Tok
  | .nil => []
  | .node _ _ p k r => hdP p ++ (pre1 p.e ++ (ordS k ++ ordS r))
/-- Tokens of a source from i to j, in their order. -/
def Seg (T : List Tok) (i j : Nat) (l : List Tok) : Prop := ∃ xs : List Nat, l = xs.map (tkAt T) ∧ xs.Pairwise (· < ·) ∧ ∀ x ∈ xs, i ≤ x ∧ x < j
section
variable {T : List Tok}
theorem Seg.nil (i j : Nat) : Seg T i j [] := ⟨[], rfl, List.Pairwise.nil, fun _ h => by cases h⟩
theorem Seg.one (i : Nat) : Seg T i (i + 1) [tkAt T i] := ⟨[i], rfl, List.pairwise_singleton _ _, fun x h => by simp at h; omega⟩
theorem Seg.mono {i j i' j' : Nat} {l : List Tok} (h : Seg T i j l) (h1 : i' ≤ i) (h2 : j ≤ j') : Seg T i' j' l := by
  obtain ⟨xs, e, p, b⟩ := h
  exact ⟨xs, e, p, fun x hx => by have := b x hx; omega⟩
theorem Seg.app {i j k m : Nat} {l l' : List Tok} (h : Seg T i j l) (h' : Seg T k m l') (hk : j ≤ k) (hi : i ≤ k) (hm : j ≤ m) : Seg T i m (l ++ l') := by
  obtain ⟨xs, e, p, b⟩ := h
  obtain ⟨ys, e', p', b'⟩ := h'
  refine ⟨xs ++ ys, by rw [e, e', List.map_append], List.pairwise_append.2 ⟨p, p', fun x hx y hy => ?_⟩, fun x hx => ?_⟩
  · have := b x hx
    have := b' y hy
    omega
  · rcases List.mem_append.1 hx with hx | hx
    · have := b x hx; omega
    · have := b' x hx; omega
theorem Seg.hd (i : Nat) : Seg T i (i + 1) (hdL (tkAt T i)) := by
  unfold hdL
  split
  · exact Seg.one i
  · exact Seg.nil _ _
theorem pre_beside {a : Ex} (r : Ex) (h : ∃ b o t k, a = .node b o t k .nil) : preE (besideE a r) = pre1 a ++ preE r := by
  obtain ⟨b, o, t, k, rfl⟩ := h
  simp [besideE, preE, pre1]
/-- As it is read from i to j. -/
structure OdE (T : List Tok) (e : Ex) (i j : Nat) : Prop where
  one : ∃ b o t k, e = .node b o t k .nil
  lt : i < j
  seg : Seg T i j (pre1 e)
def OdP (T : List Tok) (P : PE) : Prop := ∀ i e j, P T i = some (.ok (e, j)) → OdE T e i j
theorem isT_fa {i : Nat} {s : ByteArray} (h : isT T i s = true) (h1 : (s.toList == sPEEK.toList) = false) (h2 : (s.toList == sSPY.toList) = false) : fa (tkAt T i) = false := by
  unfold isT at h
  simp only [Bool.and_eq_true, Bool.or_eq_true, beq_iff_eq] at h
  unfold fa
  rw [h.2, h1, h2]
  rcases h.1 with e | e <;> rw [e] <;> rfl
theorem od_two {a b : Ex} {i j k m q : Nat} (hq : fa (tkAt T q) = false) (h1 : OdE T a i j) (h2 : OdE T b k m) (hk : j ≤ k) : OdE T (node2 (tkAt T q) a b) i m := by
  have l1 := h1.lt
  have l2 := h2.lt
  refine ⟨⟨_, _, _, _, rfl⟩, by omega, ?_⟩
  show Seg T i m (hdL (tkAt T q) ++ preE (besideE a (besideE b .nil)))
  rw [pre_beside _ h1.one, pre_beside _ h2.one]
  have e : hdL (tkAt T q) = [] := by unfold hdL; rw [hq]; rfl
  rw [e]
  simp only [preE, List.append_nil, List.nil_append]
  exact h1.seg.app h2.seg hk (by omega) (by omega)
theorem ops_fa {ops : List ByteArray} (ho : ∀ s ∈ ops, (s.toList == sPEEK.toList) = false ∧ (s.toList == sSPY.toList) = false) {i : Nat} (h : ops.any (isT T i) = true) : fa (tkAt T i) = false := by
  obtain ⟨s, hs, hi⟩ := List.any_eq_true.1 h
  exact isT_fa hi (ho s hs).1 (ho s hs).2
theorem od_chain {M : PE} (hM : OdP T M) {ops : List ByteArray} (ho : ∀ s ∈ ops, (s.toList == sPEEK.toList) = false ∧ (s.toList == sSPY.toList) = false) : ∀ (n : Nat) (e : Ex) (i0 i : Nat) (r : Ex) (j : Nat), OdE T e i0 i → pChain M ops T n e i = some (.ok (r, j)) → OdE T r i0 j := by
  intro n
  induction n with
  | zero => intro e i0 i r j _ h; cases h
  | succ n ih =>
    intro e i0 i r j he h
    rw [pChain] at h
    split at h
    · rename_i ha
      obtain ⟨x, k, h1, h2⟩ := then_ok h
      exact ih _ i0 k r j (od_two (ops_fa ho ha) he (hM _ _ _ h1) (by omega)) h2
    · cases h; exact he
theorem od_level {M : PE} (hM : OdP T M) {ops : List ByteArray} (ho : ∀ s ∈ ops, (s.toList == sPEEK.toList) = false ∧ (s.toList == sSPY.toList) = false) (n : Nat) : OdP T (pLevel M ops n) := by
  intro i e j h
  unfold pLevel at h
  split at h
  · cases h
  · obtain ⟨x, k, h1, h2⟩ := then_ok h
    exact od_chain hM ho n x i k e j (hM _ _ _ h1) h2
theorem opsT_fa : ∀ s ∈ opsT, (s.toList == sPEEK.toList) = false ∧ (s.toList == sSPY.toList) = false := by
  simp only [ByteArray.toList_eq]; decide
theorem opsS_fa : ∀ s ∈ opsS, (s.toList == sPEEK.toList) = false ∧ (s.toList == sSPY.toList) = false := by
  simp only [ByteArray.toList_eq]; decide
theorem opsE_fa : ∀ s ∈ opsE, (s.toList == sPEEK.toList) = false ∧ (s.toList == sSPY.toList) = false := by
  simp only [ByteArray.toList_eq]; decide
theorem od_expr {M : PE} (hM : OdP T M) : OdP T (pExpr M) := by
  intro i e j h
  obtain ⟨x, k, h1, h2⟩ := then_ok h
  unfold pPair at h2
  split at h2
  · rename_i ha
    obtain ⟨y, l, h3, h4⟩ := then_ok h2
    cases h4
    exact od_two (ops_fa opsE_fa ha) (hM _ _ _ h1) (hM _ _ _ h3) (by omega)
  · cases h2
    exact hM _ _ _ h1
theorem od_call2 {X : PE} (hX : OdP T X) {l r : ByteArray} {i : Nat} {e : Ex} {j : Nat} (h : pTwo X l r T i = some (.ok (e, j))) : OdE T e i j := by
  unfold pTwo at h
  obtain ⟨_, j1, h1, h⟩ := then_ok h
  obtain ⟨a, j2, h2, h⟩ := then_ok h
  obtain ⟨_, j3, h3, h⟩ := then_ok h
  obtain ⟨b, j4, h4, h⟩ := then_ok h
  obtain ⟨_, j5, h5, h⟩ := then_ok h
  cases h
  have g1 := hX _ _ _ h2
  have g2 := hX _ _ _ h4
  have e1 := need_ok h1
  have e3 := need_ok h3
  have e5 := need_ok h5
  have s1 := g1.lt
  have s2 := g2.lt
  refine ⟨⟨_, _, _, _, rfl⟩, by omega, ?_⟩
  show Seg T i j (hdL (tkAt T i) ++ preE (besideE a (besideE b .nil)))
  rw [pre_beside _ g1.one, pre_beside _ g2.one]
  simp only [preE, List.append_nil]
  exact (Seg.hd i).app (g1.seg.app (g2.seg.mono (Nat.le_refl _) (by omega : j4 ≤ j)) (by omega) (by omega) (by omega)) (by omega) (by omega) (by omega)
theorem od_call3 {X : PE} (hX : OdP T X) {l r : ByteArray} {i : Nat} {e : Ex} {j : Nat} (h : pThree X l r T i = some (.ok (e, j))) : OdE T e i j := by
  unfold pThree at h
  obtain ⟨_, j1, h1, h⟩ := then_ok h
  obtain ⟨a, j2, h2, h⟩ := then_ok h
  obtain ⟨_, j3, h3, h⟩ := then_ok h
  obtain ⟨b, j4, h4, h⟩ := then_ok h
  obtain ⟨_, j5, h5, h⟩ := then_ok h
  obtain ⟨c, j6, h6, h⟩ := then_ok h
  obtain ⟨_, j7, h7, h⟩ := then_ok h
  cases h
  have g1 := hX _ _ _ h2
  have g2 := hX _ _ _ h4
  have g3 := hX _ _ _ h6
  have e1 := need_ok h1
  have e3 := need_ok h3
  have e5 := need_ok h5
  have e7 := need_ok h7
  have s1 := g1.lt
  have s2 := g2.lt
  have s3 := g3.lt
  refine ⟨⟨_, _, _, _, rfl⟩, by omega, ?_⟩
  show Seg T i j (hdL (tkAt T i) ++ preE (besideE a (besideE b (besideE c .nil))))
  rw [pre_beside _ g1.one, pre_beside _ g2.one, pre_beside _ g3.one]
  simp only [preE, List.append_nil]
  exact (Seg.hd i).app (g1.seg.app (g2.seg.app (g3.seg.mono (Nat.le_refl _) (by omega : j6 ≤ j)) (by omega) (by omega) (by omega)) (by omega) (by omega) (by omega)) (by omega) (by omega) (by omega)
theorem od_factor {X F : PE} (hX : OdP T X) (hF : OdP T F) : OdP T (pFactor X F) := by
  intro i e j h
  have leaf : OdE T (leafE (tkAt T i)) i (i + 1) := ⟨⟨_, _, _, _, rfl⟩, by omega, by
    show Seg T i (i + 1) (hdL (tkAt T i) ++ preE .nil)
    rw [preE, List.append_nil]
    exact Seg.hd i⟩
  unfold pFactor at h
  split at h
  · cases h; exact leaf
  split at h
  · cases h; exact leaf
  split at h
  · obtain ⟨a, j2, h2, h⟩ := then_ok h
    obtain ⟨_, j3, h3, h⟩ := then_ok h
    cases h
    have g := hX _ _ _ h2
    have e3 := need_ok h3
    have s := g.lt
    exact ⟨g.one, by omega, g.seg.mono (by omega) (by omega)⟩
  split at h
  · rename_i hs
    obtain ⟨a, j2, h2, h⟩ := then_ok h
    cases h
    have g := hF _ _ _ h2
    have s := g.lt
    refine ⟨⟨_, _, _, _, rfl⟩, by omega, ?_⟩
    show Seg T i j (hdL (tkAt T i) ++ preE (besideE a .nil))
    rw [pre_beside _ g.one]
    simp only [preE, List.append_nil]
    exact (Seg.hd i).app g.seg (by omega) (by omega) (by omega)
  split at h
  · exact od_call2 hX h
  split at h
  · exact od_call2 hX h
  split at h
  · exact od_call2 hX h
  split at h
  · exact od_call2 hX h
  split at h
  · exact od_call3 hX h
  · cases h
theorem od_XF (n : Nat) : OdP T (pXF n).1 ∧ OdP T (pXF n).2 := by
  induction n with
  | zero => exact ⟨fun _ _ _ h => by (cases h), fun _ _ _ h => by (cases h)⟩
  | succ n ih =>
    rw [pXF]
    split
    · exact ⟨fun _ _ _ h => by (cases h), fun _ _ _ h => by (cases h)⟩
    have f := od_factor ih.1 ih.2
    exact ⟨od_expr (od_level (od_level f opsT_fa _) opsS_fa _), f⟩

/-- The shapes of statements. -/
def ShS (X : Ex → Prop) : Sx → Prop
  | .nil => True
  | .node _ _ p k r => ShS X r ∧ ((p.tag = 0 ∧ p.t.kind = 1 ∧ X p.e ∧ k = .nil) ∨ (p.tag = 1 ∧ X p.e ∧ (match k with
    | .nil => False
    | .node _ _ q s u => q.tag = 5 ∧ q.e = .nil ∧ ShS X s ∧ ShS X u)) ∨ (p.tag = 2 ∧ p.t.kind = 1 ∧ p.a.kind = 2 ∧ p.b.kind = 2 ∧ p.e = .nil ∧ ShS X k) ∨ (p.tag = 3 ∧ p.t.kind = 0 ∧ (p.t.text.toList == sHIDE.toList) = false ∧ X p.e ∧ k = .nil) ∨ (p.tag = 4 ∧ p.t.kind = 0 ∧ (p.t.text.toList == sHIDE.toList) = true ∧ X p.e ∧ k = .nil))
structure OdS (T : List Tok) (X : Ex → Prop) (s : Sx) (i j : Nat) : Prop where
  le : i ≤ j
  seg : Seg T i j (ordS s)
  sh : ShS X s
def OdPS (T : List Tok) (X : Ex → Prop) (P : PS) : Prop := ∀ i s j, P T i = some (.ok (s, j)) → One s ∧ i < j ∧ OdS T X s i j
def OdPL (T : List Tok) (X : Ex → Prop) (P : PS) : Prop := ∀ i s j, P T i = some (.ok (s, j)) → i < j ∧ OdS T X s i j
theorem ordS_beside {a : Sx} (r : Sx) (h : One a) : ordS (besideS a r) = ordS a ++ ordS r := by
  obtain ⟨b, o, t, k, rfl⟩ := h
  simp [besideS, ordS]
theorem shS_beside {X : Ex → Prop} {a r : Sx} (ha : ShS X a) (hr : ShS X r) : ShS X (besideS a r) := by
  cases a with
  | nil => exact trivial
  | node b o t k r' =>
    unfold ShS at ha
    show ShS X (.node b o t k r)
    unfold ShS
    exact ⟨hr, ha.2⟩
theorem kind_ok2 {k : Int} {i j : Nat} {t : Tok} (h : pKind T k i = some (.ok (t, j))) : (tkAt T i).kind = k := by
  unfold pKind at h
  split at h
  · rename_i hs; simpa using hs
  · cases h
theorem isT_key {i : Nat} {s : ByteArray} (h : isT T i s = true) : (tkAt T i).text.toList = s.toList := by
  unfold isT at h
  simp only [Bool.and_eq_true, beq_iff_eq] at h
  exact h.2
theorem od_stm {X : Ex → Prop} {P : PE} {B : PS} (hX : ∀ i e j, P T i = some (.ok (e, j)) → X e) (hk : ∀ i s, isT T i s = true → s = sOUT ∨ s = sHIDE → (tkAt T i).kind = 0) (hP : OdP T P) (hB : OdPL T X B) : OdPS T X (pStatement P B) := by
  intro i s j h
  unfold pStatement at h
  split at h
  · rename_i hs
    unfold pAssign at h
    obtain ⟨_, j1, h1, h⟩ := then_ok h
    obtain ⟨e, j2, h2, h⟩ := then_ok h
    obtain ⟨_, j3, h3, h⟩ := then_ok h
    cases h
    have e1 := need_ok h1
    have e3 := need_ok h3
    have g := hP _ _ _ h2
    have s2 := g.lt
    refine ⟨⟨_, _, _, _, rfl⟩, by omega, by omega, ?_, by unfold ShS; exact ⟨trivial, .inl ⟨rfl, by simpa using hs, hX _ _ _ h2, rfl⟩⟩⟩
    show Seg T i j ([tkAt T i] ++ (pre1 e ++ (ordS .nil ++ ordS .nil)))
    simp only [ordS, List.append_nil]
    exact (Seg.one i).app (g.seg.mono (Nat.le_refl _) (by omega)) (by omega) (by omega) (by omega)
  split at h
  · unfold pIf at h
    obtain ⟨e, j1, h1, h⟩ := then_ok h
    obtain ⟨a, j2, h2, h⟩ := then_ok h
    have g := hP _ _ _ h1
    have s1 := g.lt
    obtain ⟨l2, b1⟩ := hB _ _ _ h2
    unfold pElse at h
    split at h
    · obtain ⟨u, j3, h3, h⟩ := then_ok h
      cases h
      obtain ⟨l3, b2⟩ := hB _ _ _ h3
      refine ⟨⟨_, _, _, _, rfl⟩, by omega, by omega, ?_, by unfold ShS; exact ⟨trivial, .inr (.inl ⟨rfl, hX _ _ _ h1, rfl, rfl, b1.sh, b2.sh⟩)⟩⟩
      show Seg T i j ([tkAt T i] ++ (pre1 e ++ (([] ++ ([] ++ (ordS a ++ ordS u))) ++ ordS .nil)))
      simp only [ordS, List.append_nil, List.nil_append]
      exact (Seg.one i).app (g.seg.app (b1.seg.app b2.seg (by omega) (by omega) (by omega)) (by omega) (by omega) (by omega)) (by omega) (by omega) (by omega)
    · cases h
      refine ⟨⟨_, _, _, _, rfl⟩, by omega, by omega, ?_, by unfold ShS; exact ⟨trivial, .inr (.inl ⟨rfl, hX _ _ _ h1, rfl, rfl, b1.sh, trivial⟩)⟩⟩
      show Seg T i j ([tkAt T i] ++ (pre1 e ++ (([] ++ ([] ++ (ordS a ++ ordS .nil))) ++ ordS .nil)))
      simp only [ordS, List.append_nil, List.nil_append]
      exact (Seg.one i).app (g.seg.app b1.seg (by omega) (by omega) (by omega)) (by omega) (by omega) (by omega)
  split at h
  · unfold pFor at h
    obtain ⟨n, j1, h1, h⟩ := then_ok h
    obtain ⟨a, j2, h2, h⟩ := then_ok h
    obtain ⟨_, j3, h3, h⟩ := then_ok h
    obtain ⟨b, j4, h4, h⟩ := then_ok h
    obtain ⟨q, j5, h5, h⟩ := then_ok h
    cases h
    have k1 := kind_ok2 h1
    have k2 := kind_ok2 h2
    have k4 := kind_ok2 h4
    obtain ⟨e1, rfl⟩ := kind_ok h1
    obtain ⟨e2, rfl⟩ := kind_ok h2
    have e3 := need_ok h3
    obtain ⟨e4, rfl⟩ := kind_ok h4
    obtain ⟨l5, b1⟩ := hB _ _ _ h5
    refine ⟨⟨_, _, _, _, rfl⟩, by omega, by omega, ?_, by unfold ShS; exact ⟨trivial, .inr (.inr (.inl ⟨rfl, k1, k2, k4, rfl, b1.sh⟩))⟩⟩
    show Seg T i j ([tkAt T (i + 1), tkAt T j1] ++ ([] ++ (ordS q ++ ordS .nil)))
    simp only [ordS, List.append_nil, List.nil_append]
    have o : Seg T (i + 1) (j1 + 1) ([tkAt T (i + 1)] ++ [tkAt T j1]) := (Seg.one (i + 1)).app (Seg.one j1) (by omega) (by omega) (by omega)
    exact (o.mono (i' := i) (j' := j4) (by omega) (by omega)).app b1.seg (Nat.le_refl _) (by omega) (by omega)
  have put : ∀ tag, (tag = 3 ∧ (tkAt T i).kind = 0 ∧ ((tkAt T i).text.toList == sHIDE.toList) = false) ∨ (tag = 4 ∧ (tkAt T i).kind = 0 ∧ ((tkAt T i).text.toList == sHIDE.toList) = true) → pPut P tag T i = some (.ok (s, j)) → One s ∧ i < j ∧ OdS T X s i j := fun tag ht h => by
    unfold pPut at h
    obtain ⟨e, j2, h2, h⟩ := then_ok h
    obtain ⟨_, j3, h3, h⟩ := then_ok h
    cases h
    have e3 := need_ok h3
    have g := hP _ _ _ h2
    have s2 := g.lt
    have hx := hX _ _ _ h2
    refine ⟨⟨_, _, _, _, rfl⟩, by omega, by omega, ?_, ?_⟩
    · have eh : hdP ⟨tag, tkAt T i, noTok, noTok, e⟩ = [tkAt T i] := by
        unfold hdP
        rw [if_neg (by show ¬ tag = 5; omega), if_neg (by show ¬ tag = 2; omega)]
      show Seg T i j (hdP _ ++ (pre1 e ++ (ordS .nil ++ ordS .nil)))
      rw [eh]
      simp only [ordS, List.append_nil]
      exact (Seg.one i).app (g.seg.mono (Nat.le_refl _) (by omega)) (by omega) (by omega) (by omega)
    · unfold ShS
      refine ⟨trivial, ?_⟩
      rcases ht with ⟨a, b, c⟩ | ⟨a, b, c⟩
      · exact .inr (.inr (.inr (.inl ⟨a, b, c, hx, rfl⟩)))
      · exact .inr (.inr (.inr (.inr ⟨a, b, c, hx, rfl⟩)))
  split at h
  · rename_i hs
    refine put 3 (.inl ⟨rfl, hk i _ hs (.inl rfl), ?_⟩) h
    rw [isT_key hs]
    simp only [ByteArray.toList_eq]; decide
  split at h
  · rename_i hs
    refine put 4 (.inr ⟨rfl, hk i _ hs (.inr rfl), ?_⟩) h
    rw [isT_key hs]
    simp
  · cases h
theorem od_items {X : Ex → Prop} {S : PS} (hS : OdPS T X S) : ∀ (n i : Nat) (s : Sx) (j : Nat), pItems S T n i = some (.ok (s, j)) → i < j ∧ OdS T X s i j := by
  intro n
  induction n with
  | zero => intro i s j h; cases h
  | succ n ih =>
    intro i s j h
    rw [pItems] at h
    split at h
    · cases h; exact ⟨by omega, by omega, Seg.nil _ _, trivial⟩
    · obtain ⟨a, j1, h1, h⟩ := then_ok h
      obtain ⟨r, j2, h2, h⟩ := then_ok h
      cases h
      obtain ⟨o1, l1, s1⟩ := hS _ _ _ h1
      obtain ⟨l2, g⟩ := ih _ _ _ h2
      exact ⟨by omega, by omega, by rw [ordS_beside _ o1]; exact s1.seg.app g.seg (by omega) (by omega) (by omega), shS_beside s1.sh g.sh⟩
theorem od_body {X : Ex → Prop} {S : PS} (hS : OdPS T X S) : ∀ (n i : Nat) (s : Sx) (j : Nat), pBody S T n i = some (.ok (s, j)) → OdS T X s i j := by
  intro n
  induction n with
  | zero => intro i s j h; cases h
  | succ n ih =>
    intro i s j h
    rw [pBody] at h
    split at h
    · cases h; exact ⟨by omega, Seg.nil _ _, trivial⟩
    · obtain ⟨a, j1, h1, h⟩ := then_ok h
      obtain ⟨r, j2, h2, h⟩ := then_ok h
      cases h
      obtain ⟨o1, l1, s1⟩ := hS _ _ _ h1
      have g := ih _ _ _ h2
      have l2 := g.le
      exact ⟨by omega, by rw [ordS_beside _ o1]; exact s1.seg.app g.seg (by omega) (by omega) (by omega), shS_beside s1.sh g.sh⟩
theorem od_SB {X : Ex → Prop} (hX : ∀ n i e j, (pXF n).1 T i = some (.ok (e, j)) → X e) (hk : ∀ i s, isT T i s = true → s = sOUT ∨ s = sHIDE → (tkAt T i).kind = 0) : ∀ n, OdPS T X (pSB n).1 ∧ OdPL T X (pSB n).2 := by
  intro n
  induction n with
  | zero => exact ⟨fun _ _ _ h => by (cases h), fun _ _ _ h => by (cases h)⟩
  | succ n ih =>
    rw [pSB]
    split
    · exact ⟨fun _ _ _ h => by (cases h), fun _ _ _ h => by (cases h)⟩
    refine ⟨od_stm (hX n) hk (od_XF n).1 ih.2, ?_⟩
    intro i s j h
    dsimp only at h
    unfold pBlock at h
    split at h
    · cases h
    obtain ⟨_, j1, h1, h⟩ := then_ok h
    have e1 := need_ok h1
    obtain ⟨l, g⟩ := od_items ih.1 _ _ _ _ h
    exact ⟨by omega, by omega, g.seg.mono (by omega) (by omega), g.sh⟩
theorem od_names (hd : Bool) : ∀ (n i : Nat) (l : List (Tok × Bool)) (j : Nat), pNames T hd n i = some (.ok (l, j)) → i < j ∧ Seg T i j (l.map (·.1)) ∧ ∀ d ∈ l, d.1.kind = 1 := by
  intro n
  induction n with
  | zero => intro i l j h; cases h
  | succ n ih =>
    intro i l j h
    rw [pNames] at h
    obtain ⟨t, j1, h1, h⟩ := then_ok h
    have k1 := kind_ok2 h1
    obtain ⟨e1, rfl⟩ := kind_ok h1
    split at h
    · obtain ⟨l2, j2, h2, h⟩ := then_ok h
      cases h
      obtain ⟨a, b, c⟩ := ih _ _ _ h2
      refine ⟨by omega, (Seg.one i).app b (by omega) (by omega) (by omega), fun d hd => ?_⟩
      rcases List.mem_cons.1 hd with rfl | hd
      · exact k1
      · exact c d hd
    · obtain ⟨_, j2, h2, h⟩ := then_ok h
      cases h
      have e2 := need_ok h2
      refine ⟨by omega, (Seg.one i).mono (Nat.le_refl _) (by omega), fun d hd => ?_⟩
      simp at hd
      subst hd
      exact k1
theorem od_decls (f : Nat) : ∀ (n i : Nat) (l : List (Tok × Bool)) (j : Nat), pDecls T f n i = some (.ok (l, j)) → i ≤ j ∧ Seg T i j (l.map (·.1)) ∧ ∀ d ∈ l, d.1.kind = 1 := by
  intro n
  induction n with
  | zero => intro i l j h; cases h
  | succ n ih =>
    intro i l j h
    rw [pDecls] at h
    split at h
    · obtain ⟨l1, j1, h1, h⟩ := then_ok h
      obtain ⟨l2, j2, h2, h⟩ := then_ok h
      cases h
      obtain ⟨a, b, c⟩ := od_names _ _ _ _ _ h1
      obtain ⟨d, e, f⟩ := ih _ _ _ h2
      refine ⟨by omega, ?_, fun x hx => ?_⟩
      · rw [List.map_append]
        exact (b.mono (by omega) (Nat.le_refl _)).app e (Nat.le_refl _) (by omega) (by omega)
      rcases List.mem_append.1 hx with hx | hx
      · exact c x hx
      · exact f x hx
    · cases h; exact ⟨by omega, Seg.nil _ _, fun d hd => by cases hd⟩
/-- A source's tree: its tokens in their order, its shape. -/
theorem od_source {X : Ex → Prop} (hX : ∀ n i e j, (pXF n).1 T i = some (.ok (e, j)) → X e) (hk : ∀ i s, isT T i s = true → s = sOUT ∨ s = sHIDE → (tkAt T i).kind = 0) {n : Nat} {ds : List (Tok × Bool)} {s : Sx} {j : Nat} (h : pSource n T = some (.ok ((ds, s), j))) : Seg T 0 j (ds.map (·.1) ++ ordS s) ∧ (∀ d ∈ ds, d.1.kind = 1) ∧ ShS X s := by
  unfold pSource at h
  obtain ⟨l, j1, h1, h⟩ := then_ok h
  obtain ⟨s', j2, h2, h⟩ := then_ok h
  cases h
  obtain ⟨a, b, c⟩ := od_decls _ _ _ _ _ h1
  have g := od_body (od_SB hX hk n).1 _ _ _ _ h2
  have l := g.le
  exact ⟨b.app g.seg (Nat.le_refl _) (by omega) (by omega), c, g.sh⟩
/-- Places grow. -/
def Inc (l : List Tok) : Prop := l.Pairwise (fun a b => a.place < b.place)
theorem Seg.inc {i j : Nat} {l : List Tok} (h : Seg T i j l) (hT : ∀ a b, a < b → b < j → (tkAt T a).place < (tkAt T b).place) : Inc l := by
  obtain ⟨xs, rfl, p, b⟩ := h
  unfold Inc
  rw [List.pairwise_map]
  refine p.imp_of_mem ?_
  intro x y hx hy hl
  exact hT x y hl (b y hy).2
end

end Go.Proofs.Ythmmgiaobakilaa
