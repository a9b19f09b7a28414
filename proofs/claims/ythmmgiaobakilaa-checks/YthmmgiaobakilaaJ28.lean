import Derived.Test.YthmmgiaobakilaaJ27
import Derived.Maps.AppendAt
import Derived.Deep.AppendLies
/- The project's scan on data; its tokens in memory. -/
set_option maxRecDepth 100000
namespace Go.Proofs.Ythmmgiaobakilaa
open Go.RowKit Go.Shelf

/-- A token as the project has it. -/
structure GT where
  k : Int
  p : Int
  wd : ByteArray
  n : Int
  s : Int
def gtC (t : GT) : List Value := [.int .i64 t.k, .int .i64 t.p, .string t.wd, .int .i32 t.n, .int .i32 t.s]
def gtsC (l : List GT) : List Value := l.flatMap gtC
theorem gtsC_len (l : List GT) : (gtsC l).length = l.length * 5 := by
  induction l with
  | nil => rfl
  | cons a l ih => simp only [gtsC, List.flatMap_cons, List.length_append] at ih ⊢; rw [ih]; simp [gtC]; omega
theorem gtsC_snoc (l : List GT) (t : GT) : gtsC (l ++ [t]) = gtsC l ++ gtC t := by simp [gtsC]
def newG (k p : Int) : GT := ⟨k, p, ⟨#[]⟩, 0, 0⟩
def addG (t : GT) (r : Int) : GT := if t.k = 2 then { t with wd := t.wd ++ ⟨#[r.toNat.toUInt8]⟩ } else if t.k = 3 then { t with n := 10 * t.n + r - 48 } else { t with s := r }
/-- One rune more: the tokens, and of which kind the rune ahead was; or where there is none. -/
def putG (l : List GT) (t : GT) (r k : Int) : Except Int (List GT × Int) := if 65535 < (addG t r).n then .error (addG t r).p else .ok (l ++ [addG t r], k)
def lastG (l : List GT) (r k : Int) : Except Int (List GT × Int) := match l.getLast? with
  | none => .ok (l, k)
  | some t => putG l.dropLast t r k
def stepG (σ : List GT × Int) (x : Int × Int) : Except Int (List GT × Int) :=
  if kOf x.2 = 0 then .error x.1 else
  if kOf x.2 = 1 then .ok (σ.1, 1) else
  if kOf x.2 = 4 ∨ kOf x.2 ≠ σ.2 then putG σ.1 (newG (kOf x.2) x.1) x.2 (kOf x.2) else lastG σ.1 x.2 (kOf x.2)
def nextG (a : Except Int (List GT × Int)) (x : Int × Int) : Except Int (List GT × Int) := match a with
  | .error e => .error e
  | .ok σ => stepG σ x
def foldG (xs : List (Int × Int)) : Except Int (List GT × Int) := xs.foldl nextG (.ok ([], 1))
theorem foldG_snoc (xs : List (Int × Int)) (x : Int × Int) : foldG (xs ++ [x]) = nextG (foldG xs) x := by simp [foldG]
theorem foldl_err (e : Int) : ∀ xs : List (Int × Int), xs.foldl nextG (.error e) = .error e
  | [] => rfl
  | _ :: xs => foldl_err e xs
theorem foldG_err {xs ys : List (Int × Int)} {e : Int} (h : foldG xs = .error e) : foldG (xs ++ ys) = .error e := by
  unfold foldG at *
  rw [List.foldl_append, h]
  exact foldl_err e ys
/-- A word or a number goes on where one stands; numbers and words are small. -/
structure InvG (σ : List GT × Int) (m : Nat) : Prop where
  last : σ.2 = 2 ∨ σ.2 = 3 → ∃ l t, σ.1 = l ++ [t] ∧ t.k = σ.2
  small : ∀ t ∈ σ.1, 0 ≤ t.n ∧ t.n ≤ 65535 ∧ t.wd.size ≤ m
  few : σ.1.length ≤ m
theorem InvG.start : InvG ([], 1) 0 := ⟨fun h => by simp at h, fun t ht => (by cases ht), Nat.le_refl _⟩
theorem kOf_cases (r : Int) : kOf r = 0 ∨ kOf r = 1 ∨ (kOf r = 2 ∧ 97 ≤ r ∧ r ≤ 122) ∨ (kOf r = 3 ∧ 48 ≤ r ∧ r ≤ 57) ∨ kOf r = 4 := by
  unfold kOf
  split
  · exact .inr (.inl rfl)
  split
  · exact .inr (.inr (.inr (.inr rfl)))
  split
  · rename_i h; exact .inr (.inr (.inl ⟨rfl, h⟩))
  split
  · rename_i h; exact .inr (.inr (.inr (.inl ⟨rfl, h⟩)))
  · exact .inl rfl
theorem put_inv {l : List GT} {t : GT} {r k : Int} {m : Nat} {τ : List GT × Int} (hl : ∀ u ∈ l, 0 ≤ u.n ∧ u.n ≤ 65535 ∧ u.wd.size ≤ m) (ht : 0 ≤ t.n ∧ t.n ≤ 65535 ∧ t.wd.size ≤ m) (hk : t.k = k) (hr : k = 3 → 48 ≤ r ∧ r ≤ 57) (hln : l.length + 1 ≤ m + 1) (h : putG l t r k = .ok τ) : InvG τ (m + 1) := by
  unfold putG at h
  split at h
  · cases h
  · rename_i hn
    cases h
    refine ⟨fun _ => ⟨l, _, rfl, ?_⟩, fun u hu => ?_, by simp; omega⟩
    · unfold addG; split
      · exact hk
      split
      · exact hk
      · exact hk
    · rcases List.mem_append.1 hu with hu | hu
      · have := hl u hu; omega
      · simp at hu
        subst hu
        unfold addG at hn ⊢
        split at hn
        · rename_i h2; rw [if_pos h2]; refine ⟨ht.1, ht.2.1, ?_⟩; show (t.wd ++ _).size ≤ _; rw [ByteArray.size_append]; have : (⟨#[r.toNat.toUInt8]⟩ : ByteArray).size = 1 := rfl; omega
        · rename_i h2
          rw [if_neg h2]
          split at hn
          · rename_i h3; rw [if_pos h3]; have := hr (by omega); simp at hn ⊢; omega
          · rename_i h3; rw [if_neg h3]; exact ⟨ht.1, ht.2.1, by show t.wd.size ≤ _; omega⟩
theorem step_inv {σ : List GT × Int} {x : Int × Int} {m : Nat} {τ : List GT × Int} (hi : InvG σ m) (h : stepG σ x = .ok τ) : InvG τ (m + 1) := by
  unfold stepG at h
  split at h
  · cases h
  rename_i h0
  split at h
  · cases h; exact ⟨fun h => by simp at h, fun t ht => by have := hi.small t ht; omega, by have := hi.few; show σ.1.length ≤ _; omega⟩
  rename_i h1
  have hr : kOf x.2 = 3 → 48 ≤ x.2 ∧ x.2 ≤ 57 := fun e => by
    rcases kOf_cases x.2 with a | a | ⟨a, _⟩ | ⟨_, a⟩ | a <;> first | omega | exact a
  split at h
  · exact put_inv hi.small ⟨Int.le_refl _, (by show (0 : Int) ≤ 65535; decide), Nat.zero_le _⟩ rfl hr (by have := hi.few; omega) h
  · rename_i h2
    have hk : kOf x.2 = σ.2 := by
      by_cases e : kOf x.2 = σ.2
      · exact e
      · exact absurd (.inr e) h2
    have h4 : kOf x.2 ≠ 4 := fun e => h2 (.inl e)
    obtain ⟨l, t, e1, e2⟩ := hi.last (by rcases kOf_cases x.2 with a | a | ⟨a, _⟩ | ⟨a, _⟩ | a <;> omega)
    unfold lastG at h
    rw [e1] at h
    simp at h
    have hfew := hi.few
    rw [e1] at hfew
    simp at hfew
    exact put_inv (fun u hu => hi.small u (by rw [e1]; exact List.mem_append_left _ hu)) (hi.small t (by rw [e1]; simp)) (by omega) hr (by omega) h
theorem fold_inv : ∀ (n : Nat) (xs : List (Int × Int)) (σ : List GT × Int), xs.length = n → foldG xs = .ok σ → InvG σ xs.length := by
  intro n
  induction n with
  | zero =>
    intro xs σ hn h
    have : xs = [] := List.length_eq_zero_iff.1 hn
    subst this
    cases h
    exact InvG.start
  | succ n ih =>
    intro xs σ hn h
    obtain ⟨ys, x, rfl⟩ : ∃ ys x, xs = ys ++ [x] := ⟨xs.dropLast, xs.getLast (by intro e; rw [e] at hn; simp at hn), (List.dropLast_concat_getLast _).symm⟩
    rw [foldG_snoc] at h
    cases hf : foldG ys with
    | error e => rw [hf] at h; cases h
    | ok τ =>
      rw [hf] at h
      have := step_inv (ih ys τ (by simpa using hn) hf) h
      simpa using this
/-- The cells of the last token of a row. -/
theorem own_last {w : World} {base g c : Nat} {l : List GT} {t : GT} {m : Nat} (h : w.ownsRow base 126 5 (.slice (some ⟨g, 0, none⟩) m c) m (gtsC (l ++ [t]))) (hm : m = l.length + 1) :
    (∀ j v, (gtC t)[j]? = some v → w.cell? ⟨g, l.length * 5 + j, none⟩ = some v) ∧ (∀ j, w.frozen? ⟨g, j, none⟩ = false) := by
  constructor
  · intro j v hv
    have hj : j < 5 := by have := (List.getElem?_eq_some_iff.1 hv).1; exact this
    rw [h.cellAt (l.length * 5 + j) (by omega), gtsC_snoc, List.getElem?_append_right (by rw [gtsC_len]; omega), gtsC_len]
    rw [show l.length * 5 + j - l.length * 5 = j by omega]
    exact hv
  · intro j
    rcases h.2 with ⟨e, _⟩ | ⟨g', cap, cur, e, hb, hg, _⟩
    · cases e
    · cases e
      simp [World.frozen?, hg]
/-- A cell of the last token is written. -/
theorem own_set {w : World} {base g c m : Nat} {l : List GT} {t t' : GT} {j : Nat} {v : Value} (h : w.ownsRow base 126 5 (.slice (some ⟨g, 0, none⟩) m c) m (gtsC (l ++ [t]))) (hm : m = l.length + 1) (hj : j < 5) (ht : (gtC t).set j v = gtC t') :
    (w.setCell ⟨g, l.length * 5 + j, none⟩ v).ownsRow base 126 5 (.slice (some ⟨g, 0, none⟩) m c) m (gtsC (l ++ [t'])) := by
  refine ⟨by rw [gtsC_len]; simp; omega, .inr ?_⟩
  rcases h.2 with ⟨e, _⟩ | ⟨g', cap, cur, e, hb, hg, hn, hc, hs, htk⟩
  · cases e
  · cases e
    refine ⟨g, c, cur.setIfInBounds (l.length * 5 + j) v, rfl, hb, ?_, hn, hc, by simpa using hs, ?_⟩
    · have := heap_setCell_same w g (l.length * 5 + j) cur 126 v hg
      exact this
    · rw [Array.toList_setIfInBounds, List.take_set, htk, gtsC_snoc, gtsC_snoc, ← ht, List.set_append_right _ _ (by rw [gtsC_len]; omega), gtsC_len]
      rw [show l.length * 5 + j - l.length * 5 = j by omega]

end Go.Proofs.Ythmmgiaobakilaa
