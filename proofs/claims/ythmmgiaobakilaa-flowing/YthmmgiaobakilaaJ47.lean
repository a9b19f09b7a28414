import Derived.Test.YthmmgiaobakilaaJ46
/- Looped on data: all points. -/
set_option maxRecDepth 100000
namespace Go.Proofs.Ythmmgiaobakilaa
open Go.RowKit Go.Deep

def eachV (a b c : Nat) : Int := 1 + ((b - a + 1 : Nat) : Int) * (2 + 5 * ((c + 1 : Nat) : Int)) + 2
theorem each_pos (a b c : Nat) : 0 ≤ eachV a b c := by
  have : 0 ≤ ((b - a + 1 : Nat) : Int) * (2 + 5 * ((c + 1 : Nat) : Int)) := Int.mul_nonneg (by omega) (by omega)
  unfold eachV; omega
def paintO (D : PD) (tone : Int) (o : List Int) (x : Int × Int) : List Int := o.set (x.2 * D.sw + x.1).toNat tone
theorem begin_n (S : PSt) (x y : Int) : (beginP S x y).vals wN = 0 := by
  show updR (updR (fun _ => 0) nmX x) nmY y wN = 0
  rw [upd_ne (by decide +kernel), upd_ne (by decide +kernel)]
theorem go_lp {D : PD} {a b c : Nat} (hab : a ≤ b) (hb : b ≤ 20) (hc : c ≤ 20) (x1 x2 x3 : ByteArray) (p4 p5 p7 p10 p11 p13 p15 p17 p18 p19 p23 p24 : Int) : ∀ (l : List (Int × Int)) (S : PSt),
    (goP D (lpTree a b c x1 x2 x3 p4 p5 p7 p10 p11 p13 p15 p17 p18 p19 p23 p24) l S = none → 20000 < S.steps + (l.length : Int) * eachV a b c) ∧
    (∀ T, goP D (lpTree a b c x1 x2 x3 p4 p5 p7 p10 p11 p13 p15 p17 p18 p19 p23 p24) l S = some T → (S.steps ≤ 20000 → T.steps ≤ 20000) ∧ T.steps = S.steps + (l.length : Int) * eachV a b c ∧ T.touched = S.touched + (l.length : Int) ∧ T.hid = S.hid ∧ T.opn = l.foldl (paintO D (toneV (sumV (b - a + 1) a ((c + 1 : Nat) : Int)))) S.opn)
  | [], S => ⟨(fun h => by cases h), fun T h => by cases h; exact ⟨id, by simp, by simp, rfl, rfl⟩⟩
  | x :: l, S => by
    have ep := each_pos a b c
    have lp : 0 ≤ (l.length : Int) * eachV a b c := Int.mul_nonneg (by omega) ep
    have le : (((x :: l).length : Nat) : Int) * eachV a b c = (l.length : Int) * eachV a b c + eachV a b c := by
      rw [List.length_cons, Int.natCast_add, Int.add_mul]; simp
    have P := fun hs => pt_run (D := D) hab hb hc x1 x2 x3 p4 p5 p7 p10 p11 p13 p15 p17 p18 p19 p23 p24 (beginP S x.1 x.2) (begin_n S x.1 x.2) hs
    have IH := go_lp (D := D) hab hb hc x1 x2 x3 p4 p5 p7 p10 p11 p13 p15 p17 p18 p19 p23 p24 l
    obtain ⟨t, ht⟩ : ∃ t, lpTree a b c x1 x2 x3 p4 p5 p7 p10 p11 p13 p15 p17 p18 p19 p23 p24 = t := ⟨_, rfl⟩
    rw [ht] at P IH ⊢
    have e0 : (beginP S x.1 x.2).steps = S.steps := rfl
    rw [le]
    have P1 : S.steps + eachV a b c ≤ 20000 ∨ (ptOne D t S x).steps ≤ 20000 → _ := P
    rw [goP]
    by_cases hc2 : 20000 < (ptOne D t S x).steps
    · rw [if_pos hc2]
      refine ⟨fun _ => ?_, fun T h => by cases h⟩
      apply Classical.byContradiction
      intro hn
      have h1 := (P1 (.inl (by omega))).1
      have h2 : (ptOne D t S x).steps = S.steps + eachV a b c := h1
      omega
    · rw [if_neg hc2]
      obtain ⟨q1, q2, q3, q4⟩ := P1 (.inr (by omega))
      have r1 : (ptOne D t S x).steps = S.steps + eachV a b c := q1
      have r2 : (ptOne D t S x).touched = S.touched + 1 := q2
      have r3 : (ptOne D t S x).opn = paintO D (toneV (sumV (b - a + 1) a ((c + 1 : Nat) : Int))) S.opn x := q3
      have r4 : (ptOne D t S x).hid = S.hid := q4
      obtain ⟨i1, i2⟩ := IH (ptOne D t S x)
      refine ⟨fun h => by have := i1 h; omega, fun T h => ?_⟩
      obtain ⟨j0, j1, j2, j3, j4⟩ := i2 T h
      refine ⟨fun _ => j0 (by omega), by omega, ?_, j3.trans r4, ?_⟩
      · rw [j2, r2, List.length_cons, Int.natCast_add]; omega
      · rw [j4, r3]; rfl
theorem all_set (tone : Int) (w h : Nat) (hw : 1 ≤ w ∧ w ≤ 6) (hh : 1 ≤ h ∧ h ≤ 6) (xs ys : List Int) : (ptsOf w h).foldl (paintO (pdOf w h xs ys) tone) (List.replicate (w * h) 0) = List.replicate (w * h) tone := by
  rcases (show w = 1 ∨ w = 2 ∨ w = 3 ∨ w = 4 ∨ w = 5 ∨ w = 6 by omega) with rfl | rfl | rfl | rfl | rfl | rfl <;>
  rcases (show h = 1 ∨ h = 2 ∨ h = 3 ∨ h = 4 ∨ h = 5 ∨ h = 6 by omega) with rfl | rfl | rfl | rfl | rfl | rfl <;> kernel_rfl
end Go.Proofs.Ythmmgiaobakilaa
