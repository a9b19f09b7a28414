import Derived.Test.YthmmgiaobakilaaJ41
import Derived.Test.YthmmgiaobakilaaJ47
/- What Paint answers to Looped's scene. -/
set_option maxRecDepth 100000
namespace Go.Proofs.Ythmmgiaobakilaa
open Go.RowKit Go.Deep

theorem lp_ans {W H : Nat} (hW : 1 ≤ W ∧ W ≤ 6) (hH : 1 ≤ H ∧ H ≤ 6) {xs ys : List Int} (hs : shapeE W H xs ys = 0) {a b c : Nat} (hab : a ≤ b) (hb : b ≤ 20) (hc : c ≤ 20) {E P : Int} {r : Option PSt} (h : Ans W H xs ys (lpS a b c) E P r) :
    P = 0 ∧ ((20000 < ((W * H : Nat) : Int) * eachV a b c ∧ E = 12 ∧ r = none) ∨ (¬ 20000 < ((W * H : Nat) : Int) * eachV a b c ∧ E = 0 ∧ ∃ S, r = some S ∧ S.steps = ((W * H : Nat) : Int) * eachV a b c ∧ S.touched = ((W * H : Nat) : Int) ∧ S.hid = List.replicate (W * H) 0 ∧ S.opn = List.replicate (W * H) (toneV (sumV (b - a + 1) a ((c + 1 : Nat) : Int))))) := by
  obtain ⟨hread, x1, x2, x3, p4, p5, p7, p10, p11, p13, p15, p17, p18, p19, p23, p24, ht⟩ := lp_read hab hb hc
  obtain ⟨hP, hr, hE⟩ := ans_run h hs hread
  rw [ht, Int.toNat_natCast, Int.toNat_natCast] at hr
  obtain ⟨g1, g2⟩ := go_lp (D := pdOf W H xs ys) hab hb hc x1 x2 x3 p4 p5 p7 p10 p11 p13 p15 p17 p18 p19 p23 p24 (ptsOf W H) (startP (W * H))
  rw [← hr] at g1 g2
  rw [ptsOf_len] at g1 g2
  have s0 : (startP (W * H)).steps = 0 := rfl
  refine ⟨hP, ?_⟩
  cases r with
  | none => exact .inl ⟨by have := g1 rfl; rw [s0] at this; omega, hE, rfl⟩
  | some S =>
    obtain ⟨k0, k1, k2, k3, k4⟩ := g2 S rfl
    have k0' := k0 (by rw [s0]; omega)
    rw [s0] at k1
    refine .inr ⟨by omega, hE, S, rfl, by omega, ?_, k3, ?_⟩
    · rw [k2]; show (0 : Int) + _ = _; omega
    · rw [k4]; exact all_set _ W H hW hH xs ys
end Go.Proofs.Ythmmgiaobakilaa
