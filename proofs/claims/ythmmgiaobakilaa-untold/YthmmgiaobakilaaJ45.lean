import Derived.Test.YthmmgiaobakilaaJ01
/- sameInts of the two packages of laws: of equal lists it answers true. -/
set_option maxRecDepth 100000
namespace Go.Proofs.Ythmmgiaobakilaa
open Go.RowKit

set_option maxHeartbeats 1000000 in
theorem same_keep (ao bo : Option Addr) (c d : Nat) (xs : List Int) (w : World) (hx : IntsAt w.heap.size w ao xs) (hy : IntsAt w.heap.size w bo xs) (hl : xs.length ≤ 1000) :
    Calls Try.prog 18 #[.slice ao xs.length c, .slice bo xs.length d] w fun e w' => e = .returned (.bool true) ∧ Below w.heap.size w w' := by
  go_enter Try.func18, Try.ntmps18
  go_wp2
  go_loopw [5] (fun i wr => ∃ k : Nat, k ≤ xs.length ∧ i = .int .i64 k ∧ Below w.heap.size w wr) (fun i _ => xs.length - (intOf i).toNat)
  case atStart => exact ⟨0, Nat.zero_le _, rfl, Below.refl _ _⟩
  case round =>
    obtain ⟨k, hk, rfl, hnx⟩ := hrel
    by_cases hlt : k < xs.length
    · rcases hx with hx | ⟨b1, off1, rfl, hb1, hc1⟩
      · simp [hx] at hlt
      rcases hy with hy | ⟨b2, off2, rfl, hb2, hc2⟩
      · simp [hy] at hlt
      have x1 := (hnx.cell (p := ⟨b1, off1 + k, none⟩) hb1).trans (hc1 k hlt)
      have x2 := (hnx.cell (p := ⟨b2, off2 + k, none⟩) hb2).trans (hc2 k hlt)
      clear hc1 hc2
      generalize xs.getD k 0 = v at x1 x2
      have hi : (k : Int) < (xs.length : Int) := by omega
      have R := hide hnx.drew
      clear hnx
      go_wp2
      go_region
      all_goals (try go_wp2)
      all_goals
        go_roundw
        case rel => exact ⟨k + 1, by omega, by go_num, unhide R⟩
        case measure => simp [intOf]; omega
    · go_wp2
      go_ret
      exact ⟨rfl, hnx⟩

end Go.Proofs.Ythmmgiaobakilaa
