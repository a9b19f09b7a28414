import Derived.Test.YthmmgiaobakilaaJ36
/- The law's own function sameTrace: of equal lists it answers true. -/
set_option maxRecDepth 100000
namespace Go.Proofs.Ythmmgiaobakilaa
open Go.RowKit Go.Deep

/-- A list of touches lies at an address, in blocks below B. -/
def TrAt (B : Nat) (w : World) (ao : Option Addr) (l : List (Int × Int)) : Prop :=
  l = [] ∨ ∃ g, ao = some ⟨g, 0, none⟩ ∧ g < B ∧ ∀ j, j < l.length → w.cell? ⟨g, j * 2, none⟩ = some (.int .i64 (l.getD j (0, 0)).1) ∧ w.cell? ⟨g, j * 2 + 1, none⟩ = some (.int .i64 (l.getD j (0, 0)).2)
theorem TrAt.later {B B' : Nat} {w w' : World} {ao : Option Addr} {l : List (Int × Int)} (h : TrAt B w ao l) (hb : Below B' w w') (hB : B ≤ B') : TrAt B w' ao l := by
  rcases h with h | ⟨g, h1, h2, h3⟩
  · exact .inl h
  · exact .inr ⟨g, h1, h2, fun j hj => ⟨(hb.cell (p := ⟨g, j * 2, none⟩) (by show g < B'; omega)).trans (h3 j hj).1, (hb.cell (p := ⟨g, j * 2 + 1, none⟩) (by show g < B'; omega)).trans (h3 j hj).2⟩⟩
set_option maxHeartbeats 1000000 in
theorem same_trace (ao bo : Option Addr) (c d : Nat) (l : List (Int × Int)) (w : World) (hx : TrAt w.heap.size w ao l) (hy : TrAt w.heap.size w bo l) (hm : l.length ≤ maxLen) :
    Calls Try.prog 39 #[.slice ao l.length c, .slice bo l.length d] w fun e w' => e = .returned (.bool true) ∧ Below w.heap.size w w' := by
  have hl : l.length ≤ 9223372036854775807 := by unfold maxLen at hm; omega
  clear hm
  go_enter Try.func39, Try.ntmps39
  go_wp2
  go_loopw [5] (fun i wr => ∃ k : Nat, k ≤ l.length ∧ i = .int .i64 k ∧ Below w.heap.size w wr) (fun i _ => l.length - (intOf i).toNat)
  case atStart => exact ⟨0, Nat.zero_le _, rfl, Below.refl _ _⟩
  case round =>
    obtain ⟨k, hk, rfl, hnx⟩ := hrel
    by_cases hlt : k < l.length
    · rcases hx with hx | ⟨g1, rfl, hb1, hc1⟩
      · simp [hx] at hlt
      rcases hy with hy | ⟨g2, rfl, hb2, hc2⟩
      · simp [hy] at hlt
      have x1 := (hnx.cell (p := ⟨g1, k * 2, none⟩) hb1).trans (hc1 k hlt).1
      have x2 := (hnx.cell (p := ⟨g1, k * 2 + 1, none⟩) hb1).trans (hc1 k hlt).2
      have x3 := (hnx.cell (p := ⟨g2, k * 2, none⟩) hb2).trans (hc2 k hlt).1
      have x4 := (hnx.cell (p := ⟨g2, k * 2 + 1, none⟩) hb2).trans (hc2 k hlt).2
      clear hc1 hc2
      generalize (l.getD k (0, 0)).1 = v1 at x1 x3
      generalize (l.getD k (0, 0)).2 = v2 at x2 x4
      have hi : (k : Int) < (l.length : Int) := by omega
      have R := hide hnx.drew
      clear hnx
      go_wp2
      go_region
      all_goals (try go_wp2)
      all_goals
        go_roundw
        case rel => exact ⟨k + 1, by omega, by go_num, unhide R⟩
        case measure => simp [intOf]; omega
    · go_wp2
      go_ret
      exact ⟨rfl, hnx⟩
end Go.Proofs.Ythmmgiaobakilaa
