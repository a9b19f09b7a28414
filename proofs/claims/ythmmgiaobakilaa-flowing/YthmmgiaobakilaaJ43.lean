import Derived.Test.YthmmgiaobakilaaJ37
/- The law's own function pick, for the other counts. -/
set_option maxRecDepth 100000
namespace Go.Proofs.Ythmmgiaobakilaa
open Go.RowKit Go.Deep

set_option maxHeartbeats 1000000 in
theorem pick_more' (w : World) (c n : Int) (hc : In64 c) (hn : n = 6 ∨ n = 15 ∨ n = 21 ∨ n = 400 ∨ n = 18 ∨ n = 300) : Calls Try.prog 26 #[.int .i64 c, .int .i64 n] w fun e w' => (∃ v, v = pickV c n ∧ e = .returned (.int .i64 v)) ∧ w' = w := by
  obtain ⟨h1, h2⟩ := hc
  by_cases h0 : c < 0
  · have e0 : Hid (pickV c n = -((c + 1).tmod n)) := by
      show pickV c n = _
      unfold pickV; rw [if_pos h0, ← Int.tmod_eq_emod_of_nonneg (by omega), Int.neg_tmod]
    have k1 : wrap64 (c + 1) = c + 1 := by unfold wrap64; omega
    have k2 : wrap64 (-(c + 1)) = -(c + 1) := by unfold wrap64; omega
    rcases hn with rfl | rfl | rfl | rfl | rfl | rfl
    all_goals
      go_enter Try.func26, Try.ntmps26
      go_wp2
      go_ret
      first | exact ⟨⟨_, (unhide e0).symm, rfl⟩, rfl⟩ | exact ⟨ret_int (unhide e0).symm, rfl⟩
  · have e0 : Hid (pickV c n = c % n) := by
      show pickV c n = _
      unfold pickV; rw [if_neg h0]
    have h0' : decide (c < 0) = false := by simpa using h0
    rcases hn with rfl | rfl | rfl | rfl | rfl | rfl
    all_goals
      go_enter Try.func26, Try.ntmps26
      go_wp2
      go_ret
      first | exact ⟨⟨_, (unhide e0).symm, rfl⟩, rfl⟩ | exact ⟨ret_int (unhide e0).symm, rfl⟩
theorem pick_more (w : World) (c n : Int) (hc : In64 c) (hn : n = 6 ∨ n = 15 ∨ n = 21 ∨ n = 400 ∨ n = 18 ∨ n = 300) : Calls Try.prog 26 #[.int .i64 c, .int .i64 n] w fun e w' => e = .returned (.int .i64 (pickV c n)) ∧ w' = w :=
  (pick_more' w c n hc hn).mono fun e w' ⟨⟨v, h1, h2⟩, h3⟩ => ⟨by rw [h2, h1], h3⟩
end Go.Proofs.Ythmmgiaobakilaa
