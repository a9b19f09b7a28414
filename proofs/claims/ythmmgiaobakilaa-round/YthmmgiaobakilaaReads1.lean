/- The walks of the project's readMark, readSide, readEnd, readTexels. -/
import Derived.Test.YthmmgiaobakilaaReader
set_option maxRecDepth 100000
namespace Go.Proofs.Ythmmgiaobakilaa
open Go.RowKit

set_option maxHeartbeats 400000 in
theorem mark_any (w : World) (rb : Nat) (s : ByteArray) (f : Int) (h : RdAt w rb s f) (hs : s.size ≤ maxLen) :
    Calls Try.prog 43 #[.pointer (some ⟨rb, 0, none⟩)] w fun r w' => ∃ s', r = .returned (.tuple #[]) ∧ RdAt w' rb s' (markF (nums s) f) ∧ nums s' = rbL (nums s) f ∧ w.grownBy w' (some rb) ∧ s'.size ≤ s.size := by
  by_cases h0 : rbV (nums s) f = 85
  · have e1 : markF (nums s) f = rbF (nums s) f := by simp [markF, h0]
    rw [e1]
    have h0' : (rbV (nums s) f != 85) = false := by simp [h0]
    clear h0 e1
    go_enter Try.func43, Try.ntmps43
    go_wp2_with (go_at_call 67; refine (byte_any _ rb s f h hs).mono ?_; rintro r w1 ⟨s', rfl, hr, hn, hg, hz⟩)
    go_end0
    exact ⟨s', rfl, hr, hn, hg, hz⟩
  · have e1 : markF (nums s) f = failF (rbF (nums s) f) 2 := by simp [markF, h0]
    rw [e1]
    have h0' : (rbV (nums s) f != 85) = true := by simp [h0]
    clear h0 e1
    go_enter Try.func43, Try.ntmps43
    go_wp2_with (go_at_call 67; refine (byte_any _ rb s f h hs).mono ?_; rintro r w1 ⟨s', rfl, hr, hn, hg, hz⟩)
    refine (fail_any _ rb s' _ _ hr).mono ?_
    rintro r w2 ⟨rfl, hr2, hg2⟩
    go_wp2
    go_end0
    exact ⟨s', rfl, hr2, hn, grown_trans hg hg2, hz⟩

set_option maxHeartbeats 400000 in
theorem rside_any (w : World) (rb : Nat) (s : ByteArray) (f : Int) (h : RdAt w rb s f) (hs : s.size ≤ maxLen) :
    Calls Try.prog 44 #[.pointer (some ⟨rb, 0, none⟩)] w fun r w' => ∃ s', r = .returned (.int .i64 (sideV (nums s) f)) ∧ RdAt w' rb s' (sideF (nums s) f) ∧ nums s' = rbL (nums s) f ∧ w.grownBy w' (some rb) ∧ s'.size ≤ s.size := by
  by_cases h0 : sideB (rbV (nums s) f) = true
  · have e1 : sideF (nums s) f = rbF (nums s) f := by simp [sideF, h0]
    have e2 : sideV (nums s) f = rbV (nums s) f := by simp [sideV, h0]
    rw [e1, e2]
    clear e1 e2
    go_enter Try.func44, Try.ntmps44
    go_wp2_with fail
    refine (byte_any _ rb s f h hs).mono ?_
    rintro r w1 ⟨s', rfl, hr, hn, hg, hz⟩
    have HN : Hid (nums s' = rbL (nums s) f) := hn
    clear hn
    go_wp2_with (go_at_call 65; refine (side_any _ _).mono ?_; rintro e w' ⟨rfl, rfl⟩)
    go_ret
    exact ⟨s', rfl, hr, HN.out, hg, hz⟩
  · have e1 : sideF (nums s) f = failF (rbF (nums s) f) 3 := by simp [sideF, h0]
    have e2 : sideV (nums s) f = 0 := by simp [sideV, h0]
    rw [e1, e2]
    clear e1 e2
    go_enter Try.func44, Try.ntmps44
    go_wp2_with fail
    refine (byte_any _ rb s f h hs).mono ?_
    rintro r w1 ⟨s', rfl, hr, hn, hg, hz⟩
    have HN : Hid (nums s' = rbL (nums s) f) := hn
    clear hn
    go_wp2_with (go_at_call 65; refine (side_any _ _).mono ?_; rintro e w' ⟨rfl, rfl⟩)
    refine (fail_any _ rb s' _ _ hr).mono ?_
    rintro r w2 ⟨rfl, hr2, hg2⟩
    go_wp2
    go_ret
    exact ⟨s', rfl, hr2, HN.out, grown_trans hg hg2, hz⟩

set_option maxHeartbeats 400000 in
theorem rend_any (w : World) (rb : Nat) (s : ByteArray) (f : Int) (h : RdAt w rb s f) (hs : s.size ≤ maxLen) :
    Calls Try.prog 47 #[.pointer (some ⟨rb, 0, none⟩)] w fun r w' => r = .returned (.tuple #[]) ∧ RdAt w' rb s (endF (nums s) f) ∧ w.grownBy w' (some rb) := by
  have hc0 := h.c0
  unfold maxLen at hs
  by_cases h0 : s.size = 0
  · have e1 : endF (nums s) f = f := by simp [endF, nums_empty h0]
    rw [e1]
    have h0' : ¬ (0 : Int) < (s.size : Int) := by omega
    clear e1
    go_enter Try.func47, Try.ntmps47
    go_wp2
    go_end0
    exact ⟨rfl, h, grown_refl _ _⟩
  · have hne : nums s ≠ [] := by intro hn; have := nums_length s; rw [hn] at this; simp at this; omega
    have e1 : endF (nums s) f = failF f 5 := by simp [endF, hne]
    rw [e1]
    have h0' : (0 : Int) < (s.size : Int) := by omega
    clear e1 hne
    go_enter Try.func47, Try.ntmps47
    go_wp2_with (go_at_call 68; refine (fail_any _ rb s f _ h).mono ?_; rintro r w1 ⟨rfl, hr, hg⟩)
    go_end0
    exact ⟨rfl, hr, hg⟩

end Go.Proofs.Ythmmgiaobakilaa
