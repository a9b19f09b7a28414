/- The walk of the project's readSource. -/
import Derived.Test.YthmmgiaobakilaaReads2
set_option maxRecDepth 100000
namespace Go.Proofs.Ythmmgiaobakilaa
open Go.RowKit

set_option maxHeartbeats 1000000 in
theorem rsource_any (w : World) (rb : Nat) (s : ByteArray) (f : Int) (h : RdAt w rb s f) (hs : s.size ≤ maxLen) :
    Calls Try.prog 46 #[.pointer (some ⟨rb, 0, none⟩)] w fun r w' => ∃ s' t, r = .returned (.string t) ∧ nums t = scS (nums s) f ∧
      RdAt w' rb s' (scF (nums s) f) ∧ nums s' = scR (nums s) f ∧ w.grownBy w' (some rb) ∧ s'.size ≤ s.size ∧ t.size ≤ 300 := by
  have v1 := rbV_bounds (bytes_nums s) f
  have v2 := rbV_bounds (rbL_bytes (bytes_nums s) f) (rbF (nums s) f)
  go_enter Try.func46, Try.ntmps46
  go_wp2_with fail
  refine (byte_any _ rb s f h hs).mono ?_
  rintro r w1 ⟨s1, rfl, hr1, hn1, hg1, hz1⟩
  have HN1 : Hid (nums s1 = rbL (nums s) f) := hn1
  clear hn1 h
  rw [← HN1.out] at v2
  generalize hx1 : rbV (nums s) f = x1 at *
  have HX1 : Hid (rbV (nums s) f = x1) := hx1
  clear hx1
  obtain ⟨v1a, v1b⟩ := v1
  go_wp2_with fail
  refine (byte_any _ rb s1 _ hr1 (by omega)).mono ?_
  rintro r w2 ⟨s2, rfl, hr2, hn2, hg2, hz2⟩
  have HN2 : Hid (nums s2 = rbL (nums s1) (rbF (nums s) f)) := hn2
  clear hn2 hr1
  generalize hx2 : rbV (nums s1) (rbF (nums s) f) = x2 at *
  have HX2 : Hid (rbV (nums s1) (rbF (nums s) f) = x2) := hx2
  clear hx2
  obtain ⟨v2a, v2b⟩ := v2
  generalize hg : rbF (nums s1) (rbF (nums s) f) = g2 at *
  have EN : scN (nums s) f = x1 * 256 + x2 := by simp only [scN]; rw [← HN1.out, HX1.out, HX2.out]
  have EL : scL (nums s) f = nums s2 := by simp only [scL]; rw [← HN1.out, HN2.out]
  have E2 : scF2 (nums s) f = g2 := by simp only [scF2]; rw [← HN1.out, hg]
  have ELl : (nums s2).length = s2.size := nums_length s2
  have L1 := @sc_long (nums s) f
  have L2 := @sc_long2 (nums s) f
  have L3 := @sc_short (nums s) f
  have L4 := @sc_bad (nums s) f
  have L5 := @sc_good (nums s) f
  rw [EN, EL, E2, ELl] at L1 L2 L3 L4 L5
  have HL1 := hide L1
  have HL2 := hide L2
  have HL3 := hide L3
  have HL4 := hide L4
  have HL5 := hide L5
  have hgg := grown_trans hg1 hg2
  have hss : s2.size ≤ s.size := by omega
  clear L1 L2 L3 L4 L5 EN EL E2 ELl HN1 HX1 HX2 HN2 hg hg1 hg2 hz1 hz2
  unfold maxLen at hs
  by_cases hlong : 300 < x1 * 256 + x2
  · go_wp2_with fail
    refine (fail_any _ rb s2 _ _ hr2).mono ?_
    rintro r w3 ⟨rfl, hr3, hg3⟩
    have hc0 := hr3.c0
    have hf3 : (failF g2 7 != 0) = true := by rw [bne_iff_ne]; exact failF_ne (by decide)
    by_cases hshort : (s2.size : Int) < x1 * 256 + x2
    · go_wp2_with fail
      refine (fail_any _ rb s2 _ _ hr3).mono ?_
      rintro r w4 ⟨rfl, hr4, hg4⟩
      have hc1 := hr4.c1
      have hf4 : (failF (failF g2 7) 1 != 0) = true := by rw [bne_iff_ne]; exact failF_ne (by decide)
      go_wp2
      go_ret
      obtain ⟨a, b, c⟩ := unhide HL1 hlong hshort
      exact ⟨s2, ⟨#[]⟩, rfl, by rw [b]; rfl, by rw [a]; exact hr4, c.symm, grown_trans (grown_trans hgg hg3) hg4, hss, by decide⟩
    · have hc1 := hr3.c1
      go_wp2
      go_ret
      obtain ⟨a, b, c⟩ := unhide HL2 hlong hshort
      exact ⟨s2, ⟨#[]⟩, rfl, by rw [b]; rfl, by rw [a]; exact hr3, c.symm, grown_trans hgg hg3, hss, by decide⟩
  · have hc0 := hr2.c0
    have hc1 := hr2.c1
    by_cases hshort : (s2.size : Int) < x1 * 256 + x2
    · go_wp2_with fail
      refine (fail_any _ rb s2 _ _ hr2).mono ?_
      rintro r w4 ⟨rfl, hr4, hg4⟩
      replace hc1 := hr4.c1
      have hf4 : (failF g2 1 != 0) = true := by rw [bne_iff_ne]; exact failF_ne (by decide)
      go_wp2
      go_ret
      obtain ⟨a, b, c⟩ := unhide HL3 hlong hshort
      exact ⟨s2, ⟨#[]⟩, rfl, by rw [b]; rfl, by rw [a]; exact hr4, c.symm, grown_trans hgg hg4, hss, by decide⟩
    · by_cases hbad : g2 = 0
      · subst hbad
        obtain ⟨m, hm⟩ : ∃ m : Nat, x1 * 256 + x2 = (m : Int) := ⟨(x1 * 256 + x2).toNat, by omega⟩
        have hm1 : m ≤ 300 := by omega
        have hm2 : m ≤ s2.size := by omega
        have z1 : (s2.extract 0 m).size ≤ 300 := by rw [ByteArray.size_extract]; omega
        have z2 : (s2.extract m s2.size).size ≤ s2.size := by rw [ByteArray.size_extract]; omega
        have hlt2 := hr2.lt
        go_wp2_with fail
        refine (clone_any _ _ z1).mono ?_
        rintro r w3 ⟨rfl, hb3⟩
        have hr3 := hr2.later hb3 hlt2
        have hg3 : w2.grownBy w3 (some rb) := ⟨hb3.os, hb3.tape, hb3.output, hb3.size, fun k hk _ => hb3.block k hk⟩
        replace hc0 := hr3.c0
        have hz0 := hr3.z0
        clear hc1 hr2 hb3
        go_wp2
        go_ret
        obtain ⟨a, b, c⟩ := unhide HL5 hlong hshort (by simp)
        have hmm : (x1 * 256 + x2).toNat = m := by omega
        refine ⟨s2.extract m s2.size, s2.extract 0 m, rfl, ?_, ?_, ?_, grown_trans (grown_trans hgg hg3) (grown_setCell _ _ _ _), by omega, z1⟩
        · rw [b, hmm, nums_extract]; simp
        · rw [a]; exact hr3.set0 _
        · rw [c, hmm, nums_extract, List.take_of_length_le (by simp [nums_length])]
      · have hbad' : (g2 != 0) = true := by simp [hbad]
        go_wp2
        go_ret
        obtain ⟨a, b, c⟩ := unhide HL4 hlong hshort hbad
        exact ⟨s2, ⟨#[]⟩, rfl, by rw [b]; rfl, by rw [a]; exact hr2, c.symm, hgg, hss, by decide⟩

end Go.Proofs.Ythmmgiaobakilaa
