import Derived.Test.YthmmgiaobakilaaJ38
/- The law's function painting: the document's first example. -/
set_option maxRecDepth 100000
namespace Go.Proofs.Ythmmgiaobakilaa
open Go.RowKit Go.Deep

theorem PntRes.hidden {w : World} {E P : Int} {S : PSt} {e : Ending} {w' : World} (h : PntRes w E P (some S) e w') : ∃ ao c bo d to f, e = .returned (.tuple #[.agg #[.slice ao S.opn.length c, .slice bo S.hid.length d, .int .i64 S.steps, .int .i64 S.touched, .slice to S.trace.length f], .int .i64 E, .int .i64 P]) ∧ IntsAt w'.heap.size w' ao S.opn ∧ IntsAt w'.heap.size w' bo S.hid ∧ TrAt w'.heap.size w' to S.trace ∧ Below w.heap.size w w' := by
  obtain ⟨hb, ob, hb', rv, he, ho, hh, hr, _⟩ := h
  have i1 : IntsAt w'.heap.size w' (some ⟨ob, 0, none⟩) S.opn := by
    refine .inr ⟨ob, 0, rfl, (Array.getElem?_eq_some_iff.1 ho).1, fun j hj => ?_⟩
    rw [Nat.zero_add]; exact (pic_cell ho hj).1
  have i2 : IntsAt w'.heap.size w' (some ⟨hb', 0, none⟩) S.hid := by
    refine .inr ⟨hb', 0, rfl, (Array.getElem?_eq_some_iff.1 hh).1, fun j hj => ?_⟩
    rw [Nat.zero_add]; exact (pic_cell hh hj).1
  have hr' := hr
  rcases hr.2 with ⟨h1, h0⟩ | ⟨g, cap, cur, rfl, _⟩
  · rw [h1] at he
    have h2 : S.trace = [] := List.eq_nil_of_length_eq_zero h0
    exact ⟨some ⟨ob, 0, none⟩, S.opn.length, some ⟨hb', 0, none⟩, S.hid.length, none, 0, by rw [he, h0], i1, i2, .inl h2, hb⟩
  · refine ⟨_, _, _, _, _, cap, he, i1, i2, .inr ⟨g, rfl, (hr'.lt g rfl).2, fun j hj => ?_⟩, hb⟩
    obtain ⟨t1, t2⟩ := tchs_get S.trace j hj
    exact ⟨(hr'.cellAt _ (by omega)).trans t1, (hr'.cellAt _ (by omega)).trans t2⟩
theorem paintEx (w : World) (so sd : Option Addr) (hx : IntsAt w.heap.size w so [10, 20]) (hy : IntsAt w.heap.size w sd [30, 40]) :
    Calls Try.prog 28 #[.agg #[.int .i64 2, .int .i64 1, .slice so 2 2, .slice sd 2 2, .string kx4]] w fun e w' => ∃ ao c bo d g f, e = .returned (.tuple #[.agg #[.slice ao 2 c, .slice bo 2 d, .int .i64 20, .int .i64 8, .slice (some ⟨g, 0, none⟩) 8 f], .int .i64 0, .int .i64 0]) ∧ IntsAt w'.heap.size w' ao [50, 71] ∧ IntsAt w'.heap.size w' bo [101, 87] ∧ g < w'.heap.size ∧ w'.cell? ⟨g, 4, none⟩ = some (.int .i64 1) ∧ w'.cell? ⟨g, 5, none⟩ = some (.int .i64 1) ∧ Below w.heap.size w w' := by
  have hm : (2 : Nat) ≤ maxLen := by unfold maxLen; decide
  have C := paint_any w 2 1 so sd 2 2 [10, 20] [30, 40] kx4 hx hy hm hm (by unfold maxLen; decide)
  refine C.mono ?_
  rintro e w' ⟨E, P, r, hA, hR⟩
  obtain ⟨rfl, hr, hE⟩ := ans_run hA (by decide +kernel) kx_4
  have hr' : r = exR := hr
  have x1 := exR_some; have x2 := exR_opn; have x3 := exR_hid; have x4 := exR_st; have x5 := exR_tt; have x6 := exR_tr
  rw [← hr'] at x1 x2 x3 x4 x5 x6
  cases r with
  | none => cases x1
  | some S =>
    have x2' : S.opn = [50, 71] := x2
    have x3' : S.hid = [101, 87] := x3
    have x4' : S.steps = 20 := x4
    have x5' : S.touched = 8 := x5
    have x6' : S.trace.length = 8 ∧ S.trace.getD 2 (0, 0) = (1, 1) := x6
    obtain ⟨ao, c, bo, d, to, f, he, i1, i2, i3, hb⟩ := hR.hidden
    rw [x2'] at i1 he
    rw [x3'] at i2 he
    rw [x4', x5', x6'.1] at he
    have hE' : E = 0 := hE
    subst hE'
    rcases i3 with i3 | ⟨g, rfl, hg, hc⟩
    · rw [i3] at x6'; exact absurd x6'.1 (by decide)
    · have h2 := hc 2 (by omega)
      rw [x6'.2] at h2
      exact ⟨ao, c, bo, d, g, f, he, i1, i2, hg, h2.1, h2.2, hb⟩
theorem ints_new2 (w : World) (a b : Int) : IntsAt (w.heap.size + 1) (w.alloc (.cells #[.int .i64 a, .int .i64 b] 3)) (some ⟨w.heap.size, 0, none⟩) [a, b] := by
  refine .inr ⟨w.heap.size, 0, rfl, by omega, fun j hj => ?_⟩
  have hj' : j = 0 ∨ j = 1 := by simp at hj; omega
  have hb : (w.alloc (.cells #[.int .i64 a, .int .i64 b] 3)).heap[w.heap.size]? = some (.cells #[.int .i64 a, .int .i64 b] 3 (0, 0)) := heap_alloc_new w _
  rcases hj' with rfl | rfl
  · exact (bkp2 hb).1.1
  · exact (bkp2 hb).1.2
set_option maxHeartbeats 800000 in
theorem painting_any (w : World) : Calls Try.prog 22 #[] w fun e w' => e = .returned (.bool true) ∧ Below w.heap.size w w' := by
  obtain ⟨w1, hw1⟩ : ∃ w1, (w.alloc (.cells #[.int .i64 10, .int .i64 20] 3)).alloc (.cells #[.int .i64 30, .int .i64 40] 3) = w1 := ⟨_, rfl⟩
  have z1 : w1.heap.size = w.heap.size + 2 := by rw [← hw1]; simp
  have b1 : Below w.heap.size w w1 := by rw [← hw1]; exact ((Below.refl _ w).alloc (Nat.le_refl _) _).alloc (by simp) _
  have i1 : IntsAt w1.heap.size w1 (some ⟨w.heap.size, 0, none⟩) [10, 20] := by
    rw [z1, ← hw1]
    exact ((ints_new2 w 10 20).later (B' := w.heap.size + 1) (by have := below_alloc (w.alloc (.cells #[.int .i64 10, .int .i64 20] 3)) (.cells #[.int .i64 30, .int .i64 40] 3); simpa using this) (Nat.le_refl _)).mono (by omega)
  have i2 : IntsAt w1.heap.size w1 (some ⟨w.heap.size + 1, 0, none⟩) [30, 40] := by
    rw [z1, ← hw1]
    have := ints_new2 (w.alloc (.cells #[.int .i64 10, .int .i64 20] 3)) 30 40
    simpa using this
  have PC := hide (paintEx w1 _ _ i1 i2)
  have HB1 := hide b1
  have Z1 := hide z1
  clear b1 i1 i2 z1
  unfold kx4 at PC
  go_enter Try.func22, Try.ntmps22
  go_wp2_with fail
  clear hw1
  refine (unhide PC).mono ?_
  rintro e w2 ⟨ao, c, bo, d, g, f, rfl, i1, i2, hg, k1, k2, b2⟩
  have z1 := unhide Z1
  obtain ⟨w3, hw3⟩ : ∃ w3, w2.alloc (.cells #[.slice ao 2 c, .slice bo 2 d, .int .i64 20, .int .i64 8, .slice (some ⟨g, 0, none⟩) 8 f] 51) = w3 := ⟨_, rfl⟩
  have z3 : w3.heap.size = w2.heap.size + 1 := by rw [← hw3]; simp
  have b3 : Below w2.heap.size w2 w3 := by rw [← hw3]; exact below_alloc _ _
  have r3 := RB.new w2 (.slice ao 2 c) (.slice bo 2 d) (.int .i64 20) (.int .i64 8) (.slice (some ⟨g, 0, none⟩) 8 f)
  rw [hw3] at r3
  obtain ⟨w4, hw4⟩ : ∃ w4, w3.alloc (.cells #[.int .i64 50, .int .i64 71] 3) = w4 := ⟨_, rfl⟩
  have z4 : w4.heap.size = w2.heap.size + 2 := by rw [← hw4]; simp; omega
  have b4 : Below w3.heap.size w3 w4 := by rw [← hw4]; exact below_alloc _ _
  have j4 := ints_new2 w3 50 71
  rw [hw4] at j4
  have i4 : IntsAt w4.heap.size w4 ao [50, 71] := ((i1.later b3 (Nat.le_refl _)).later b4 (by omega)).mono (by omega)
  have SK := hide (same_keep ao (some ⟨w3.heap.size, 0, none⟩) c 2 [50, 71] w4 i4 (j4.mono (by omega)) (by decide))
  have e2 := b2.size
  have HB4 : Hid (Below w.heap.size w w4) := ((unhide HB1).trans (b2.mono (by omega))).trans ((b3.mono (by omega)).trans (b4.mono (by omega)))
  have r4 := r3.later b4 (by omega)
  have h4 : IntsAt w2.heap.size w4 bo [101, 87] := (i2.later b3 (Nat.le_refl _)).later b4 (by omega)
  have m1 := (b4.cell (p := ⟨g, 4, none⟩) (by show g < w3.heap.size; omega)).trans ((b3.cell (p := ⟨g, 4, none⟩) hg).trans k1)
  have m2 := (b4.cell (p := ⟨g, 5, none⟩) (by show g < w3.heap.size; omega)).trans ((b3.cell (p := ⟨g, 5, none⟩) hg).trans k2)
  have Z4 : Hid (w4.heap.size = w2.heap.size + 2 ∧ w.heap.size + 2 ≤ w2.heap.size ∧ g < w2.heap.size) := by show _ ∧ _; omega
  obtain ⟨⟨a0, a1, a2, a3, a4⟩, _⟩ := bk5 r3
  clear z1 z3 z4 b3 b4 i1 i2 j4 i4 e2 PC HB1 Z1 b2 k1 k2 hg
  go_wp2_with fail
  clear hw3 hw4 a0 a1 a2 a3 a4
  refine (unhide SK).mono ?_
  rintro e w5 ⟨rfl, b5⟩
  have z4 := unhide Z4
  have r5 := r4.later b5 (by omega)
  obtain ⟨⟨a0, a1, a2, a3, a4⟩, _⟩ := bk5 r5
  obtain ⟨w6, hw6⟩ : ∃ w6, w5.alloc (.cells #[.int .i64 101, .int .i64 87] 3) = w6 := ⟨_, rfl⟩
  have e5 := b5.size
  have z6 : w6.heap.size = w5.heap.size + 1 := by rw [← hw6]; simp
  have b6 : Below w5.heap.size w5 w6 := by rw [← hw6]; exact below_alloc _ _
  have j6 := ints_new2 w5 101 87
  rw [hw6] at j6
  have i6 : IntsAt w6.heap.size w6 bo [101, 87] := ((h4.later b5 (by omega)).later b6 (by omega)).mono (by omega)
  have SK2 := hide (same_keep bo (some ⟨w5.heap.size, 0, none⟩) d 2 [101, 87] w6 i6 (j6.mono (by omega)) (by decide))
  have r6 := r5.later b6 (by omega)
  have n1 := (b6.cell (p := ⟨g, 4, none⟩) (by show g < w5.heap.size; omega)).trans ((b5.cell (p := ⟨g, 4, none⟩) (by show g < w4.heap.size; omega)).trans m1)
  have n2 := (b6.cell (p := ⟨g, 5, none⟩) (by show g < w5.heap.size; omega)).trans ((b5.cell (p := ⟨g, 5, none⟩) (by show g < w4.heap.size; omega)).trans m2)
  have HB6 : Hid (Below w.heap.size w w6) := (unhide HB4).trans ((b5.mono (by omega)).trans (b6.mono (by omega)))
  have Z6 : Hid (w.heap.size ≤ w6.heap.size ∧ w2.heap.size < w6.heap.size ∧ g < w6.heap.size) := by show _ ∧ _; omega
  clear z4 e5 z6 b5 b6 j6 i6 SK HB4 Z4 h4 r4 m1 m2 r3
  go_wp2_with fail
  clear hw6 a0 a1 a2 a3 a4
  refine (unhide SK2).mono ?_
  rintro e w7 ⟨rfl, b7⟩
  have z6 := unhide Z6
  obtain ⟨⟨a0, a1, a2, a3, a4⟩, _⟩ := bk5 (r6.later b7 (by omega))
  have l1 := (b7.cell (p := ⟨g, 4, none⟩) (by show g < w6.heap.size; omega)).trans n1
  have l2 := (b7.cell (p := ⟨g, 5, none⟩) (by show g < w6.heap.size; omega)).trans n2
  have HB7 : Hid (Below w.heap.size w w7) := (unhide HB6).trans (b7.mono (by omega))
  clear z6 b7 n1 n2 r5 r6 SK2 HB6 Z6
  go_wp2
  go_ret
  exact ⟨rfl, unhide HB7⟩
end Go.Proofs.Ythmmgiaobakilaa
