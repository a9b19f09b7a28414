import Derived.Test.YthmmgiaobakilaaJ01
/- The walks of the project's own writing: isSide, areTexels, Shape. No condition but those of each theorem. -/
set_option maxRecDepth 100000
namespace Go.Proofs.Ythmmgiaobakilaa
open Go.RowKit

theorem side_any (n : Int) (w : World) : Calls Try.prog 65 #[.int .i64 n] w fun e w' => e = .returned (.bool (sideB n)) ∧ w' = w := by
  by_cases h1 : 1 ≤ n
  · go_enter Try.func65, Try.ntmps65
    go_wp2
    all_goals go_ret
    all_goals exact ⟨ret_bool (by simp [sideB, h1]), rfl⟩
  · have h2 : decide (1 ≤ n) = false := by simpa using h1
    go_enter Try.func65, Try.ntmps65
    go_wp2
    all_goals go_ret
    all_goals exact ⟨ret_bool (by simp [sideB, h2]), rfl⟩

set_option maxHeartbeats 400000 in
theorem texels_any (ao : Option Addr) (c : Nat) (xs : List Int) (count : Int) (w : World) (B : Nat) (h : IntsAt B w ao xs) (hl : xs.length ≤ maxLen) :
    Calls Try.prog 66 #[.slice ao xs.length c, .int .i64 count] w fun e w' => e = .returned (.bool (texelsB xs count)) ∧ w' = w := by
  unfold maxLen at hl
  by_cases hc : (xs.length : Int) = count
  · have hc' : ((xs.length : Int) != count) = false := by simp [hc]
    have HC : Hid ((xs.length : Int) = count) := hc
    clear hc
    go_enter Try.func66, Try.ntmps66
    go_wp2
    go_loop [13] (fun i => ∃ k : Nat, k ≤ xs.length ∧ i = .int .i64 k ∧ (xs.take k).all texelB = true) (fun i => xs.length - (intOf i).toNat)
    case atStart => exact ⟨0, Nat.zero_le _, rfl, by simp⟩
    case round =>
      obtain ⟨k, hk, rfl, hall⟩ := hrel
      have HA : Hid ((xs.take k).all texelB = true) := hall
      clear hall
      by_cases hlt : k < xs.length
      · rcases h with h | ⟨b, off, rfl, _, hcell⟩
        · simp [h] at hlt
        have hc1 := hcell k hlt
        clear hcell
        have HS : Hid ((xs.take (k + 1)).all texelB = ((xs.take k).all texelB && texelB (xs.getD k 0))) := all_take_succ texelB xs k hlt
        obtain ⟨x, hx⟩ : ∃ x, x = xs.getD k 0 := ⟨_, rfl⟩
        rw [← hx] at hc1
        have HX : Hid (x = xs.getD k 0) := hx
        clear hx
        by_cases h0 : x < 0
        · go_wp2
          all_goals go_ret
          all_goals refine ⟨ret_bool ?_, rfl⟩
          all_goals (have hf : texelB (xs.getD k 0) = false := by rw [← HX.out]; simp [texelB]; omega)
          all_goals simp [texelsB, all_false_of texelB xs k hlt hf]
        · have h0' : decide (x < 0) = false := by simpa using h0
          by_cases h1 : 255 < x
          · go_wp2
            all_goals go_ret
            all_goals refine ⟨ret_bool ?_, rfl⟩
            all_goals (have hf : texelB (xs.getD k 0) = false := by rw [← HX.out]; simp [texelB]; omega)
            all_goals simp [texelsB, all_false_of texelB xs k hlt hf]
          · go_wp2
            all_goals
              go_round
              case rel => exact ⟨k + 1, by omega, by go_num, by rw [HS.out, HA.out, ← HX.out]; simp [texelB]; omega⟩
              case measure => simp [intOf]; omega
      · go_wp2
        go_ret
        have hk' : k = xs.length := by omega
        have ha := HA.out
        rw [hk', List.take_length] at ha
        exact ⟨ret_bool (by simp only [texelsB, ha, HC.out]; simp), rfl⟩
  · have hc' : ((xs.length : Int) != count) = true := by simp [hc]
    go_enter Try.func66, Try.ntmps66
    go_wp2
    go_ret
    exact ⟨ret_bool (by simp [texelsB, hc]), rfl⟩

set_option maxHeartbeats 1000000 in
theorem shape_any (W H : Int) (ao bo : Option Addr) (c d : Nat) (xs ys : List Int) (src : ByteArray) (w : World) (B : Nat) (hB : B ≤ w.heap.size) (hx : IntsAt B w ao xs) (hy : IntsAt B w bo ys) (hlx : xs.length ≤ maxLen) (hly : ys.length ≤ maxLen) :
    Calls Try.prog 41 #[.agg #[.int .i64 W, .int .i64 H, .slice ao xs.length c, .slice bo ys.length d, .string src]] w fun e w' => e = .returned (.int .i64 (shapeE W H xs ys)) ∧ Below w.heap.size w w' := by
  have hb : ∀ o, Below w.heap.size w (w.alloc o) := fun o => (Below.refl _ _).alloc (Nat.le_refl _) o
  have hxa : ∀ o, IntsAt B (w.alloc o) ao xs := fun o => hx.later (hb o) hB
  have hya : ∀ o, IntsAt B (w.alloc o) bo ys := fun o => hy.later (hb o) hB
  clear hx hy
  by_cases hW : sideB W = true
  · by_cases hH : sideB H = true
    · obtain ⟨w1, w2, h1, h2, m1, m2⟩ := side_mul hW hH
      by_cases hX : texelsB xs (W * H) = true
      · by_cases hY : texelsB ys (W * H) = true
        · go_enter Try.func41, Try.ntmps41
          go_wp2_with (go_at_call 65; refine (side_any _ _).mono ?_; rintro e w' ⟨rfl, rfl⟩)
          refine (texels_any ao c xs _ _ B (hxa _) hlx).mono ?_
          rintro e w' ⟨rfl, rfl⟩
          go_wp2_with fail
          refine (texels_any bo d ys _ _ B (hya _) hly).mono ?_
          rintro e w' ⟨rfl, rfl⟩
          go_wp2
          go_ret
          exact ⟨ret_int (by simp [shapeE, hW, hH, hX, hY]), hb _⟩
        · go_enter Try.func41, Try.ntmps41
          go_wp2_with (go_at_call 65; refine (side_any _ _).mono ?_; rintro e w' ⟨rfl, rfl⟩)
          refine (texels_any ao c xs _ _ B (hxa _) hlx).mono ?_
          rintro e w' ⟨rfl, rfl⟩
          go_wp2_with fail
          refine (texels_any bo d ys _ _ B (hya _) hly).mono ?_
          rintro e w' ⟨rfl, rfl⟩
          go_wp2
          go_ret
          exact ⟨ret_int (by simp [shapeE, hW, hH, hX, hY]), hb _⟩
      · go_enter Try.func41, Try.ntmps41
        go_wp2_with (first | (go_at_call 65; refine (side_any _ _).mono ?_; rintro e w' ⟨rfl, rfl⟩) | (go_at_call 66; refine (texels_any ao c xs _ _ B (hxa _) hlx).mono ?_; rintro e w' ⟨rfl, rfl⟩))
        go_ret
        exact ⟨ret_int (by simp [shapeE, hW, hH, hX]), hb _⟩
    · go_enter Try.func41, Try.ntmps41
      go_wp2_with (go_at_call 65; refine (side_any _ _).mono ?_; rintro e w' ⟨rfl, rfl⟩)
      go_ret
      exact ⟨ret_int (by simp [shapeE, hW, hH]), hb _⟩
  · go_enter Try.func41, Try.ntmps41
    go_wp2_with (go_at_call 65; refine (side_any _ _).mono ?_; rintro e w' ⟨rfl, rfl⟩)
    go_ret
    exact ⟨ret_int (by simp [shapeE, hW]), hb _⟩

end Go.Proofs.Ythmmgiaobakilaa
