/- The walk of the reference's Encode: it answers the same 'encS', 'encE'. -/
import Derived.Test.YthmmgiaobakilaaPlain
set_option maxRecDepth 100000
namespace Go.Proofs.Ythmmgiaobakilaa
open Go.RowKit

theorem infoByteR : (Try.prog.info? 5).map (fun i => (i.zero, i.size, i.bytes)) = some (some (.int .u8 0), 1, 1) := by kernel_rfl

set_option maxHeartbeats 1000000 in
theorem fits_side (W H : Int) (vx vy vs : Value) (w : World) (h : (sideB W && sideB H) = false) :
    Calls Try.prog 31 #[.agg #[.int .i64 W, .int .i64 H, vx, vy, vs]] w fun e w' => e = .returned (.int .i64 3) ∧ Below w.heap.size w w' := by
  have hb : ∀ o, Below w.heap.size w (w.alloc o) := fun o => (Below.refl _ _).alloc (Nat.le_refl _) o
  by_cases h1 : W < 1
  · go_enter Try.func31, Try.ntmps31
    go_wp2
    go_ret
    exact ⟨rfl, hb _⟩
  · have d1 : decide (W < 1) = false := by simpa using h1
    by_cases h2 : 6 < W
    · go_enter Try.func31, Try.ntmps31
      go_wp2
      go_ret
      exact ⟨rfl, hb _⟩
    · have d2 : decide (6 < W) = false := by simpa using h2
      by_cases h3 : H < 1
      · go_enter Try.func31, Try.ntmps31
        go_wp2
        go_ret
        exact ⟨rfl, hb _⟩
      · have d3 : decide (H < 1) = false := by simpa using h3
        have h4 : 6 < H := by simp [sideB] at h; omega
        go_enter Try.func31, Try.ntmps31
        go_wp2
        go_ret
        exact ⟨rfl, hb _⟩

set_option maxHeartbeats 1000000 in
theorem fits_len (W H : Int) (ao bo : Option Addr) (n c m d : Nat) (vs : Value) (w : World) (hW : sideB W = true) (hH : sideB H = true) (_hn : n ≤ maxLen) (_hm : m ≤ maxLen) (h : ¬ ((n : Int) = W * H ∧ (m : Int) = W * H)) :
    Calls Try.prog 31 #[.agg #[.int .i64 W, .int .i64 H, .slice ao n c, .slice bo m d, vs]] w fun e w' => e = .returned (.int .i64 6) ∧ Below w.heap.size w w' := by
  have hb : ∀ o, Below w.heap.size w (w.alloc o) := fun o => (Below.refl _ _).alloc (Nat.le_refl _) o
  obtain ⟨b1, b2, b3, b4, b5, b6⟩ := side_mul hW hH
  clear hW hH
  have d1 : decide (W < 1) = false := by simp; omega
  have d2 : decide (6 < W) = false := by simp; omega
  have d3 : decide (H < 1) = false := by simp; omega
  have d4 : decide (6 < H) = false := by simp; omega
  by_cases h1 : (n : Int) = W * H
  · have e1 : ((n : Int) != W * H) = false := by simp [h1]
    have e2 : ((m : Int) != W * H) = true := by simp; exact fun h2 => h ⟨h1, h2⟩
    clear h h1
    go_enter Try.func31, Try.ntmps31
    go_wp2
    go_ret
    exact ⟨rfl, hb _⟩
  · have e1 : ((n : Int) != W * H) = true := by simp [h1]
    clear h
    go_enter Try.func31, Try.ntmps31
    go_wp2
    go_ret
    exact ⟨rfl, hb _⟩

set_option maxHeartbeats 2000000 in
theorem fits_loop (W H : Int) (ao bo : Option Addr) (c d : Nat) (xs ys : List Int) (vs : Value) (w : World) (hx : IntsAt w.heap.size w ao xs) (hy : IntsAt w.heap.size w bo ys) (hW : sideB W = true) (hH : sideB H = true) (lx : (xs.length : Int) = W * H) (ly : (ys.length : Int) = W * H) :
    Calls Try.prog 31 #[.agg #[.int .i64 W, .int .i64 H, .slice ao xs.length c, .slice bo ys.length d, vs]] w fun e w' => e = .returned (.int .i64 (shapeE W H xs ys)) ∧ Below w.heap.size w w' := by
  have hb : ∀ o, Below w.heap.size w (w.alloc o) := fun o => (Below.refl _ _).alloc (Nat.le_refl _) o
  obtain ⟨b1, b2, b3, b4, b5, b6⟩ := side_mul hW hH
  have ES : Hid (shapeE W H xs ys = if xs.all texelB && ys.all texelB then 0 else 6) := by show shapeE W H xs ys = _; simp only [shapeE, hW, hH, texelsB, lx, ly]; simp
  clear hW hH
  have d1 : decide (W < 1) = false := by simp; omega
  have d2 : decide (6 < W) = false := by simp; omega
  have d3 : decide (H < 1) = false := by simp; omega
  have d4 : decide (6 < H) = false := by simp; omega
  have e1 : ((xs.length : Int) != W * H) = false := by simp [lx]
  have e2 : ((ys.length : Int) != W * H) = false := by simp [ly]
  have LX : Hid ((xs.length : Int) = W * H) := lx
  have LY : Hid ((ys.length : Int) = W * H) := ly
  clear lx ly
  go_enter Try.func31, Try.ntmps31
  go_wp2
  go_loop [3] (fun i => ∃ k : Nat, (k : Int) ≤ W * H ∧ i = .int .i64 k ∧ (xs.take k).all texelB = true ∧ (ys.take k).all texelB = true) (fun i => (W * H - intOf i).toNat)
  case atStart => exact ⟨0, by omega, rfl, by simp, by simp⟩
  case round =>
    obtain ⟨k, hk, rfl, hax, hay⟩ := hrel
    have HX : Hid ((xs.take k).all texelB = true) := hax
    have HY : Hid ((ys.take k).all texelB = true) := hay
    clear hax hay
    by_cases hlt : (k : Int) < W * H
    · have hkx : k < xs.length := by have := LX.out; omega
      have hky : k < ys.length := by have := LY.out; omega
      rcases hx with hx | ⟨b, off, rfl, hbB, hcx⟩
      · simp [hx] at hkx
      rcases hy with hy | ⟨b', off', rfl, hbB', hcy⟩
      · simp [hy] at hky
      have cx := hcx k hkx
      have cy := hcy k hky
      clear hcx hcy
      have SX : Hid ((xs.take (k + 1)).all texelB = ((xs.take k).all texelB && texelB (xs.getD k 0))) := all_take_succ texelB xs k hkx
      have SY : Hid ((ys.take (k + 1)).all texelB = ((ys.take k).all texelB && texelB (ys.getD k 0))) := all_take_succ texelB ys k hky
      have FX : Hid (texelB (xs.getD k 0) = false → shapeE W H xs ys = 6) := fun h => by rw [ES.out]; simp [all_false_of texelB xs k hkx h]
      have FY : Hid (texelB (ys.getD k 0) = false → shapeE W H xs ys = 6) := fun h => by rw [ES.out]; simp [all_false_of texelB ys k hky h]
      generalize xs.getD k 0 = x at cx SX FX
      generalize ys.getD k 0 = y at cy SY FY
      by_cases x0 : x < 0
      · go_wp2
        go_ret
        exact ⟨ret_int (FX.out (by simp [texelB]; omega)).symm, hb _⟩
      have x0' : decide (x < 0) = false := by simpa using x0
      by_cases x1 : 255 < x
      · go_wp2
        go_ret
        exact ⟨ret_int (FX.out (by simp [texelB]; omega)).symm, hb _⟩
      have x1' : decide (255 < x) = false := by simpa using x1
      by_cases y0 : y < 0
      · go_wp2
        go_ret
        exact ⟨ret_int (FY.out (by simp [texelB]; omega)).symm, hb _⟩
      have y0' : decide (y < 0) = false := by simpa using y0
      by_cases y1 : 255 < y
      · go_wp2
        go_ret
        exact ⟨ret_int (FY.out (by simp [texelB]; omega)).symm, hb _⟩
      have y1' : decide (255 < y) = false := by simpa using y1
      go_wp2
      go_round
      case rel => exact ⟨k + 1, by omega, by go_num, by rw [SX.out, HX.out]; simp [texelB]; omega, by rw [SY.out, HY.out]; simp [texelB]; omega⟩
      case measure => simp [intOf]; omega
    · go_wp2
      go_ret
      have l1 := LX.out
      have l2 := LY.out
      have a1 := HX.out
      have a2 := HY.out
      rw [List.take_of_length_le (by omega)] at a1 a2
      exact ⟨ret_int (by rw [ES.out]; simp [a1, a2]), hb _⟩

theorem fits_any (W H : Int) (ao bo : Option Addr) (c d : Nat) (xs ys : List Int) (vs : Value) (w : World) (hx : IntsAt w.heap.size w ao xs) (hy : IntsAt w.heap.size w bo ys) (hlx : xs.length ≤ maxLen) (hly : ys.length ≤ maxLen) :
    Calls Try.prog 31 #[.agg #[.int .i64 W, .int .i64 H, .slice ao xs.length c, .slice bo ys.length d, vs]] w fun e w' => e = .returned (.int .i64 (shapeE W H xs ys)) ∧ Below w.heap.size w w' := by
  by_cases hs : (sideB W && sideB H) = true
  · have hs' := hs
    simp only [Bool.and_eq_true] at hs'
    by_cases hl : (xs.length : Int) = W * H ∧ (ys.length : Int) = W * H
    · exact fits_loop W H ao bo c d xs ys vs w hx hy hs'.1 hs'.2 hl.1 hl.2
    · have e : shapeE W H xs ys = 6 := by
        have hn : ¬ (texelsB xs (W * H) && texelsB ys (W * H)) = true := by
          intro h
          simp only [texelsB, Bool.and_eq_true, decide_eq_true_eq] at h
          exact hl ⟨h.1.1, h.2.1⟩
        rw [shapeE, if_pos hs, if_neg hn]
      rw [e]
      exact fits_len W H ao bo _ c _ d vs w hs'.1 hs'.2 hlx hly hl
  · have hs' : (sideB W && sideB H) = false := by simpa using hs
    have e : shapeE W H xs ys = 3 := by simp [shapeE, hs']
    rw [e]
    exact fits_side W H _ _ vs w hs'

end Go.Proofs.Ythmmgiaobakilaa
