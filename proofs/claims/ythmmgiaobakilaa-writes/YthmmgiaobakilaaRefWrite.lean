/- The walk of the reference's Encode: it answers the same 'encS', 'encE' as the project's. The lists lie in old memory. -/
import Derived.Test.YthmmgiaobakilaaRefEncode
import Derived.Test.YthmmgiaobakilaaAppend
set_option maxRecDepth 100000
namespace Go.Proofs.Ythmmgiaobakilaa
open Go.RowKit

set_option maxHeartbeats 1000000 in
theorem refwrite_bad (W H : Int) (ao bo : Option Addr) (c d : Nat) (xs ys : List Int) (src : ByteArray) (w : World) (hx : IntsAt w.heap.size w ao xs) (hy : IntsAt w.heap.size w bo ys) (hlx : xs.length ≤ maxLen) (hly : ys.length ≤ maxLen) (he : ¬ shapeE W H xs ys = 0) :
    Calls Try.prog 12 #[.agg #[.int .i64 W, .int .i64 H, .slice ao xs.length c, .slice bo ys.length d, .string src]] w fun e w' => e = .returned (.tuple #[.string ByteArray.empty, .int .i64 (shapeE W H xs ys)]) ∧ Below w.heap.size w w' := by
  have hb : ∀ o, Below w.heap.size w (w.alloc o) := fun o => (Below.refl _ _).alloc (Nat.le_refl _) o
  have hne : (shapeE W H xs ys != 0) = true := by simpa using he
  go_enter Try.func12, Try.ntmps12
  go_wp2_with fail
  refine (fits_any W H ao bo c d xs ys (.string src) _ ((hx.later (hb _) (Nat.le_refl _)).mono (by simp)) ((hy.later (hb _) (Nat.le_refl _)).mono (by simp)) hlx hly).mono ?_
  rintro e w' ⟨rfl, hw⟩
  go_wp2
  go_ret2
  exact ⟨rfl, (hb _).trans (hw.mono (by simp))⟩

set_option maxHeartbeats 1000000 in
theorem refwrite_long (W H : Int) (ao bo : Option Addr) (c d : Nat) (xs ys : List Int) (src : ByteArray) (w : World) (hx : IntsAt w.heap.size w ao xs) (hy : IntsAt w.heap.size w bo ys) (hlx : xs.length ≤ maxLen) (hly : ys.length ≤ maxLen) (he : shapeE W H xs ys = 0) (hs : src.size ≤ maxLen) (h300 : 300 < src.size) :
    Calls Try.prog 12 #[.agg #[.int .i64 W, .int .i64 H, .slice ao xs.length c, .slice bo ys.length d, .string src]] w fun e w' => e = .returned (.tuple #[.string ByteArray.empty, .int .i64 7]) ∧ Below w.heap.size w w' := by
  have hb : ∀ o, Below w.heap.size w (w.alloc o) := fun o => (Below.refl _ _).alloc (Nat.le_refl _) o
  have HE : Hid (shapeE W H xs ys = 0) := he
  clear he
  go_enter Try.func12, Try.ntmps12
  go_wp2_with fail
  refine (fits_any W H ao bo c d xs ys (.string src) _ ((hx.later (hb _) (Nat.le_refl _)).mono (by simp)) ((hy.later (hb _) (Nat.le_refl _)).mono (by simp)) hlx hly).mono ?_
  rintro e w' ⟨rfl, hw⟩
  rw [HE.out]
  obtain ⟨k0, k1, k2, k3, k4, hz⟩ := box5 hw
  have hw' := (hb _).trans (hw.mono (by simp))
  clear hw hx hy
  unfold maxLen at hs
  go_wp2
  go_ret2
  exact ⟨rfl, hw'⟩

set_option maxHeartbeats 2000000 in
theorem refwrite_good (W H : Int) (ao bo : Option Addr) (c d : Nat) (xs ys : List Int) (src : ByteArray) (w : World) (hx : IntsAt w.heap.size w ao xs) (hy : IntsAt w.heap.size w bo ys) (hlx : xs.length ≤ maxLen) (hly : ys.length ≤ maxLen) (he : shapeE W H xs ys = 0) (h300 : src.size ≤ 300) :
    Calls Try.prog 12 #[.agg #[.int .i64 W, .int .i64 H, .slice ao xs.length c, .slice bo ys.length d, .string src]] w fun e w' => e = .returned (.tuple #[.string (strOfNums (encN W H xs ys src)), .int .i64 0]) ∧ Below w.heap.size w w' := by
  obtain ⟨i0, hi, hz0, hz1, hz2⟩ := info_parts infoByte
  obtain ⟨sW, sH, lx, ly, tx, ty⟩ := shape_zero he
  obtain ⟨b1, b2, b3, b4, b5, b6⟩ := side_mul sW sH
  have hxl : xs.length ≤ 36 := by omega
  have hyl : ys.length ≤ 36 := by omega
  have LX : Hid ((xs.length : Int) = W * H) := lx
  have LY : Hid ((ys.length : Int) = W * H) := ly
  clear lx ly sW sH
  have hb : ∀ o, Below w.heap.size w (w.alloc o) := fun o => (Below.refl _ _).alloc (Nat.le_refl _) o
  have HE : Hid (shapeE W H xs ys = 0) := he
  have TX : Hid (xs.all texelB = true) := tx
  have TY : Hid (ys.all texelB = true) := ty
  clear he tx ty
  go_enter Try.func12, Try.ntmps12
  go_wp2_with fail
  refine (fits_any W H ao bo c d xs ys (.string src) _ ((hx.later (hb _) (Nat.le_refl _)).mono (by simp)) ((hy.later (hb _) (Nat.le_refl _)).mono (by simp)) hlx hly).mono ?_
  rintro e w' ⟨rfl, hw⟩
  rw [HE.out]
  obtain ⟨k0, k1, k2, k3, k4, hz⟩ := box5 hw
  have hw' := (hb _).trans (hw.mono (by simp))
  have hx' := hx.later hw' (Nat.le_refl _)
  have hy' := hy.later hw' (Nat.le_refl _)
  clear hw hx hy
  go_wp2_with fail
  have ha := fun o => (Below.refl (w.heap.size + 1) w').alloc (by omega) o
  go_loopw [5, 6] (fun v i wr => ∃ k : Nat, (k : Int) ≤ W * H ∧ i = .int .i64 k ∧ wr.ownsRow (w.heap.size + 1) 5 1 v (3 + k) ([.int .u8 85, .int .u8 W, .int .u8 H] ++ (xs.take k).map (Value.int .u8)) ∧ Below (w.heap.size + 1) w' wr) (fun _ i _ => (W * H - intOf i).toNat)
  case atStart => exact ⟨0, by omega, rfl, by simpa using World.ownsRow_lit w' #[.int .u8 85, .int .u8 W, .int .u8 H] 3 (by omega) (by decide) rfl, ha _⟩
  case round =>
    obtain ⟨j, hj, rfl, own, hnx⟩ := hrel
    have r0 := keep_cell k0 hnx
    have r1 := keep_cell k1 hnx
    have rz : w.heap.size < wr.heap.size := by have := hnx.size; omega
    by_cases hlt : (j : Int) < W * H
    · have hkx : j < xs.length := by have := LX.out; omega
      have r2 := keep_cell k2 hnx
      rcases hx' with hx' | ⟨b, off, rfl, hbB, hcell⟩
      · simp [hx'] at hkx
      have hc1 := (hnx.cell (p := ⟨b, off + j, none⟩) (by show b < _; omega)).trans (hcell j hkx)
      clear hcell
      have hbnd : texelB (xs.getD j 0) = true := by
        have := List.all_eq_true.1 TX.out (xs[j]) (List.getElem_mem hkx)
        simpa [List.getD, List.getElem?_eq_getElem hkx] using this
      have HSN : Hid (∀ (u : World) (v' : Value), u.ownsRow (w.heap.size + 1) 5 1 v' (3 + j + 1) ([.int .u8 85, .int .u8 W, .int .u8 H] ++ (xs.take j).map (Value.int .u8) ++ [.int .u8 (xs.getD j 0)]) → u.ownsRow (w.heap.size + 1) 5 1 v' (3 + (j + 1)) ([.int .u8 85, .int .u8 W, .int .u8 H] ++ (xs.take (j + 1)).map (Value.int .u8))) := fun u v' h => own_snoc hkx h
      generalize xs.getD j 0 = x at hc1 hbnd HSN
      simp [texelB] at hbnd
      obtain ⟨x0, x1⟩ := hbnd
      clear k0 k1 k2 k3 k4 hy'
      go_wp2_with (at_builtin; refine wpList_append_own _ rfl (.tmp 35) (.tmp 42) 58 rfl (w.heap.size + 1) 5 i0 (.int .u8 0) 1 1 Try.underlying58 hi hz0 hz1 hz2 rfl (by decide) _ _ _ rfl (own.alloc _) ⟨wr.heap.size, 0, none⟩ 1 1 [.int .u8 x] rfl rfl ?c1 ?c2 ?c3 ?c4 ?c5 ?_)
      case c1 => exact cell_one_new _ _ _
      case c2 => intro u hu; simp at hu; subst hu; rfl
      case c3 => unfold maxLen; omega
      case c4 => omega
      case c5 => simp; omega
      intro v' w1 h1 hg _
      have R : w1.ownsRow (w.heap.size + 1) 5 1 v' (3 + (j + 1)) ([.int .u8 85, .int .u8 W, .int .u8 H] ++ (xs.take (j + 1)).map (Value.int .u8)) := HSN.out w1 v' (by simpa using h1)
      have R2 : Below (w.heap.size + 1) w' w1 := (hnx.alloc (by omega) _).grown hg (by simp; omega) (fun q hq => (own.lt q hq).1)
      clear h1 hg own hnx hc1 HSN r0 r1 r2
      go_wp2
      go_roundw
      case rel => exact ⟨j + 1, by omega, by go_num, R, R2⟩
      case measure => simp [intOf]; omega
    · have hjx : j = xs.length := by have := LX.out; omega
      subst hjx
      rw [List.take_length] at own
      have r3 := keep_cell k3 hnx
      have r4 := keep_cell k4 hnx
      have hwr := hw'.trans (hnx.mono (by omega))
      have hyr := hy'.later hnx (by omega)
      clear k0 k1 k2 k3 k4 hx' hy' hnx hw' hz ha
      go_wp2_with fail
      obtain ⟨wa, hwa⟩ : ∃ wa, wa = wr := ⟨_, rfl⟩
      subst hwa
      go_loopw [5, 7] (fun v i wq => ∃ k : Nat, (k : Int) ≤ W * H ∧ i = .int .i64 k ∧ wq.ownsRow (w.heap.size + 1) 5 1 v (3 + xs.length + k) ([.int .u8 85, .int .u8 W, .int .u8 H] ++ xs.map (Value.int .u8) ++ (ys.take k).map (Value.int .u8)) ∧ Below (w.heap.size + 1) wa wq) (fun _ i _ => (W * H - intOf i).toNat)
      case atStart => exact ⟨0, by omega, rfl, by simpa using own, Below.refl _ _⟩
      case round =>
        clear own
        obtain ⟨j, hj, rfl, own, hnx⟩ := hrel
        have q0 := keep_cell r0 hnx
        have q1 := keep_cell r1 hnx
        have qz : w.heap.size < wr.heap.size := by have := hnx.size; omega
        by_cases hlt : (j : Int) < W * H
        · have hky : j < ys.length := by have := LY.out; omega
          have q3 := keep_cell r3 hnx
          rcases hyr with hyr | ⟨b, off, rfl, hbB, hcell⟩
          · simp [hyr] at hky
          have hc1 := (hnx.cell (p := ⟨b, off + j, none⟩) (by show b < _; omega)).trans (hcell j hky)
          clear hcell
          have hbnd : texelB (ys.getD j 0) = true := by
            have := List.all_eq_true.1 TY.out (ys[j]) (List.getElem_mem hky)
            simpa [List.getD, List.getElem?_eq_getElem hky] using this
          have HSN : Hid (∀ (u : World) (v' : Value), u.ownsRow (w.heap.size + 1) 5 1 v' (3 + xs.length + j + 1) (([.int .u8 85, .int .u8 W, .int .u8 H] ++ xs.map (Value.int .u8)) ++ (ys.take j).map (Value.int .u8) ++ [.int .u8 (ys.getD j 0)]) → u.ownsRow (w.heap.size + 1) 5 1 v' (3 + xs.length + (j + 1)) (([.int .u8 85, .int .u8 W, .int .u8 H] ++ xs.map (Value.int .u8)) ++ (ys.take (j + 1)).map (Value.int .u8))) := fun u v' h => own_snoc hky h
          generalize ys.getD j 0 = x at hc1 hbnd HSN
          simp [texelB] at hbnd
          obtain ⟨x0, x1⟩ := hbnd
          clear r0 r1 r3 r4
          go_wp2_with (at_builtin; refine wpList_append_own _ rfl (.tmp 53) (.tmp 60) 58 rfl (w.heap.size + 1) 5 i0 (.int .u8 0) 1 1 Try.underlying58 hi hz0 hz1 hz2 rfl (by decide) _ _ _ rfl (own.alloc _) ⟨wr.heap.size, 0, none⟩ 1 1 [.int .u8 x] rfl rfl ?c1 ?c2 ?c3 ?c4 ?c5 ?_)
          case c1 => exact cell_one_new _ _ _
          case c2 => intro u hu; simp at hu; subst hu; rfl
          case c3 => unfold maxLen; omega
          case c4 => omega
          case c5 => simp; omega
          intro v' w1 h1 hg _
          have R : w1.ownsRow (w.heap.size + 1) 5 1 v' (3 + xs.length + (j + 1)) ([.int .u8 85, .int .u8 W, .int .u8 H] ++ xs.map (Value.int .u8) ++ (ys.take (j + 1)).map (Value.int .u8)) := HSN.out w1 v' (by simpa using h1)
          have R2 : Below (w.heap.size + 1) wa w1 := (hnx.alloc (by omega) _).grown hg (by simp; omega) (fun q hq => (own.lt q hq).1)
          clear h1 hg own hnx hc1 HSN q0 q1 q3
          go_wp2
          go_roundw
          case rel => exact ⟨j + 1, by omega, by go_num, R, R2⟩
          case measure => simp [intOf]; omega
        · have hjy : j = ys.length := by have := LY.out; omega
          subst hjy
          rw [List.take_length] at own
          have q4 := keep_cell r4 hnx
          have hwq := hwr.trans (hnx.mono (by omega))
          have hcv : (convert 58 9 u5).run Try.prog wr = .ok (.string (strOfNums ([85, W, H] ++ xs ++ ys))) wr := by
            refine conv_own (base := w.heap.size + 1) (n := 3 + xs.length + ys.length) ?_
            simpa using own
          have hcv2 : (convert 58 9 (.slice (some ⟨wr.heap.size, 0, none⟩) 2 2)).run Try.prog (wr.alloc (.cells #[.int .u8 ((src.size : Int) / 256), .int .u8 ((src.size : Int) % 256)] 5)) = .ok (.string (strOfNums [(src.size : Int) / 256, (src.size : Int) % 256])) (wr.alloc (.cells #[.int .u8 ((src.size : Int) / 256), .int .u8 ((src.size : Int) % 256)] 5)) :=
            conv_own (base := w.heap.size + 1) (n := 2) (World.ownsRow_lit wr #[.int .u8 ((src.size : Int) / 256), .int .u8 ((src.size : Int) % 256)] 2 (by omega) (by decide) rfl)
          have HP : Hid (strOfNums ([85, W, H] ++ xs ++ ys) ++ strOfNums [(src.size : Int) / 256, (src.size : Int) % 256] ++ src = strOfNums (encN W H xs ys src)) := encN_parts W H xs ys src _ _ rfl rfl
          have z1 : (strOfNums ([85, W, H] ++ xs ++ ys)).size ≤ 100 := by rw [strOfNums_size]; simp; omega
          have z2 : (strOfNums [(src.size : Int) / 256, (src.size : Int) % 256]).size ≤ 2 := by rw [strOfNums_size]; simp
          generalize strOfNums ([85, W, H] ++ xs ++ ys) = S1 at hcv HP z1
          generalize strOfNums [(src.size : Int) / 256, (src.size : Int) % 256] = S2 at hcv2 HP z2
          clear r0 r1 r3 r4 hyr hnx own hwr
          go_wp2
          go_ret2
          exact ⟨ret_str HP.out, hwq.alloc (by omega) _⟩

theorem refencode_any (W H : Int) (ao bo : Option Addr) (c d : Nat) (xs ys : List Int) (src : ByteArray) (w : World) (hx : IntsAt w.heap.size w ao xs) (hy : IntsAt w.heap.size w bo ys) (hlx : xs.length ≤ maxLen) (hly : ys.length ≤ maxLen) (hs : src.size ≤ maxLen) :
    Calls Try.prog 12 #[.agg #[.int .i64 W, .int .i64 H, .slice ao xs.length c, .slice bo ys.length d, .string src]] w fun e w' => e = .returned (.tuple #[.string (encS W H xs ys src), .int .i64 (encE W H xs ys src)]) ∧ Below w.heap.size w w' := by
  by_cases he : shapeE W H xs ys = 0
  · by_cases h300 : 300 < src.size
    · have e1 : encE W H xs ys src = 7 := by simp [encE, he, h300]
      have e2 : encS W H xs ys src = ByteArray.empty := by simp [encS, e1]
      rw [e1, e2]
      exact refwrite_long W H ao bo c d xs ys src w hx hy hlx hly he hs h300
    · have e1 : encE W H xs ys src = 0 := by simp [encE, he, h300]
      have e2 : encS W H xs ys src = strOfNums (encN W H xs ys src) := by simp [encS, e1]
      rw [e1, e2]
      exact refwrite_good W H ao bo c d xs ys src w hx hy hlx hly he (by omega)
  · have e1 : encE W H xs ys src = shapeE W H xs ys := by simp [encE, he]
    have e2 : encS W H xs ys src = ByteArray.empty := by simp [encS, e1, he]
    rw [e1, e2]
    exact refwrite_bad W H ao bo c d xs ys src w hx hy hlx hly he

end Go.Proofs.Ythmmgiaobakilaa
