/- The walk of the project's Write (Encode's body): what it answers is 'encS', 'encE'. The lists lie below B. -/
import Derived.Test.YthmmgiaobakilaaAppend
set_option maxRecDepth 100000
namespace Go.Proofs.Ythmmgiaobakilaa
open Go.RowKit

set_option maxHeartbeats 1000000 in
theorem write_bad (W H : Int) (ao bo : Option Addr) (c d : Nat) (xs ys : List Int) (src : ByteArray) (w : World) (hx : IntsAt w.heap.size w ao xs) (hy : IntsAt w.heap.size w bo ys) (hlx : xs.length ≤ maxLen) (hly : ys.length ≤ maxLen) (he : ¬ shapeE W H xs ys = 0) :
    Calls Try.prog 30 #[.agg #[.int .i64 W, .int .i64 H, .slice ao xs.length c, .slice bo ys.length d, .string src]] w fun e w' => e = .returned (.tuple #[.string ByteArray.empty, .int .i64 (shapeE W H xs ys)]) ∧ Below w.heap.size w w' := by
  have hb : ∀ o, Below w.heap.size w (w.alloc o) := fun o => (Below.refl _ _).alloc (Nat.le_refl _) o
  have hne : (shapeE W H xs ys != 0) = true := by simpa using he
  go_enter Try.func30, Try.ntmps30
  go_wp2_with fail
  refine (shape_any W H ao bo c d xs ys src _ w.heap.size (by simp) (hx.later (hb _) (Nat.le_refl _)) (hy.later (hb _) (Nat.le_refl _)) hlx hly).mono ?_
  rintro e w' ⟨rfl, hw⟩
  go_wp2
  go_ret2
  exact ⟨rfl, (hb _).trans (hw.mono (by simp))⟩

set_option maxHeartbeats 1000000 in
theorem write_long (W H : Int) (ao bo : Option Addr) (c d : Nat) (xs ys : List Int) (src : ByteArray) (w : World) (hx : IntsAt w.heap.size w ao xs) (hy : IntsAt w.heap.size w bo ys) (hlx : xs.length ≤ maxLen) (hly : ys.length ≤ maxLen) (he : shapeE W H xs ys = 0) (hs : src.size ≤ maxLen) (h300 : 300 < src.size) :
    Calls Try.prog 30 #[.agg #[.int .i64 W, .int .i64 H, .slice ao xs.length c, .slice bo ys.length d, .string src]] w fun e w' => e = .returned (.tuple #[.string ByteArray.empty, .int .i64 7]) ∧ Below w.heap.size w w' := by
  have hb : ∀ o, Below w.heap.size w (w.alloc o) := fun o => (Below.refl _ _).alloc (Nat.le_refl _) o
  have HE : Hid (shapeE W H xs ys = 0) := he
  clear he
  go_enter Try.func30, Try.ntmps30
  go_wp2_with fail
  refine (shape_any W H ao bo c d xs ys src _ w.heap.size (by simp) (hx.later (hb _) (Nat.le_refl _)) (hy.later (hb _) (Nat.le_refl _)) hlx hly).mono ?_
  rintro e w' ⟨rfl, hw⟩
  rw [HE.out]
  obtain ⟨k0, k1, k2, k3, k4, hz⟩ := box5 hw
  have hw' := (hb _).trans (hw.mono (by simp))
  clear hw hx hy
  unfold maxLen at hs
  go_wp2
  go_ret2
  exact ⟨rfl, hw'⟩

set_option maxHeartbeats 1000000 in
theorem write_good (W H : Int) (ao bo : Option Addr) (c d : Nat) (xs ys : List Int) (src : ByteArray) (w : World) (hx : IntsAt w.heap.size w ao xs) (hy : IntsAt w.heap.size w bo ys) (hlx : xs.length ≤ maxLen) (hly : ys.length ≤ maxLen) (he : shapeE W H xs ys = 0) (h300 : src.size ≤ 300) :
    Calls Try.prog 30 #[.agg #[.int .i64 W, .int .i64 H, .slice ao xs.length c, .slice bo ys.length d, .string src]] w fun e w' => e = .returned (.tuple #[.string (strOfNums (encN W H xs ys src)), .int .i64 0]) ∧ Below w.heap.size w w' := by
  obtain ⟨i0, hi, hz0, hz1, hz2⟩ := info_parts infoByte
  obtain ⟨sW, sH, lx, ly, tx, ty⟩ := shape_zero he
  obtain ⟨b1, b2, b3, b4, b5, b6⟩ := side_mul sW sH
  have hxl : xs.length ≤ 36 := by omega
  have hyl : ys.length ≤ 36 := by omega
  clear lx ly sW sH
  have hb : ∀ o, Below w.heap.size w (w.alloc o) := fun o => (Below.refl _ _).alloc (Nat.le_refl _) o
  have HE : Hid (shapeE W H xs ys = 0) := he
  have TX : Hid (xs.all texelB = true) := tx
  have TY : Hid (ys.all texelB = true) := ty
  clear he tx ty
  go_enter Try.func30, Try.ntmps30
  go_wp2_with fail
  refine (shape_any W H ao bo c d xs ys src _ w.heap.size (by simp) (hx.later (hb _) (Nat.le_refl _)) (hy.later (hb _) (Nat.le_refl _)) hlx hly).mono ?_
  rintro e w' ⟨rfl, hw⟩
  rw [HE.out]
  obtain ⟨k0, k1, k2, k3, k4, hz⟩ := box5 hw
  have hw' := (hb _).trans (hw.mono (by simp))
  have hx' := hx.later hw' (Nat.le_refl _)
  have hy' := hy.later hw' (Nat.le_refl _)
  clear hw hx hy
  go_wp2_with fail
  have ha := fun o => (Below.refl (w.heap.size + 1) w').alloc (by omega) o
  refine (append_any _ 3 [.int .u8 85, .int .u8 W, .int .u8 H] ao c xs _ (w.heap.size + 1) (World.ownsRow_lit w' #[.int .u8 85, .int .u8 W, .int .u8 H] 3 (by omega) (by decide) rfl) ((hx'.mono (by omega)).later (ha _) (Nat.le_refl _)) (by omega) (by omega) (by simp; omega) TX.out).mono ?_
  rintro e w2 ⟨v2, rfl, own2, bel2⟩
  have B2 : Below (w.heap.size + 1) w' w2 := (ha _).trans bel2
  replace k3 := keep_cell k3 B2
  replace k4 := keep_cell k4 B2
  replace hz : w.heap.size < w2.heap.size := by have := B2.size; omega
  replace hw' := hw'.trans (B2.mono (by omega))
  replace hy' := hy'.later B2 (by omega)
  clear k0 k1 k2 hx' bel2 B2 ha
  go_wp2_with fail
  refine (append_any v2 (3 + xs.length) _ bo d ys _ (w.heap.size + 1) own2 (hy'.mono (by omega)) (by omega) (by omega) (by omega) TY.out).mono ?_
  rintro e w3 ⟨v3, rfl, own3, bel3⟩
  replace k4 := keep_cell k4 bel3
  replace hz : w.heap.size < w3.heap.size := by have := bel3.size; omega
  replace hw' := hw'.trans (bel3.mono (by omega))
  clear k3 hy' own2 bel3
  go_wp2_with (at_builtin; refine wpList_append_own _ rfl (.tmp 30) (.tmp 40) 58 rfl (w.heap.size + 1) 5 i0 (.int .u8 0) 1 1 Try.underlying58 hi hz0 hz1 hz2 rfl (by decide) _ _ _ rfl (own3.alloc _) ⟨w3.heap.size, 0, none⟩ 2 2 [.int .u8 ((src.size : Int) / 256), .int .u8 ((src.size : Int) % 256)] rfl rfl ?c1 ?c2 ?c3 ?c4 ?c5 ?_)
  case c1 => exact cell_new w3 [.int .u8 ((src.size : Int) / 256), .int .u8 ((src.size : Int) % 256)] 5
  case c2 => intro u hu; simp at hu; rcases hu with rfl | rfl <;> rfl
  case c3 => unfold maxLen; omega
  case c4 => omega
  case c5 => simp; omega
  intro v4 w4 own4 hg4 _
  have B4 : Below (w.heap.size + 1) w3 w4 := ((Below.refl _ _).alloc (by omega) _).grown hg4 (by simp; omega) (fun q hq => (own3.lt q hq).1)
  replace k4 := keep_cell k4 B4
  replace hz : w.heap.size < w4.heap.size := by have := B4.size; omega
  replace hw' := hw'.trans (B4.mono (by omega))
  clear own3 hg4 B4
  go_wp2_with (at_builtin; refine Lib.wpList_append_own_string _ rfl (.tmp 42) (.tmp 44) 58 9 rfl (w.heap.size + 1) 5 i0 Try.underlying58 Try.underlying9 hi hz0 hz1 hz2 _ _ _ rfl own4 src rfl ?c1 ?c2 ?c3 ?_)
  case c1 => unfold maxLen; omega
  case c2 => omega
  case c3 => omega
  intro v5 w5 own5 hg5 _
  have B5 : Below (w.heap.size + 1) w4 w5 := (Below.refl _ _).grown hg5 (by omega) (fun q hq => (own4.lt q hq).1)
  replace hw' := hw'.trans (B5.mono (by omega))
  have hcv : (convert 58 9 v5).run Try.prog w5 = .ok (.string (strOfNums (encN W H xs ys src))) w5 := by
    refine conv_own (base := w.heap.size + 1) (n := 3 + xs.length + ys.length + 2 + src.size) ?_
    rw [strCells_nums] at own5
    simpa [encN] using own5
  clear own4 own5 hg5 B5
  go_wp2
  go_ret2
  exact ⟨rfl, hw'⟩

theorem write_any (W H : Int) (ao bo : Option Addr) (c d : Nat) (xs ys : List Int) (src : ByteArray) (w : World) (hx : IntsAt w.heap.size w ao xs) (hy : IntsAt w.heap.size w bo ys) (hlx : xs.length ≤ maxLen) (hly : ys.length ≤ maxLen) (hs : src.size ≤ maxLen) :
    Calls Try.prog 30 #[.agg #[.int .i64 W, .int .i64 H, .slice ao xs.length c, .slice bo ys.length d, .string src]] w fun e w' => e = .returned (.tuple #[.string (encS W H xs ys src), .int .i64 (encE W H xs ys src)]) ∧ Below w.heap.size w w' := by
  by_cases he : shapeE W H xs ys = 0
  · by_cases h300 : 300 < src.size
    · have e1 : encE W H xs ys src = 7 := by simp [encE, he, h300]
      have e2 : encS W H xs ys src = ByteArray.empty := by simp [encS, e1]
      rw [e1, e2]
      exact write_long W H ao bo c d xs ys src w hx hy hlx hly he hs h300
    · have e1 : encE W H xs ys src = 0 := by simp [encE, he, h300]
      have e2 : encS W H xs ys src = strOfNums (encN W H xs ys src) := by simp [encS, e1]
      rw [e1, e2]
      exact write_good W H ao bo c d xs ys src w hx hy hlx hly he (by omega)
  · have e1 : encE W H xs ys src = shapeE W H xs ys := by simp [encE, he]
    have e2 : encS W H xs ys src = ByteArray.empty := by simp [encS, e1, he]
    rw [e1, e2]
    exact write_bad W H ao bo c d xs ys src w hx hy hlx hly he

set_option maxHeartbeats 400000 in
/-- Encode, the project's. -/
theorem encode_any (W H : Int) (ao bo : Option Addr) (c d : Nat) (xs ys : List Int) (src : ByteArray) (w : World) (hx : IntsAt w.heap.size w ao xs) (hy : IntsAt w.heap.size w bo ys) (hlx : xs.length ≤ maxLen) (hly : ys.length ≤ maxLen) (hs : src.size ≤ maxLen) :
    Calls Try.prog 11 #[.agg #[.int .i64 W, .int .i64 H, .slice ao xs.length c, .slice bo ys.length d, .string src]] w fun e w' => e = .returned (.tuple #[.string (encS W H xs ys src), .int .i64 (encE W H xs ys src)]) ∧ Below w.heap.size w w' := by
  have hb : ∀ o, Below w.heap.size w (w.alloc o) := fun o => (Below.refl _ _).alloc (Nat.le_refl _) o
  go_enter Try.func11, Try.ntmps11
  go_wp2_with fail
  refine (write_any W H ao bo c d xs ys src _ ((hx.later (hb _) (Nat.le_refl _)).mono (by simp)) ((hy.later (hb _) (Nat.le_refl _)).mono (by simp)) hlx hly hs).mono ?_
  rintro e w' ⟨rfl, hw⟩
  go_wp2
  go_ret2
  exact ⟨rfl, (hb _).trans (hw.mono (by simp))⟩

end Go.Proofs.Ythmmgiaobakilaa
