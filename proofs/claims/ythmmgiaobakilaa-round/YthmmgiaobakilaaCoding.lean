/- The closed part of Round: coding answers true, and turns nothing old. -/
import Derived.Test.YthmmgiaobakilaaRoundPure
set_option maxRecDepth 100000
namespace Go.Proofs.Ythmmgiaobakilaa
open Go.RowKit

def exSrc : ByteArray := ⟨#[111, 117, 116, 32, 49, 59]⟩
def exBytes : ByteArray := ⟨#[85, 1, 2, 3, 4, 5, 255, 0, 6, 111, 117, 116, 32, 49, 59]⟩
def exMore : ByteArray := ⟨#[85, 1, 2, 3, 4, 5, 255, 0, 6, 111, 117, 116, 32, 49, 59, 120]⟩
theorem ex_encE : encE 1 2 [3, 4] [5, 255] exSrc = 0 := by decide +kernel
theorem ex_encS : encS 1 2 [3, 4] [5, 255] exSrc = exBytes := by decide +kernel
theorem ex_nums : nums exBytes = encN 1 2 [3, 4] [5, 255] exSrc := by decide +kernel
theorem ex_shape : shapeE 1 2 [3, 4] [5, 255] = 0 := by decide +kernel
theorem ex_more : dE (nums exMore) = 5 := by decide +kernel

theorem ints_two (w : World) (a b : Int) (o : Obj) : IntsAt (w.heap.size + 2) ((w.alloc (.cells #[.int .i64 a, .int .i64 b] 3)).alloc o) (some ⟨w.heap.size, 0, none⟩) [a, b] := by
  refine .inr ⟨w.heap.size, 0, rfl, by omega, fun j hj => ?_⟩
  have hj' : j = 0 ∨ j = 1 := by simp at hj; omega
  rcases hj' with rfl | rfl <;> simp [go_sem]
theorem ints_one (w : World) (a b : Int) (B : Nat) (hB : w.heap.size < B) : IntsAt B (w.alloc (.cells #[.int .i64 a, .int .i64 b] 3)) (some ⟨w.heap.size, 0, none⟩) [a, b] := by
  refine .inr ⟨w.heap.size, 0, rfl, hB, fun j hj => ?_⟩
  have hj' : j = 0 ∨ j = 1 := by simp at hj; omega
  rcases hj' with rfl | rfl <;> simp [go_sem]

set_option maxHeartbeats 2000000 in
theorem coding_any (w : World) : Calls Try.prog 17 #[] w fun e w' => e = .returned (.bool true) ∧ Below w.heap.size w w' := by
  have hb0 := fun o1 o2 => below_two w o1 o2
  go_enter Try.func17, Try.ntmps17
  go_wp2_with fail
  refine (encode_any 1 2 (some ⟨w.heap.size, 0, none⟩) (some ⟨w.heap.size + 1, 0, none⟩) 2 2 [3, 4] [5, 255] exSrc _ ?hq1 ?hq2 (by decide) (by decide) (by decide)).mono ?_
  case hq1 => exact (ints_two w 3 4 _).mono (by simp)
  case hq2 => have h := ints_one (w.alloc (.cells #[.int .i64 3, .int .i64 4] 3)) 5 255 (w.heap.size + 2) (by simp); exact (by simpa using h)
  rintro e w1 ⟨rfl, hb1⟩
  rw [ex_encE, ex_encS]
  have hbw1 := (hb0 _ _).trans (hb1.mono (by simp; omega))
  clear hb0 hb1
  go_wp2_with fail
  refine (decode_any exBytes _ (by decide)).mono ?_
  rintro e w2 ⟨hd, hb2⟩
  rw [ex_nums] at hd
  obtain ⟨ao, bo, c, d, rfl, _, _⟩ := hd.good ex_shape (by decide)
  have hbw2 := hbw1.trans (hb2.mono hbw1.size)
  have hcat : exBytes ++ ⟨#[120]⟩ = exMore := by decide +kernel
  have hsz : exBytes.size = 15 := by decide +kernel
  have hk := heap_alloc_new w2 (.cells #[.int .i64 1, .int .i64 2, .slice ao 2 c, .slice bo 2 d, .string exSrc] 24)
  replace hk : Blk5 _ _ _ _ _ _ _ := hk
  clear hb2 hd hbw1
  go_wp2_with fail
  refine (decode_any exMore _ (by decide)).mono ?_
  rintro e w3 ⟨hd, hb3⟩
  obtain rfl := hd.bad ex_more (by decide)
  replace hk := hk.later hb3 (by simp)
  have hbw3 := hbw2.trans ((((Below.refl w2.heap.size w2).alloc (Nat.le_refl _) _).trans (hb3.mono (by simp))).mono hbw2.size)
  obtain ⟨⟨k0, k1, k2, k3, k4⟩, _⟩ := hk.all
  have hlt := hk.lt
  clear hd hb3 hk hbw2
  have q1 : (exSrc.toList == [111, 117, 116, 32, 49, 59]) = true := by decide +kernel
  have q2 : (exBytes.toList == [85, 1, 2, 3, 4, 5, 255, 0, 6, 111, 117, 116, 32, 49, 59]) = true := by decide +kernel
  go_wp2
  go_ret
  exact ⟨rfl, hbw3.alloc hbw3.size _⟩

end Go.Proofs.Ythmmgiaobakilaa
