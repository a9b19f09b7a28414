/- What both Decodes answer: 'DecOut' of the bytes. -/
import Derived.Test.YthmmgiaobakilaaRefRead
set_option maxRecDepth 100000
namespace Go.Proofs.Ythmmgiaobakilaa
open Go.RowKit

theorem refdecode_any (b : ByteArray) (w : World) (hs : b.size ≤ maxLen) :
    Calls Try.prog 15 #[.string b] w fun e w' => DecOut w.heap.size (nums b) e w' ∧ Below w.heap.size w w' := by
  by_cases h0 : b.size = 0
  · obtain rfl : b = ⟨#[]⟩ := ByteArray.ext (Array.eq_empty_of_size_eq_zero h0)
    exact refread_empty w
  · exact refread_any b w hs (by omega)

theorem readout_any (b : ByteArray) (w : World) (hs : b.size ≤ maxLen) :
    Calls Try.prog 32 #[.string b] w fun e w' => DecOut w.heap.size (nums b) e w' ∧ Below w.heap.size w w' := by
  refine (read_any b w hs (nums b) rfl).mono ?_
  have hE := rdE_eq (nums b) (bytes_nums b)
  rintro e w' (⟨h0, rfl, hb⟩ | ⟨h0, ao, bo, src, rfl, hsrc, hx, hy, hb, l1, l2⟩)
  · rw [hE] at h0 ⊢
    exact ⟨.inl ⟨h0, rfl⟩, hb⟩
  · rw [hE] at h0
    obtain ⟨x, y, M, hL, sx, sy, ht⟩ := dE_zero h0
    obtain ⟨r1, r2, r3, r4, r5, r6⟩ := rd_good (x := x) (y := y) (M := M) (by rw [← hL]; exact bytes_nums b) sx sy ht
    rw [hL] at hsrc hx hy ⊢
    rw [r4] at hx
    rw [r5] at hy
    rw [r6] at hsrc
    rw [r1, r2, r3]
    exact ⟨.inr ⟨x, y, M, ao, bo, _, _, src, rfl, sx, sy, ht, rfl, hsrc, hx, hy, l1, l2⟩, hb⟩

theorem DecOut.value {base : Nat} {L : List Int} {e : Ending} {w' : World} (h : DecOut base L e w') : ∃ x y a n c b m d s E, e = .returned (.tuple #[.agg #[.int .i64 x, .int .i64 y, .slice a n c, .slice b m d, .string s], .int .i64 E]) := by
  rcases h with ⟨_, rfl⟩ | ⟨x, y, M, ao, bo, c, d, src, _, _, _, _, rfl, _⟩
  · exact ⟨_, _, _, _, _, _, _, _, _, _, rfl⟩
  · exact ⟨_, _, _, _, _, _, _, _, _, _, rfl⟩
theorem DecOut.later {base : Nat} {L : List Int} {e : Ending} {w w' : World} (h : DecOut base L e w) (hb : Below w.heap.size w w') : DecOut base L e w' := by
  rcases h with ⟨h0, rfl⟩ | ⟨x, y, M, ao, bo, c, d, src, h1, h2, h3, h4, rfl, h5, h6, h7, h8, h9⟩
  · exact .inl ⟨h0, rfl⟩
  · exact .inr ⟨x, y, M, ao, bo, c, d, src, h1, h2, h3, h4, rfl, h5, (h6.later hb (Nat.le_refl _)).mono hb.size, (h7.later hb (Nat.le_refl _)).mono hb.size, h8, h9⟩

theorem IntsAt.set {B : Nat} {w : World} {ao : Option Addr} {xs : List Int} {a i : Nat} {v : Value} (h : IntsAt B w ao xs) (hne : ∀ p, ao = some p → a < p.block) : IntsAt B (w.setCell ⟨a, i, none⟩ v) ao xs := by
  rcases h with h | ⟨b, off, h1, h2, h3⟩
  · exact .inl h
  · have hb := hne _ h1
    exact .inr ⟨b, off, h1, h2, fun j hj => (World.cell?_of_block (w := w) (Below.heap_setCell _ _ _ _ (by show b ≠ a; have : a < b := hb; omega))).trans (h3 j hj)⟩
theorem DecOut.set {base : Nat} {L : List Int} {e : Ending} {w : World} {a i : Nat} {v : Value} (h : DecOut base L e w) (ha : a < base) : DecOut base L e (w.setCell ⟨a, i, none⟩ v) := by
  have hz : (w.setCell ⟨a, i, none⟩ v).heap.size = w.heap.size := by simp
  rcases h with ⟨h0, rfl⟩ | ⟨x, y, M, ao, bo, c, d, src, h1, h2, h3, h4, rfl, h5, h6, h7, h8, h9⟩
  · exact .inl ⟨h0, rfl⟩
  · refine .inr ⟨x, y, M, ao, bo, c, d, src, h1, h2, h3, h4, rfl, h5, ?_, ?_, h8, h9⟩
    · rw [hz]; exact h6.set (fun p hp => by have := h8 p hp; omega)
    · rw [hz]; exact h7.set (fun p hp => by have := h9 p hp; omega)
theorem DecOut.base {base base' : Nat} {L : List Int} {e : Ending} {w : World} (h : DecOut base L e w) (hb : base' ≤ base) : DecOut base' L e w := by
  rcases h with ⟨h0, rfl⟩ | ⟨x, y, M, ao, bo, c, d, src, h1, h2, h3, h4, rfl, h5, h6, h7, h8, h9⟩
  · exact .inl ⟨h0, rfl⟩
  · exact .inr ⟨x, y, M, ao, bo, c, d, src, h1, h2, h3, h4, rfl, h5, h6, h7, fun a ha => Nat.le_trans hb (h8 a ha), fun a ha => Nat.le_trans hb (h9 a ha)⟩

set_option maxHeartbeats 1000000 in
theorem decode_any (b : ByteArray) (w : World) (hs : b.size ≤ maxLen) :
    Calls Try.prog 14 #[.string b] w fun e w' => DecOut w.heap.size (nums b) e w' ∧ Below w.heap.size w w' := by
  have hb0 : ∀ o, Below w.heap.size w (w.alloc o) := fun o => (Below.refl _ _).alloc (Nat.le_refl _) o
  have hk0 : Blk5 (w.alloc (.cells #[.int .i64 0, .int .i64 0, .slice none 0 0, .slice none 0 0, .string ⟨#[]⟩] 24)) w.heap.size (.int .i64 0) (.int .i64 0) (.slice none 0 0) (.slice none 0 0) (.string ⟨#[]⟩) := heap_alloc_new w _
  go_enter Try.func14, Try.ntmps14
  go_wp2_with fail
  refine (readout_any b _ hs).mono ?_
  rintro e w1 ⟨hd, hb⟩
  obtain ⟨x, y, a, n, c, b', m, d, s, E, rfl⟩ := hd.value
  have hk := hk0.later hb hk0.lt
  have hb1 := (hb0 _).trans (hb.mono (by simp))
  have hd' := hide hd
  simp only [World.size_alloc] at hd'
  obtain ⟨⟨ka, kb, kc, kd, ke⟩, fa, fb, fc, fd, fe⟩ := hk.all
  have hkf := hide (((((hk.set0 (.int .i64 x)).set1 (.int .i64 y)).set2 (.slice a n c)).set3 (.slice b' m d)).set4 (.string s))
  clear hk0 hd hb hb0
  go_wp2
  obtain ⟨f0, f1, f2, f3, f4⟩ := (unhide hkf).cells
  refine bodyPost_ret (v := .tuple #[.agg #[.int .i64 x, .int .i64 y, .slice a n c, .slice b' m d, .string s], .int .i64 E]) (by simp [results, Try.results14, go_sem, f0, f1, f2, f3, f4]) rfl ⟨?_, ?_⟩
  · exact ((((((unhide hd').set (by omega)).set (by omega)).set (by omega)).set (by omega)).set (by omega)).base (by omega)
  · exact ((((hb1.setCell (Nat.le_refl _) _).setCell (Nat.le_refl _) _).setCell (Nat.le_refl _) _).setCell (Nat.le_refl _) _).setCell (Nat.le_refl _) _

end Go.Proofs.Ythmmgiaobakilaa
