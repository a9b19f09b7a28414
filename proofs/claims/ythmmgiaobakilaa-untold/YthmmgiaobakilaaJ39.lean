import Derived.Test.YthmmgiaobakilaaJ25
import Derived.Test.YthmmgiaobakilaaJ34
import Derived.Test.YthmmgiaobakilaaJ35
import Derived.Test.YthmmgiaobakilaaJ36
import Derived.Test.YthmmgiaobakilaaJ37
import Derived.Test.YthmmgiaobakilaaJ38
/- paint.Scene, where nothing is painted. -/
set_option maxRecDepth 100000
namespace Go.Proofs.Ythmmgiaobakilaa
open Go.RowKit Go.Shelf
attribute [local go_sem] Oper.semAt_some

def emptyR : Value := .agg #[.slice none 0 0, .slice none 0 0, .int .i64 0, .int .i64 0, .slice none 0 0]
def scV (sw sh : Int) (so sd : Option Addr) (c1 c2 : Nat) (xs ys : List Int) (src : ByteArray) : Value := .agg #[.int .i64 sw, .int .i64 sh, .slice so xs.length c1, .slice sd ys.length c2, .string src]
/-- The four blocks that Scene lays first. -/
structure Four (w : World) (sw sh : Int) (so sd : Option Addr) (c1 c2 : Nat) (xs ys : List Int) (src : ByteArray) (W : World) : Prop where
  b0 : W.heap[w.heap.size]? = some (.cells #[.int .i64 sw, .int .i64 sh, .slice so xs.length c1, .slice sd ys.length c2, .string src] 24 (0, 0))
  b1 : W.heap[w.heap.size + 1]? = some (.cells #[.slice none 0 0, .slice none 0 0, .int .i64 0, .int .i64 0, .slice none 0 0] 51 (0, 0))
  b2 : W.heap[w.heap.size + 1 + 1]? = some (.cells #[.int .i64 0] 25 (0, 0))
  b3 : W.heap[w.heap.size + 1 + 1 + 1]? = some (.cells #[.int .i64 0] 3 (0, 0))
  bel : Below w.heap.size w W
  sz : w.heap.size + 4 ≤ W.heap.size
theorem Four.later {w : World} {sw sh : Int} {so sd : Option Addr} {c1 c2 : Nat} {xs ys : List Int} {src : ByteArray} {W W' : World} (h : Four w sw sh so sd c1 c2 xs ys src W) (hb : Below W.heap.size W W') : Four w sw sh so sd c1 c2 xs ys src W' := by
  have z := h.sz
  exact ⟨(hb.block _ (by omega)).trans h.b0, (hb.block _ (by omega)).trans h.b1, (hb.block _ (by omega)).trans h.b2, (hb.block _ (by omega)).trans h.b3, h.bel.trans (hb.mono (by omega)), by have := hb.size; omega⟩
theorem four_new (w : World) (sw sh : Int) (so sd : Option Addr) (c1 c2 : Nat) (xs ys : List Int) (src : ByteArray) : Four w sw sh so sd c1 c2 xs ys src ((((w.alloc (.cells #[.int .i64 sw, .int .i64 sh, .slice so xs.length c1, .slice sd ys.length c2, .string src] 24)).alloc (.cells #[.slice none 0 0, .slice none 0 0, .int .i64 0, .int .i64 0, .slice none 0 0] 51)).alloc (.cells #[.int .i64 0] 25)).alloc (.cells #[.int .i64 0] 3)) := by
  have b1 : ∀ (W : World) (o : Obj) (k : Nat), k < W.heap.size → (W.alloc o).heap[k]? = W.heap[k]? := fun W o k hk => Below.heap_alloc W o k hk
  refine ⟨?_, ?_, ?_, ?_, ?_, by simp⟩
  · rw [b1 _ _ _ (by simp; try omega), b1 _ _ _ (by simp; try omega), b1 _ _ _ (by simp)]; exact heap_alloc_new w _
  · rw [b1 _ _ _ (by simp; try omega), b1 _ _ _ (by simp)]; exact (by simpa using heap_alloc_new (w.alloc _) (.cells #[.slice none 0 0, .slice none 0 0, .int .i64 0, .int .i64 0, .slice none 0 0] 51))
  · rw [b1 _ _ _ (by simp)]; exact (by simpa using heap_alloc_new ((w.alloc _).alloc _) (.cells #[.int .i64 0] 25))
  · exact (by simpa using heap_alloc_new (((w.alloc _).alloc _).alloc _) (.cells #[.int .i64 0] 3))
  · exact (((((Below.refl _ w).alloc (Nat.le_refl _) _).alloc (by simp) _).alloc (by simp; try omega) _).alloc (by simp; try omega) _)
/-- What lies in a block whose cells have all been written. -/
theorem set5 {W : World} {b : Nat} {t : TypeId} {c0 c1 c2 c3 c4 : Value} (h : W.heap[b]? = some (.cells #[c0, c1, c2, c3, c4] t (0, 0))) (v0 v1 v2 v3 v4 : Value) : (((((W.setCell ⟨b, 0, none⟩ v0).setCell ⟨b, 1, none⟩ v1).setCell ⟨b, 2, none⟩ v2).setCell ⟨b, 3, none⟩ v3).setCell ⟨b, 4, none⟩ v4).heap[b]? = some (.cells #[v0, v1, v2, v3, v4] t (0, 0)) :=
  heap_setCell_same _ b 4 _ _ _ (heap_setCell_same _ b 3 _ _ _ (heap_setCell_same _ b 2 _ _ _ (heap_setCell_same _ b 1 _ _ _ (heap_setCell_same _ b 0 _ _ _ h))))
/-- The three results, written. -/
def outW (w W : World) (v0 v1 v2 v3 v4 e p : Value) : World := ((((((W.setCell ⟨w.heap.size + 1, 0, none⟩ v0).setCell ⟨w.heap.size + 1, 1, none⟩ v1).setCell ⟨w.heap.size + 1, 2, none⟩ v2).setCell ⟨w.heap.size + 1, 3, none⟩ v3).setCell ⟨w.heap.size + 1, 4, none⟩ v4).setCell ⟨w.heap.size + 1 + 1, 0, none⟩ e).setCell ⟨w.heap.size + 1 + 1 + 1, 0, none⟩ p
structure OutAt (w : World) (v0 v1 v2 v3 v4 e p : Value) (W : World) : Prop where
  b1 : W.heap[w.heap.size + 1]? = some (.cells #[v0, v1, v2, v3, v4] 51 (0, 0))
  b2 : W.heap[w.heap.size + 1 + 1]? = some (.cells #[e] 25 (0, 0))
  b3 : W.heap[w.heap.size + 1 + 1 + 1]? = some (.cells #[p] 3 (0, 0))
  bel : Below w.heap.size w W
theorem Four.out {w : World} {sw sh : Int} {so sd : Option Addr} {c1 c2 : Nat} {xs ys : List Int} {src : ByteArray} {W : World} (h : Four w sw sh so sd c1 c2 xs ys src W) (v0 v1 v2 v3 v4 e p : Value) : OutAt w v0 v1 v2 v3 v4 e p (outW w W v0 v1 v2 v3 v4 e p) := by
  unfold outW
  refine ⟨?_, ?_, ?_, ?_⟩
  · exact (Below.heap_setCell _ _ _ _ (by simp)).trans ((Below.heap_setCell _ _ _ _ (by simp)).trans (set5 h.b1 _ _ _ _ _))
  · refine (Below.heap_setCell _ _ _ _ (by simp)).trans (heap_setCell_same _ (w.heap.size + 1 + 1) 0 #[.int .i64 0] 25 e ?_)
    exact ((((((Below.heap_setCell _ _ _ _ (by simp)).trans (Below.heap_setCell _ _ _ _ (by simp))).trans (Below.heap_setCell _ _ _ _ (by simp))).trans (Below.heap_setCell _ _ _ _ (by simp))).trans (Below.heap_setCell _ _ _ _ (by simp))).trans h.b2)
  · refine heap_setCell_same _ (w.heap.size + 1 + 1 + 1) 0 #[.int .i64 0] 3 p ?_
    exact (((((((Below.heap_setCell _ _ _ _ (by simp; try omega)).trans (Below.heap_setCell _ _ _ _ (by simp; try omega))).trans (Below.heap_setCell _ _ _ _ (by simp; try omega))).trans (Below.heap_setCell _ _ _ _ (by simp; try omega))).trans (Below.heap_setCell _ _ _ _ (by simp; try omega))).trans (Below.heap_setCell _ _ _ _ (by simp; try omega))).trans h.b3)
  · exact ((((((h.bel.setCell (p := ⟨w.heap.size + 1, 0, none⟩) (by simp) _).setCell (p := ⟨w.heap.size + 1, 1, none⟩) (by simp) _).setCell (p := ⟨w.heap.size + 1, 2, none⟩) (by simp) _).setCell (p := ⟨w.heap.size + 1, 3, none⟩) (by simp) _).setCell (p := ⟨w.heap.size + 1, 4, none⟩) (by simp) _).setCell (p := ⟨w.heap.size + 1 + 1, 0, none⟩) (by simp; omega) _).setCell (p := ⟨w.heap.size + 1 + 1 + 1, 0, none⟩) (by simp; omega) _
set_option maxHeartbeats 4000000 in
theorem scene_shape (w : World) (sw sh : Int) (so sd : Option Addr) (c1 c2 : Nat) (xs ys : List Int) (src : ByteArray) (hx : IntsAt w.heap.size w so xs) (hy : IntsAt w.heap.size w sd ys) (hlx : xs.length ≤ maxLen) (hly : ys.length ≤ maxLen) (hE : shapeE sw sh xs ys ≠ 0) :
    Calls Try.prog 40 #[scV sw sh so sd c1 c2 xs ys src] w fun e w' => Below w.heap.size w w' ∧ e = .returned (.tuple #[emptyR, .int .i64 (shapeE sw sh xs ys), .int .i64 0]) := by
  have f0 := four_new w sw sh so sd c1 c2 xs ys src
  obtain ⟨W, hW⟩ : ∃ W, (((w.alloc (.cells #[.int .i64 sw, .int .i64 sh, .slice so xs.length c1, .slice sd ys.length c2, .string src] 24)).alloc (.cells #[.slice none 0 0, .slice none 0 0, .int .i64 0, .int .i64 0, .slice none 0 0] 51)).alloc (.cells #[.int .i64 0] 25)).alloc (.cells #[.int .i64 0] 3) = W := ⟨_, rfl⟩
  rw [hW] at f0
  unfold scV
  refine (callsIn_wide (n := 8)).1 ?_
  refine callsIn_of_wp_marks Try.func40 rfl trivial ?_ rfl
  simp only [Try.ntmps40, List.size_toArray, List.length_cons, List.length_nil, Nat.reduceAdd, Nat.reduceSub, Array.replicate_succ, Array.replicate_zero, List.push_toArray, List.append_toArray, List.nil_append, List.cons_append]
  obtain ⟨x0, x1, x2, x3, x4⟩ := (bk5 f0.b0).1
  have bw := f0.bel
  have zw := f0.sz
  have SHP := hide (shape_any sw sh so sd c1 c2 xs ys src W w.heap.size (by omega) (hx.later bw (Nat.le_refl _)) (hy.later bw (Nat.le_refl _)) hlx hly)
  have FL : Hid (∀ W', Below W.heap.size W W' → Four w sw sh so sd c1 c2 xs ys src W') := fun W' hb => f0.later hb
  have hE' : (shapeE sw sh xs ys != 0) = true := by simp [hE]
  obtain ⟨ee, hee⟩ : ∃ ee, shapeE sw sh xs ys = ee := ⟨_, rfl⟩
  rw [hee] at hE' SHP ⊢
  clear f0 bw hE hee hx hy
  gi_wp2_with fail
  clear hW x0 x1 x2 x3 x4 zw
  refine ⟨trivial, ?_⟩
  refine (callsIn_wide.2 (unhide SHP)).mono ?_
  rintro e W1 ⟨rfl, hb1⟩
  have f1 := unhide FL W1 hb1
  obtain ⟨⟨y0, y1, y2, y3, y4⟩, yz⟩ := bk5 f1.b1
  have q2 := bkc1 f1.b2
  have q3 := bkc1 f1.b3
  have hz1 := f1.sz
  have OO := hide (f1.out (.slice none 0 0) (.slice none 0 0) (.int .i64 0) (.int .i64 0) (.slice none 0 0) (.int .i64 ee) (.int .i64 0))
  unfold outW at OO
  clear FL SHP hb1 f1
  gi_wp2
  obtain ⟨o1, o2, o3, ob⟩ := unhide OO
  obtain ⟨z0, z1, z2, z3, z4⟩ := (bk5 o1).1
  obtain ⟨z5, _⟩ := bkc1 o2
  obtain ⟨z6, _⟩ := bkc1 o3
  exact ⟨.tuple #[emptyR, .int .i64 ee, .int .i64 0], by simp [results, Try.results40, go_sem, emptyR, z0, z1, z2, z3, z4, z5, z6], ob, rfl⟩
theorem shape_ok {sw sh : Int} {xs ys : List Int} (h : shapeE sw sh xs ys = 0) : (1 ≤ sw ∧ sw ≤ 6) ∧ (1 ≤ sh ∧ sh ≤ 6) ∧ (xs.length : Int) = sw * sh ∧ (ys.length : Int) = sw * sh := by
  unfold shapeE at h
  split at h
  · rename_i hs
    split at h
    · rename_i ht
      simp only [sideB, texelsB, Bool.and_eq_true, decide_eq_true_eq] at hs ht
      exact ⟨hs.1, hs.2, ht.1.1, ht.2.1⟩
    · cases h
  · cases h
set_option maxHeartbeats 4000000 in
theorem scene_read (w : World) (sw sh : Int) (so sd : Option Addr) (c1 c2 : Nat) (xs ys : List Int) (src : ByteArray) (hx : IntsAt w.heap.size w so xs) (hy : IntsAt w.heap.size w sd ys) (hlx : xs.length ≤ maxLen) (hly : ys.length ≤ maxLen) (hE : shapeE sw sh xs ys = 0) (hsrc : src.size ≤ maxLen) (hR : (readF src).1 ≠ 0) :
    Calls Try.prog 40 #[scV sw sh so sd c1 c2 xs ys src] w fun e w' => Below w.heap.size w w' ∧ e = .returned (.tuple #[emptyR, .int .i64 (readF src).1, .int .i64 (readF src).2]) := by
  have f0 := four_new w sw sh so sd c1 c2 xs ys src
  obtain ⟨W, hW⟩ : ∃ W, (((w.alloc (.cells #[.int .i64 sw, .int .i64 sh, .slice so xs.length c1, .slice sd ys.length c2, .string src] 24)).alloc (.cells #[.slice none 0 0, .slice none 0 0, .int .i64 0, .int .i64 0, .slice none 0 0] 51)).alloc (.cells #[.int .i64 0] 25)).alloc (.cells #[.int .i64 0] 3) = W := ⟨_, rfl⟩
  rw [hW] at f0
  unfold scV
  refine (callsIn_wide (n := 8)).1 ?_
  refine callsIn_of_wp_marks Try.func40 rfl trivial ?_ rfl
  simp only [Try.ntmps40, List.size_toArray, List.length_cons, List.length_nil, Nat.reduceAdd, Nat.reduceSub, Array.replicate_succ, Array.replicate_zero, List.push_toArray, List.append_toArray, List.nil_append, List.cons_append]
  obtain ⟨x0, x1, x2, x3, x4⟩ := (bk5 f0.b0).1
  have bw := f0.bel
  have zw := f0.sz
  have SHP := hide (shape_any sw sh so sd c1 c2 xs ys src W w.heap.size (by omega) (hx.later bw (Nat.le_refl _)) (hy.later bw (Nat.le_refl _)) hlx hly)
  have FL : Hid (∀ W', Below W.heap.size W W' → Four w sw sh so sd c1 c2 xs ys src W') := fun W' hb => f0.later hb
  have FL2 : Hid (∀ W' W'', Four w sw sh so sd c1 c2 xs ys src W' → Below W'.heap.size W' W'' → Four w sw sh so sd c1 c2 xs ys src W'') := fun W' W'' f hb => f.later hb
  rw [hE] at SHP
  have RD := hide (fun W => read_any' src hsrc W)
  obtain ⟨r1, hr1⟩ : ∃ r1, (readF src).1 = r1 := ⟨_, rfl⟩
  obtain ⟨r2, hr2⟩ : ∃ r2, (readF src).2 = r2 := ⟨_, rfl⟩
  rw [hr1, hr2] at RD ⊢
  rw [hr1] at hR
  have hR' : (r1 != 0) = true := by simp [hR]
  clear f0 bw hE hx hy hr1 hr2 hR hlx hly hsrc
  gi_wp2_with fail
  clear hW x0 x1 x2 x3 x4 zw
  refine ⟨trivial, ?_⟩
  refine (callsIn_wide.2 (unhide SHP)).mono ?_
  rintro e W1 ⟨rfl, hb1⟩
  have f1 := unhide FL W1 hb1
  obtain ⟨x0, x1, x2, x3, x4⟩ := (bk5 f1.b0).1
  have F1 := hide f1
  clear FL SHP hb1 f1
  gi_wp2_with fail
  refine ⟨trivial, ?_⟩
  refine (callsIn_wide.2 (unhide RD W1)).mono ?_
  rintro e W2 ⟨hb2, no, nl, nc, bo, bl, bc, rfl, -⟩
  have f2 := unhide FL2 W1 W2 (unhide F1) hb2
  have f3 := f2.later ((Below.refl _ W2).alloc (Nat.le_refl _) (.cells #[.slice no nl nc, .slice bo bl bc] 63))
  obtain ⟨W3, hW3⟩ : ∃ W3, W2.alloc (.cells #[.slice no nl nc, .slice bo bl bc] 63) = W3 := ⟨_, rfl⟩
  rw [hW3] at f3
  obtain ⟨⟨y0, y1, y2, y3, y4⟩, yz⟩ := bk5 f3.b1
  have q2 := bkc1 f3.b2
  have q3 := bkc1 f3.b3
  have hz1 := f3.sz
  have OO := hide (f3.out (.slice none 0 0) (.slice none 0 0) (.int .i64 0) (.int .i64 0) (.slice none 0 0) (.int .i64 r1) (.int .i64 r2))
  unfold outW at OO
  clear FL2 RD hb2 f2 f3 F1 x0 x1 x2 x3 x4
  gi_wp2
  obtain ⟨o1, o2, o3, ob⟩ := unhide OO
  obtain ⟨z0, z1, z2, z3, z4⟩ := (bk5 o1).1
  obtain ⟨z5, _⟩ := bkc1 o2
  obtain ⟨z6, _⟩ := bkc1 o3
  exact ⟨.tuple #[emptyR, .int .i64 r1, .int .i64 r2], by simp [results, Try.results40, go_sem, emptyR, z0, z1, z2, z3, z4, z5, z6], ob, rfl⟩
end Go.Proofs.Ythmmgiaobakilaa
