/- The walk of the project's Read (Decode's body): what it answers is told by 'rdW' .. 'rdE' of the bytes. -/
import Derived.Test.YthmmgiaobakilaaReads3
set_option maxRecDepth 100000
namespace Go.Proofs.Ythmmgiaobakilaa
open Go.RowKit

/-- A block of a scene's five cells. -/
def Blk5 (w : World) (b : Nat) (c0 c1 c2 c3 c4 : Value) : Prop := w.heap[b]? = some (.cells #[c0, c1, c2, c3, c4] 24 (0, 0))
section
variable {w w' : World} {b : Nat} {c0 c1 c2 c3 c4 : Value}
theorem Blk5.lt (h : Blk5 w b c0 c1 c2 c3 c4) : b < w.heap.size := (Array.getElem?_eq_some_iff.1 h).1
theorem Blk5.cells (h : Blk5 w b c0 c1 c2 c3 c4) : w.cell? ⟨b, 0, none⟩ = some c0 ∧ w.cell? ⟨b, 1, none⟩ = some c1 ∧ w.cell? ⟨b, 2, none⟩ = some c2 ∧ w.cell? ⟨b, 3, none⟩ = some c3 ∧ w.cell? ⟨b, 4, none⟩ = some c4 := by
  have hc : ∀ i, w.cell? ⟨b, i, none⟩ = #[c0, c1, c2, c3, c4][i]? := fun i => by simp only [World.cell?]; rw [h]; simp
  exact ⟨hc 0, hc 1, hc 2, hc 3, hc 4⟩
theorem Blk5.unfrozen (h : Blk5 w b c0 c1 c2 c3 c4) (i : Nat) : w.frozen? ⟨b, i, none⟩ = false := by simp only [World.frozen?]; rw [h]; simp
theorem Blk5.kept {rb : Nat} (h : Blk5 w b c0 c1 c2 c3 c4) (hg : w.grownBy w' (some rb)) (hne : b ≠ rb) : Blk5 w' b c0 c1 c2 c3 c4 :=
  (hg.block b h.lt (by simpa using hne)).trans h
theorem Blk5.later {B : Nat} (h : Blk5 w b c0 c1 c2 c3 c4) (hb : Below B w w') (hB : b < B) : Blk5 w' b c0 c1 c2 c3 c4 := (hb.block b hB).trans h
theorem blk_set (w : World) (b i : Nat) (cs : Array Value) (T : TypeId) (v : Value) (h : w.heap[b]? = some (.cells cs T (0, 0))) : (w.setCell ⟨b, i, none⟩ v).heap[b]? = some (.cells (cs.setIfInBounds i v) T (0, 0)) := heap_setCell_same w b i cs T v h
theorem Blk5.set0 (h : Blk5 w b c0 c1 c2 c3 c4) (v : Value) : Blk5 (w.setCell ⟨b, 0, none⟩ v) b v c1 c2 c3 c4 := blk_set w b 0 _ _ v h
theorem Blk5.set1 (h : Blk5 w b c0 c1 c2 c3 c4) (v : Value) : Blk5 (w.setCell ⟨b, 1, none⟩ v) b c0 v c2 c3 c4 := blk_set w b 1 _ _ v h
theorem Blk5.set2 (h : Blk5 w b c0 c1 c2 c3 c4) (v : Value) : Blk5 (w.setCell ⟨b, 2, none⟩ v) b c0 c1 v c3 c4 := blk_set w b 2 _ _ v h
theorem Blk5.set3 (h : Blk5 w b c0 c1 c2 c3 c4) (v : Value) : Blk5 (w.setCell ⟨b, 3, none⟩ v) b c0 c1 c2 v c4 := blk_set w b 3 _ _ v h
theorem Blk5.set4 (h : Blk5 w b c0 c1 c2 c3 c4) (v : Value) : Blk5 (w.setCell ⟨b, 4, none⟩ v) b c0 c1 c2 c3 v := blk_set w b 4 _ _ v h
theorem Blk5.other (h : Blk5 w b c0 c1 c2 c3 c4) {a i : Nat} (hne : b ≠ a) (v : Value) : Blk5 (w.setCell ⟨a, i, none⟩ v) b c0 c1 c2 c3 c4 := (Below.heap_setCell _ _ _ _ hne).trans h
theorem RdAt.other {rb : Nat} {s : ByteArray} {f : Int} (h : RdAt w rb s f) {a i : Nat} (hne : rb ≠ a) (v : Value) : RdAt (w.setCell ⟨a, i, none⟩ v) rb s f := by
  have hbk : (w.setCell ⟨a, i, none⟩ v).heap[rb]? = w.heap[rb]? := Below.heap_setCell _ _ _ _ hne
  exact ⟨(World.cell?_of_block (w := w) hbk).trans h.c0, (World.cell?_of_block (w := w) hbk).trans h.c1, (World.frozen?_of_block (w := w) hbk).trans h.z0, (World.frozen?_of_block (w := w) hbk).trans h.z1⟩
end

section
variable (w : World) (rb : Nat) (s : ByteArray) (L : List Int)
theorem step_mark (hn : nums s = L) (h : RdAt w rb s 0) (hs : s.size ≤ maxLen) :
    Calls Try.prog 43 #[.pointer (some ⟨rb, 0, none⟩)] w fun r w' => ∃ s', r = .returned (.tuple #[]) ∧ RdAt w' rb s' (rdF1 L) ∧ nums s' = rdL1 L ∧ w.grownBy w' (some rb) ∧ s'.size ≤ s.size := by
  have := mark_any w rb s 0 h hs
  rw [hn] at this
  exact this
theorem step_w (hn : nums s = rdL1 L) (h : RdAt w rb s (rdF1 L)) (hs : s.size ≤ maxLen) :
    Calls Try.prog 44 #[.pointer (some ⟨rb, 0, none⟩)] w fun r w' => ∃ s', r = .returned (.int .i64 (rdW L)) ∧ RdAt w' rb s' (rdF2 L) ∧ nums s' = rdL2 L ∧ w.grownBy w' (some rb) ∧ s'.size ≤ s.size := by
  have := rside_any w rb s _ h hs
  rw [hn] at this
  exact this
theorem step_h (hn : nums s = rdL2 L) (h : RdAt w rb s (rdF2 L)) (hs : s.size ≤ maxLen) :
    Calls Try.prog 44 #[.pointer (some ⟨rb, 0, none⟩)] w fun r w' => ∃ s', r = .returned (.int .i64 (rdH L)) ∧ RdAt w' rb s' (rdF3 L) ∧ nums s' = rdL3 L ∧ w.grownBy w' (some rb) ∧ s'.size ≤ s.size := by
  have := rside_any w rb s _ h hs
  rw [hn] at this
  exact this
theorem step_x (hn : nums s = rdL3 L) (h : RdAt w rb s (rdF3 L)) (hs : s.size ≤ maxLen) (h36 : rdN L ≤ 36) :
    Calls Try.prog 45 #[.pointer (some ⟨rb, 0, none⟩), .int .i64 (rdN L : Int)] w fun r w' => ∃ s', r = .returned (.slice (some ⟨w.heap.size, 0, none⟩) (rdN L) (rdN L)) ∧
      w'.ownsRow w.heap.size 3 1 (.slice (some ⟨w.heap.size, 0, none⟩) (rdN L) (rdN L)) (rdN L) ((rdX L).map (Value.int .i64)) ∧ RdAt w' rb s' (rdF4 L) ∧ nums s' = rdL4 L ∧ w.grownBy w' (some rb) ∧ s'.size ≤ s.size := by
  have := rtexels_any w rb s _ _ (rdN L) rfl h36 h hs
  rw [hn] at this
  exact this
theorem step_y (hn : nums s = rdL4 L) (h : RdAt w rb s (rdF4 L)) (hs : s.size ≤ maxLen) (h36 : rdN L ≤ 36) :
    Calls Try.prog 45 #[.pointer (some ⟨rb, 0, none⟩), .int .i64 (rdN L : Int)] w fun r w' => ∃ s', r = .returned (.slice (some ⟨w.heap.size, 0, none⟩) (rdN L) (rdN L)) ∧
      w'.ownsRow w.heap.size 3 1 (.slice (some ⟨w.heap.size, 0, none⟩) (rdN L) (rdN L)) (rdN L) ((rdY L).map (Value.int .i64)) ∧ RdAt w' rb s' (rdF5 L) ∧ nums s' = rdL5 L ∧ w.grownBy w' (some rb) ∧ s'.size ≤ s.size := by
  have := rtexels_any w rb s _ _ (rdN L) rfl h36 h hs
  rw [hn] at this
  exact this
theorem step_s (hn : nums s = rdL5 L) (h : RdAt w rb s (rdF5 L)) (hs : s.size ≤ maxLen) :
    Calls Try.prog 46 #[.pointer (some ⟨rb, 0, none⟩)] w fun r w' => ∃ s' t, r = .returned (.string t) ∧ nums t = rdS L ∧ RdAt w' rb s' (rdF6 L) ∧ nums s' = rdL6 L ∧ w.grownBy w' (some rb) ∧ s'.size ≤ s.size ∧ t.size ≤ 300 := by
  have := rsource_any w rb s _ h hs
  rw [hn] at this
  exact this
theorem step_e (hn : nums s = rdL6 L) (h : RdAt w rb s (rdF6 L)) (hs : s.size ≤ maxLen) :
    Calls Try.prog 47 #[.pointer (some ⟨rb, 0, none⟩)] w fun r w' => r = .returned (.tuple #[]) ∧ RdAt w' rb s (rdE L) ∧ w.grownBy w' (some rb) := by
  have := rend_any w rb s _ h hs
  rw [hn] at this
  exact this
end

/-- A row of ints that a call owns, as a list that lies there. -/
theorem IntsAt.of_own {w : World} {base g n cap : Nat} {xs : List Int} (h : w.ownsRow base 3 1 (.slice (some ⟨g, 0, none⟩) n cap) n (xs.map (Value.int .i64))) : IntsAt w.heap.size w (some ⟨g, 0, none⟩) xs := by
  have hl : xs.length = n := by simpa using h.1
  have hg := h.lt g rfl
  refine .inr ⟨g, 0, rfl, hg.2, fun j hj => ?_⟩
  rw [Nat.zero_add, h.cellAt j (by omega), List.getElem?_map, List.getElem?_eq_getElem hj]
  simp [List.getD, List.getElem?_eq_getElem hj]

theorem own_rc {w : World} {base g n cap a i : Nat} {v : Value} {xs : List Value} (hne : g ≠ a) (h : w.ownsRow base 3 1 (.slice (some ⟨g, 0, none⟩) n cap) n xs) : (w.setCell ⟨a, i, none⟩ v).ownsRow base 3 1 (.slice (some ⟨g, 0, none⟩) n cap) n xs :=
  h.kept (grown_setCell _ a i v) (.inr (by simpa [Value.ownBlock] using hne))

set_option maxHeartbeats 4000000 in
theorem read_any (b : ByteArray) (w : World) (hs : b.size ≤ maxLen) (L : List Int) (hL : nums b = L) :
    Calls Try.prog 32 #[.string b] w fun e w' => (rdE L ≠ 0 ∧ e = .returned (.tuple #[.agg #[.int .i64 0, .int .i64 0, .slice none 0 0, .slice none 0 0, .string ByteArray.empty], .int .i64 (rdE L)]) ∧ Below w.heap.size w w') ∨
      (rdE L = 0 ∧ ∃ ao bo src, e = .returned (.tuple #[.agg #[.int .i64 (rdW L), .int .i64 (rdH L), .slice ao (rdN L) (rdN L), .slice bo (rdN L) (rdN L), .string src], .int .i64 0]) ∧ nums src = rdS L ∧ IntsAt w'.heap.size w' ao (rdX L) ∧ IntsAt w'.heap.size w' bo (rdY L) ∧ Below w.heap.size w w' ∧ (∀ a, ao = some a → w.heap.size ≤ a.block) ∧ (∀ a, bo = some a → w.heap.size ≤ a.block)) := by
  have HL := hide hL
  clear hL
  obtain ⟨n1, n2, n3, n4, n5, n6, n7⟩ := rdN_bounds L
  have h36 : rdN L ≤ 36 := by omega
  go_enter Try.func32, Try.ntmps32
  go_wp2_with fail
  have hb0 : ∀ o1 o2, Below w.heap.size w ((w.alloc o1).alloc o2) := fun o1 o2 => ((Below.refl _ _).alloc (Nat.le_refl _) o1).alloc (by simp) o2
  have hr0 : ∀ o1, RdAt ((w.alloc o1).alloc (.cells #[.string b, .int .i64 0] 81)) (w.heap.size + 1) b 0 := fun o1 => by
    constructor <;> simp [go_sem]
  have hk0 : ∀ o2, Blk5 ((w.alloc (.cells #[.int .i64 0, .int .i64 0, .slice none 0 0, .slice none 0 0, .string ⟨#[]⟩] 24)).alloc o2) w.heap.size (.int .i64 0) (.int .i64 0) (.slice none 0 0) (.slice none 0 0) (.string ⟨#[]⟩) := fun o2 => by
    show ((w.alloc _).alloc o2).heap[w.heap.size]? = _
    rw [Below.heap_alloc _ _ _ (by simp)]
    exact heap_alloc_new w _
  refine (step_mark _ (w.heap.size + 1) b L (unhide HL) (hr0 _) hs).mono ?_
  rintro r w1 ⟨s1, rfl, hr1, hn1, hg1, hz1⟩
  have HN := hide hn1
  have hk1 := (hk0 _).kept hg1 (by omega)
  have hb1 : Below w.heap.size w w1 := (hb0 _ _).grown hg1 (by simp; omega) (by simp)
  have hzz : w.heap.size + 1 < w1.heap.size := by have := hg1.size; simp at this; omega
  clear hb0 hr0 hk0 hg1 hn1
  go_wp2_with fail
  -- the scene's block, new
  have hr1' := fun o => hr1.later ((Below.refl w1.heap.size w1).alloc (Nat.le_refl _) o) (by omega)
  have hk1' := fun o => hk1.later ((Below.refl w1.heap.size w1).alloc (Nat.le_refl _) o) (by omega)
  have hb1' := fun o => hb1.alloc (by omega) o
  have hq1 : Blk5 (w1.alloc (.cells #[.int .i64 0, .int .i64 0, .slice none 0 0, .slice none 0 0, .string ⟨#[]⟩] 24)) w1.heap.size (.int .i64 0) (.int .i64 0) (.slice none 0 0) (.slice none 0 0) (.string ⟨#[]⟩) := heap_alloc_new w1 _
  refine (step_w _ (w.heap.size + 1) s1 L (unhide HN) (hr1' _) (by omega)).mono ?_
  rintro r w2 ⟨s2, rfl, hr2, hn2, hg2, hz2⟩
  replace HN := hide hn2
  have hk2 := (hk1' _).kept hg2 (by omega)
  have hq2 := hq1.kept hg2 (by omega)
  have hb2 : Below w.heap.size w w2 := (hb1' _).grown hg2 (by simp; omega) (by simp)
  have hsb : w.heap.size + 1 < w1.heap.size := hzz
  have hsz : s2.size ≤ b.size := by omega
  generalize w1.heap.size = sb at *
  clear hr1 hr1' hk1 hk1' hb1 hb1' hq1 hg2 hn2 hz1 hz2 hzz
  obtain ⟨x0, x1, x2, x3, x4⟩ := hq2.cells
  have xz := hq2.unfrozen
  have hsb2 := hq2.lt
  go_wp2_with fail
  clear x0 x1 x2 x3 x4 xz
  refine (step_h _ (w.heap.size + 1) s2 L (unhide HN) (hr2.other (by omega) _) (by omega)).mono ?_
  rintro r w3 ⟨s3, rfl, hr3, hn3, hg3, hz3⟩
  replace HN := hide hn3
  have hk3 := (hk2.other (i := 0) (a := sb) (by omega) (.int .i64 (rdW L))).kept hg3 (by omega)
  have hq3 := (hq2.set0 (.int .i64 (rdW L))).kept hg3 (by omega)
  have hb3 : Below w.heap.size w w3 := (hb2.setCell (p := ⟨sb, 0, none⟩) (by show w.heap.size ≤ sb; omega) _).grown hg3 (by simp; omega) (by simp)
  have hsz3 : s3.size ≤ b.size := by omega
  clear hr2 hk2 hq2 hb2 hg3 hn3 hz3 hsz hsb2
  obtain ⟨x0, x1, x2, x3, x4⟩ := hq3.cells
  have xz := hq3.unfrozen
  have hsb3 := hq3.lt
  go_wp2_with fail
  clear x0 x1 x2 x3 x4 xz
  refine (step_x _ (w.heap.size + 1) s3 L (unhide HN) (hr3.other (by omega) _) (by omega) h36).mono ?_
  rintro r w4 ⟨s4, rfl, ho4, hr4, hn4, hg4, hz4⟩
  replace HN := hide hn4
  have hk4 := (hk3.other (i := 1) (a := sb) (by omega) (.int .i64 (rdH L))).kept hg4 (by omega)
  have hq4 := (hq3.set1 (.int .i64 (rdH L))).kept hg4 (by omega)
  have hb4 : Below w.heap.size w w4 := (hb3.setCell (p := ⟨sb, 1, none⟩) (by show w.heap.size ≤ sb; omega) _).grown hg4 (by simp; omega) (by simp)
  have hsz4 : s4.size ≤ b.size := by omega
  have hga : sb < (w3.setCell ⟨sb, 1, none⟩ (.int .i64 (rdH L))).heap.size := by simpa using hsb3
  generalize (w3.setCell ⟨sb, 1, none⟩ (.int .i64 (rdH L))).heap.size = ga at *
  clear hr3 hk3 hq3 hb3 hg4 hn4 hz4 hsz3 hsb3
  obtain ⟨x0, x1, x2, x3, x4⟩ := hq4.cells
  have xz := hq4.unfrozen
  have hsb4 := hq4.lt
  go_wp2_with fail
  clear x0 x1 x2 x3 x4 xz
  refine (step_y _ (w.heap.size + 1) s4 L (unhide HN) (hr4.other (by omega) _) (by omega) h36).mono ?_
  rintro r w5 ⟨s5, rfl, ho5, hr5, hn5, hg5, hz5⟩
  replace HN := hide hn5
  have hk5 := (hk4.other (i := 2) (a := sb) (by omega) (.slice (some ⟨ga, 0, none⟩) (rdN L) (rdN L))).kept hg5 (by omega)
  have hq5 := (hq4.set2 (.slice (some ⟨ga, 0, none⟩) (rdN L) (rdN L))).kept hg5 (by omega)
  have hb5 : Below w.heap.size w w5 := (hb4.setCell (p := ⟨sb, 2, none⟩) (by show w.heap.size ≤ sb; omega) _).grown hg5 (by simp; omega) (by simp)
  have ho4' := (ho4.kept (grown_setCell _ sb 2 _) (.inr (by simp [Value.ownBlock]; omega))).kept hg5 (.inr (by simp [Value.ownBlock]; omega))
  have hsz5 : s5.size ≤ b.size := by omega
  have hgb : sb < (w4.setCell ⟨sb, 2, none⟩ (.slice (some ⟨ga, 0, none⟩) (rdN L) (rdN L))).heap.size := by simpa using hsb4
  generalize (w4.setCell ⟨sb, 2, none⟩ (.slice (some ⟨ga, 0, none⟩) (rdN L) (rdN L))).heap.size = gb at *
  clear hr4 hk4 hq4 hb4 hg5 hn5 hz5 hsz4 hsb4 ho4
  obtain ⟨x0, x1, x2, x3, x4⟩ := hq5.cells
  have xz := hq5.unfrozen
  have hsb5 := hq5.lt
  go_wp2_with fail
  clear x0 x1 x2 x3 x4 xz
  refine (step_s _ (w.heap.size + 1) s5 L (unhide HN) (hr5.other (by omega) _) (by omega)).mono ?_
  rintro r w6 ⟨s6, src, rfl, hsrc, hr6, hn6, hg6, hz6, ht6⟩
  replace HN := hide hn6
  have HS := hide hsrc
  have hk6 := (hk5.other (i := 3) (a := sb) (by omega) (.slice (some ⟨gb, 0, none⟩) (rdN L) (rdN L))).kept hg6 (by omega)
  have hq6 := (hq5.set3 (.slice (some ⟨gb, 0, none⟩) (rdN L) (rdN L))).kept hg6 (by omega)
  have hb6 : Below w.heap.size w w6 := (hb5.setCell (p := ⟨sb, 3, none⟩) (by show w.heap.size ≤ sb; omega) _).grown hg6 (by simp; omega) (by simp)
  have ho4'' := (ho4'.kept (grown_setCell _ sb 3 _) (.inr (by simp [Value.ownBlock]; omega))).kept hg6 (.inr (by simp [Value.ownBlock]; omega))
  have ho5' := (ho5.kept (grown_setCell _ sb 3 _) (.inr (by simp [Value.ownBlock]; omega))).kept hg6 (.inr (by simp [Value.ownBlock]; omega))
  have hsz6 : s6.size ≤ b.size := by omega
  clear hr5 hk5 hq5 hb5 hg6 hn6 hz6 hsz5 hsb5 ho4' ho5 hsrc
  obtain ⟨x0, x1, x2, x3, x4⟩ := hq6.cells
  have xz := hq6.unfrozen
  have hsb6 := hq6.lt
  go_wp2_with fail
  clear x0 x1 x2 x3 x4 xz
  refine (step_e _ (w.heap.size + 1) s6 L (unhide HN) (hr6.other (by omega) _) (by omega)).mono ?_
  rintro r w7 ⟨rfl, hr7, hg7⟩
  have hk7 := (hk6.other (i := 4) (a := sb) (by omega) (.string src)).kept hg7 (by omega)
  have hq7 := (hq6.set4 (.string src)).kept hg7 (by omega)
  have hb7 : Below w.heap.size w w7 := (hb6.setCell (p := ⟨sb, 4, none⟩) (by show w.heap.size ≤ sb; omega) _).grown hg7 (by simp; omega) (by simp)
  have hoX := hide ((ho4''.kept (grown_setCell _ sb 4 _) (.inr (by simp [Value.ownBlock]; omega))).kept hg7 (.inr (by simp [Value.ownBlock]; omega)))
  have hoY := hide ((ho5'.kept (grown_setCell _ sb 4 _) (.inr (by simp [Value.ownBlock]; omega))).kept hg7 (.inr (by simp [Value.ownBlock]; omega)))
  clear hr6 hk6 hq6 hb6 hg7 hsz6 hsb6 ho4'' ho5' HN
  obtain ⟨x0, x1, x2, x3, x4⟩ := hq7.cells
  obtain ⟨y0, y1, y2, y3, y4⟩ := hk7.cells
  have yz0 := hk7.unfrozen 0
  have yz1 := hk7.unfrozen 1
  have yz2 := hk7.unfrozen 2
  have yz3 := hk7.unfrozen 3
  have yz4 := hk7.unfrozen 4
  have rf := hr7.c1
  have hl7 := hk7.lt
  by_cases hE : rdE L = 0
  · have hE' : (rdE L != 0) = false := by simp [hE]
    have HE := hide hE
    clear hE
    have hkf := hide (((((hk7.set0 (.int .i64 (rdW L))).set1 (.int .i64 (rdH L))).set2 (.slice (some ⟨ga, 0, none⟩) (rdN L) (rdN L))).set3 (.slice (some ⟨gb, 0, none⟩) (rdN L) (rdN L))).set4 (.string src))
    go_wp2
    obtain ⟨f0, f1, f2, f3, f4⟩ := (unhide hkf).cells
    refine bodyPost_ret (v := .tuple #[.agg #[.int .i64 (rdW L), .int .i64 (rdH L), .slice (some ⟨ga, 0, none⟩) (rdN L) (rdN L), .slice (some ⟨gb, 0, none⟩) (rdN L) (rdN L), .string src], .int .i64 0]) (by simp [results, Try.results32, go_sem, f0, f1, f2, f3, f4]) rfl (.inr ⟨HE.out, some ⟨ga, 0, none⟩, some ⟨gb, 0, none⟩, src, rfl, HS.out, ?_, ?_, ?_, fun a e => by cases e; show _ ≤ ga; omega, fun a e => by cases e; show _ ≤ gb; omega⟩)
    · exact IntsAt.of_own (own_rc (by omega) (own_rc (by omega) (own_rc (by omega) (own_rc (by omega) (own_rc (by omega) (unhide hoX))))))
    · exact IntsAt.of_own (own_rc (by omega) (own_rc (by omega) (own_rc (by omega) (own_rc (by omega) (own_rc (by omega) (unhide hoY))))))
    · exact ((((hb7.setCell (Nat.le_refl _) _).setCell (Nat.le_refl _) _).setCell (Nat.le_refl _) _).setCell (Nat.le_refl _) _).setCell (Nat.le_refl _) _
  · have hE' : (rdE L != 0) = true := by simp [hE]
    have hkf := hide (((((hk7.set0 (.int .i64 0)).set1 (.int .i64 0)).set2 (.slice none 0 0)).set3 (.slice none 0 0)).set4 (.string ⟨#[]⟩))
    go_wp2
    go_region
    all_goals (try go_wp2)
    all_goals
      obtain ⟨f0, f1, f2, f3, f4⟩ := (unhide hkf).cells
      refine bodyPost_ret (v := .tuple #[.agg #[.int .i64 0, .int .i64 0, .slice none 0 0, .slice none 0 0, .string ⟨#[]⟩], .int .i64 (rdE L)]) (by simp [results, Try.results32, go_sem, f0, f1, f2, f3, f4]) rfl (.inl ⟨hE, rfl, ?_⟩)
      exact (((((hb7.setCell (Nat.le_refl _) _).setCell (Nat.le_refl _) _).setCell (Nat.le_refl _) _).setCell (Nat.le_refl _) _).setCell (Nat.le_refl _) _).drew

end Go.Proofs.Ythmmgiaobakilaa
