import Derived.Test.YthmmgiaobakilaaJ37
/- The law's function untold: true for every scene whose shape is right. -/
set_option maxRecDepth 100000
namespace Go.Proofs.Ythmmgiaobakilaa
open Go.RowKit Go.Deep

theorem shape_fit {sw sh : Int} {xs ys : List Int} {n : Nat} (w1 : 1 ≤ sw ∧ sw ≤ 6) (h1 : 1 ≤ sh ∧ sh ≤ 6) (hn : sw * sh = (n : Int)) (lx : xs.length = n) (ly : ys.length = n) (ax : xs.all texelB = true) (ay : ys.all texelB = true) : shapeE sw sh xs ys = 0 := by
  unfold shapeE texelsB
  rw [if_pos (by simp [sideB]; omega), hn, if_pos (by rw [lx, ly, ax, ay]; simp)]
/-- A block of a result's five cells. -/
def RB (w : World) (b : Nat) (c0 c1 c2 c3 c4 : Value) : Prop := w.heap[b]? = some (.cells #[c0, c1, c2, c3, c4] 51 (0, 0))
theorem RB.later {w w' : World} {b : Nat} {c0 c1 c2 c3 c4 : Value} {B : Nat} (h : RB w b c0 c1 c2 c3 c4) (hb : Below B w w') (hB : b < B) : RB w' b c0 c1 c2 c3 c4 := (hb.block b hB).trans h
theorem RB.new (w : World) (c0 c1 c2 c3 c4 : Value) : RB (w.alloc (.cells #[c0, c1, c2, c3, c4] 51)) w.heap.size c0 c1 c2 c3 c4 := heap_alloc_new w _
theorem TrAt.mono {B B' : Nat} {w : World} {ao : Option Addr} {l : List (Int × Int)} (h : TrAt B w ao l) (hB : B ≤ B') : TrAt B' w ao l := by
  rcases h with h | ⟨g, h1, h2, h3⟩
  · exact .inl h
  · exact .inr ⟨g, h1, by omega, h3⟩
theorem below_alloc (w : World) (o : Obj) : Below w.heap.size w (w.alloc o) := (Below.refl _ w).alloc (Nat.le_refl _) o
set_option maxHeartbeats 4000000 in
theorem untold_any (w : World) (sw sh : Int) (so sd oo : Option Addr) (c1 c2 c3 : Nat) (xs ys zs : List Int) (src : ByteArray) (n : Nat) (hsw : 1 ≤ sw ∧ sw ≤ 6) (hsh : 1 ≤ sh ∧ sh ≤ 6) (hn : sw * sh = (n : Int)) (n1 : 1 ≤ n) (n2 : n ≤ 36) (lx : xs.length = n) (ly : ys.length = n) (ax : xs.all texelB = true) (ay : ys.all texelB = true)
    (hx : IntsAt w.heap.size w so xs) (hy : IntsAt w.heap.size w sd ys) (hz : IntsAt w.heap.size w oo zs) (z64 : ∀ x ∈ zs, In64 x) (hsrc : src.size ≤ maxLen) :
    Calls Try.prog 23 #[scV sw sh so sd c1 c2 xs ys src, .slice oo zs.length c3] w fun e w' => e = .returned (.bool true) ∧ Below w.heap.size w w' := by
  have hm : n ≤ maxLen := by unfold maxLen; omega
  have sh1 := shape_fit hsw hsh hn lx ly ax ay
  have sh2 := shape_fit hsw hsh hn lx (texs_len zs n) ax (texs_all zs n)
  have hN : Hid (sw.toNat * sh.toNat ≤ 36) := by
    show _ ≤ _
    have e : ((sw.toNat * sh.toNat : Nat) : Int) = sw * sh := by rw [Int.natCast_mul, Int.toNat_of_nonneg (by omega), Int.toNat_of_nonneg (by omega)]
    omega
  have SH := hide (sh1.trans sh2.symm)
  obtain ⟨w1, hw1⟩ : ∃ w1, (w.alloc (.cells #[.int .i64 sw, .int .i64 sh, .slice so n c1, .slice sd n c2, .string src] 24)).alloc (.cells #[.int .i64 sw, .int .i64 sh, .slice so n c1, .slice sd n c2, .string src] 24) = w1 := ⟨_, rfl⟩
  have b1 : Below w.heap.size w w1 := by rw [← hw1]; exact ((Below.refl _ w).alloc (Nat.le_refl _) _).alloc (by simp) _
  have z1 : w1.heap.size = w.heap.size + 2 := by rw [← hw1]; simp
  have s0 := SB.under w (.int .i64 sw) (.int .i64 sh) (.slice so n c1) (.slice sd n c2) (.string src) (.cells #[.int .i64 sw, .int .i64 sh, .slice so n c1, .slice sd n c2, .string src] 24)
  have s1 := SB.over w (.int .i64 sw) (.int .i64 sh) (.slice so n c1) (.slice sd n c2) (.string src) (.cells #[.int .i64 sw, .int .i64 sh, .slice so n c1, .slice sd n c2, .string src] 24)
  rw [hw1] at s0 s1
  obtain ⟨x0, x1, x2, x3, x4⟩ := (bk5 s0).1
  have T1 := hide (texK_some w1 oo c3 zs n n1 n2 ((hz.later b1 (Nat.le_refl _)).mono (by omega)) z64)
  have B1 := hide b1
  have Z1 := hide z1
  have LX := hide lx
  have LY := hide ly
  unfold scV
  rw [lx, ly]
  obtain ⟨s1', s2'⟩ := hsw
  obtain ⟨s3', s4'⟩ := hsh
  clear b1 z1 lx ly ax ay hz sh1 sh2
  go_enter Try.func23, Try.ntmps23
  go_wp2_with fail
  clear hw1 x0 x1 x2 x3 x4 hn
  refine (unhide T1).mono ?_
  rintro e w2 ⟨g, cap, rfl, hg, hgi, hb2⟩
  have z1 := unhide Z1
  have t0 := s0.later hb2 (by omega)
  have t1 := s1.later hb2 (by omega)
  have u0 := t0.other (a := w.heap.size + 1) (i := 3) (by omega) (.slice (some ⟨g, 0, none⟩) n cap)
  have u1 := t1.set3 (.slice (some ⟨g, 0, none⟩) n cap)
  obtain ⟨⟨y0, y1, y2, y3, y4⟩, q0, q1, q2, q3, q4⟩ := bk5 t1
  obtain ⟨w3, hw3⟩ : ∃ w3, w2.setCell ⟨w.heap.size + 1, 3, none⟩ (.slice (some ⟨g, 0, none⟩) n cap) = w3 := ⟨_, rfl⟩
  have e3 : w3.heap.size = w2.heap.size := by rw [← hw3]; simp
  have b3 : Below w.heap.size w w3 := by rw [← hw3]; exact ((unhide B1).trans (hb2.mono (by omega))).setCell (p := ⟨w.heap.size + 1, 3, none⟩) (by simp) _
  have e2 : w1.heap.size ≤ w2.heap.size := hb2.size
  rw [hw3] at u0 u1
  have gi3 : IntsAt w3.heap.size w3 (some ⟨g, 0, none⟩) (texsV zs n) := by
    rw [e3, ← hw3]; exact hgi.setK (fun p hp => by cases hp; show g ≠ _; omega)
  have lx := unhide LX
  have ly := unhide LY
  have C1 := paint_any w3 sw sh so sd c1 c2 xs ys src ((hx.later b3 (Nat.le_refl _)).mono (by omega)) ((hy.later b3 (Nat.le_refl _)).mono (by omega)) (by omega) (by omega) hsrc
  unfold scV at C1
  rw [lx, ly] at C1
  have PC1 := hide C1
  have E3 : Hid (w.heap.size + 2 ≤ w3.heap.size) := by show _ ≤ _; omega
  have HB3 := hide b3
  obtain ⟨⟨a0, a1, a2, a3, a4⟩, _⟩ := bk5 u0
  clear C1 s0 s1 z1 e3 b3 e2 hgi hb2 hy T1 B1 Z1 t0 t1 hg lx ly
  go_wp2_with fail
  clear a0 a1 a2 a3 a4 hw3 y0 y1 y2 y3 y4 q0 q1 q2 q3 q4
  refine (unhide PC1).mono ?_
  rintro e w4 ⟨E, P, r, hA, hR⟩
  obtain ⟨ao, d1, bo, d2, to, d3, rfl, iX, iT, lT, b4⟩ := hR.view
  clear hR PC1
  have e3 := unhide E3
  have lx := unhide LX
  have b3 := unhide HB3
  have v1 := u1.later b4 (by omega)
  obtain ⟨w5, hw5⟩ : ∃ w5, w4.alloc (.cells #[.slice ao (opnO r).length d1, .slice bo (hlO r) d2, .int .i64 (stO r), .int .i64 (ttO r), .slice to (trO r).length d3] 51) = w5 := ⟨_, rfl⟩
  have e4 : w3.heap.size ≤ w4.heap.size := b4.size
  have e5 : w5.heap.size = w4.heap.size + 1 := by rw [← hw5]; simp
  have b45 : Below w4.heap.size w4 w5 := by rw [← hw5]; exact below_alloc _ _
  have r5 := RB.new w4 (.slice ao (opnO r).length d1) (.slice bo (hlO r) d2) (.int .i64 (stO r)) (.int .i64 (ttO r)) (.slice to (trO r).length d3)
  rw [hw5] at r5
  have b5 : Below w.heap.size w w5 := (b3.trans (b4.mono (by omega))).trans (b45.mono (by omega))
  have v5 := v1.later b45 (by omega)
  have g5 := ((gi3.later b4 (Nat.le_refl _)).mono e4).later b45 (Nat.le_refl _)
  have C2 := paint_any w5 sw sh so (some ⟨g, 0, none⟩) c1 cap xs (texsV zs n) src ((hx.later b5 (Nat.le_refl _)).mono (by omega)) (g5.mono (by omega)) (by omega) (by rw [texs_len]; omega) hsrc
  unfold scV at C2
  rw [lx, texs_len] at C2
  have PC2 := hide C2
  have iX5 := iX.later b45 (Nat.le_refl _)
  have iT5 := iT.later b45 (Nat.le_refl _)
  have E4 : Hid (w.heap.size ≤ w4.heap.size ∧ w5.heap.size = w4.heap.size + 1) := by show _ ∧ _; exact ⟨by omega, e5⟩
  have HB5 := hide b5
  obtain ⟨⟨a0, a1, a2, a3, a4⟩, _⟩ := bk5 v5
  clear C2 e3 b3 v1 e4 e5 b45 b5 v5 g5 gi3 u0 u1 b4 iX iT hx E3 HB3 lx
  go_wp2_with fail
  clear a0 a1 a2 a3 a4 hw5
  refine (unhide PC2).mono ?_
  rintro e w6 ⟨E', P', r', hA', hR⟩
  obtain ⟨ao', d1', bo', d2', to', d3', he, iX', iT', _, b6⟩ := hR.view
  obtain ⟨rfl, rfl, H, hlo⟩ := ans_lo hA hA' (unhide SH)
  obtain ⟨q1, q2, q3, q4, q5⟩ := hlo.eqs
  rw [q1, q2, q3, q4, q5] at he
  rw [q1] at iX'
  rw [q2] at iT'
  subst he
  have hl := ans_len hA
  have hl2 : (opnO r).length ≤ 1000 := by have := unhide hN; omega
  clear hR PC2 q1 q2 q3 q4 q5 hlo hA hA' hl hN SH
  have e4 := unhide E4
  have b5 := unhide HB5
  obtain ⟨w7, hw7⟩ : ∃ w7, w6.alloc (.cells #[.slice ao' (opnO r).length d1', .slice bo' (hlO r) d2', .int .i64 (stO r), .int .i64 (ttO r), .slice to' (trO r).length d3'] 51) = w7 := ⟨_, rfl⟩
  have e6 : w5.heap.size ≤ w6.heap.size := b6.size
  have e7 : w7.heap.size = w6.heap.size + 1 := by rw [← hw7]; simp
  have b67 : Below w6.heap.size w6 w7 := by rw [← hw7]; exact below_alloc _ _
  have p7 := RB.new w6 (.slice ao' (opnO r).length d1') (.slice bo' (hlO r) d2') (.int .i64 (stO r)) (.int .i64 (ttO r)) (.slice to' (trO r).length d3')
  rw [hw7] at p7
  have r7 := (r5.later b6 (by omega)).later b67 (by omega)
  have iX7 := ((iX5.later b6 (by omega)).later b67 (by omega)).mono (B' := w7.heap.size) (by omega)
  have iT7 : TrAt w4.heap.size w7 to (trO r) := (iT5.later b6 (by omega)).later b67 (by omega)
  have jX7 := (iX'.later b67 (Nat.le_refl _)).mono (B' := w7.heap.size) (by omega)
  have jT7 : TrAt w6.heap.size w7 to' (trO r) := iT'.later b67 (Nat.le_refl _)
  have b7 : Below w.heap.size w w7 := (b5.trans (b6.mono (by omega))).trans (b67.mono (by omega))
  have SK := hide (same_keep ao ao' d1 d1' (opnO r) w7 iX7 jX7 hl2)
  have E7 : Hid (w.heap.size ≤ w7.heap.size ∧ w4.heap.size < w7.heap.size ∧ w6.heap.size < w7.heap.size) := by show _ ∧ _; omega
  have HB7 := hide b7
  obtain ⟨⟨a0, a1, a2, a3, a4⟩, _⟩ := bk5 p7
  obtain ⟨⟨k0, k1, k2, k3, k4⟩, _⟩ := bk5 r7
  clear b5 b6 b67 b7 e4 e6 e7 iX5 iT5 iX' iT' r5 iX7 jX7 E4 HB5
  go_wp2_with fail
  clear hw7 a0 a1 a2 a3 a4 k0 k1 k2 k3 k4
  refine (unhide SK).mono ?_
  rintro e w8 ⟨rfl, b8⟩
  have e7 := unhide E7
  have p8 := p7.later b8 (by omega)
  have r8 := r7.later b8 (by omega)
  have e8 : w7.heap.size ≤ w8.heap.size := b8.size
  have ST := hide (same_trace to to' d3 d3' (trO r) w8 ((iT7.later b8 (by omega)).mono (B' := w8.heap.size) (by omega)) ((jT7.later b8 (by omega)).mono (B' := w8.heap.size) (by omega)) lT)
  have HB8 : Hid (Below w.heap.size w w8) := (unhide HB7).trans (b8.mono (by omega))
  have E8 : Hid (w.heap.size ≤ w8.heap.size ∧ w4.heap.size < w8.heap.size ∧ w6.heap.size < w8.heap.size) := by show _ ∧ _; omega
  obtain ⟨⟨a0, a1, a2, a3, a4⟩, _⟩ := bk5 p8
  obtain ⟨⟨k0, k1, k2, k3, k4⟩, _⟩ := bk5 r8
  clear SK e7 p7 r7 e8 b8 iT7 jT7 HB7 E7
  go_wp2_with fail
  clear a0 a1 a2 a3 a4 k0 k1 k2 k3 k4
  refine (unhide ST).mono ?_
  rintro e w9 ⟨rfl, b9⟩
  have e8 := unhide E8
  have p9 := p8.later b9 (by omega)
  have r9 := r8.later b9 (by omega)
  have HB9 : Hid (Below w.heap.size w w9) := (unhide HB8).trans (b9.mono (by omega))
  obtain ⟨⟨a0, a1, a2, a3, a4⟩, _⟩ := bk5 p9
  obtain ⟨⟨k0, k1, k2, k3, k4⟩, _⟩ := bk5 r9
  clear ST e8 p8 r8 b9 HB8 E8
  go_wp2
  go_ret
  exact ⟨rfl, unhide HB9⟩
end Go.Proofs.Ythmmgiaobakilaa
