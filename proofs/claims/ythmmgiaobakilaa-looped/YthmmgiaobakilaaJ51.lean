import Derived.Test.YthmmgiaobakilaaJ50
import Derived.Deep.RegionHeld3
/- The walk of Looped. -/
set_option maxRecDepth 100000
namespace Go.Proofs.Ythmmgiaobakilaa
open Go.RowKit Go.Deep

set_option maxHeartbeats 1500000 in
theorem looped_walk (i1 i2 i3 i4 i5 : Int) (w : World) (h1 : In64 i1) (h2 : In64 i2) (h3 : In64 i3) (h4 : In64 i4) (h5 : In64 i5) :
    Calls Try.prog 10 #[.int .i64 i1, .int .i64 i2, .int .i64 i3, .int .i64 i4, .int .i64 i5] w fun e w' => e = .returned (.bool true) ∧ Below w.heap.size w w' := by
  have P1 := hide (fun w => pick_more w i1 15 h1 (by omega))
  have P2 := hide (fun w => pick_more w i2 6 h2 (by omega))
  have P3 := hide (fun w => pick_more w i3 21 h3 (by omega))
  obtain ⟨a, ea, ha⟩ := pick_nat (c := i1) (n := 15) (by decide)
  obtain ⟨d, ed, hd⟩ := pick_nat (c := i2) (n := 6) (by decide)
  obtain ⟨c, ec, hc⟩ := pick_nat (c := i3) (n := 21) (by decide)
  rw [ea] at P1
  rw [ed] at P2
  rw [ec] at P3
  clear ea ed ec h1 h2 h3
  obtain ⟨b, hb⟩ : ∃ b : Nat, (a : Int) + (d : Int) = (b : Int) := ⟨a + d, by omega⟩
  have ha' : a < 400 := by omega
  have hb' : b < 400 := by omega
  have hc' : c < 400 := by omega
  have za := dgS_size ha'
  have zb := dgS_size hb'
  have zc := dgS_size hc'
  have HS := hide (lpS_lits a b c)
  have D1 := hide (fun w => digits_any w a (by omega))
  have D2 := hide (fun w => digits_any w b (by omega))
  have D3 := hide (fun w => digits_any w c (by omega))
  obtain ⟨sa, hsa⟩ : ∃ s, dgS a = s := ⟨_, rfl⟩
  obtain ⟨sb, hsb⟩ : ∃ s, dgS b = s := ⟨_, rfl⟩
  obtain ⟨sc, hsc⟩ : ∃ s, dgS c = s := ⟨_, rfl⟩
  rw [hsa] at za HS D1
  rw [hsb] at zb HS D2
  rw [hsc] at zc HS D3
  clear hsa hsb hsc ha' hb' hc'
  go_enter Try.func10, Try.ntmps10
  go_wp2_with fail
  refine (painting_any _).mono ?_
  rintro e w1 ⟨rfl, b1⟩
  have B1 := hide b1
  clear b1
  go_wp2_with fail
  refine (unhide P1 _).mono ?_
  rintro e w9 ⟨rfl, h9⟩
  obtain rfl := h9.symm
  go_wp2_with fail
  refine (unhide P2 _).mono ?_
  rintro e w9 ⟨rfl, h9⟩
  obtain rfl := h9.symm
  go_wp2_with fail
  refine (unhide P3 _).mono ?_
  rintro e w9 ⟨rfl, h9⟩
  obtain rfl := h9.symm
  go_wp2_with fail
  refine (unhide D1 _).mono ?_
  rintro e w2 ⟨rfl, b2⟩
  have B2 := hide b2
  clear b2
  go_wp2_with fail
  refine (unhide D2 _).mono ?_
  rintro e w3 ⟨rfl, b3⟩
  have B3 := hide b3
  clear b3
  go_wp2_with fail
  refine (unhide D3 _).mono ?_
  rintro e w4 ⟨rfl, b4⟩
  have B4 := hide b4
  clear b4
  go_wp2_with fail
  rw [unhide HS]
  obtain ⟨p, ep, hp⟩ := pick_nat (c := i4) (n := 6) (by decide)
  obtain ⟨q, eq, hq⟩ := pick_nat (c := i5) (n := 6) (by decide)
  refine (sceneK_any w4 i4 i5 none none 0 0 [] [] (lpS a b c) h4 h5 (.inl rfl) (.inl rfl) (fun x hx => by cases hx) (fun x hx => by cases hx)).mono ?_
  rintro e w5 ⟨n, so, sd, d1, d2, hn, n1, n2, rfl, s1, s2, b5⟩
  rw [ep, eq] at hn ⊢
  have B5 : Hid (Below w.heap.size w w5) := by
    have x1 := unhide B1; have x2 := unhide B2; have x3 := unhide B3; have x4 := unhide B4
    exact (((x1.trans (x2.mono x1.size)).trans (x3.mono (Nat.le_trans x1.size x2.size))).trans (x4.mono (Nat.le_trans (Nat.le_trans x1.size x2.size) x3.size))).trans (b5.mono (Nat.le_trans (Nat.le_trans (Nat.le_trans x1.size x2.size) x3.size) x4.size))
  clear B1 B2 B3 B4 b5 P1 P2 P3 D1 D2 D3 HS ep eq h4 h5 za zb zc
  unfold scV
  rw [texs_len]
  obtain ⟨W, hW⟩ : ∃ W : Nat, (1 : Int) + (p : Int) = (W : Int) := ⟨1 + p, by omega⟩
  obtain ⟨H, hH⟩ : ∃ H : Nat, (1 : Int) + (q : Int) = (H : Int) := ⟨1 + q, by omega⟩
  rw [hW, hH] at hn ⊢
  have hW6 : 1 ≤ W ∧ W ≤ 6 := by omega
  have hH6 : 1 ≤ H ∧ H ≤ 6 := by omega
  clear hW hH hp hq
  obtain ⟨src, hsrc⟩ : ∃ s, lpS a b c = s := ⟨_, rfl⟩
  rw [hsrc]
  have HSRC := hide hsrc
  have HN := hide hn
  clear hsrc hn
  obtain ⟨K, hK⟩ : ∃ K : Nat, ((b : Int) - (a : Int) + 1) * (2 + ((c : Int) + 1) * 5) = (K : Int) := ⟨(((b : Int) - (a : Int) + 1) * (2 + ((c : Int) + 1) * 5)).toNat, by
    rw [Int.toNat_of_nonneg (Int.mul_nonneg (by omega) (by omega))]⟩
  have hKb : K ≤ 6 * 107 := by
    have : ((b : Int) - (a : Int) + 1) * (2 + ((c : Int) + 1) * 5) ≤ 6 * 107 := Int.mul_le_mul (by omega) (by omega) (by omega) (by omega)
    omega
  obtain ⟨w6, hw6⟩ : ∃ w6, w5.alloc (.cells #[.int .i64 (W : Int), .int .i64 (H : Int), .slice so n d1, .slice sd n d2, .string src] 24) = w6 := ⟨_, rfl⟩
  have sb6 := SB.new w5 (.int .i64 (W : Int)) (.int .i64 (H : Int)) (.slice so n d1) (.slice sd n d2) (.string src)
  rw [hw6] at sb6
  go_wp2
  go_loopw [17, 18] (fun s i wr => ∃ k : Nat, k ≤ b - a + 1 ∧ i = .int .i64 ((a : Int) + (k : Int)) ∧ s = .int .i64 (sumV k a ((c + 1 : Nat) : Int)) ∧ wr = w6) (fun _ i _ => b + 1 - (intOf i).toNat)
  case atStart => exact ⟨0, Nat.zero_le _, by simp, rfl, rfl⟩
  case round =>
    obtain ⟨k, hk, rfl, rfl, rfl⟩ := hrel
    have s0 := sum_pos (c1 := ((c + 1 : Nat) : Int)) (by omega) k (a : Int) (by omega)
    have s9 := sum_le (c1 := ((c + 1 : Nat) : Int)) (by omega) (by omega) k (a : Int) (by omega) (by omega)
    have SN := hide (sum_snoc ((c + 1 : Nat) : Int) k (a : Int))
    by_cases hlt : k < b - a + 1
    · obtain ⟨M, hM⟩ : ∃ M : Nat, ((a : Int) + (k : Int)) * ((c : Int) + 1) = (M : Int) := ⟨(((a : Int) + (k : Int)) * ((c : Int) + 1)).toNat, by rw [Int.toNat_of_nonneg (Int.mul_nonneg (by omega) (by omega))]⟩
      have hMb : M ≤ 100 * 21 := by
        have : ((a : Int) + (k : Int)) * ((c : Int) + 1) ≤ 100 * 21 := Int.mul_le_mul (by omega) (by omega) (by omega) (by omega)
        omega
      have SM : Hid (sumV k (a : Int) ((c + 1 : Nat) : Int) + (M : Int) = sumV (k + 1) (a : Int) ((c + 1 : Nat) : Int)) := by
        have := unhide SN
        show _ = _
        rw [this, ← hM]; rfl
      obtain ⟨s, hs⟩ : ∃ s, sumV k (a : Int) ((c + 1 : Nat) : Int) = s := ⟨_, rfl⟩
      rw [hs] at s0 s9 SM ⊢
      have hle : (a : Int) + (k : Int) ≤ (b : Int) := by omega
      clear hs SN
      go_wp2
      go_roundw
      case rel => exact ⟨k + 1, by omega, by go_num, by rw [← unhide SM], by first | rfl | trivial⟩
      case measure => simp [intOf]; omega
    · have hkk : k = b - a + 1 := by omega
      subst hkk
      obtain ⟨s, hs⟩ : ∃ s, sumV (b - a + 1) (a : Int) ((c + 1 : Nat) : Int) = s := ⟨_, rfl⟩
      rw [hs] at s0 s9 ⊢
      have hle : decide ((a : Int) + ((b - a + 1 : Nat) : Int) ≤ (b : Int)) = false := by rw [decide_eq_false_iff_not]; omega
      have HSUM := hide hs
      clear hs SN
      obtain ⟨⟨y0, y1, y2, y3, y4⟩, _⟩ := bk5 sb6
      have hn := unhide HN
      have hnN : W * H = n := by
        have : ((W * H : Nat) : Int) = (n : Int) := by rw [Int.natCast_mul]; exact hn
        omega
      have z6 : wr.heap.size = w5.heap.size + 1 := by rw [← hw6]; simp
      have b6 : Below w5.heap.size w5 wr := by rw [← hw6]; exact below_alloc _ _
      have shp : shapeE W H (texsV [] n) (texsV [] n) = 0 := shape_fit (n := n) (by omega) (by omega) hn (texs_len _ _) (texs_len _ _) (texs_all _ _) (texs_all _ _)
      have C := paint_any wr W H so sd d1 d2 (texsV [] n) (texsV [] n) src ((s1.later b6 (Nat.le_refl _)).mono (by omega)) ((s2.later b6 (Nat.le_refl _)).mono (by omega)) (by rw [texs_len]; unfold maxLen; omega) (by rw [texs_len]; unfold maxLen; omega) (by
        rw [← unhide HSRC]
        have := lp_size (a := a) (b := b) (c := c) (by omega) (by omega) (by omega)
        unfold maxLen; omega)
      unfold scV at C
      rw [texs_len] at C
      have PC := hide C
      have EV : Hid (eachV a b c = 1 + (K : Int) + 2) := by
        show eachV a b c = _
        unfold eachV
        rw [← hK, show ((b - a + 1 : Nat) : Int) = (b : Int) - (a : Int) + 1 by omega, show 5 * ((c + 1 : Nat) : Int) = ((c : Int) + 1) * 5 by omega]
      have Z6 : Hid (w.heap.size ≤ w5.heap.size ∧ wr.heap.size = w5.heap.size + 1) := ⟨(unhide B5).size, z6⟩
      have B6 : Hid (Below w.heap.size w wr) := (unhide B5).trans (b6.mono (unhide B5).size)
      have SHP := hide shp
      have HNN := hide hnN
      clear C shp b6 z6 hnN s1 s2 B5 hn
      go_wp2_with fail
      clear y0 y1 y2 y3 y4 hw6
      refine (unhide PC).mono ?_
      rintro e w7 ⟨E, P, r, hA, hR⟩
      rw [← unhide HSRC] at hA
      obtain ⟨rfl, hcase⟩ := lp_ans hW6 hH6 (unhide SHP) (by omega) (by omega) (by omega) hA
      rw [unhide HNN, unhide EV] at hcase
      clear hA SHP HNN EV PC hK HSRC
      have hn := unhide HN
      have b7 := hR.1
      have z6 := unhide Z6
      have sb7 := sb6.later b7 (by omega)
      obtain ⟨N, hNe⟩ : ∃ N : Nat, (n : Int) * (1 + (K : Int) + 2) = (N : Int) := ⟨((n : Int) * (1 + (K : Int) + 2)).toNat, by rw [Int.toNat_of_nonneg (Int.mul_nonneg (by omega) (by omega))]⟩
      have hNb : N ≤ 36 * 700 := by
        have : (n : Int) * (1 + (K : Int) + 2) ≤ 36 * 700 := Int.mul_le_mul (by omega) (by omega) (by omega) (by omega)
        omega
      rw [hNe] at hcase
      have B7 : Hid (Below w.heap.size w w7) := (unhide B6).trans (b7.mono (by omega))
      have Z7 : Hid (w.heap.size ≤ w7.heap.size ∧ w5.heap.size < w7.heap.size) := by have := b7.size; show _ ∧ _; omega
      clear Z6 B6 z6 sb6
      rcases hcase with ⟨hbig, rfl, rfl⟩ | ⟨hbig, rfl, S, rfl, e1, e2, e3, e4⟩
      · obtain rfl := hR.2
        unfold emptyR
        clear hR b7
        obtain ⟨w8, hw8⟩ : ∃ w8, w7.alloc (.cells #[.slice none 0 0, .slice none 0 0, .int .i64 0, .int .i64 0, .slice none 0 0] 51) = w8 := ⟨_, rfl⟩
        have r8 := RB.new w7 (.slice none 0 0) (.slice none 0 0) (.int .i64 0) (.int .i64 0) (.slice none 0 0)
        have b8 : Below w7.heap.size w7 w8 := by rw [← hw8]; exact below_alloc _ _
        rw [hw8] at r8
        have z7 := unhide Z7
        have sb8 := sb7.later b8 (by omega)
        obtain ⟨w9, hw9⟩ : ∃ w9, ((((w8.setCell ⟨w7.heap.size, 0, none⟩ (.slice none 0 0)).setCell ⟨w7.heap.size, 1, none⟩ (.slice none 0 0)).setCell ⟨w7.heap.size, 2, none⟩ (.int .i64 0)).setCell ⟨w7.heap.size, 3, none⟩ (.int .i64 0)).setCell ⟨w7.heap.size, 4, none⟩ (.slice none 0 0) = w9 := ⟨_, rfl⟩
        have r9 := set5 r8 (.slice none 0 0) (.slice none 0 0) (.int .i64 0) (.int .i64 0) (.slice none 0 0)
        have ne : w5.heap.size ≠ w7.heap.size := by omega
        have sb9 := ((((sb8.other (i := 0) ne (.slice none 0 0)).other (i := 1) ne (.slice none 0 0)).other (i := 2) ne (.int .i64 0)).other (i := 3) ne (.int .i64 0)).other (i := 4) ne (.slice none 0 0)
        have B8 : Hid (Below w.heap.size w w9) := by
          have := (unhide B7).trans (b8.mono (by omega))
          rw [← hw9]
          exact ((((this.setCell (p := ⟨w7.heap.size, 0, none⟩) (by simp; omega) _).setCell (p := ⟨w7.heap.size, 1, none⟩) (by simp; omega) _).setCell (p := ⟨w7.heap.size, 2, none⟩) (by simp; omega) _).setCell (p := ⟨w7.heap.size, 3, none⟩) (by simp; omega) _).setCell (p := ⟨w7.heap.size, 4, none⟩) (by simp; omega) _
        rw [hw9] at r9 sb9
        obtain ⟨⟨y0, y1, y2, y3, y4⟩, _⟩ := bk5 sb9
        obtain ⟨⟨x0, x1, x2, x3, x4⟩, _⟩ := bk5 r9
        obtain ⟨_, f0, f1, f2, f3, f4⟩ := bk5 r8
        clear b8 z7 Z7 sb7 sb8 r8 B7 HN r9 sb9 ne
        go_wp2
        go_ret
        exact ⟨rfl, unhide B8⟩
      · obtain ⟨ao, f1, bo, f2, to, f3, he, j1, j2, _, _⟩ := hR.hidden
        rw [unhide HSUM] at e4
        rw [e4] at he j1
        rw [e3] at he j2
        rw [e1, e2, List.length_replicate, List.length_replicate] at he
        obtain ⟨tl, htl⟩ : ∃ tl, S.trace.length = tl := ⟨_, rfl⟩
        rw [htl] at he
        subst he
        obtain ⟨tone, htone⟩ : ∃ x, toneV s = x := ⟨_, rfl⟩
        rw [htone] at j1
        have hbig' : decide (20000 < (N : Int)) = false := by rw [decide_eq_false_iff_not]; exact hbig
        clear hR b7 htl e1 e2 e3 e4 hbig
        obtain ⟨w8, hw8⟩ : ∃ w8, w7.alloc (.cells #[.slice ao n f1, .slice bo n f2, .int .i64 (N : Int), .int .i64 (n : Int), .slice to tl f3] 51) = w8 := ⟨_, rfl⟩
        have r8 := RB.new w7 (.slice ao n f1) (.slice bo n f2) (.int .i64 (N : Int)) (.int .i64 (n : Int)) (.slice to tl f3)
        have b8 : Below w7.heap.size w7 w8 := by rw [← hw8]; exact below_alloc _ _
        rw [hw8] at r8
        have z7 := unhide Z7
        have sb8 := sb7.later b8 (by omega)
        have B8 : Hid (Below w.heap.size w w8) := (unhide B7).trans (b8.mono (by omega))
        have J1 := hide (j1.later b8 (Nat.le_refl _))
        have J2 := hide (j2.later b8 (Nat.le_refl _))
        have HT := hide htone
        obtain ⟨⟨y0, y1, y2, y3, y4⟩, _⟩ := bk5 sb8
        obtain ⟨⟨x0, x1, x2, x3, x4⟩, _⟩ := bk5 r8
        have R8 := hide r8
        clear b8 z7 sb7 sb8 r8 B7 HN j1 j2 htone HSUM
        go_wp2
        go_loopw [23] (fun i wr => ∃ k : Nat, k ≤ n ∧ i = .int .i64 k ∧ Below w8.heap.size w8 wr) (fun i _ => n - (intOf i).toNat)
        case atStart => exact ⟨0, Nat.zero_le _, rfl, Below.refl _ _⟩
        case round =>
          obtain ⟨k, hk, rfl, hnx⟩ := hrel
          by_cases hlt : k < n
          · have hlt' : (k : Int) < (n : Int) := by omega
            have z7 := unhide Z7
            have z8 : w7.heap.size < w8.heap.size := by
              have := (Array.getElem?_eq_some_iff.1 (unhide R8)).1; exact this
            obtain ⟨⟨g0, g1, g2, g3, g4⟩, _⟩ := bk5 ((unhide R8).later hnx z8)
            rcases unhide J1 with J | ⟨b1, o1, rfl, hb1, hc1⟩
            · have := congrArg List.length J; simp at this; omega
            rcases unhide J2 with J | ⟨b2, o2, rfl, hb2, hc2⟩
            · have := congrArg List.length J; simp at this; omega
            have v1 := (hnx.cell (p := ⟨b1, o1 + k, none⟩) (by show b1 < w8.heap.size; omega)).trans (hc1 k (by rw [List.length_replicate]; exact hlt))
            have v2 := (hnx.cell (p := ⟨b2, o2 + k, none⟩) (by show b2 < w8.heap.size; omega)).trans (hc2 k (by rw [List.length_replicate]; exact hlt))
            rw [show (List.replicate n tone).getD k 0 = tone from by simp [List.getD, hlt]] at v1
            rw [show (List.replicate n (0 : Int)).getD k 0 = 0 from by simp [List.getD, hlt]] at v2
            obtain ⟨m, hm⟩ : ∃ m : Nat, min s 255 = (m : Int) := ⟨(min s 255).toNat, by omega⟩
            have hmb : m ≤ 255 := by omega
            have RT : Hid (∀ (w : World) (v : Int), v = 255 * (m : Int) → Calls Try.prog 29 #[.int .i64 v] w fun e w' => e = .returned (.int .i64 tone) ∧ w' = w) := fun w v hv => by
              subst hv
              have := root_any w (255 * m) (by omega)
              rw [Int.natCast_mul] at this
              have et : (rootN (255 * m) : Int) = tone := by
                rw [← unhide HT]; unfold toneV clampV
                rw [show (min (max s 0) 255).toNat = m by omega]
              rw [et] at this
              exact this
            have WM : Hid (IntKind.i64.wrap (255 * (m : Int)) = 255 * (m : Int)) := by show _ = _; simp [IntKind.wrap, IntKind.bits, IntKind.signed]; omega
            have R := hide hnx.drew
            have R' := hide hnx
            clear hnx hc1 hc2 J1 J2 R8 Z7 z7 z8 HT
            go_wp2
            go_region_held3 (fun w' => w'.cell? ⟨w7.heap.size, 0, none⟩ = some (.slice (some ⟨b1, o1, none⟩) n f1) ∧ w'.cell? ⟨w7.heap.size, 1, none⟩ = some (.slice (some ⟨b2, o2, none⟩) n f2) ∧ w'.cell? ⟨b1, o1 + k, none⟩ = some (.int .i64 tone) ∧ w'.cell? ⟨b2, o2 + k, none⟩ = some (.int .i64 0)) (go_keep)
              (first
                | (go_at_call 29; refine (unhide RT _ _ ?_).mono ?_; (first | exact unhide WM | rfl); rintro e w9 ⟨rfl, h9⟩; obtain rfl := h9.symm))
            clear RT WM v1 v2 g0 g1 g2 g3 g4
            go_wp2
            go_roundw
            case rel => first | exact ⟨k + 1, by omega, by go_num, unhide R⟩ | exact ⟨k + 1, by omega, by go_num, unhide R'⟩
            case measure => simp [intOf]; omega
          · have hge : decide ((k : Int) < (n : Int)) = false := by simp; omega
            have B9 := hide ((unhide B8).trans (hnx.mono (by have := (unhide B8).size; omega)))
            clear hnx
            go_wp2
            go_ret
            exact ⟨rfl, unhide B9⟩
end Go.Proofs.Ythmmgiaobakilaa
