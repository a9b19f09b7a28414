import Derived.Test.YthmmgiaobakilaaJ40
import Derived.Test.YthmmgiaobakilaaJ43
import Derived.Test.YthmmgiaobakilaaJ50
/- Flowing's function sum: whatever the raw numbers, a text that is one factor, and whether it is hidden. -/
set_option maxRecDepth 100000
namespace Go.Proofs.Ythmmgiaobakilaa
open Go.RowKit Go.Deep

theorem smB_new (w : World) (t : SM) : (w.alloc (.cells #[.string t.1, .bool t.2] 43)).heap[w.heap.size]? = some (.cells #[.string t.1, .bool t.2] 43 (0, 0)) := heap_alloc_new w _
set_option maxHeartbeats 40000000 in
theorem sum_any (w : World) (ao : Option Addr) (c : Nat) (raw : List Int) (hx : IntsAt w.heap.size w ao raw) (h64 : ∀ x ∈ raw, In64 x) :
    Calls Try.prog 25 #[.slice ao raw.length c] w (SumOut w) := by
  obtain ⟨i0, hi0, hz0, hz1, hz2⟩ := info_parts infoSm
  obtain ⟨w0, hw0⟩ : ∃ w0, (w.alloc (.cells #[.string ⟨#[]⟩, .bool false] 43)).alloc (.cells #[.string ⟨#[120]⟩, .bool false, .string ⟨#[97]⟩, .bool false] 43) = w0 := ⟨_, rfl⟩
  have ST : SumR w raw.length (.slice (some ⟨w.heap.size + 1, 0, none⟩) 2 2) (.int .i64 0) w0 0 [] (⟨#[120]⟩, false) (⟨#[97]⟩, false) (w.heap.size + 1) 2 := by
    refine ⟨rfl, rfl, ⟨rfl, .inr ⟨w.heap.size + 1, 2, #[.string ⟨#[120]⟩, .bool false, .string ⟨#[97]⟩, .bool false], rfl, Nat.le_refl _, ?_, Nat.le_refl _, by unfold maxLen; decide, rfl, rfl⟩⟩, Nat.zero_le _, Nat.zero_le _, Nat.zero_le _, ?_, ?_, ?_⟩
    · rw [← hw0]
      have := heap_alloc_new (w.alloc (.cells #[.string ⟨#[]⟩, .bool false] 43)) (.cells #[.string ⟨#[120]⟩, .bool false, .string ⟨#[97]⟩, .bool false] 43)
      simpa using this
    · intro p hp
      simp at hp
      rcases hp with rfl | rfl
      · exact ⟨tx_x, by decide⟩
      · exact ⟨tx_a, by decide⟩
    · rw [← hw0]
      exact (Below.heap_alloc _ _ _ (by simp)).trans (heap_alloc_new w _)
    · rw [← hw0]; exact ((Below.refl _ w).alloc (Nat.le_refl _) _).alloc (by simp) _
  go_enter Try.func25, Try.ntmps25
  go_wp2
  go_loopw [3, 4] (fun v i wr => ∃ (j : Nat) (L : List SM) (y x : SM) (g cap : Nat), SumR w raw.length v i wr j L y x g cap) (fun _ i _ => raw.length - (intOf i).toNat)
  case atStart => first | exact ⟨0, [], _, _, _, _, ST⟩ | (rw [hw0]; exact ⟨0, [], _, _, _, _, ST⟩)
  case round =>
    clear ST hw0
    obtain ⟨j, L, y, x, g, cap, R⟩ := hrel
    obtain rfl := R.ei
    obtain rfl := R.ev
    obtain ⟨m, hm⟩ : ∃ m, L.length + 2 = m := ⟨_, rfl⟩
    obtain ⟨px, hpx⟩ : ∃ px, L.length + 1 = px := ⟨_, rfl⟩
    obtain ⟨py, hpy⟩ : ∃ py, L.length = py := ⟨_, rfl⟩
    have ex : (m : Int) - 1 = (px : Int) := by omega
    have lx : (px : Int) < (m : Int) := by omega
    by_cases hlt : j < raw.length ∧ j < 14
    · obtain ⟨h1, h2⟩ := hlt
      have h1' : (j : Int) < (raw.length : Int) := by omega
      have h2' : (j : Int) < 14 := by omega
      obtain ⟨tx, bx⟩ := x
      obtain ⟨ty, by_⟩ := y
      obtain ⟨⟨gx, zx⟩, gy, zy⟩ := R.top
      have gx' : TX tx bx := gx
      have gy' : TX ty by_ := gy
      have zx' : tx.size ≤ 80 := zx
      have zy' : ty.size ≤ 80 := zy
      clear gx gy zx zy
      rcases hx with hx | ⟨b, off, rfl, hbB, hcell⟩
      · simp [hx] at h1
      have h6 : In64 (raw.getD j 0) := h64 _ (by rw [List.getD, List.getElem?_eq_getElem h1, Option.getD_some]; exact List.getElem_mem h1)
      have hc0 := (R.bel.cell (p := ⟨b, off + j, none⟩) hbB).trans (hcell j h1)
      obtain ⟨rj, hrj⟩ : ∃ x, raw.getD j 0 = x := ⟨_, rfl⟩
      rw [hrj] at h6 hc0
      cases bx
      · obtain ⟨w0a, hw0a⟩ : ∃ w1, wr.alloc (.cells #[.string tx, .bool false] 43) = w1 := ⟨_, rfl⟩
        have sx0 : w0a.heap[wr.heap.size]? = some (.cells #[.string tx, .bool false] 43 (0, 0)) := by rw [← hw0a]; exact heap_alloc_new _ _
        obtain ⟨_, fz0, fz1⟩ := bkp2 sx0
        obtain ⟨w1, hw1⟩ : ∃ w1, w0a.setCell ⟨wr.heap.size, 1, none⟩ (.bool false) = w1 := ⟨_, rfl⟩
        have b1 : Below wr.heap.size wr w1 := by rw [← hw1, ← hw0a]; exact (below_alloc _ _).setCell (p := ⟨wr.heap.size, 1, none⟩) (by simp) _
        have zz1 : w1.heap.size = wr.heap.size + 1 := by rw [← hw1, ← hw0a]; simp
        have sx1 : w1.heap[wr.heap.size]? = some (.cells #[.string tx, .bool false] 43 (0, 0)) := by rw [← hw1]; exact heap_setCell_same _ _ 1 _ _ _ sx0
        obtain ⟨w2, hw2⟩ : ∃ w2, w1.alloc (.cells #[.string ty, .bool by_] 43) = w2 := ⟨_, rfl⟩
        have b2 : Below w1.heap.size w1 w2 := by rw [← hw2]; exact below_alloc _ _
        have zz2 : w2.heap.size = wr.heap.size + 2 := by rw [← hw2]; simp; omega
        have sy2 : w2.heap[wr.heap.size + 1]? = some (.cells #[.string ty, .bool by_] 43 (0, 0)) := by rw [← zz1, ← hw2]; exact heap_alloc_new _ _
        have sx2 := (b2.block wr.heap.size (by omega)).trans sx1
        have R1 := R.later b1
        have R2 := R1.later b2
        obtain ⟨⟨p0, p1⟩, ⟨p2, p3⟩, _⟩ := R.cells
        obtain ⟨⟨q0, q1⟩, ⟨q2, q3⟩, _⟩ := R1.cells
        obtain ⟨⟨r0, r1⟩, ⟨r2, r3⟩, rf⟩ := R2.cells
        have hc2 := (b2.cell (p := ⟨b, off + j, none⟩) (by show b < w1.heap.size; have := R.lt; omega)).trans ((b1.cell (p := ⟨b, off + j, none⟩) (by show b < wr.heap.size; have := R.lt; omega)).trans hc0)
        obtain ⟨⟨x0, x1⟩, _⟩ := bkp2 sx2
        obtain ⟨⟨y0, y1⟩, _⟩ := bkp2 sy2
        have PK := hide (fun w => pick_more w rj 18 h6 (by omega))
        obtain ⟨kk, ekk, hkk⟩ := pick_nat (c := rj) (n := 18) (by decide)
        rw [ekk] at PK
        rw [hpx] at p2 p3 q2 q3 r2 r3
        rw [hpy] at p0 p1 q0 q1 r0 r1
        have ey : max 0 ((m : Int) - 2) = (py : Int) := by omega
        have ly : (py : Int) < (m : Int) := by omega
        have D3 : Hid (∀ (w : World) (v : Int), In64 v → Calls Try.prog 26 #[.int .i64 v, .int .i64 300] w fun e w' => (∃ d : Nat, d < 300 ∧ e = .returned (.int .i64 (d : Int))) ∧ w' = w) := fun w v hv => by
          refine (pick_more w v 300 hv (by omega)).mono ?_
          rintro e w' ⟨rfl, rfl⟩
          obtain ⟨d, ed, hd⟩ := pick_nat (c := v) (n := 300) (by decide)
          exact ⟨⟨d, by omega, by rw [ed]⟩, rfl⟩
        have m20 : m ≤ 20 := by have := R.lj; omega
        have px20 : px ≤ 20 := by omega
        have py20 : py ≤ 20 := by omega
        have RR := hide R2
        have H64 := hide h6
        have GX := hide gx'
        have GY := hide gy'
        have LT := hide (And.intro R.lt (And.intro zz1 zz2))
        rw [hm]
        clear R R1 R2 h64 hcell hbB b1 b2 sx1 sx2 sy2 h6 ekk gx' gy' hrj
        go_wp2_with fail
        refine (unhide PK _).mono ?_
        rintro e w9 ⟨rfl, h9⟩
        obtain rfl := h9.symm
        clear hw0a fz0 fz1 sx0 hw1 hw2 p0 p1 p2 p3 q0 q1 q2 q3 PK zz1 zz2 hc0
        by_cases hA : 70 < tx.size + ty.size
        · have hA' : (70 : Int) < (tx.size : Int) + (ty.size : Int) := by omega
          as_aux_lemma =>
            go_wp2_with fail
            refine (unhide D3 _ _ ?_).mono ?_
            · first | exact in64_wrap _ | exact in64_tdiv (unhide H64)
            rintro e w9 ⟨⟨d, hd, rfl⟩, h9⟩
            obtain rfl := h9.symm
            go_wp2_with fail
            refine (digits_any _ d (by omega)).mono ?_
            rintro e w4 ⟨rfl, b4⟩
            have R4 := hide ((unhide RR).later b4)
            have lt4 := (unhide R4).lt
            have z4 := dgS_size (n := d) (by omega)
            have RW := (unhide R4).row
            rw [hm] at RW
            go_wp2_with (at_builtin; refine wpList_append_own _ rfl _ _ 77 rfl (w.heap.size + 1) 43 i0 (.agg #[.string ⟨#[]⟩, .bool false]) 2 24 Try.underlying77 hi0 hz0 hz1 hz2 rfl (by decide) _ _ _ rfl (RW.alloc _) ⟨w4.heap.size, 0, none⟩ 1 1 (smC (dgS d, false)) rfl rfl ?c1 ?c2 ?c3 ?c4 ?c5 ?_)
            case c1 => exact cell_newP w4 _ (by first | rfl | simp) (smC (dgS d, false)) _
            case c2 => exact sm_one _
            case c3 => unfold maxLen; omega
            case c4 => omega
            case c5 => have := (unhide R4).bel.size; have := (unhide R4).lt; simp; omega
            intro v' w5 own5 hg5 _
            obtain ⟨L', y', x', g', cap', NXT⟩ := (unhide R4).push (t := (dgS d, false)) hm (by rw [List.append_assoc]; exact own5) hg5 ⟨tx_dg (by omega), by show (dgS d).size ≤ 80; omega⟩ h1 h2
            have N5 := hide NXT
            clear NXT own5 hg5 RR RW
            go_wp2
            go_roundw
            case rel => exact ⟨j + 1, _, _, _, _, _, unhide N5⟩
            case measure => simp [intOf]; omega
        have hA' : decide ((70 : Int) < (tx.size : Int) + (ty.size : Int)) = false := by rw [decide_eq_false_iff_not]; omega
        rcases (show kk < 2 ∨ (2 ≤ kk ∧ kk ≤ 3) ∨ kk = 4 ∨ (5 ≤ kk ∧ kk ≤ 10) ∨ kk = 11 ∨ kk = 12 ∨ kk = 13 ∨ (14 ≤ kk ∧ kk ≤ 15) ∨ 16 ≤ kk by omega) with hB | hB | rfl | hB | rfl | rfl | rfl | hB | hB
        · have hB' : (kk : Int) < 2 := by omega
          as_aux_lemma =>
            go_wp2_with fail
            refine (unhide D3 _ _ ?_).mono ?_
            · first | exact in64_wrap _ | exact in64_tdiv (unhide H64)
            rintro e w9 ⟨⟨d, hd, rfl⟩, h9⟩
            obtain rfl := h9.symm
            go_wp2_with fail
            refine (digits_any _ d (by omega)).mono ?_
            rintro e w4 ⟨rfl, b4⟩
            have R4 := hide ((unhide RR).later b4)
            have lt4 := (unhide R4).lt
            have z4 := dgS_size (n := d) (by omega)
            have RW := (unhide R4).row
            rw [hm] at RW
            go_wp2_with (at_builtin; refine wpList_append_own _ rfl _ _ 77 rfl (w.heap.size + 1) 43 i0 (.agg #[.string ⟨#[]⟩, .bool false]) 2 24 Try.underlying77 hi0 hz0 hz1 hz2 rfl (by decide) _ _ _ rfl (RW.alloc _) ⟨w4.heap.size, 0, none⟩ 1 1 (smC (dgS d, false)) rfl rfl ?c1 ?c2 ?c3 ?c4 ?c5 ?_)
            case c1 => exact cell_newP w4 _ (by first | rfl | simp) (smC (dgS d, false)) _
            case c2 => exact sm_one _
            case c3 => unfold maxLen; omega
            case c4 => omega
            case c5 => have := (unhide R4).bel.size; have := (unhide R4).lt; simp; omega
            intro v' w5 own5 hg5 _
            obtain ⟨L', y', x', g', cap', NXT⟩ := (unhide R4).push (t := (dgS d, false)) hm (by rw [List.append_assoc]; exact own5) hg5 ⟨tx_dg (by omega), by show (dgS d).size ≤ 80; omega⟩ h1 h2
            have N5 := hide NXT
            clear NXT own5 hg5 RR RW
            go_wp2
            go_roundw
            case rel => exact ⟨j + 1, _, _, _, _, _, unhide N5⟩
            case measure => simp [intOf]; omega
        · as_aux_lemma =>
            have hn2 : decide ((kk : Int) < 2) = false := by rw [decide_eq_false_iff_not]; omega
            have hy4 : (kk : Int) < 4 := by omega
            obtain ⟨w3, hw3⟩ : ∃ w3, w2.alloc (.cells #[.string ⟨#[97]⟩, .string ⟨#[121]⟩] 9) = w3 := ⟨_, rfl⟩
            have b3 : Below w2.heap.size w2 w3 := by rw [← hw3]; exact below_alloc _ _
            obtain ⟨ix, su, eix, hix, o3, gsu, zsu⟩ : ∃ (ix : Nat) (su : ByteArray), (kk : Int) - 2 = (ix : Int) ∧ (ix : Int) < 2 ∧ w3.cell? ⟨w2.heap.size, ix, none⟩ = some (.string su) ∧ TX su false ∧ su.size ≤ 80 := by
              rcases (show kk = 2 ∨ kk = 3 by omega) with rfl | rfl
              · exact ⟨0, ⟨#[97]⟩, rfl, by decide, by rw [← hw3, World.cell?_alloc_at _ _ _ _ rfl]; rfl, tx_a, by decide⟩
              · exact ⟨1, ⟨#[121]⟩, rfl, by decide, by rw [← hw3, World.cell?_alloc_at _ _ _ _ rfl]; rfl, tx_y, by decide⟩
            have R4 := hide ((unhide RR).later b3)
            have lt4 := (unhide R4).lt
            have GS := hide gsu
            clear b3 gsu
            have RW := (unhide R4).row
            rw [hm] at RW
            go_wp2_with (at_builtin; refine wpList_append_own _ rfl _ _ 77 rfl (w.heap.size + 1) 43 i0 (.agg #[.string ⟨#[]⟩, .bool false]) 2 24 Try.underlying77 hi0 hz0 hz1 hz2 rfl (by decide) _ _ _ rfl (RW.alloc _) ⟨w3.heap.size, 0, none⟩ 1 1 (smC (su, false)) rfl rfl ?c1 ?c2 ?c3 ?c4 ?c5 ?_)
            case c1 => exact cell_newP w3 _ (by first | rfl | simp) (smC (su, false)) _
            case c2 => exact sm_one _
            case c3 => unfold maxLen; omega
            case c4 => omega
            case c5 => have := (unhide R4).bel.size; have := (unhide R4).lt; simp; omega
            intro v' w5 own5 hg5 _
            obtain ⟨L', y', x', g', cap', NXT⟩ := (unhide R4).push (t := (su, false)) hm (by rw [List.append_assoc]; exact own5) hg5 ⟨unhide GS, zsu⟩ h1 h2
            have N5 := hide NXT
            clear NXT own5 hg5 RR RW
            go_wp2
            go_roundw
            case rel => exact ⟨j + 1, _, _, _, _, _, unhide N5⟩
            case measure => simp [intOf]; omega
        · as_aux_lemma =>
            have RW := (unhide RR).row
            rw [hm] at RW
            go_wp2_with (at_builtin; refine wpList_append_own _ rfl _ _ 77 rfl (w.heap.size + 1) 43 i0 (.agg #[.string ⟨#[]⟩, .bool false]) 2 24 Try.underlying77 hi0 hz0 hz1 hz2 rfl (by decide) _ _ _ rfl (RW.alloc _) ⟨w2.heap.size, 0, none⟩ 1 1 (smC (⟨#[104]⟩, true)) rfl rfl ?c1 ?c2 ?c3 ?c4 ?c5 ?_)
            case c1 => exact cell_newP w2 _ (by first | rfl | simp) (smC (⟨#[104]⟩, true)) _
            case c2 => exact sm_one _
            case c3 => unfold maxLen; omega
            case c4 => omega
            case c5 => have := (unhide RR).bel.size; have := (unhide RR).lt; simp; omega
            intro v' w5 own5 hg5 _
            obtain ⟨L', y', x', g', cap', NXT⟩ := (unhide RR).push (t := (⟨#[104]⟩, true)) hm (by rw [List.append_assoc]; exact own5) hg5 ⟨tx_h, by decide⟩ h1 h2
            have N5 := hide NXT
            clear NXT own5 hg5 RR RW
            go_wp2
            go_roundw
            case rel => exact ⟨j + 1, _, _, _, _, _, unhide N5⟩
            case measure => simp [intOf]; omega
        · have hn2 : decide ((kk : Int) < 2) = false := by rw [decide_eq_false_iff_not]; omega
          have hn4 : decide ((kk : Int) < 4) = false := by rw [decide_eq_false_iff_not]; omega
          have he4 : ((kk : Int) == 4) = false := by rw [beq_eq_false_iff_ne]; omega
          have hy11 : (kk : Int) < 11 := by omega
          obtain ⟨w3, hw3⟩ : ∃ w3, w2.alloc (.cells #[.string ⟨#[32, 43, 32]⟩, .string ⟨#[32, 45, 32]⟩, .string ⟨#[32, 195, 151, 32]⟩, .string ⟨#[32, 195, 183, 32]⟩, .string ⟨#[32, 60, 32]⟩, .string ⟨#[32, 226, 137, 160, 32]⟩] 9) = w3 := ⟨_, rfl⟩
          have b3 : Below w2.heap.size w2 w3 := by rw [← hw3]; exact below_alloc _ _
          obtain ⟨ix, su, eix, hix, esu, zsu, gsu⟩ := op_six hB (unhide GX) (unhide GY)
          have o3 : w3.cell? ⟨w2.heap.size, ix, none⟩ = some (.string su) := by rw [← hw3, ← esu]; exact op_cell w2 hix
          clear esu
          have R4 := hide ((unhide RR).later b3)
          obtain ⟨_, ⟨s2, s3⟩, sf⟩ := (unhide R4).cells
          rw [hpx] at s2 s3
          have sf0 := sf (px * 2)
          have sf1 := sf (px * 2 + 1)
          have lt2 : wr.heap.size + 1 < w2.heap.size := by have := unhide LT; omega
          have x3 := (b3.cell (p := ⟨wr.heap.size, 0, none⟩) (by show wr.heap.size < w2.heap.size; omega)).trans x0
          have y3 := (b3.cell (p := ⟨wr.heap.size + 1, 0, none⟩) (by show wr.heap.size + 1 < w2.heap.size; omega)).trans y0
          have GS := hide gsu
          clear b3 sf gsu
          have e0 : ByteArray.size ⟨#[40]⟩ = 1 := rfl
          have e1 : ByteArray.size ⟨#[41]⟩ = 1 := rfl
          have SZ : (((((⟨#[40]⟩ ++ ty) ++ su) ++ tx) ++ ⟨#[41]⟩) : ByteArray).size ≤ 80 := by simp only [ByteArray.size_append]; omega
          have PUT := (unhide R4).put (((((⟨#[40]⟩ ++ ty) ++ su) ++ tx) ++ ⟨#[41]⟩), by_) ⟨unhide GS, SZ⟩ h1 h2
          clear SZ e0 e1
          rw [hm, hpx] at PUT
          have N5 := hide PUT
          clear PUT RR R4
          go_wp2
          go_roundw
          case rel => exact ⟨j + 1, _, _, _, _, _, unhide N5⟩
          case measure => simp [intOf]; omega
        · as_aux_lemma =>
            have e0 : ByteArray.size ⟨#[45, 32]⟩ = 2 := rfl
            have SZ : ((⟨#[45, 32]⟩ ++ tx) : ByteArray).size ≤ 80 := by simp only [ByteArray.size_append]; omega
            have PUT := (unhide RR).put ((⟨#[45, 32]⟩ ++ tx), false) ⟨tx_neg (unhide GX), SZ⟩ h1 h2
            clear SZ e0
            rw [hm, hpx] at PUT
            have N5 := hide PUT
            clear PUT RR
            go_wp2
            go_roundw
            case rel => exact ⟨j + 1, _, _, _, _, _, unhide N5⟩
            case measure => simp [intOf]; omega
        · as_aux_lemma =>
            have e0 : ByteArray.size ⟨#[115, 101, 108, 40]⟩ = 4 := rfl
            have e1 : ByteArray.size ⟨#[44, 32, 97, 41]⟩ = 4 := rfl
            have e2 : ByteArray.size ⟨#[44, 32]⟩ = 2 := rfl
            have SZ : (((((⟨#[115, 101, 108, 40]⟩ ++ tx) ++ ⟨#[44, 32]⟩) ++ ty) ++ ⟨#[44, 32, 97, 41]⟩) : ByteArray).size ≤ 80 := by simp only [ByteArray.size_append]; omega
            have PUT := (unhide RR).put (((((⟨#[115, 101, 108, 40]⟩ ++ tx) ++ ⟨#[44, 32]⟩) ++ ty) ++ ⟨#[44, 32, 97, 41]⟩), by_) ⟨tx_sel (unhide GX) (unhide GY), SZ⟩ h1 h2
            clear SZ e0 e1 e2
            rw [hm, hpx] at PUT
            have N5 := hide PUT
            clear PUT RR
            go_wp2
            go_roundw
            case rel => exact ⟨j + 1, _, _, _, _, _, unhide N5⟩
            case measure => simp [intOf]; omega
        · as_aux_lemma =>
            have e0 : ByteArray.size ⟨#[109, 105, 110, 40]⟩ = 4 := rfl
            have e1 : ByteArray.size ⟨#[41]⟩ = 1 := rfl
            have e2 : ByteArray.size ⟨#[44, 32]⟩ = 2 := rfl
            have SZ : (((((⟨#[109, 105, 110, 40]⟩ ++ tx) ++ ⟨#[44, 32]⟩) ++ ty) ++ ⟨#[41]⟩) : ByteArray).size ≤ 80 := by simp only [ByteArray.size_append]; omega
            have PUT := (unhide RR).put (((((⟨#[109, 105, 110, 40]⟩ ++ tx) ++ ⟨#[44, 32]⟩) ++ ty) ++ ⟨#[41]⟩), by_) ⟨tx_min (unhide GX) (unhide GY), SZ⟩ h1 h2
            clear SZ e0 e1 e2
            rw [hm, hpx] at PUT
            have N5 := hide PUT
            clear PUT RR
            go_wp2
            go_roundw
            case rel => exact ⟨j + 1, _, _, _, _, _, unhide N5⟩
            case measure => simp [intOf]; omega
        · as_aux_lemma =>
            have hn2 : decide ((kk : Int) < 2) = false := by rw [decide_eq_false_iff_not]; omega
            have hn4 : decide ((kk : Int) < 4) = false := by rw [decide_eq_false_iff_not]; omega
            have he4 : ((kk : Int) == 4) = false := by rw [beq_eq_false_iff_ne]; omega
            have hn11 : decide ((kk : Int) < 11) = false := by rw [decide_eq_false_iff_not]; omega
            have he11 : ((kk : Int) == 11) = false := by rw [beq_eq_false_iff_ne]; omega
            have he12 : ((kk : Int) == 12) = false := by rw [beq_eq_false_iff_ne]; omega
            have he13 : ((kk : Int) == 13) = false := by rw [beq_eq_false_iff_ne]; omega
            have hy16 : (kk : Int) < 16 := by omega
            cases by_
            · have e0 : ByteArray.size ⟨#[112, 101, 101, 107, 91]⟩ = 5 := rfl
              have e1 : ByteArray.size ⟨#[44, 32]⟩ = 2 := rfl
              have e2 : ByteArray.size ⟨#[93]⟩ = 1 := rfl
              have SZ : (((((⟨#[112, 101, 101, 107, 91]⟩ ++ tx) ++ ⟨#[44, 32]⟩) ++ ty) ++ ⟨#[93]⟩) : ByteArray).size ≤ 80 := by simp only [ByteArray.size_append]; omega
              have PUT := (unhide RR).put (((((⟨#[112, 101, 101, 107, 91]⟩ ++ tx) ++ ⟨#[44, 32]⟩) ++ ty) ++ ⟨#[93]⟩), false) ⟨tx_peek (unhide GX) (unhide GY), SZ⟩ h1 h2
              clear SZ e0 e1 e2
              rw [hm, hpx] at PUT
              have N5 := hide PUT
              clear PUT RR
              go_wp2
              go_roundw
              case rel => exact ⟨j + 1, _, _, _, _, _, unhide N5⟩
              case measure => simp [intOf]; omega
            · have NXT := (unhide RR).next h1 h2
              rw [hm] at NXT
              have N5 := hide NXT
              clear NXT RR
              go_wp2
              go_roundw
              case rel => exact ⟨j + 1, _, _, _, _, _, unhide N5⟩
              case measure => simp [intOf]; omega
        · as_aux_lemma =>
            have hn2 : decide ((kk : Int) < 2) = false := by rw [decide_eq_false_iff_not]; omega
            have hn4 : decide ((kk : Int) < 4) = false := by rw [decide_eq_false_iff_not]; omega
            have he4 : ((kk : Int) == 4) = false := by rw [beq_eq_false_iff_ne]; omega
            have hn11 : decide ((kk : Int) < 11) = false := by rw [decide_eq_false_iff_not]; omega
            have he11 : ((kk : Int) == 11) = false := by rw [beq_eq_false_iff_ne]; omega
            have he12 : ((kk : Int) == 12) = false := by rw [beq_eq_false_iff_ne]; omega
            have he13 : ((kk : Int) == 13) = false := by rw [beq_eq_false_iff_ne]; omega
            have hn16 : decide ((kk : Int) < 16) = false := by rw [decide_eq_false_iff_not]; omega
            cases by_
            · have e0 : ByteArray.size ⟨#[115, 112, 121, 91]⟩ = 4 := rfl
              have e1 : ByteArray.size ⟨#[44, 32]⟩ = 2 := rfl
              have e2 : ByteArray.size ⟨#[93]⟩ = 1 := rfl
              have SZ : (((((⟨#[115, 112, 121, 91]⟩ ++ ty) ++ ⟨#[44, 32]⟩) ++ tx) ++ ⟨#[93]⟩) : ByteArray).size ≤ 80 := by simp only [ByteArray.size_append]; omega
              have PUT := (unhide RR).put (((((⟨#[115, 112, 121, 91]⟩ ++ ty) ++ ⟨#[44, 32]⟩) ++ tx) ++ ⟨#[93]⟩), true) ⟨tx_spy (unhide GY) (unhide GX), SZ⟩ h1 h2
              clear SZ e0 e1 e2
              rw [hm, hpx] at PUT
              have N5 := hide PUT
              clear PUT RR
              go_wp2
              go_roundw
              case rel => exact ⟨j + 1, _, _, _, _, _, unhide N5⟩
              case measure => simp [intOf]; omega
            · have NXT := (unhide RR).next h1 h2
              rw [hm] at NXT
              have N5 := hide NXT
              clear NXT RR
              go_wp2
              go_roundw
              case rel => exact ⟨j + 1, _, _, _, _, _, unhide N5⟩
              case measure => simp [intOf]; omega
      · obtain ⟨w1, hw1⟩ : ∃ w1, wr.alloc (.cells #[.string tx, .bool true] 43) = w1 := ⟨_, rfl⟩
        have b1 : Below wr.heap.size wr w1 := by rw [← hw1]; exact below_alloc _ _
        have zz1 : w1.heap.size = wr.heap.size + 1 := by rw [← hw1]; simp
        have sx1 : w1.heap[wr.heap.size]? = some (.cells #[.string tx, .bool true] 43 (0, 0)) := by rw [← hw1]; exact heap_alloc_new _ _
        obtain ⟨w2, hw2⟩ : ∃ w2, w1.alloc (.cells #[.string ty, .bool by_] 43) = w2 := ⟨_, rfl⟩
        have b2 : Below w1.heap.size w1 w2 := by rw [← hw2]; exact below_alloc _ _
        have zz2 : w2.heap.size = wr.heap.size + 2 := by rw [← hw2]; simp; omega
        have sy2 : w2.heap[wr.heap.size + 1]? = some (.cells #[.string ty, .bool by_] 43 (0, 0)) := by rw [← zz1, ← hw2]; exact heap_alloc_new _ _
        have sx2 := (b2.block wr.heap.size (by omega)).trans sx1
        have R1 := R.later b1
        have R2 := R1.later b2
        obtain ⟨⟨p0, p1⟩, ⟨p2, p3⟩, _⟩ := R.cells
        obtain ⟨⟨q0, q1⟩, ⟨q2, q3⟩, _⟩ := R1.cells
        obtain ⟨⟨r0, r1⟩, ⟨r2, r3⟩, rf⟩ := R2.cells
        have hc2 := (b2.cell (p := ⟨b, off + j, none⟩) (by show b < w1.heap.size; have := R.lt; omega)).trans ((b1.cell (p := ⟨b, off + j, none⟩) (by show b < wr.heap.size; have := R.lt; omega)).trans hc0)
        obtain ⟨⟨x0, x1⟩, _⟩ := bkp2 sx2
        obtain ⟨⟨y0, y1⟩, _⟩ := bkp2 sy2
        have PK := hide (fun w => pick_more w rj 18 h6 (by omega))
        obtain ⟨kk, ekk, hkk⟩ := pick_nat (c := rj) (n := 18) (by decide)
        rw [ekk] at PK
        rw [hpx] at p2 p3 q2 q3 r2 r3
        rw [hpy] at p0 p1 q0 q1 r0 r1
        have ey : max 0 ((m : Int) - 2) = (py : Int) := by omega
        have ly : (py : Int) < (m : Int) := by omega
        have D3 : Hid (∀ (w : World) (v : Int), In64 v → Calls Try.prog 26 #[.int .i64 v, .int .i64 300] w fun e w' => (∃ d : Nat, d < 300 ∧ e = .returned (.int .i64 (d : Int))) ∧ w' = w) := fun w v hv => by
          refine (pick_more w v 300 hv (by omega)).mono ?_
          rintro e w' ⟨rfl, rfl⟩
          obtain ⟨d, ed, hd⟩ := pick_nat (c := v) (n := 300) (by decide)
          exact ⟨⟨d, by omega, by rw [ed]⟩, rfl⟩
        have m20 : m ≤ 20 := by have := R.lj; omega
        have px20 : px ≤ 20 := by omega
        have py20 : py ≤ 20 := by omega
        have RR := hide R2
        have H64 := hide h6
        have GX := hide gx'
        have GY := hide gy'
        have LT := hide (And.intro R.lt (And.intro zz1 zz2))
        rw [hm]
        clear R R1 R2 h64 hcell hbB b1 b2 sx1 sx2 sy2 h6 ekk gx' gy' hrj
        go_wp2_with fail
        refine (unhide PK _).mono ?_
        rintro e w9 ⟨rfl, h9⟩
        obtain rfl := h9.symm
        clear hw1 hw2 p0 p1 p2 p3 q0 q1 q2 q3 PK zz1 zz2 hc0
        by_cases hA : 70 < tx.size + ty.size
        · have hA' : (70 : Int) < (tx.size : Int) + (ty.size : Int) := by omega
          as_aux_lemma =>
            go_wp2_with fail
            refine (unhide D3 _ _ ?_).mono ?_
            · first | exact in64_wrap _ | exact in64_tdiv (unhide H64)
            rintro e w9 ⟨⟨d, hd, rfl⟩, h9⟩
            obtain rfl := h9.symm
            go_wp2_with fail
            refine (digits_any _ d (by omega)).mono ?_
            rintro e w4 ⟨rfl, b4⟩
            have R4 := hide ((unhide RR).later b4)
            have lt4 := (unhide R4).lt
            have z4 := dgS_size (n := d) (by omega)
            have RW := (unhide R4).row
            rw [hm] at RW
            go_wp2_with (at_builtin; refine wpList_append_own _ rfl _ _ 77 rfl (w.heap.size + 1) 43 i0 (.agg #[.string ⟨#[]⟩, .bool false]) 2 24 Try.underlying77 hi0 hz0 hz1 hz2 rfl (by decide) _ _ _ rfl (RW.alloc _) ⟨w4.heap.size, 0, none⟩ 1 1 (smC (dgS d, false)) rfl rfl ?c1 ?c2 ?c3 ?c4 ?c5 ?_)
            case c1 => exact cell_newP w4 _ (by first | rfl | simp) (smC (dgS d, false)) _
            case c2 => exact sm_one _
            case c3 => unfold maxLen; omega
            case c4 => omega
            case c5 => have := (unhide R4).bel.size; have := (unhide R4).lt; simp; omega
            intro v' w5 own5 hg5 _
            obtain ⟨L', y', x', g', cap', NXT⟩ := (unhide R4).push (t := (dgS d, false)) hm (by rw [List.append_assoc]; exact own5) hg5 ⟨tx_dg (by omega), by show (dgS d).size ≤ 80; omega⟩ h1 h2
            have N5 := hide NXT
            clear NXT own5 hg5 RR RW
            go_wp2
            go_roundw
            case rel => exact ⟨j + 1, _, _, _, _, _, unhide N5⟩
            case measure => simp [intOf]; omega
        have hA' : decide ((70 : Int) < (tx.size : Int) + (ty.size : Int)) = false := by rw [decide_eq_false_iff_not]; omega
        rcases (show kk < 2 ∨ (2 ≤ kk ∧ kk ≤ 3) ∨ kk = 4 ∨ (5 ≤ kk ∧ kk ≤ 10) ∨ kk = 11 ∨ kk = 12 ∨ kk = 13 ∨ (14 ≤ kk ∧ kk ≤ 15) ∨ 16 ≤ kk by omega) with hB | hB | rfl | hB | rfl | rfl | rfl | hB | hB
        · have hB' : (kk : Int) < 2 := by omega
          as_aux_lemma =>
            go_wp2_with fail
            refine (unhide D3 _ _ ?_).mono ?_
            · first | exact in64_wrap _ | exact in64_tdiv (unhide H64)
            rintro e w9 ⟨⟨d, hd, rfl⟩, h9⟩
            obtain rfl := h9.symm
            go_wp2_with fail
            refine (digits_any _ d (by omega)).mono ?_
            rintro e w4 ⟨rfl, b4⟩
            have R4 := hide ((unhide RR).later b4)
            have lt4 := (unhide R4).lt
            have z4 := dgS_size (n := d) (by omega)
            have RW := (unhide R4).row
            rw [hm] at RW
            go_wp2_with (at_builtin; refine wpList_append_own _ rfl _ _ 77 rfl (w.heap.size + 1) 43 i0 (.agg #[.string ⟨#[]⟩, .bool false]) 2 24 Try.underlying77 hi0 hz0 hz1 hz2 rfl (by decide) _ _ _ rfl (RW.alloc _) ⟨w4.heap.size, 0, none⟩ 1 1 (smC (dgS d, false)) rfl rfl ?c1 ?c2 ?c3 ?c4 ?c5 ?_)
            case c1 => exact cell_newP w4 _ (by first | rfl | simp) (smC (dgS d, false)) _
            case c2 => exact sm_one _
            case c3 => unfold maxLen; omega
            case c4 => omega
            case c5 => have := (unhide R4).bel.size; have := (unhide R4).lt; simp; omega
            intro v' w5 own5 hg5 _
            obtain ⟨L', y', x', g', cap', NXT⟩ := (unhide R4).push (t := (dgS d, false)) hm (by rw [List.append_assoc]; exact own5) hg5 ⟨tx_dg (by omega), by show (dgS d).size ≤ 80; omega⟩ h1 h2
            have N5 := hide NXT
            clear NXT own5 hg5 RR RW
            go_wp2
            go_roundw
            case rel => exact ⟨j + 1, _, _, _, _, _, unhide N5⟩
            case measure => simp [intOf]; omega
        · as_aux_lemma =>
            have hn2 : decide ((kk : Int) < 2) = false := by rw [decide_eq_false_iff_not]; omega
            have hy4 : (kk : Int) < 4 := by omega
            obtain ⟨w3, hw3⟩ : ∃ w3, w2.alloc (.cells #[.string ⟨#[97]⟩, .string ⟨#[121]⟩] 9) = w3 := ⟨_, rfl⟩
            have b3 : Below w2.heap.size w2 w3 := by rw [← hw3]; exact below_alloc _ _
            obtain ⟨ix, su, eix, hix, o3, gsu, zsu⟩ : ∃ (ix : Nat) (su : ByteArray), (kk : Int) - 2 = (ix : Int) ∧ (ix : Int) < 2 ∧ w3.cell? ⟨w2.heap.size, ix, none⟩ = some (.string su) ∧ TX su false ∧ su.size ≤ 80 := by
              rcases (show kk = 2 ∨ kk = 3 by omega) with rfl | rfl
              · exact ⟨0, ⟨#[97]⟩, rfl, by decide, by rw [← hw3, World.cell?_alloc_at _ _ _ _ rfl]; rfl, tx_a, by decide⟩
              · exact ⟨1, ⟨#[121]⟩, rfl, by decide, by rw [← hw3, World.cell?_alloc_at _ _ _ _ rfl]; rfl, tx_y, by decide⟩
            have R4 := hide ((unhide RR).later b3)
            have lt4 := (unhide R4).lt
            have GS := hide gsu
            clear b3 gsu
            have RW := (unhide R4).row
            rw [hm] at RW
            go_wp2_with (at_builtin; refine wpList_append_own _ rfl _ _ 77 rfl (w.heap.size + 1) 43 i0 (.agg #[.string ⟨#[]⟩, .bool false]) 2 24 Try.underlying77 hi0 hz0 hz1 hz2 rfl (by decide) _ _ _ rfl (RW.alloc _) ⟨w3.heap.size, 0, none⟩ 1 1 (smC (su, false)) rfl rfl ?c1 ?c2 ?c3 ?c4 ?c5 ?_)
            case c1 => exact cell_newP w3 _ (by first | rfl | simp) (smC (su, false)) _
            case c2 => exact sm_one _
            case c3 => unfold maxLen; omega
            case c4 => omega
            case c5 => have := (unhide R4).bel.size; have := (unhide R4).lt; simp; omega
            intro v' w5 own5 hg5 _
            obtain ⟨L', y', x', g', cap', NXT⟩ := (unhide R4).push (t := (su, false)) hm (by rw [List.append_assoc]; exact own5) hg5 ⟨unhide GS, zsu⟩ h1 h2
            have N5 := hide NXT
            clear NXT own5 hg5 RR RW
            go_wp2
            go_roundw
            case rel => exact ⟨j + 1, _, _, _, _, _, unhide N5⟩
            case measure => simp [intOf]; omega
        · as_aux_lemma =>
            have RW := (unhide RR).row
            rw [hm] at RW
            go_wp2_with (at_builtin; refine wpList_append_own _ rfl _ _ 77 rfl (w.heap.size + 1) 43 i0 (.agg #[.string ⟨#[]⟩, .bool false]) 2 24 Try.underlying77 hi0 hz0 hz1 hz2 rfl (by decide) _ _ _ rfl (RW.alloc _) ⟨w2.heap.size, 0, none⟩ 1 1 (smC (⟨#[104]⟩, true)) rfl rfl ?c1 ?c2 ?c3 ?c4 ?c5 ?_)
            case c1 => exact cell_newP w2 _ (by first | rfl | simp) (smC (⟨#[104]⟩, true)) _
            case c2 => exact sm_one _
            case c3 => unfold maxLen; omega
            case c4 => omega
            case c5 => have := (unhide RR).bel.size; have := (unhide RR).lt; simp; omega
            intro v' w5 own5 hg5 _
            obtain ⟨L', y', x', g', cap', NXT⟩ := (unhide RR).push (t := (⟨#[104]⟩, true)) hm (by rw [List.append_assoc]; exact own5) hg5 ⟨tx_h, by decide⟩ h1 h2
            have N5 := hide NXT
            clear NXT own5 hg5 RR RW
            go_wp2
            go_roundw
            case rel => exact ⟨j + 1, _, _, _, _, _, unhide N5⟩
            case measure => simp [intOf]; omega
        · have hn2 : decide ((kk : Int) < 2) = false := by rw [decide_eq_false_iff_not]; omega
          have hn4 : decide ((kk : Int) < 4) = false := by rw [decide_eq_false_iff_not]; omega
          have he4 : ((kk : Int) == 4) = false := by rw [beq_eq_false_iff_ne]; omega
          have hy11 : (kk : Int) < 11 := by omega
          obtain ⟨w3, hw3⟩ : ∃ w3, w2.alloc (.cells #[.string ⟨#[32, 43, 32]⟩, .string ⟨#[32, 45, 32]⟩, .string ⟨#[32, 195, 151, 32]⟩, .string ⟨#[32, 195, 183, 32]⟩, .string ⟨#[32, 60, 32]⟩, .string ⟨#[32, 226, 137, 160, 32]⟩] 9) = w3 := ⟨_, rfl⟩
          have b3 : Below w2.heap.size w2 w3 := by rw [← hw3]; exact below_alloc _ _
          obtain ⟨ix, su, eix, hix, esu, zsu, gsu⟩ := op_six hB (unhide GX) (unhide GY)
          have o3 : w3.cell? ⟨w2.heap.size, ix, none⟩ = some (.string su) := by rw [← hw3, ← esu]; exact op_cell w2 hix
          clear esu
          have R4 := hide ((unhide RR).later b3)
          obtain ⟨_, ⟨s2, s3⟩, sf⟩ := (unhide R4).cells
          rw [hpx] at s2 s3
          have sf0 := sf (px * 2)
          have sf1 := sf (px * 2 + 1)
          have lt2 : wr.heap.size + 1 < w2.heap.size := by have := unhide LT; omega
          have x3 := (b3.cell (p := ⟨wr.heap.size, 0, none⟩) (by show wr.heap.size < w2.heap.size; omega)).trans x0
          have y3 := (b3.cell (p := ⟨wr.heap.size + 1, 0, none⟩) (by show wr.heap.size + 1 < w2.heap.size; omega)).trans y0
          have GS := hide gsu
          clear b3 sf gsu
          have e0 : ByteArray.size ⟨#[40]⟩ = 1 := rfl
          have e1 : ByteArray.size ⟨#[41]⟩ = 1 := rfl
          have SZ : (((((⟨#[40]⟩ ++ ty) ++ su) ++ tx) ++ ⟨#[41]⟩) : ByteArray).size ≤ 80 := by simp only [ByteArray.size_append]; omega
          have PUT := (unhide R4).put (((((⟨#[40]⟩ ++ ty) ++ su) ++ tx) ++ ⟨#[41]⟩), true) ⟨unhide GS, SZ⟩ h1 h2
          clear SZ e0 e1
          rw [hm, hpx] at PUT
          have N5 := hide PUT
          clear PUT RR R4
          go_wp2
          go_roundw
          case rel => exact ⟨j + 1, _, _, _, _, _, unhide N5⟩
          case measure => simp [intOf]; omega
        · as_aux_lemma =>
            have e0 : ByteArray.size ⟨#[45, 32]⟩ = 2 := rfl
            have SZ : ((⟨#[45, 32]⟩ ++ tx) : ByteArray).size ≤ 80 := by simp only [ByteArray.size_append]; omega
            have PUT := (unhide RR).put ((⟨#[45, 32]⟩ ++ tx), true) ⟨tx_neg (unhide GX), SZ⟩ h1 h2
            clear SZ e0
            rw [hm, hpx] at PUT
            have N5 := hide PUT
            clear PUT RR
            go_wp2
            go_roundw
            case rel => exact ⟨j + 1, _, _, _, _, _, unhide N5⟩
            case measure => simp [intOf]; omega
        · as_aux_lemma =>
            have e0 : ByteArray.size ⟨#[115, 101, 108, 40]⟩ = 4 := rfl
            have e1 : ByteArray.size ⟨#[44, 32, 97, 41]⟩ = 4 := rfl
            have e2 : ByteArray.size ⟨#[44, 32]⟩ = 2 := rfl
            have SZ : (((((⟨#[115, 101, 108, 40]⟩ ++ tx) ++ ⟨#[44, 32]⟩) ++ ty) ++ ⟨#[44, 32, 97, 41]⟩) : ByteArray).size ≤ 80 := by simp only [ByteArray.size_append]; omega
            have PUT := (unhide RR).put (((((⟨#[115, 101, 108, 40]⟩ ++ tx) ++ ⟨#[44, 32]⟩) ++ ty) ++ ⟨#[44, 32, 97, 41]⟩), true) ⟨tx_sel (unhide GX) (unhide GY), SZ⟩ h1 h2
            clear SZ e0 e1 e2
            rw [hm, hpx] at PUT
            have N5 := hide PUT
            clear PUT RR
            go_wp2
            go_roundw
            case rel => exact ⟨j + 1, _, _, _, _, _, unhide N5⟩
            case measure => simp [intOf]; omega
        · as_aux_lemma =>
            have e0 : ByteArray.size ⟨#[109, 105, 110, 40]⟩ = 4 := rfl
            have e1 : ByteArray.size ⟨#[41]⟩ = 1 := rfl
            have e2 : ByteArray.size ⟨#[44, 32]⟩ = 2 := rfl
            have SZ : (((((⟨#[109, 105, 110, 40]⟩ ++ tx) ++ ⟨#[44, 32]⟩) ++ ty) ++ ⟨#[41]⟩) : ByteArray).size ≤ 80 := by simp only [ByteArray.size_append]; omega
            have PUT := (unhide RR).put (((((⟨#[109, 105, 110, 40]⟩ ++ tx) ++ ⟨#[44, 32]⟩) ++ ty) ++ ⟨#[41]⟩), true) ⟨tx_min (unhide GX) (unhide GY), SZ⟩ h1 h2
            clear SZ e0 e1 e2
            rw [hm, hpx] at PUT
            have N5 := hide PUT
            clear PUT RR
            go_wp2
            go_roundw
            case rel => exact ⟨j + 1, _, _, _, _, _, unhide N5⟩
            case measure => simp [intOf]; omega
        · as_aux_lemma =>
            have hn2 : decide ((kk : Int) < 2) = false := by rw [decide_eq_false_iff_not]; omega
            have hn4 : decide ((kk : Int) < 4) = false := by rw [decide_eq_false_iff_not]; omega
            have he4 : ((kk : Int) == 4) = false := by rw [beq_eq_false_iff_ne]; omega
            have hn11 : decide ((kk : Int) < 11) = false := by rw [decide_eq_false_iff_not]; omega
            have he11 : ((kk : Int) == 11) = false := by rw [beq_eq_false_iff_ne]; omega
            have he12 : ((kk : Int) == 12) = false := by rw [beq_eq_false_iff_ne]; omega
            have he13 : ((kk : Int) == 13) = false := by rw [beq_eq_false_iff_ne]; omega
            have hy16 : (kk : Int) < 16 := by omega
            have NXT := (unhide RR).next h1 h2
            rw [hm] at NXT
            have N5 := hide NXT
            clear NXT RR
            go_wp2
            go_roundw
            case rel => exact ⟨j + 1, _, _, _, _, _, unhide N5⟩
            case measure => simp [intOf]; omega
        · as_aux_lemma =>
            have hn2 : decide ((kk : Int) < 2) = false := by rw [decide_eq_false_iff_not]; omega
            have hn4 : decide ((kk : Int) < 4) = false := by rw [decide_eq_false_iff_not]; omega
            have he4 : ((kk : Int) == 4) = false := by rw [beq_eq_false_iff_ne]; omega
            have hn11 : decide ((kk : Int) < 11) = false := by rw [decide_eq_false_iff_not]; omega
            have he11 : ((kk : Int) == 11) = false := by rw [beq_eq_false_iff_ne]; omega
            have he12 : ((kk : Int) == 12) = false := by rw [beq_eq_false_iff_ne]; omega
            have he13 : ((kk : Int) == 13) = false := by rw [beq_eq_false_iff_ne]; omega
            have hn16 : decide ((kk : Int) < 16) = false := by rw [decide_eq_false_iff_not]; omega
            have NXT := (unhide RR).next h1 h2
            rw [hm] at NXT
            have N5 := hide NXT
            clear NXT RR
            go_wp2
            go_roundw
            case rel => exact ⟨j + 1, _, _, _, _, _, unhide N5⟩
            case measure => simp [intOf]; omega
    · have hge : (decide ((j : Int) < (raw.length : Int)) = false) ∨ ((j : Int) < (raw.length : Int) ∧ decide ((j : Int) < 14) = false) := by
        have := R.jr; have := R.j14
        rcases Nat.lt_or_ge j raw.length with h | h
        · exact .inr ⟨by omega, by rw [decide_eq_false_iff_not]; omega⟩
        · exact .inl (by rw [decide_eq_false_iff_not]; omega)
      obtain ⟨tx, bx⟩ := x
      obtain ⟨⟨gx, zx⟩, _⟩ := R.top
      have gx' : TX tx bx := gx
      have zx' : tx.size ≤ 80 := zx
      have px20 : px ≤ 20 := by have := R.lj; have := R.j14; omega
      have m20 : m ≤ 20 := by have := R.lj; have := R.j14; omega
      obtain ⟨_, ⟨p2, p3⟩, _⟩ := R.cells
      rw [hpx] at p2 p3
      obtain ⟨⟨_, _⟩, f0, f1⟩ := bkp2 R.res
      obtain ⟨w5, hw5⟩ : ∃ w5, (wr.setCell ⟨w.heap.size, 0, none⟩ (.string tx)).setCell ⟨w.heap.size, 1, none⟩ (.bool bx) = w5 := ⟨_, rfl⟩
      have s5 : w5.heap[w.heap.size]? = some (.cells #[.string tx, .bool bx] 43 (0, 0)) := by
        rw [← hw5]
        exact heap_setCell_same _ _ 1 _ _ _ (heap_setCell_same _ _ 0 _ _ _ R.res)
      have B5 : Hid (Below w.heap.size w w5) := by
        rw [← hw5]
        exact (R.bel.setCell (p := ⟨w.heap.size, 0, none⟩) (by simp) _).setCell (p := ⟨w.heap.size, 1, none⟩) (by simp) _
      obtain ⟨⟨k0, k1⟩, _⟩ := bkp2 s5
      have GX := hide gx'
      rw [hm]
      clear R gx gx' hx h64 s5
      rcases hge with hge | ⟨hge1, hge⟩
      · go_wp2
        all_goals first | (exfalso; omega) | (refine bodyPost_ret (v := .agg #[.string tx, .bool bx]) (by simp [results, Try.results25, go_sem, k0, k1]) rfl ?_; exact ⟨tx, bx, rfl, unhide GX, zx', unhide B5⟩)
      · go_wp2
        all_goals first | (exfalso; omega) | (refine bodyPost_ret (v := .agg #[.string tx, .bool bx]) (by simp [results, Try.results25, go_sem, k0, k1]) rfl ?_; exact ⟨tx, bx, rfl, unhide GX, zx', unhide B5⟩)
end Go.Proofs.Ythmmgiaobakilaa
