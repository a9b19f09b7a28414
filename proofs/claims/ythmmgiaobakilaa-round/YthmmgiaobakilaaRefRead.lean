/- The walk of the reference's Decode. -/
import Derived.Test.YthmmgiaobakilaaNumbers
import Derived.Test.YthmmgiaobakilaaCodec2
import Derived.Deep.RegionWith
set_option maxRecDepth 100000
namespace Go.Proofs.Ythmmgiaobakilaa
open Go.RowKit

/-- What a Decode answers, by the document's rule on the bytes. -/
def DecOut (base : Nat) (L : List Int) (e : Ending) (w' : World) : Prop :=
  (dE L ≠ 0 ∧ e = .returned (.tuple #[.agg #[.int .i64 0, .int .i64 0, .slice none 0 0, .slice none 0 0, .string ⟨#[]⟩], .int .i64 (dE L)])) ∨
  ∃ x y M ao bo c d src, L = 85 :: x :: y :: M ∧ sideB x = true ∧ sideB y = true ∧ tE (x * y).toNat M = 0 ∧
    e = .returned (.tuple #[.agg #[.int .i64 x, .int .i64 y, .slice ao (x * y).toNat c, .slice bo (x * y).toNat d, .string src], .int .i64 0]) ∧ nums src = M.drop (2 + 2 * (x * y).toNat) ∧
    IntsAt w'.heap.size w' ao (M.take (x * y).toNat) ∧ IntsAt w'.heap.size w' bo ((M.drop (x * y).toNat).take (x * y).toNat) ∧ (∀ a, ao = some a → base ≤ a.block) ∧ (∀ a, bo = some a → base ≤ a.block)

theorem nums_cons (b : ByteArray) (i : Nat) (h : i < b.size) : (nums b).drop i = (b[i].toNat : Int) :: (nums b).drop (i + 1) := by
  have hl : i < (nums b).length := by rw [nums_length]; exact h
  rw [List.drop_eq_getElem_cons hl]
  have := nums_get b i h
  rw [List.getElem?_eq_getElem hl] at this
  simp only [Option.some.injEq] at this
  rw [this]
theorem nums_one (b : ByteArray) (h : 0 < b.size) : nums b = (b[0].toNat : Int) :: (nums b).drop 1 := by
  have := nums_cons b 0 h
  simpa using this
theorem nums_two (b : ByteArray) (h : 1 < b.size) : nums b = (b[0].toNat : Int) :: (b[1].toNat : Int) :: (nums b).drop 2 := by
  have e1 := nums_one b (by omega)
  have e2 := nums_cons b 1 h
  rw [e2] at e1
  exact e1
theorem nums_three (b : ByteArray) (h : 2 < b.size) : nums b = (b[0].toNat : Int) :: (b[1].toNat : Int) :: (b[2].toNat : Int) :: (nums b).drop 3 := by
  have e1 := nums_two b (by omega)
  have e2 := nums_cons b 2 h
  rw [e2] at e1
  exact e1


theorem tE_bytes (b : ByteArray) (n : Nat) (i1 : 3 + 2 * n < b.size) (i2 : 4 + 2 * n < b.size) : tE n ((nums b).drop 3) =
    if 300 < (b[3 + 2 * n].toNat : Int) * 256 + (b[4 + 2 * n].toNat : Int) then 7
    else if ((b.size - 5 - 2 * n : Nat) : Int) < (b[3 + 2 * n].toNat : Int) * 256 + (b[4 + 2 * n].toNat : Int) then 1
    else if (b[3 + 2 * n].toNat : Int) * 256 + (b[4 + 2 * n].toNat : Int) < ((b.size - 5 - 2 * n : Nat) : Int) then 5
    else 0 := by
  have g1 : ((nums b).drop 3).getD (2 * n) 0 = (b[3 + 2 * n].toNat : Int) := by
    simp only [List.getD, List.getElem?_drop]
    rw [nums_get b (3 + 2 * n) i1]; rfl
  have g2 : ((nums b).drop 3).getD (2 * n + 1) 0 = (b[4 + 2 * n].toNat : Int) := by
    simp only [List.getD, List.getElem?_drop]
    rw [show 3 + (2 * n + 1) = 4 + 2 * n by omega, nums_get b (4 + 2 * n) i2]; rfl
  have hl : ((nums b).drop 3).length = b.size - 3 := by rw [List.length_drop, nums_length]
  rw [tE, g1, g2, hl, if_neg (by omega), show b.size - 3 - 2 - 2 * n = b.size - 5 - 2 * n by omega]

theorem own_form {w : World} {base n : Nat} {v : Value} {xs : List Value} (h : w.ownsRow base 3 1 v n xs) (hn : 0 < n) : ∃ g cap, v = .slice (some ⟨g, 0, none⟩) n cap := by
  rcases h.2 with ⟨rfl, h0⟩ | ⟨g, cap, cur, rfl, _⟩
  · omega
  · exact ⟨g, cap, rfl⟩


theorem Blk5.drew {w : World} {b : Nat} {c0 c1 c2 c3 c4 : Value} (h : Blk5 w b c0 c1 c2 c3 c4) : Blk5 w.drew b c0 c1 c2 c3 c4 := h
theorem Blk5.all {w : World} {b : Nat} {c0 c1 c2 c3 c4 : Value} (h : Blk5 w b c0 c1 c2 c3 c4) : (w.cell? ⟨b, 0, none⟩ = some c0 ∧ w.cell? ⟨b, 1, none⟩ = some c1 ∧ w.cell? ⟨b, 2, none⟩ = some c2 ∧ w.cell? ⟨b, 3, none⟩ = some c3 ∧ w.cell? ⟨b, 4, none⟩ = some c4) ∧
    w.frozen? ⟨b, 0, none⟩ = false ∧ w.frozen? ⟨b, 1, none⟩ = false ∧ w.frozen? ⟨b, 2, none⟩ = false ∧ w.frozen? ⟨b, 3, none⟩ = false ∧ w.frozen? ⟨b, 4, none⟩ = false :=
  ⟨h.cells, h.unfrozen 0, h.unfrozen 1, h.unfrozen 2, h.unfrozen 3, h.unfrozen 4⟩
theorem blk_two (w : World) (c0 c1 c2 c3 c4 : Value) (o : Obj) : Blk5 ((w.alloc (.cells #[c0, c1, c2, c3, c4] 24)).alloc o) w.heap.size c0 c1 c2 c3 c4 := by
  show ((w.alloc _).alloc o).heap[w.heap.size]? = _
  rw [Below.heap_alloc _ _ _ (by simp)]
  exact heap_alloc_new w _


set_option maxHeartbeats 2000000 in
theorem refread_empty (w : World) :
    Calls Try.prog 15 #[.string ⟨#[]⟩] w fun e w' => DecOut w.heap.size (nums ⟨#[]⟩) e w' ∧ Below w.heap.size w w' := by
  go_enter Try.func15, Try.ntmps15
  go_wp2
  refine wp_loop_rounds 1 ?_
  rw [rounds_succ]
  go_wp2
  refine bodyPost_ret (v := .tuple #[.agg #[.int .i64 0, .int .i64 0, .slice none 0 0, .slice none 0 0, .string ⟨#[]⟩], .int .i64 1]) (by simp [results, Try.results15, go_sem]) rfl ⟨.inl ⟨by decide, rfl⟩, below_two _ _ _⟩

set_option maxHeartbeats 2000000 in
theorem refread_any (b : ByteArray) (w : World) (hs : b.size ≤ maxLen) (hp0 : 0 < b.size) :
    Calls Try.prog 15 #[.string b] w fun e w' => DecOut w.heap.size (nums b) e w' ∧ Below w.heap.size w w' := by
  unfold maxLen at hs
  have hbe : ¬ b = ByteArray.empty := by rintro rfl; exact absurd hp0 (by decide)
  go_enter Try.func15, Try.ntmps15
  go_wp2
  go_loop [5] (fun i => i = .int .i64 0 ∨ (i = .int .i64 1 ∧ (b[0].toNat : Int) = 85) ∨ (i = .int .i64 2 ∧ ∃ h : 1 < b.size, (b[0].toNat : Int) = 85 ∧ sideB (b[1].toNat : Int) = true) ∨ (i = .int .i64 3 ∧ ∃ h : 2 < b.size, (b[0].toNat : Int) = 85 ∧ sideB (b[1].toNat : Int) = true ∧ sideB (b[2].toNat : Int) = true)) (fun i => 3 - (intOf i).toNat)
  case atStart => exact .inl rfl
  case round =>
    rcases hrel with rfl | ⟨rfl, h85⟩ | ⟨rfl, hp, h85, hx⟩ | ⟨rfl, hp, h85, hx, hy⟩
    · by_cases h85 : (b[0].toNat : Int) = 85
      · have h85' : ((b[0].toNat : Int) != 85) = false := by simp [h85]
        have H85 := hide h85
        clear h85
        go_wp2
        go_round
        case rel => exact .inr (.inl ⟨rfl, unhide H85⟩)
        case measure => simp [intOf]
      · have h85' : ((b[0].toNat : Int) != 85) = true := by simp [h85]
        have HE : Hid (dE (nums b) = 2) := by show dE (nums b) = 2; rw [nums_one b hp0]; simp [dE, h85]
        clear h85
        go_wp2
        refine bodyPost_ret (v := .tuple #[.agg #[.int .i64 0, .int .i64 0, .slice none 0 0, .slice none 0 0, .string ⟨#[]⟩], .int .i64 2]) (by simp [results, Try.results15, go_sem]) rfl ⟨.inl ⟨by rw [HE.out]; decide, by rw [HE.out]⟩, below_two _ _ _⟩
    · have H85 := hide h85
      clear h85
      by_cases hp1 : 1 < b.size
      · by_cases lo : (b[1].toNat : Int) < 1
        · have HE : Hid (dE (nums b) = 3) := by show dE (nums b) = 3; rw [nums_two b hp1]; have := unhide H85; simp [dE, this, sideB]; omega
          go_wp2
          refine bodyPost_ret (v := .tuple #[.agg #[.int .i64 0, .int .i64 0, .slice none 0 0, .slice none 0 0, .string ⟨#[]⟩], .int .i64 3]) (by simp [results, Try.results15, go_sem]) rfl ⟨.inl ⟨by rw [HE.out]; decide, by rw [HE.out]⟩, below_two _ _ _⟩
        · have lo' : decide ((b[1].toNat : Int) < 1) = false := by simpa using lo
          by_cases hi : 6 < (b[1].toNat : Int)
          · have HE : Hid (dE (nums b) = 3) := by show dE (nums b) = 3; rw [nums_two b hp1]; have := unhide H85; simp [dE, this, sideB]; omega
            go_wp2
            refine bodyPost_ret (v := .tuple #[.agg #[.int .i64 0, .int .i64 0, .slice none 0 0, .slice none 0 0, .string ⟨#[]⟩], .int .i64 3]) (by simp [results, Try.results15, go_sem]) rfl ⟨.inl ⟨by rw [HE.out]; decide, by rw [HE.out]⟩, below_two _ _ _⟩
          · have hi' : decide (6 < (b[1].toNat : Int)) = false := by simpa using hi
            have HX1 : Hid (sideB (b[1].toNat : Int) = true) := by show sideB _ = true; simp [sideB]; omega
            go_wp2
            go_round
            case rel => exact .inr (.inr (.inl ⟨rfl, hp1, unhide H85, unhide HX1⟩))
            case measure => simp [intOf]
      · have hle : (b.size : Int) ≤ 1 := by omega
        have HE : Hid (dE (nums b) = 1) := by
          show dE (nums b) = 1
          have hd : (nums b).drop 1 = [] := List.drop_eq_nil_of_le (by rw [nums_length]; omega)
          rw [nums_one b hp0, hd]; have := unhide H85; simp [dE, this]
        go_wp2
        refine bodyPost_ret (v := .tuple #[.agg #[.int .i64 0, .int .i64 0, .slice none 0 0, .slice none 0 0, .string ⟨#[]⟩], .int .i64 1]) (by simp [results, Try.results15, go_sem]) rfl ⟨.inl ⟨by rw [HE.out]; decide, by rw [HE.out]⟩, below_two _ _ _⟩
    · have H85 := hide h85
      clear h85
      have HX1 := hide hx
      clear hx
      by_cases hp2 : 2 < b.size
      · by_cases lo : (b[2].toNat : Int) < 1
        · have HE : Hid (dE (nums b) = 3) := by show dE (nums b) = 3; rw [nums_three b hp2]; have := unhide H85; simp [dE, this, sideB]; omega
          go_wp2
          refine bodyPost_ret (v := .tuple #[.agg #[.int .i64 0, .int .i64 0, .slice none 0 0, .slice none 0 0, .string ⟨#[]⟩], .int .i64 3]) (by simp [results, Try.results15, go_sem]) rfl ⟨.inl ⟨by rw [HE.out]; decide, by rw [HE.out]⟩, below_two _ _ _⟩
        · have lo' : decide ((b[2].toNat : Int) < 1) = false := by simpa using lo
          by_cases hi : 6 < (b[2].toNat : Int)
          · have HE : Hid (dE (nums b) = 3) := by show dE (nums b) = 3; rw [nums_three b hp2]; have := unhide H85; simp [dE, this, sideB]; omega
            go_wp2
            refine bodyPost_ret (v := .tuple #[.agg #[.int .i64 0, .int .i64 0, .slice none 0 0, .slice none 0 0, .string ⟨#[]⟩], .int .i64 3]) (by simp [results, Try.results15, go_sem]) rfl ⟨.inl ⟨by rw [HE.out]; decide, by rw [HE.out]⟩, below_two _ _ _⟩
          · have hi' : decide (6 < (b[2].toNat : Int)) = false := by simpa using hi
            have HX2 : Hid (sideB (b[2].toNat : Int) = true) := by show sideB _ = true; simp [sideB]; omega
            go_wp2
            go_round
            case rel => exact .inr (.inr (.inr ⟨rfl, hp2, unhide H85, unhide HX1, unhide HX2⟩))
            case measure => simp [intOf]
      · have hle : (b.size : Int) ≤ 2 := by omega
        have HE : Hid (dE (nums b) = 1) := by
          show dE (nums b) = 1
          have hd : (nums b).drop 2 = [] := List.drop_eq_nil_of_le (by rw [nums_length]; omega)
          rw [nums_two b hp, hd]; have := unhide H85; simp [dE, this, unhide HX1]
        go_wp2
        refine bodyPost_ret (v := .tuple #[.agg #[.int .i64 0, .int .i64 0, .slice none 0 0, .slice none 0 0, .string ⟨#[]⟩], .int .i64 1]) (by simp [results, Try.results15, go_sem]) rfl ⟨.inl ⟨by rw [HE.out]; decide, by rw [HE.out]⟩, below_two _ _ _⟩
    · have H85 := hide h85
      have HX := hide hx
      have HY := hide hy
      obtain ⟨b1, b2, b3, b4, b5, b6⟩ := side_mul hx hy
      obtain ⟨n, hn⟩ : ∃ n : Nat, (b[1].toNat : Int) * (b[2].toNat : Int) = (n : Int) := ⟨((b[1].toNat : Int) * (b[2].toNat : Int)).toNat, by omega⟩
      have n36 : n ≤ 36 := by omega
      have HNN : Hid (((b[1].toNat : Int) * (b[2].toNat : Int)).toNat = n) := by show _ = _; rw [hn]; simp
      clear h85 hx hy
      by_cases hl : (b.size : Int) < 5 + 2 * (n : Int)
      · have HE : Hid (dE (nums b) = 1) := by
          show dE (nums b) = 1
          rw [nums_three b hp]
          have h1 := unhide H85
          have h2 := unhide HX
          have h3 := unhide HY
          simp only [dE, h1, h2, h3, if_true]
          rw [unhide HNN, tE, if_pos]
          rw [List.length_drop, nums_length]; omega
        go_wp2
        refine bodyPost_ret (v := .tuple #[.agg #[.int .i64 0, .int .i64 0, .slice none 0 0, .slice none 0 0, .string ⟨#[]⟩], .int .i64 1]) (by simp [results, Try.results15, go_sem]) rfl ⟨.inl ⟨by rw [HE.out]; decide, by rw [HE.out]⟩, below_two _ _ _⟩
      · have i1 : 3 + 2 * n < b.size := by omega
        have i2 : 4 + 2 * n < b.size := by omega
        have i3 : (3 : Int) + 2 * (n : Int) < (b.size : Int) := by omega
        have i4 : (4 : Int) + 2 * (n : Int) < (b.size : Int) := by omega
        have v1 : ((b[3 + 2 * n]'i1).toNat : Int) ≤ 255 := by have := (b[3 + 2 * n]'i1).toNat_lt; omega
        have v2 : ((b[4 + 2 * n]'i2).toNat : Int) ≤ 255 := by have := (b[4 + 2 * n]'i2).toNat_lt; omega
        have x1 := index_at b (3 + 2 * n) (3 + 2 * (n : Int)) (by omega) i1
        have x2 := index_at b (4 + 2 * n) (4 + 2 * (n : Int)) (by omega) i2
        have HD : dE (nums b) = tE n ((nums b).drop 3) := by
          have e := nums_three b hp
          rw [e]
          have h1 := unhide H85
          have h2 := unhide HX
          have h3 := unhide HY
          simp only [dE, h1, h2, h3, if_true]
          rw [unhide HNN]
          conv => rhs; rw [e]
          rfl
        have HT := hide (tE_bytes b n i1 i2)
        rw [tE_bytes b n i1 i2] at HD
        have w1 : 0 ≤ ((b[3 + 2 * n]'i1).toNat : Int) := by omega
        have w2 : 0 ≤ ((b[4 + 2 * n]'i2).toNat : Int) := by omega
        generalize ((b[3 + 2 * n]'i1).toNat : Int) = y1 at x1 v1 w1 HD HT
        generalize ((b[4 + 2 * n]'i2).toNat : Int) = y2 at x2 v2 w2 HD HT
        replace HD := hide HD
        by_cases c1 : 300 < 256 * y1 + y2
        · have HE : Hid (dE (nums b) = 7) := by show dE (nums b) = 7; rw [unhide HD, if_pos (by omega)]
          go_wp2
          go_region
          go_wp2
          refine bodyPost_ret (v := .tuple #[.agg #[.int .i64 0, .int .i64 0, .slice none 0 0, .slice none 0 0, .string ⟨#[]⟩], .int .i64 7]) (by simp [results, Try.results15, go_sem]) rfl ⟨.inl ⟨by rw [HE.out]; decide, by rw [HE.out]⟩, (below_two _ _ _).drew⟩
        · by_cases c2 : (b.size : Int) - 5 - 2 * (n : Int) < 256 * y1 + y2
          · have HE : Hid (dE (nums b) = 1) := by show dE (nums b) = 1; rw [unhide HD, if_neg (by omega), if_pos (by omega)]
            go_wp2
            go_region
            go_wp2
            refine bodyPost_ret (v := .tuple #[.agg #[.int .i64 0, .int .i64 0, .slice none 0 0, .slice none 0 0, .string ⟨#[]⟩], .int .i64 1]) (by simp [results, Try.results15, go_sem]) rfl ⟨.inl ⟨by rw [HE.out]; decide, by rw [HE.out]⟩, (below_two _ _ _).drew⟩
          · by_cases c3 : 256 * y1 + y2 < (b.size : Int) - 5 - 2 * (n : Int)
            · have HE : Hid (dE (nums b) = 5) := by show dE (nums b) = 5; rw [unhide HD, if_neg (by omega), if_neg (by omega), if_pos (by omega)]
              go_wp2
              go_region
              go_wp2
              refine bodyPost_ret (v := .tuple #[.agg #[.int .i64 0, .int .i64 0, .slice none 0 0, .slice none 0 0, .string ⟨#[]⟩], .int .i64 5]) (by simp [results, Try.results15, go_sem]) rfl ⟨.inl ⟨by rw [HE.out]; decide, by rw [HE.out]⟩, (below_two _ _ _).drew⟩
            · have HT0 : Hid (tE n ((nums b).drop 3) = 0) := by show _ = _; rw [unhide HT, if_neg (by omega), if_neg (by omega), if_neg (by omega)]
              have t1 := slice_at b 3 (3 + n) 3 (3 + (n : Int)) rfl (by omega) (by omega) (by omega)
              have t2 := slice_at b (3 + n) (3 + 2 * n) (3 + (n : Int)) (3 + 2 * (n : Int)) (by omega) (by omega) (by omega) (by omega)
              have t3 := slice_from b (5 + 2 * n) (5 + 2 * (n : Int)) (by omega) (by omega)
              have z1 : (b.extract 3 (3 + n)).size = n := by rw [ByteArray.size_extract]; omega
              have z2 : (b.extract (3 + n) (3 + 2 * n)).size = n := by rw [ByteArray.size_extract]; omega
              have L1 := nums_extract b 3 (3 + n)
              have L2 := nums_extract b (3 + n) (3 + 2 * n)
              have L3 := nums_extract b (5 + 2 * n) b.size
              generalize b.extract 3 (3 + n) = S1 at t1 z1 L1
              generalize b.extract (3 + n) (3 + 2 * n) = S2 at t2 z2 L2
              generalize b.extract (5 + 2 * n) b.size = S3 at t3 L3
              replace L1 := hide L1
              replace L2 := hide L2
              replace L3 := hide L3
              have m1 : S1.size ≤ 36 := by omega
              have m2 : S2.size ≤ 36 := by omega
              replace z1 := hide z1
              replace z2 := hide z2
              have n0 : 0 < n := by omega
              have wa1 := (wrap_small (3 + (n : Int)) (by omega) (by omega)).1
              have wa2 := (wrap_small (2 * (n : Int)) (by omega) (by omega)).1
              have wa3 := (wrap_small (3 + 2 * (n : Int)) (by omega) (by omega)).1
              have wa4 := (wrap_small (5 + 2 * (n : Int)) (by omega) (by omega)).1
              go_wp2
              go_region
              go_wp2
              clear x1 x2 HD HT c1 c2 c3 hl
              have hk0 := blk_two w (.int .i64 0) (.int .i64 0) (.slice none 0 0) (.slice none 0 0) (.string ⟨#[]⟩) (.cells #[.int .i64 0, .int .i64 0, .slice none 0 0, .slice none 0 0, .string ⟨#[]⟩] 24)
              go_region_with (first | (go_at_call_of 33 (Value.string S1); refine (numbers_any S1 _ m1).mono ?_; rintro e u1 ⟨q1, rfl, own1, bel1⟩; rw [unhide z1] at own1; obtain ⟨g1, p1, rfl⟩ := own_form own1 n0; (first | (have hk1 := Blk5.later hk2 bel1 hk2.lt) | (have hk1 := Blk5.later hk0.drew.drew bel1 hk0.drew.drew.lt)); obtain ⟨⟨ka1, kb1, kc1, kd1, ke1⟩, fa1, fb1, fc1, fd1, fe1⟩ := hk1.all) | (go_at_call_of 33 (Value.string S2); refine (numbers_any S2 _ m2).mono ?_; rintro e u2 ⟨q2, rfl, own2, bel2⟩; rw [unhide z2] at own2; obtain ⟨g2, p2, rfl⟩ := own_form own2 n0; (first | (have hk2 := Blk5.later hk1 bel2 hk1.lt) | (have hk2 := Blk5.later hk0.drew.drew bel2 hk0.drew.drew.lt)); obtain ⟨⟨ka2, kb2, kc2, kd2, ke2⟩, fa2, fb2, fc2, fd2, fe2⟩ := hk2.all))
              go_wp2
              have o1 := own1.lt g1 rfl
              have o2 := own2.lt g2 rfl
              have u1z := bel1.size
              simp only [World.size_drew, World.size_alloc] at o1 u1z
              have own1' := own1.kept (grown_of_below bel2 none) (.inr (by simp [Value.ownBlock]))
              obtain ⟨f0, f1, f2, f3, f4⟩ := (((((hk2.set0 (.int .i64 (b[1].toNat : Int))).set1 (.int .i64 (b[2].toNat : Int))).set2 (.slice (some ⟨g1, 0, none⟩) n p1)).set3 (.slice (some ⟨g2, 0, none⟩) n p2)).set4 (.string S3)).cells
              have Hs : nums S3 = ((nums b).drop 3).drop (2 + 2 * n) := by
                rw [unhide L3, List.take_of_length_le (by rw [List.length_drop, nums_length]; omega), List.drop_drop, show 3 + (2 + 2 * n) = 5 + 2 * n by omega]
              have Hx : ((nums b).drop 3).take n = nums S1 := by rw [unhide L1, show 3 + n - 3 = n by omega]
              have Hy : (((nums b).drop 3).drop n).take n = nums S2 := by rw [unhide L2, List.drop_drop, show 3 + 2 * n - (3 + n) = n by omega]
              have Ix := IntsAt.of_own (own_rc (a := w.heap.size) (i := 4) (v := .string S3) (by omega) (own_rc (a := w.heap.size) (i := 3) (v := .slice (some ⟨g2, 0, none⟩) n p2) (by omega) (own_rc (a := w.heap.size) (i := 2) (v := .slice (some ⟨g1, 0, none⟩) n p1) (by omega) (own_rc (a := w.heap.size) (i := 1) (v := .int .i64 (b[2].toNat : Int)) (by omega) (own_rc (a := w.heap.size) (i := 0) (v := .int .i64 (b[1].toNat : Int)) (by omega) own1')))))
              have Iy := IntsAt.of_own (own_rc (a := w.heap.size) (i := 4) (v := .string S3) (by omega) (own_rc (a := w.heap.size) (i := 3) (v := .slice (some ⟨g2, 0, none⟩) n p2) (by omega) (own_rc (a := w.heap.size) (i := 2) (v := .slice (some ⟨g1, 0, none⟩) n p1) (by omega) (own_rc (a := w.heap.size) (i := 1) (v := .int .i64 (b[2].toNat : Int)) (by omega) (own_rc (a := w.heap.size) (i := 0) (v := .int .i64 (b[1].toNat : Int)) (by omega) own2)))))
              have hb2 : Below w.heap.size w u2 := ((below_two w _ _).drew.drew.trans (bel1.mono (by simp; omega))).trans (bel2.mono (by omega))
              have Hb := (((((hb2.setCell (p := ⟨w.heap.size, 0, none⟩) (Nat.le_refl _) (.int .i64 (b[1].toNat : Int))).setCell (p := ⟨w.heap.size, 1, none⟩) (Nat.le_refl _) (.int .i64 (b[2].toNat : Int))).setCell (p := ⟨w.heap.size, 2, none⟩) (Nat.le_refl _) (.slice (some ⟨g1, 0, none⟩) n p1)).setCell (p := ⟨w.heap.size, 3, none⟩) (Nat.le_refl _) (.slice (some ⟨g2, 0, none⟩) n p2)).setCell (p := ⟨w.heap.size, 4, none⟩) (Nat.le_refl _) (.string S3))
              refine bodyPost_ret (v := .tuple #[.agg #[.int .i64 (b[1].toNat : Int), .int .i64 (b[2].toNat : Int), .slice (some ⟨g1, 0, none⟩) n p1, .slice (some ⟨g2, 0, none⟩) n p2, .string S3], .int .i64 0]) (by simp [results, Try.results15, go_sem, f0, f1, f2, f3, f4]) rfl ⟨.inr ⟨(b[1].toNat : Int), (b[2].toNat : Int), (nums b).drop 3, some ⟨g1, 0, none⟩, some ⟨g2, 0, none⟩, p1, p2, S3, ?_, unhide HX, unhide HY, ?_, ?_, ?_, ?_, ?_, fun a e => by cases e; show _ ≤ g1; omega, fun a e => by cases e; show _ ≤ g2; omega⟩, ?_⟩
              · have e := nums_three b hp
                rw [unhide H85] at e
                exact e
              · rw [unhide HNN]; exact unhide HT0
              · rw [unhide HNN]
              · rw [unhide HNN]; exact Hs
              · rw [unhide HNN, Hx]; exact Ix
              · rw [unhide HNN, Hy]; exact Iy
              · exact Hb

end Go.Proofs.Ythmmgiaobakilaa
