/- What is written is read as it was, and the other way round: in plain lists. Nothing of the program but what the two answers are called. -/
import Derived.Test.YthmmgiaobakilaaDecode
import Derived.Test.YthmmgiaobakilaaEncode
set_option maxRecDepth 100000
namespace Go.Proofs.Ythmmgiaobakilaa

theorem nums_strOf {L : List Int} (h : Bytes01 L) : nums (strOfNums L) = L := by
  have e : (strOfNums L).data.toList = L.map fun n => UInt8.ofNat n.toNat := rfl
  simp only [nums, e, List.map_map]
  conv => rhs; rw [← List.map_id L]
  apply List.map_congr_left
  intro x hx
  have hb := h x hx
  simp only [Function.comp, id]
  rw [UInt8.toNat_ofNat_of_lt' (by have : x.toNat < 256 := by omega
                                   exact this)]
  omega
theorem nums_append (a b : ByteArray) : nums (a ++ b) = nums a ++ nums b := by simp [nums, ByteArray.data_append]

theorem list_parts (M : List Int) (n : Nat) (h : 2 + 2 * n ≤ M.length) : M = M.take n ++ (M.drop n).take n ++ [M.getD (2 * n) 0, M.getD (2 * n + 1) 0] ++ M.drop (2 + 2 * n) := by
  have h1 : 2 * n < M.length := by omega
  have h2 : 2 * n + 1 < M.length := by omega
  have e1 : M = M.take (2 * n) ++ M.drop (2 * n) := (List.take_append_drop _ _).symm
  have e2 : M.drop (2 * n) = M.getD (2 * n) 0 :: M.getD (2 * n + 1) 0 :: M.drop (2 + 2 * n) := by
    rw [List.drop_eq_getElem_cons h1, List.drop_eq_getElem_cons h2, show 2 * n + 1 + 1 = 2 + 2 * n by omega]
    simp [List.getD, List.getElem?_eq_getElem h1, List.getElem?_eq_getElem h2]
  have e3 : M.take (2 * n) = M.take n ++ (M.drop n).take n := by rw [Nat.two_mul, List.take_add]
  rw [e2, e3] at e1
  simpa using e1

theorem tE_zero {n : Nat} {M : List Int} (h : tE n M = 0) : 2 + 2 * n ≤ M.length ∧ M.getD (2 * n) 0 * 256 + M.getD (2 * n + 1) 0 = ((M.length - 2 - 2 * n : Nat) : Int) ∧ M.length - 2 - 2 * n ≤ 300 := by
  unfold tE at h
  split at h
  · cases h
  split at h
  · cases h
  split at h
  · cases h
  split at h
  · cases h
  · omega

/-- Texels that are bytes are texels. -/
theorem all_texel {L : List Int} (h : Bytes01 L) : L.all texelB = true := by
  rw [List.all_eq_true]
  intro x hx
  have := h x hx
  simp [texelB]
  omega

/-- What was read is written as it was. -/
theorem enc_of_dec {x y : Int} {M : List Int} {src : ByteArray} (hb : Bytes01 M) (sx : sideB x = true) (sy : sideB y = true) (ht : tE (x * y).toNat M = 0) (hs : nums src = M.drop (2 + 2 * (x * y).toNat)) :
    encE x y (M.take (x * y).toNat) ((M.drop (x * y).toNat).take (x * y).toNat) src = 0 ∧ encN x y (M.take (x * y).toNat) ((M.drop (x * y).toNat).take (x * y).toNat) src = 85 :: x :: y :: M := by
  obtain ⟨t1, t2, t3⟩ := tE_zero ht
  have hm := side_mul sx sy
  generalize hn : (x * y).toNat = n at *
  have hxy : (n : Int) = x * y := by omega
  have hz : src.size = M.length - 2 - 2 * n := by rw [← nums_length, hs, List.length_drop]; omega
  have l1 : (M.take n).length = n := by rw [List.length_take]; omega
  have l2 : ((M.drop n).take n).length = n := by rw [List.length_take, List.length_drop]; omega
  have hsh : shapeE x y (M.take n) ((M.drop n).take n) = 0 := by
    have a1 : (M.take n).all texelB = true := all_texel (fun z hz => hb z (List.mem_of_mem_take hz))
    have a2 : ((M.drop n).take n).all texelB = true := all_texel (fun z hz => hb z (List.mem_of_mem_drop (List.mem_of_mem_take hz)))
    simp [shapeE, sx, sy, texelsB, a1, a2, l1, l2, hxy]
  refine ⟨by simp only [encE, hsh, if_true]; rw [if_neg (by omega)], ?_⟩
  have ga : 0 ≤ M.getD (2 * n) 0 ∧ M.getD (2 * n) 0 ≤ 255 := by
    have h1 : 2 * n < M.length := by omega
    simpa [List.getD, List.getElem?_eq_getElem h1] using hb _ (List.getElem_mem h1)
  have gb : 0 ≤ M.getD (2 * n + 1) 0 ∧ M.getD (2 * n + 1) 0 ≤ 255 := by
    have h1 : 2 * n + 1 < M.length := by omega
    simpa [List.getD, List.getElem?_eq_getElem h1] using hb _ (List.getElem_mem h1)
  have q1 : (src.size : Int) / 256 = M.getD (2 * n) 0 := by rw [hz]; omega
  have q2 : (src.size : Int) % 256 = M.getD (2 * n + 1) 0 := by rw [hz]; omega
  have hp := list_parts M n t1
  simp only [encN, q1, q2, hs]
  conv => rhs; rw [hp]
  simp

/-- The bytes behind the sides. -/
def encM (xs ys : List Int) (src : ByteArray) : List Int := xs ++ ys ++ [(src.size : Int) / 256, (src.size : Int) % 256] ++ nums src
theorem encN_eq (W H : Int) (xs ys : List Int) (src : ByteArray) : encN W H xs ys src = 85 :: W :: H :: encM xs ys src := by simp [encN, encM]

theorem texels_bytes {xs : List Int} (h : xs.all texelB = true) : Bytes01 xs := by
  intro x hx
  have := List.all_eq_true.1 h x hx
  simpa [texelB] using this

theorem enc_bytes {W H : Int} {xs ys : List Int} {src : ByteArray} (he : shapeE W H xs ys = 0) (h300 : src.size ≤ 300) : Bytes01 (encN W H xs ys src) := by
  obtain ⟨sW, sH, lx, ly, tx, ty⟩ := shape_zero he
  have hm := side_mul sW sH
  have bx := texels_bytes tx
  have bY := texels_bytes ty
  intro z hz
  simp only [encN, List.mem_append, List.mem_cons, List.not_mem_nil, or_false] at hz
  rcases hz with (((hz | hz) | hz) | hz) | hz
  · rcases hz with rfl | rfl | rfl <;> omega
  · exact bx z hz
  · exact bY z hz
  · rcases hz with rfl | rfl <;> omega
  · exact bytes_nums src z hz
theorem enc_n {W H : Int} {xs ys : List Int} {src : ByteArray} (he : shapeE W H xs ys = 0) (_h300 : src.size ≤ 300) : (W * H).toNat = xs.length ∧ (W * H).toNat = ys.length ∧ 1 ≤ xs.length ∧ xs.length ≤ 36 := by
  obtain ⟨sW, sH, lx, ly, tx, ty⟩ := shape_zero he
  have hm := side_mul sW sH
  omega
theorem encM_facts {W H : Int} {xs ys : List Int} {src : ByteArray} (he : shapeE W H xs ys = 0) (h300 : src.size ≤ 300) : (encM xs ys src).length = 2 + 2 * xs.length + src.size ∧ (encM xs ys src).getD (2 * xs.length) 0 = (src.size : Int) / 256 ∧ (encM xs ys src).getD (2 * xs.length + 1) 0 = (src.size : Int) % 256 ∧
    (encM xs ys src).take xs.length = xs ∧ ((encM xs ys src).drop xs.length).take xs.length = ys ∧ (encM xs ys src).drop (2 + 2 * xs.length) = nums src := by
  obtain ⟨n1, n2, n3, n4⟩ := enc_n he h300
  have hl : ys.length = xs.length := by omega
  have hlen : (xs ++ ys).length = 2 * xs.length := by rw [List.length_append]; omega
  refine ⟨?_, ?_, ?_, ?_, ?_, ?_⟩
  · simp only [encM, List.length_append, nums_length, List.length_cons, List.length_nil]; omega
  · simp only [encM, List.getD]
    rw [List.append_assoc (xs ++ ys), List.getElem?_append_right (by omega), hlen, Nat.sub_self]
    rfl
  · simp only [encM, List.getD]
    rw [List.append_assoc (xs ++ ys), List.getElem?_append_right (by omega), hlen, show 2 * xs.length + 1 - 2 * xs.length = 1 by omega]
    rfl
  · simp only [encM, List.append_assoc]
    rw [List.take_left]
  · simp only [encM, List.append_assoc]
    rw [List.drop_left, ← hl, List.take_left]
  · simp only [encM]
    have h2 : (xs ++ ys ++ [(src.size : Int) / 256, (src.size : Int) % 256]).length = 2 + 2 * xs.length := by rw [List.length_append, hlen]; simp; omega
    rw [← h2, List.drop_left]
theorem tE_enc {W H : Int} {xs ys : List Int} {src : ByteArray} (he : shapeE W H xs ys = 0) (h300 : src.size ≤ 300) : tE (W * H).toNat (encM xs ys src) = 0 := by
  obtain ⟨f1, f2, f3, _⟩ := encM_facts he h300
  rw [(enc_n he h300).1, tE, f1, f2, f3, if_neg (by omega), if_neg (by omega), if_neg (by omega), if_neg (by omega)]
theorem tE_more {W H : Int} {xs ys : List Int} {src : ByteArray} (he : shapeE W H xs ys = 0) (h300 : src.size ≤ 300) : tE (W * H).toNat (encM xs ys src ++ [0]) = 5 := by
  obtain ⟨f1, f2, f3, _⟩ := encM_facts he h300
  have g1 : (encM xs ys src ++ [0]).getD (2 * xs.length) 0 = (src.size : Int) / 256 := by
    rw [← f2]; simp only [List.getD]; rw [List.getElem?_append_left (by omega)]
  have g2 : (encM xs ys src ++ [0]).getD (2 * xs.length + 1) 0 = (src.size : Int) % 256 := by
    rw [← f3]; simp only [List.getD]; rw [List.getElem?_append_left (by omega)]
  have g0 : (encM xs ys src ++ [0]).length = 3 + 2 * xs.length + src.size := by rw [List.length_append, f1]; simp; omega
  rw [(enc_n he h300).1, tE, g0, g1, g2, if_neg (by omega), if_neg (by omega), if_neg (by omega), if_pos (by omega)]
theorem tE_less {W H : Int} {xs ys : List Int} {src : ByteArray} (he : shapeE W H xs ys = 0) (h300 : src.size ≤ 300) : tE (W * H).toNat ((encM xs ys src).take ((encM xs ys src).length - 1)) = 1 := by
  obtain ⟨f1, f2, f3, _⟩ := encM_facts he h300
  have g0 : ((encM xs ys src).take ((encM xs ys src).length - 1)).length = 1 + 2 * xs.length + src.size := by rw [List.length_take]; omega
  rw [(enc_n he h300).1]
  by_cases hz : src.size = 0
  · rw [tE, g0, if_pos (by omega)]
  · have g1 : ((encM xs ys src).take ((encM xs ys src).length - 1)).getD (2 * xs.length) 0 = (src.size : Int) / 256 := by
      rw [← f2]; simp only [List.getD]; rw [List.getElem?_take_of_lt (by omega)]
    have g2 : ((encM xs ys src).take ((encM xs ys src).length - 1)).getD (2 * xs.length + 1) 0 = (src.size : Int) % 256 := by
      rw [← f3]; simp only [List.getD]; rw [List.getElem?_take_of_lt (by omega)]
    rw [tE, g0, g1, g2, if_neg (by omega), if_neg (by omega), if_pos (by omega)]
theorem dE_enc {W H : Int} {xs ys : List Int} {src : ByteArray} (he : shapeE W H xs ys = 0) (h300 : src.size ≤ 300) : dE (encN W H xs ys src) = 0 := by
  obtain ⟨sW, sH, _⟩ := shape_zero he
  rw [encN_eq]
  simp [dE, sW, sH, tE_enc he h300]
theorem dE_more {W H : Int} {xs ys : List Int} {src : ByteArray} (he : shapeE W H xs ys = 0) (h300 : src.size ≤ 300) : dE (encN W H xs ys src ++ [0]) = 5 := by
  obtain ⟨sW, sH, _⟩ := shape_zero he
  rw [encN_eq]
  simp [dE, sW, sH, tE_more he h300]
theorem dE_less {W H : Int} {xs ys : List Int} {src : ByteArray} (he : shapeE W H xs ys = 0) (h300 : src.size ≤ 300) : dE ((encN W H xs ys src).take ((encN W H xs ys src).length - 1)) = 1 := by
  obtain ⟨sW, sH, _⟩ := shape_zero he
  have f1 := (encM_facts he h300).1
  rw [encN_eq]
  have e : (85 :: W :: H :: encM xs ys src).length - 1 = ((encM xs ys src).length - 1) + 1 + 1 + 1 := by simp; omega
  rw [e]
  simp only [List.take_succ_cons]
  simp [dE, sW, sH, tE_less he h300]

/-- An answer with an error. -/
theorem DecOut.bad {base : Nat} {L : List Int} {e : Ending} {w : World} {E : Int} (h : DecOut base L e w) (hE : dE L = E) (h0 : E ≠ 0) :
    e = .returned (.tuple #[.agg #[.int .i64 0, .int .i64 0, .slice none 0 0, .slice none 0 0, .string ⟨#[]⟩], .int .i64 E]) := by
  rcases h with ⟨_, rfl⟩ | ⟨x, y, M, ao, bo, c, d, src, hL, sx, sy, ht, _⟩
  · rw [hE]
  · exact absurd (by rw [← hE, hL]; simp [dE, sx, sy, ht]) h0
/-- An answer without one: the bytes of a scene that may be. -/
theorem DecOut.good {base : Nat} {W H : Int} {xs ys : List Int} {src : ByteArray} {e : Ending} {w : World} (h : DecOut base (encN W H xs ys src) e w) (he : shapeE W H xs ys = 0) (h300 : src.size ≤ 300) :
    ∃ ao bo c d, e = .returned (.tuple #[.agg #[.int .i64 W, .int .i64 H, .slice ao xs.length c, .slice bo ys.length d, .string src], .int .i64 0]) ∧ IntsAt w.heap.size w ao xs ∧ IntsAt w.heap.size w bo ys := by
  have h0 := dE_enc he h300
  rcases h with ⟨hne, _⟩ | ⟨x, y, M, ao, bo, c, d, s, hL, sx, sy, ht, rfl, hs, i1, i2, _, _⟩
  · exact absurd h0 hne
  · rw [encN_eq] at hL
    simp only [List.cons.injEq, true_and] at hL
    obtain ⟨rfl, rfl, rfl⟩ := hL
    obtain ⟨f1, f2, f3, f4, f5, f6⟩ := encM_facts he h300
    obtain ⟨n1, n2, _⟩ := enc_n he h300
    rw [n1] at hs i1 i2 ⊢
    rw [f4] at i1
    rw [f5] at i2
    rw [f6] at hs
    have hsrc : s = src := by rw [← nums_back s, ← nums_back src, hs]
    subst hsrc
    refine ⟨ao, bo, c, d, ?_, i1, i2⟩
    rw [show ys.length = xs.length by omega]

end Go.Proofs.Ythmmgiaobakilaa
