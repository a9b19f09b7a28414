/- Proved here: for every scene and every text Round answers true, and both read as they did. No condition. -/
import Derived.Test.YthmmgiaobakilaaArgs
import Derived.Test.YthmmgiaobakilaaCoding
import Derived.Test.YthmmgiaobakilaaSameKeep
set_option maxRecDepth 100000
namespace Go.Proofs.Ythmmgiaobakilaa
open Go.ChangeShapes Go.WideShapes Go.ChangeAt Go.RowKit
open Go.ChangeMaps (open_string shut_string)

theorem box6 (w : World) (c0 c1 c2 c3 c4 : Value) : Blk5 (w.alloc (.cells #[c0, c1, c2, c3, c4] 24)) w.heap.size c0 c1 c2 c3 c4 := heap_alloc_new w _

/-- What Decode answers, for the walk: an error and nothing; or what Encode writes as the same bytes. -/
theorem DecOut.back {base : Nat} {b : ByteArray} {e : Ending} {w : World} (h : DecOut base (nums b) e w) :
    (∃ E, E ≠ 0 ∧ e = .returned (.tuple #[.agg #[.int .i64 0, .int .i64 0, .slice none 0 0, .slice none 0 0, .string ⟨#[]⟩], .int .i64 E])) ∨
    ∃ x y ao bo c d xs ys src, e = .returned (.tuple #[.agg #[.int .i64 x, .int .i64 y, .slice ao xs.length c, .slice bo ys.length d, .string src], .int .i64 0]) ∧
      IntsAt w.heap.size w ao xs ∧ IntsAt w.heap.size w bo ys ∧ xs.length ≤ maxLen ∧ ys.length ≤ maxLen ∧ src.size ≤ maxLen ∧ encE x y xs ys src = 0 ∧ encS x y xs ys src = b := by
  rcases h with ⟨h0, rfl⟩ | ⟨x, y, M, ao, bo, c, d, src, hL, sx, sy, ht, rfl, hs, i1, i2, _, _⟩
  · exact .inl ⟨_, h0, rfl⟩
  · have hbM : Bytes01 M := fun z hz => bytes_nums b z (by rw [hL]; simp [hz])
    obtain ⟨e1, e2⟩ := enc_of_dec hbM sx sy ht hs
    obtain ⟨t1, t2, t3⟩ := tE_zero ht
    have h36 := side_mul sx sy
    have hz : src.size = M.length - 2 - 2 * (x * y).toNat := by rw [← nums_length, hs, List.length_drop]; omega
    have l1 : (M.take (x * y).toNat).length = (x * y).toNat := by rw [List.length_take]; omega
    have l2 : ((M.drop (x * y).toNat).take (x * y).toNat).length = (x * y).toNat := by rw [List.length_take, List.length_drop]; omega
    have n36 : (x * y).toNat ≤ 36 := by omega
    refine .inr ⟨x, y, ao, bo, c, d, M.take (x * y).toNat, (M.drop (x * y).toNat).take (x * y).toNat, src, by rw [l1, l2], i1, i2, by rw [l1]; unfold maxLen; omega, by rw [l2]; unfold maxLen; omega, by unfold maxLen; omega, e1, ?_⟩
    simp only [encS, e1, if_true]
    rw [e2, ← hL]
    exact nums_back b

/-- What Encode answers: an error and nothing; or bytes that are no fewer than five. -/
theorem enc_cases (W H : Int) (xs ys : List Int) (src : ByteArray) : (encE W H xs ys src ≠ 0 ∧ encS W H xs ys src = ⟨#[]⟩) ∨
    (encE W H xs ys src = 0 ∧ shapeE W H xs ys = 0 ∧ src.size ≤ 300 ∧ nums (encS W H xs ys src) = encN W H xs ys src ∧ 5 ≤ (encS W H xs ys src).size ∧ (encS W H xs ys src).size ≤ 1000) := by
  by_cases h : encE W H xs ys src = 0
  · right
    have hsh : shapeE W H xs ys = 0 := by
      by_cases hh : shapeE W H xs ys = 0
      · exact hh
      · simp [encE, hh] at h
    have h300 : src.size ≤ 300 := by
      by_cases hh : 300 < src.size
      · simp [encE, hsh, hh] at h
      · omega
    have hn : nums (encS W H xs ys src) = encN W H xs ys src := by
      simp only [encS, h, if_true]
      exact nums_strOf (enc_bytes hsh h300)
    have hz : (encS W H xs ys src).size = 5 + 2 * xs.length + src.size := by
      rw [← nums_length, hn, encN_eq]
      simp only [List.length_cons, (encM_facts hsh h300).1]
      omega
    have := enc_n hsh h300
    exact ⟨h, hsh, h300, hn, by omega, by omega⟩
  · left
    exact ⟨h, by simp only [encS, h, if_false]; rfl⟩

set_option maxHeartbeats 4000000 in
theorem round_walk (W H : Int) (ao bo : Option Addr) (c d : Nat) (xs ys : List Int) (src b : ByteArray) (w : World) (hx : IntsAt w.heap.size w ao xs) (hy : IntsAt w.heap.size w bo ys) (hlx : xs.length ≤ maxLen) (hly : ys.length ≤ maxLen) (hs : src.size ≤ maxLen) (hsb : b.size ≤ maxLen) :
    Calls Try.prog 5 #[.agg #[.int .i64 W, .int .i64 H, .slice ao xs.length c, .slice bo ys.length d, .string src], .string b] w fun e w' => e = .returned (.bool true) ∧ Below w.heap.size w w' := by
  have hb0 : ∀ o, Below w.heap.size w (w.alloc o) := fun o => (Below.refl _ _).alloc (Nat.le_refl _) o
  have hkS := box6 w (.int .i64 W) (.int .i64 H) (.slice ao xs.length c) (.slice bo ys.length d) (.string src)
  go_enter Try.func5, Try.ntmps5
  go_wp2_with fail
  refine (coding_any _).mono ?_
  rintro e w1 ⟨rfl, hb1⟩
  replace hkS := hkS.later hb1 hkS.lt
  have hbw1 := (hb0 _).trans (hb1.mono (by simp))
  clear hb0 hb1
  go_wp2_with fail
  refine (decode_any b _ hsb).mono ?_
  rintro e w2 ⟨hd, hb2⟩
  replace hkS := hkS.later hb2 hkS.lt
  have hbw2 := hbw1.trans (hb2.mono hbw1.size)
  have hba : ∀ o, Below w2.heap.size w2 (w2.alloc o) := fun o => (Below.refl _ _).alloc (Nat.le_refl _) o
  have hlt2 := hkS.lt
  rcases hd.back with ⟨E, hE, rfl⟩ | ⟨x, y, at', bt, ct, dt, xt, yt, st, rfl, it1, it2, lt1, lt2, lt3, et1, et2⟩
  · have hE' : (E == 0) = false := by simpa using hE
    clear hd hb2 hbw1
    obtain ⟨k0, k1, k2, k3, k4⟩ := hkS.cells
    go_wp2_with fail
    have hkS3 := hkS.later (hba (.cells #[.int .i64 0, .int .i64 0, .slice none 0 0, .slice none 0 0, .string ⟨#[]⟩] 24)) hkS.lt
    have hbw3 := hbw2.trans ((hba (.cells #[.int .i64 0, .int .i64 0, .slice none 0 0, .slice none 0 0, .string ⟨#[]⟩] 24)).mono hbw2.size)
    have hx3 := (hx.later hbw3 (Nat.le_refl _)).mono hbw3.size
    have hy3 := (hy.later hbw3 (Nat.le_refl _)).mono hbw3.size
    clear k0 k1 k2 k3 k4 hkS hx hy
    refine (encode_any W H ao bo c d xs ys src _ hx3 hy3 hlx hly hs).mono ?_
    rintro e w4 ⟨rfl, hb4⟩
    have hkS4 := hkS3.later hb4 hkS3.lt
    have hbw4 := hbw3.trans (hb4.mono hbw3.size)
    have hx4 := (hx3.later hb4 (Nat.le_refl _)).mono hb4.size
    have hy4 := (hy3.later hb4 (Nat.le_refl _)).mono hb4.size
    clear hb4 hx3 hy3 hkS3 hbw3
    rcases enc_cases W H xs ys src with ⟨f1, f2⟩ | ⟨f1, sh, h300, fn, z5, z1000⟩
    · rw [f2]
      have f1' : (encE W H xs ys src != 0) = true := by simpa using f1
      clear f1 f2
      go_wp2
      go_ret
      exact ⟨rfl, hbw4⟩
    · rw [f1]
      have h36 := (enc_n sh h300).2.2.2
      have h36y : ys.length ≤ 36 := by have := enc_n sh h300; omega
      have dm := dE_more sh h300
      have dl := dE_less sh h300
      rw [← fn] at dm dl
      have FN := hide fn
      have SH := hide sh
      clear f1 fn sh
      generalize encS W H xs ys src = S at *
      have dm' : dE (nums (S ++ ⟨#[0]⟩)) = 5 := by rw [nums_append]; exact dm
      have dl' : dE (nums (S.extract 0 (S.size - 1))) = 1 := by
        rw [nums_extract, ← nums_length]
        exact dl
      have DM := hide dm'
      have DL := hide dl'
      clear dm dl dm' dl'
      have hne : ¬ S = ByteArray.empty := by rintro rfl; exact absurd z5 (by decide)
      have hemp : S.toList.isEmpty = false := by
        cases hl : S.toList with
        | nil => exact absurd (by have := congrArg List.length hl; rw [ByteArray.toList_eq] at this; simpa using this) (show ¬ S.size = 0 by omega)
        | cons a l => rfl
      go_wp2_with fail
      refine (decode_any S _ (by unfold maxLen; omega)).mono ?_
      rintro e w5 ⟨hd5, hb5⟩
      rw [unhide FN] at hd5
      obtain ⟨a5, b5, c5, d5, rfl, ix5, iy5⟩ := hd5.good (unhide SH) h300
      have hkS5 := hkS4.later hb5 hkS4.lt
      have hbw5 := hbw4.trans (hb5.mono hbw4.size)
      have hx5 := (hx4.later hb5 (Nat.le_refl _)).mono hb5.size
      have hy5 := (hy4.later hb5 (Nat.le_refl _)).mono hb5.size
      have hkU := box6 w5 (.int .i64 W) (.int .i64 H) (.slice a5 xs.length c5) (.slice b5 ys.length d5) (.string src)
      have hbu := (Below.refl w5.heap.size w5).alloc (Nat.le_refl _) (.cells #[.int .i64 W, .int .i64 H, .slice a5 xs.length c5, .slice b5 ys.length d5, .string src] 24)
      clear hd5 hb5 hbw4 hx4 hy4 hkS4
      go_wp2_with fail
      refine (decode_any _ _ (by rw [ByteArray.size_append]; unfold maxLen; show S.size + 1 ≤ _; omega)).mono ?_
      rintro e w6 ⟨hd6, hb6⟩
      obtain rfl := hd6.bad (unhide DM) (by decide)
      have hkU6 := hkU.later hb6 hkU.lt
      have hb56 := hbu.trans (hb6.mono (by simp))
      clear hd6 hb6 hkU hbu
      have hb6a := hb56.alloc hb56.size (.cells #[.int .i64 0, .int .i64 0, .slice none 0 0, .slice none 0 0, .string ⟨#[]⟩] 24)
      have hkU6a := hkU6.later ((Below.refl w6.heap.size w6).alloc (Nat.le_refl _) (.cells #[.int .i64 0, .int .i64 0, .slice none 0 0, .slice none 0 0, .string ⟨#[]⟩] 24)) hkU6.lt
      clear hb56 hkU6
      go_wp2_with fail
      refine (decode_any _ _ (by rw [ByteArray.size_extract]; unfold maxLen; omega)).mono ?_
      rintro e w7 ⟨hd7, hb7⟩
      obtain rfl := hd7.bad (unhide DL) (by decide)
      have hkU7 := hkU6a.later hb7 hkU6a.lt
      have hb57 := hb6a.trans (hb7.mono hb6a.size)
      clear hd7 hb7 hkU6a hb6a
      have hkS7 := hkS5.later hb57 hkS5.lt
      have hbw7 := hbw5.trans (hb57.mono hbw5.size)
      have hx7 := (hx5.later hb57 (Nat.le_refl _)).mono hb57.size
      have hy7 := (hy5.later hb57 (Nat.le_refl _)).mono hb57.size
      have ix7 := (ix5.later hb57 (Nat.le_refl _)).mono hb57.size
      have iy7 := (iy5.later hb57 (Nat.le_refl _)).mono hb57.size
      clear hb57 hkS5 hbw5 hx5 hy5 ix5 iy5
      obtain ⟨k0, k1, k2, k3, k4⟩ := hkS7.cells
      obtain ⟨u0, u1, u2, u3, u4⟩ := hkU7.cells
      have lS := hkS7.lt
      have lU := hkU7.lt
      go_wp2_with fail
      have hbz := (Below.refl w7.heap.size w7).alloc (Nat.le_refl _) (.cells #[.int .i64 0, .int .i64 0, .slice none 0 0, .slice none 0 0, .string ⟨#[]⟩] 24)
      refine (same_keep a5 ao c5 c xs _ ((ix7.later hbz (Nat.le_refl _)).mono hbz.size) ((hx7.later hbz (Nat.le_refl _)).mono hbz.size) (by omega)).mono ?_
      rintro e w8 ⟨rfl, hb8⟩
      have hb78 := hbz.trans (hb8.mono (by simp))
      have hkS8 := hkS7.later hb78 hkS7.lt
      have hkU8 := hkU7.later hb78 hkU7.lt
      have hbw8 := hbw7.trans (hb78.mono hbw7.size)
      have hy8 := (hy7.later hb78 (Nat.le_refl _)).mono hb78.size
      have iy8 := (iy7.later hb78 (Nat.le_refl _)).mono hb78.size
      clear hb78 hb8 hbz hkS7 hkU7 hbw7 hx7 hy7 ix7 iy7 k0 k1 k2 k3 k4 u0 u1 u2 u3 u4 lS lU
      obtain ⟨k0, k1, k2, k3, k4⟩ := hkS8.cells
      obtain ⟨u0, u1, u2, u3, u4⟩ := hkU8.cells
      go_wp2_with fail
      refine (same_keep b5 bo d5 d ys _ iy8 hy8 (by omega)).mono ?_
      rintro e w9 ⟨rfl, hb9⟩
      have hkS9 := hkS8.later hb9 hkS8.lt
      have hkU9 := hkU8.later hb9 hkU8.lt
      have hbw9 := hbw8.trans (hb9.mono hbw8.size)
      clear hb9 hkS8 hkU8 hbw8 hy8 iy8 k0 k1 k2 k3 k4 u0 u1 u2 u3 u4
      obtain ⟨k0, k1, k2, k3, k4⟩ := hkS9.cells
      obtain ⟨u0, u1, u2, u3, u4⟩ := hkU9.cells
      go_wp2
      go_ret
      exact ⟨rfl, hbw9⟩
  · clear hd hb2 hbw1
    obtain ⟨k0, k1, k2, k3, k4⟩ := hkS.cells
    have hkT := box6 w2 (.int .i64 x) (.int .i64 y) (.slice at' xt.length ct) (.slice bt yt.length dt) (.string st)
    have hbt := hba (.cells #[.int .i64 x, .int .i64 y, .slice at' xt.length ct, .slice bt yt.length dt, .string st] 24)
    have ET1 := hide et1
    have ET2 := hide et2
    clear et1 et2
    go_wp2_with fail
    refine (encode_any x y at' bt ct dt xt yt st _ ((it1.later hbt (Nat.le_refl _)).mono hbt.size) ((it2.later hbt (Nat.le_refl _)).mono hbt.size) lt1 lt2 lt3).mono ?_
    rintro e w3 ⟨rfl, hb3⟩
    rw [unhide ET1, unhide ET2]
    have hkS3 := (hkS.later hbt hkS.lt).later hb3 (by have := hkS.lt; simp; omega)
    have hb23 := hbt.trans (hb3.mono (by simp))
    have hbw3 := hbw2.trans (hb23.mono hbw2.size)
    have hx3 := (hx.later hbw3 (Nat.le_refl _)).mono hbw3.size
    have hy3 := (hy.later hbw3 (Nat.le_refl _)).mono hbw3.size
    clear k0 k1 k2 k3 k4 hkS hx hy hkT hbt hb3 hb23 it1 it2 lt1 lt2 lt3
    obtain ⟨k0, k1, k2, k3, k4⟩ := hkS3.cells
    go_wp2_with fail
    clear k0 k1 k2 k3 k4
    refine (encode_any W H ao bo c d xs ys src _ hx3 hy3 hlx hly hs).mono ?_
    rintro e w4 ⟨rfl, hb4⟩
    have hkS4 := hkS3.later hb4 hkS3.lt
    have hbw4 := hbw3.trans (hb4.mono hbw3.size)
    have hx4 := (hx3.later hb4 (Nat.le_refl _)).mono hb4.size
    have hy4 := (hy3.later hb4 (Nat.le_refl _)).mono hb4.size
    clear hb4 hx3 hy3 hkS3 hbw3
    rcases enc_cases W H xs ys src with ⟨f1, f2⟩ | ⟨f1, sh, h300, fn, z5, z1000⟩
    · rw [f2]
      have f1' : (encE W H xs ys src != 0) = true := by simpa using f1
      clear f1 f2
      go_wp2
      go_ret
      exact ⟨rfl, hbw4⟩
    · rw [f1]
      have h36 := (enc_n sh h300).2.2.2
      have h36y : ys.length ≤ 36 := by have := enc_n sh h300; omega
      have dm := dE_more sh h300
      have dl := dE_less sh h300
      rw [← fn] at dm dl
      have FN := hide fn
      have SH := hide sh
      clear f1 fn sh
      generalize encS W H xs ys src = S at *
      have dm' : dE (nums (S ++ ⟨#[0]⟩)) = 5 := by rw [nums_append]; exact dm
      have dl' : dE (nums (S.extract 0 (S.size - 1))) = 1 := by
        rw [nums_extract, ← nums_length]
        exact dl
      have DM := hide dm'
      have DL := hide dl'
      clear dm dl dm' dl'
      have hne : ¬ S = ByteArray.empty := by rintro rfl; exact absurd z5 (by decide)
      have hemp : S.toList.isEmpty = false := by
        cases hl : S.toList with
        | nil => exact absurd (by have := congrArg List.length hl; rw [ByteArray.toList_eq] at this; simpa using this) (show ¬ S.size = 0 by omega)
        | cons a l => rfl
      go_wp2_with fail
      refine (decode_any S _ (by unfold maxLen; omega)).mono ?_
      rintro e w5 ⟨hd5, hb5⟩
      rw [unhide FN] at hd5
      obtain ⟨a5, b5, c5, d5, rfl, ix5, iy5⟩ := hd5.good (unhide SH) h300
      have hkS5 := hkS4.later hb5 hkS4.lt
      have hbw5 := hbw4.trans (hb5.mono hbw4.size)
      have hx5 := (hx4.later hb5 (Nat.le_refl _)).mono hb5.size
      have hy5 := (hy4.later hb5 (Nat.le_refl _)).mono hb5.size
      have hkU := box6 w5 (.int .i64 W) (.int .i64 H) (.slice a5 xs.length c5) (.slice b5 ys.length d5) (.string src)
      have hbu := (Below.refl w5.heap.size w5).alloc (Nat.le_refl _) (.cells #[.int .i64 W, .int .i64 H, .slice a5 xs.length c5, .slice b5 ys.length d5, .string src] 24)
      clear hd5 hb5 hbw4 hx4 hy4 hkS4
      go_wp2_with fail
      refine (decode_any _ _ (by rw [ByteArray.size_append]; unfold maxLen; show S.size + 1 ≤ _; omega)).mono ?_
      rintro e w6 ⟨hd6, hb6⟩
      obtain rfl := hd6.bad (unhide DM) (by decide)
      have hkU6 := hkU.later hb6 hkU.lt
      have hb56 := hbu.trans (hb6.mono (by simp))
      clear hd6 hb6 hkU hbu
      have hb6a := hb56.alloc hb56.size (.cells #[.int .i64 0, .int .i64 0, .slice none 0 0, .slice none 0 0, .string ⟨#[]⟩] 24)
      have hkU6a := hkU6.later ((Below.refl w6.heap.size w6).alloc (Nat.le_refl _) (.cells #[.int .i64 0, .int .i64 0, .slice none 0 0, .slice none 0 0, .string ⟨#[]⟩] 24)) hkU6.lt
      clear hb56 hkU6
      go_wp2_with fail
      refine (decode_any _ _ (by rw [ByteArray.size_extract]; unfold maxLen; omega)).mono ?_
      rintro e w7 ⟨hd7, hb7⟩
      obtain rfl := hd7.bad (unhide DL) (by decide)
      have hkU7 := hkU6a.later hb7 hkU6a.lt
      have hb57 := hb6a.trans (hb7.mono hb6a.size)
      clear hd7 hb7 hkU6a hb6a
      have hkS7 := hkS5.later hb57 hkS5.lt
      have hbw7 := hbw5.trans (hb57.mono hbw5.size)
      have hx7 := (hx5.later hb57 (Nat.le_refl _)).mono hb57.size
      have hy7 := (hy5.later hb57 (Nat.le_refl _)).mono hb57.size
      have ix7 := (ix5.later hb57 (Nat.le_refl _)).mono hb57.size
      have iy7 := (iy5.later hb57 (Nat.le_refl _)).mono hb57.size
      clear hb57 hkS5 hbw5 hx5 hy5 ix5 iy5
      obtain ⟨k0, k1, k2, k3, k4⟩ := hkS7.cells
      obtain ⟨u0, u1, u2, u3, u4⟩ := hkU7.cells
      have lS := hkS7.lt
      have lU := hkU7.lt
      go_wp2_with fail
      have hbz := (Below.refl w7.heap.size w7).alloc (Nat.le_refl _) (.cells #[.int .i64 0, .int .i64 0, .slice none 0 0, .slice none 0 0, .string ⟨#[]⟩] 24)
      refine (same_keep a5 ao c5 c xs _ ((ix7.later hbz (Nat.le_refl _)).mono hbz.size) ((hx7.later hbz (Nat.le_refl _)).mono hbz.size) (by omega)).mono ?_
      rintro e w8 ⟨rfl, hb8⟩
      have hb78 := hbz.trans (hb8.mono (by simp))
      have hkS8 := hkS7.later hb78 hkS7.lt
      have hkU8 := hkU7.later hb78 hkU7.lt
      have hbw8 := hbw7.trans (hb78.mono hbw7.size)
      have hy8 := (hy7.later hb78 (Nat.le_refl _)).mono hb78.size
      have iy8 := (iy7.later hb78 (Nat.le_refl _)).mono hb78.size
      clear hb78 hb8 hbz hkS7 hkU7 hbw7 hx7 hy7 ix7 iy7 k0 k1 k2 k3 k4 u0 u1 u2 u3 u4 lS lU
      obtain ⟨k0, k1, k2, k3, k4⟩ := hkS8.cells
      obtain ⟨u0, u1, u2, u3, u4⟩ := hkU8.cells
      go_wp2_with fail
      refine (same_keep b5 bo d5 d ys _ iy8 hy8 (by omega)).mono ?_
      rintro e w9 ⟨rfl, hb9⟩
      have hkS9 := hkS8.later hb9 hkS8.lt
      have hkU9 := hkU8.later hb9 hkU8.lt
      have hbw9 := hbw8.trans (hb9.mono hbw8.size)
      clear hb9 hkS8 hkU8 hbw8 hy8 iy8 k0 k1 k2 k3 k4 u0 u1 u2 u3 u4
      obtain ⟨k0, k1, k2, k3, k4⟩ := hkS9.cells
      obtain ⟨u0, u1, u2, u3, u4⟩ := hkU9.cells
      go_wp2
      go_ret
      exact ⟨rfl, hbw9⟩

set_option maxRecDepth 100000 in
theorem round_lifted (os : Os) (started : os.Started) (H : Type) (enc : TypeId × Value → H) :
    ReturnsInHanded {} Try.checked os 5 .any (Rows.roundSpec.pre6 enc Try.prog Try.f5 Rows.roundRow.domain false) (Rows.roundSpec.post enc Try.prog Try.f5 false true false false) := by
  refine returnsInHanded_of_change (C := Try.checked) own started (by kernel_rfl) Try.func5
    (ChangeSpec.witness6 (enc := enc) (C := Try.checked) false ⟨#[], #[.agg #[.int .i64 0, .int .i64 0, .slice none 0 0, .slice none 0 0, .string .empty], .string .empty], []⟩ 8 (by kernel_rfl) (by kernel_rfl) (by kernel_rfl) (by kernel_rfl)) ?_
  intro W base args ds gs before hval0 hW _ _
  have hval : ∀ (j : Nat) t v, Try.f5.params[j]? = some t → args[j]? = some v → Value.okWide Try.prog W .any base t v := hval0
  have hW' := hW
  obtain ⟨p, q, hA0, hV, rfl, hfz, hnd⟩ := hW
  have hA : DataW.TrodAll enc Try.prog W 0 (fun _ => true) true Try.f5.params.toList args.toList ds p := hA0
  rw [Try.params5] at hA hval
  obtain ⟨v0, vs0, d0, ds0, p0, q0, hargs, rfl, rfl, h0, r0⟩ := trodAll_cons hA
  obtain ⟨v1, vs1, d1, ds1, p1, q1, rfl, rfl, rfl, h1, r1⟩ := trodAll_cons r0
  obtain ⟨rfl, rfl, rfl⟩ := trodAll_nil r1
  obtain rfl : args = #[v0, v1] := by cases args; simp_all
  obtain ⟨rfl, rfl⟩ := trodVars_none hV
  have k0 := h0
  have lt0 : ∀ x ∈ p0, x.block < W.heap.size := by obtain ⟨m, hm⟩ := k0; exact DataW.trod_lt m _ _ _ hm
  have k1 := h1
  have lt1 : ∀ x ∈ p1, x.block < W.heap.size := by obtain ⟨m, hm⟩ := k1; exact DataW.trod_lt m _ _ _ hm
  obtain ⟨sw, sh, ao, bo, c, e, xs, ys, src, rfl, hx, hy, lx, ly, ls, _, _, _, _⟩ := open_scene (hval 0 24 v0 rfl rfl) h0
  obtain ⟨b, rfl, _, _, hs⟩ := open_string Try.underlying9 (hval 1 9 v1 rfl rfl) h1
  clear hA0 hval0
  refine (round_walk sw sh ao bo c e xs ys src b W hx hy lx ly ls hs).mono fun e W' ⟨he, bel⟩ => ?_
  subst he
  exact ⟨_, rfl, _, _, _, [], _, [], hW', trodAll_mk1 (shut_bool Try.underlying4 _), (trodAll_cons_mk (Below.trod laidOut (by kernel_rfl) (of_decide_eq_true (by kernel_rfl)) k0 bel lt0) (trodAll_cons_mk (Below.trod laidOut (by kernel_rfl) (of_decide_eq_true (by kernel_rfl)) k1 bel lt1) trodAll_mk0)), rfl, bel.frame _, fun h => by cases h⟩

theorem round_holds : Rows.RoundSaid :=
  OpenClaim.holds_of_wide 5 Try.f5 rfl rfl rfl rfl rfl rfl rfl ⟨rfl, rfl, rfl, rfl, rfl⟩ rfl rfl rfl rfl rfl (by kernel_rfl) Try.func5 (by kernel_rfl)
    (of_decide_eq_true (by kernel_rfl)) (by unfold Func.isWrapper; first | (rw [if_pos (by decide +kernel)]; kernel_rfl) | (rw [if_neg (by decide +kernel)]; exact ⟨rfl, rfl⟩))
    (fun os started H enc _ => round_lifted os started H enc)
#print axioms round_holds

end Go.Proofs.Ythmmgiaobakilaa
