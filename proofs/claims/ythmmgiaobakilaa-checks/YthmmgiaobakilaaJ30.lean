import Derived.Test.YthmmgiaobakilaaJ12
import Derived.Test.YthmmgiaobakilaaJ29
import Derived.Lib.DecodeN
/- The project's runes are the document's signs. -/
set_option maxRecDepth 100000
namespace Go.Proofs.Ythmmgiaobakilaa
open Go.RowKit Go.Shelf

theorem get_list (s : ByteArray) (i : Nat) (h : i < s.size) : s.data.toList[i]? = some (s.get! i) := by
  have h' : i < s.data.size := h
  rw [Array.getElem?_toList, Array.getElem?_eq_getElem h']
  congr 1
  show s.data[i] = s.data[i]!
  rw [getElem!_pos s.data i h']
theorem okS_iff (s : ByteArray) (a : Nat) (g : ByteArray) : okS s a g = true ↔ a + g.size ≤ s.size ∧ ∀ j, j < g.size → s.get! (a + j) = g.get! j := by
  unfold okS
  rw [Bool.and_eq_true, decide_eq_true_eq, beq_iff_eq, ByteArray.toList_eq, ByteArray.toList_eq]
  refine and_congr_right fun hl => ?_
  have hz : (s.extract a (a + g.size)).data.toList.length = g.size := by
    have : (s.extract a (a + g.size)).size = g.size := by rw [ByteArray.size_extract]; omega
    rw [Array.length_toList]; exact this
  have hx : ∀ j, j < g.size → (s.extract a (a + g.size)).data.toList[j]? = some (s.get! (a + j)) := by
    intro j hj
    rw [← get_list s (a + j) (by omega), ByteArray.data_extract, Array.toList_extract, List.extract_eq_take_drop, List.getElem?_take, if_pos (by omega), List.getElem?_drop]
  constructor
  · intro h j hj
    have e := hx j hj
    rw [h, get_list g j hj] at e
    exact (Option.some.inj e).symm
  · intro h
    apply List.ext_getElem?
    intro j
    by_cases hj : j < g.size
    · rw [hx j hj, get_list g j hj, h j hj]
    · rw [List.getElem?_eq_none (by omega), List.getElem?_eq_none (by rw [Array.length_toList]; exact Nat.le_of_not_lt hj)]

open Go.Lib in
theorem dn1 (n b0 b1 b2 b3 r : Nat) (hr : r < 128) : b0 = r ↔ decodeN n b0 b1 b2 b3 = (r, 1) := by
  unfold decodeN
  constructor
  · rintro rfl; rw [if_pos hr]
  · intro h
    repeat' split at h
    all_goals (simp only [Prod.mk.injEq] at h; omega)
open Go.Lib in
theorem dn2 (n b0 b1 b2 b3 r : Nat) (h1 : b1 < 256) (hr : 128 ≤ r ∧ r < 2048) : (2 ≤ n ∧ b0 = 192 + r / 64 ∧ b1 = 128 + r % 64) ↔ decodeN n b0 b1 b2 b3 = (r, 2) := by
  unfold decodeN
  constructor
  · rintro ⟨hn, rfl, rfl⟩
    rw [if_neg (by omega), if_pos (by omega), if_pos (by omega)]
    refine Prod.ext ?_ rfl
    show _ = r
    omega
  · intro h
    repeat' split at h
    all_goals (simp only [Prod.mk.injEq] at h; omega)
open Go.Lib in
theorem dn3 (n b0 b1 b2 b3 r : Nat) (h1 : b1 < 256) (h2 : b2 < 256) (hr : 2048 ≤ r ∧ r < 55296) : (3 ≤ n ∧ b0 = 224 + r / 4096 ∧ b1 = 128 + r / 64 % 64 ∧ b2 = 128 + r % 64) ↔ decodeN n b0 b1 b2 b3 = (r, 3) := by
  unfold decodeN
  constructor
  · rintro ⟨hn, rfl, rfl, rfl⟩
    rw [if_neg (by omega), if_neg (by omega), if_pos (by omega), if_pos (by omega)]
    refine Prod.ext ?_ rfl
    show _ = r
    omega
  · intro h
    repeat' split at h
    all_goals (simp only [Prod.mk.injEq] at h; omega)
open Go.Lib in
theorem dnw (n b0 b1 b2 b3 r k : Nat) (h : decodeN n b0 b1 b2 b3 = (r, k)) (hr : r < 55296) : k = if r < 128 then 1 else if r < 2048 then 2 else 3 := by
  unfold decodeN at h
  repeat' split at h
  all_goals (simp only [Prod.mk.injEq] at h; repeat' split)
  all_goals omega

theorem gb (s : ByteArray) (i : Nat) : (s.get! i).toNat < 256 := UInt8.toNat_lt _
theorem u8n {a b : UInt8} : a = b ↔ a.toNat = b.toNat := ⟨fun h => by rw [h], fun h => UInt8.toNat_inj.1 h⟩
theorem ok1 (s : ByteArray) (a : Nat) (x : UInt8) (r : Nat) (ha : a < s.size) (hr : r < 128) (hx : x.toNat = r) : okS s a ⟨#[x]⟩ = true ↔ Utf8.decode s a = (r, 1) := by
  rw [okS_iff, Lib.decode_at, ← dn1 _ _ _ _ _ r hr, ← hx, ← u8n]
  constructor
  · rintro ⟨_, h⟩; exact h 0 (Nat.zero_lt_one)
  · intro h
    refine ⟨ha, fun j hj => ?_⟩
    have : j = 0 := by have : j < 1 := hj; omega
    subst this
    exact h
theorem ok2 (s : ByteArray) (a : Nat) (x y : UInt8) (r : Nat) (ha : a < s.size) (hr : 128 ≤ r ∧ r < 2048) (hx : x.toNat = 192 + r / 64) (hy : y.toNat = 128 + r % 64) : okS s a ⟨#[x, y]⟩ = true ↔ Utf8.decode s a = (r, 2) := by
  rw [okS_iff, Lib.decode_at, ← dn2 _ _ _ _ _ r (gb _ _) hr, ← hx, ← hy, ← u8n, ← u8n]
  constructor
  · rintro ⟨h0, h⟩
    have h0' : a + 2 ≤ s.size := h0
    exact ⟨by omega, h 0 (show 0 < 2 by omega), h 1 (show 1 < 2 by omega)⟩
  · rintro ⟨h0, h1, h2⟩
    refine ⟨(show a + 2 ≤ s.size by omega), fun j hj => ?_⟩
    have hj' : j < 2 := hj
    rcases (show j = 0 ∨ j = 1 by omega) with rfl | rfl
    · exact h1
    · exact h2
theorem ok3 (s : ByteArray) (a : Nat) (x y z : UInt8) (r : Nat) (ha : a < s.size) (hr : 2048 ≤ r ∧ r < 55296) (hx : x.toNat = 224 + r / 4096) (hy : y.toNat = 128 + r / 64 % 64) (hz : z.toNat = 128 + r % 64) : okS s a ⟨#[x, y, z]⟩ = true ↔ Utf8.decode s a = (r, 3) := by
  rw [okS_iff, Lib.decode_at, ← dn3 _ _ _ _ _ r (gb _ _) (gb _ _) hr, ← hx, ← hy, ← hz, ← u8n, ← u8n, ← u8n]
  constructor
  · rintro ⟨h0, h⟩
    have h0' : a + 3 ≤ s.size := h0
    exact ⟨by omega, h 0 (show 0 < 3 by omega), h 1 (show 1 < 3 by omega), h 2 (show 2 < 3 by omega)⟩
  · rintro ⟨h0, h1, h2, h3⟩
    refine ⟨(show a + 3 ≤ s.size by omega), fun j hj => ?_⟩
    have hj' : j < 3 := hj
    rcases (show j = 0 ∨ j = 1 ∨ j = 2 by omega) with rfl | rfl | rfl
    · exact h1
    · exact h2
    · exact h3
theorem runeOf_at (k : Nat) (hk : k < 18) : runeOf (signs.getD k ⟨#[]⟩) = runesL.getD k 0 := by
  have t := rune_table
  have : (signs.map runeOf)[k]? = runesL[k]? := by rw [t]
  rw [List.getElem?_map] at this
  simp only [List.getD]
  rw [← this, List.getElem?_eq_getElem (show k < signs.length from hk)]
  rfl
/-- A sign stands at a place if its rune is read there, and its width. -/
theorem ok_dec (s : ByteArray) (a : Nat) (ha : a < s.size) (g : ByteArray) (hg : g ∈ signs) : okS s a g = true ↔ Utf8.decode s a = ((runeOf g).toNat, g.size) := by
  obtain ⟨k, hk, rfl⟩ := List.getElem_of_mem hg
  have e : signs[k] = signs.getD k ⟨#[]⟩ := by simp [List.getD, List.getElem?_eq_getElem hk]
  rw [e, runeOf_at k hk]
  have hk' : k < 18 := hk
  rcases (show k = 0 ∨ k = 1 ∨ k = 2 ∨ k = 3 ∨ k = 4 ∨ k = 5 ∨ k = 6 ∨ k = 7 ∨ k = 8 ∨ k = 9 ∨ k = 10 ∨ k = 11 ∨ k = 12 ∨ k = 13 ∨ k = 14 ∨ k = 15 ∨ k = 16 ∨ k = 17 by omega) with rfl | rfl | rfl | rfl | rfl | rfl | rfl | rfl | rfl | rfl | rfl | rfl | rfl | rfl | rfl | rfl | rfl | rfl
  · exact ok3 s a 226 134 144 8592 ha (by decide) (by decide) (by decide) (by decide)
  · exact ok3 s a 226 128 166 8230 ha (by decide) (by decide) (by decide) (by decide)
  · exact ok2 s a 195 151 215 ha (by decide) (by decide) (by decide)
  · exact ok2 s a 195 183 247 ha (by decide) (by decide) (by decide)
  · exact ok3 s a 226 137 164 8804 ha (by decide) (by decide) (by decide) (by decide)
  · exact ok3 s a 226 137 160 8800 ha (by decide) (by decide) (by decide) (by decide)
  · exact ok1 s a 43 43 ha (by decide) (by decide)
  · exact ok1 s a 45 45 ha (by decide) (by decide)
  · exact ok1 s a 61 61 ha (by decide) (by decide)
  · exact ok1 s a 60 60 ha (by decide) (by decide)
  · exact ok1 s a 40 40 ha (by decide) (by decide)
  · exact ok1 s a 41 41 ha (by decide) (by decide)
  · exact ok1 s a 123 123 ha (by decide) (by decide)
  · exact ok1 s a 125 125 ha (by decide) (by decide)
  · exact ok1 s a 91 91 ha (by decide) (by decide)
  · exact ok1 s a 93 93 ha (by decide) (by decide)
  · exact ok1 s a 44 44 ha (by decide) (by decide)
  · exact ok1 s a 59 59 ha (by decide) (by decide)
/-- No sign: no rune of a sign is read. -/
theorem sign_none (s : ByteArray) (a : Nat) (ha : a < s.size) (h : ¬ 0 < (signF s a).size) : ((Utf8.decode s a).1 : Int) ∉ runesK := by
  intro hm
  obtain ⟨k, hk, e⟩ := List.getElem_of_mem hm
  have hk' : k < 18 := hk
  have hr : runesK[k] = runesL.getD k 0 := by
    have : runesK = runesL := rfl
    simp only [this, List.getD, List.getElem?_eq_getElem (show k < runesL.length from hk), Option.getD_some]
  have hw := dnw _ _ _ _ _ (Utf8.decode s a).1 (Utf8.decode s a).2 (Lib.decode_at s a).symm
  have hle : ∀ k, k < 18 → 0 ≤ runesL.getD k 0 ∧ runesL.getD k 0 < 55296 ∧ (signs.getD k ⟨#[]⟩).size = (if (runesL.getD k 0).toNat < 128 then 1 else if (runesL.getD k 0).toNat < 2048 then 2 else 3) := by decide
  obtain ⟨l0, l1, l2⟩ := hle k hk'
  have e' : (Utf8.decode s a).1 = (runesL.getD k 0).toNat := by omega
  have hk2 : k < signs.length := hk
  have hmem : signs.getD k ⟨#[]⟩ ∈ signs := by
    have hge : signs.getD k ⟨#[]⟩ = signs[k] := by simp [List.getD, List.getElem?_eq_getElem hk2]
    rw [hge]
    exact List.getElem_mem hk2
  have ok : okS s a (signs.getD k ⟨#[]⟩) = true := by
    rw [ok_dec s a ha _ hmem, runeOf_at k hk', l2, ← e', ← hw (by omega)]
  apply h
  unfold signF
  cases hf : signs.find? (okS s a) with
  | none =>
    have := List.find?_eq_none.1 hf _ hmem
    exact absurd ok this
  | some g =>
    have hg := List.mem_of_find?_eq_some hf
    have : ∀ g ∈ signs, 0 < g.size := by decide
    exact this g hg
/-- A sign: its rune is read, its width too. -/
theorem sign_some (s : ByteArray) (a : Nat) (ha : a < s.size) (h : 0 < (signF s a).size) : Utf8.decode s a = ((runeOf (signF s a)).toNat, (signF s a).size) ∧ signF s a ∈ signs := by
  unfold signF at h ⊢
  cases hf : signs.find? (okS s a) with
  | none => rw [hf] at h; exact absurd h (by decide)
  | some g => exact ⟨(ok_dec s a ha g (List.mem_of_find?_eq_some hf)).1 (List.find?_some hf), List.mem_of_find?_eq_some hf⟩

end Go.Proofs.Ythmmgiaobakilaa
