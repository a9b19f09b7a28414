import Derived.Test.YthmmgiaobakilaaJ30
/- The project's scan is the document's lex. -/
set_option maxRecDepth 100000
namespace Go.Proofs.Ythmmgiaobakilaa
open Go.RowKit Go.Shelf

def isL (d : Bool) (x : Int) : Bool := if d then digB x else letB x
theorem row_in (d : Bool) : ∀ (L : List Int) (j : Nat), j < rowN d L → isL d (L.getD j 0) = true
  | [], j, h => by simp [rowN] at h
  | x :: L, j, h => by
    unfold rowN at h
    rw [List.takeWhile_cons] at h
    cases hx : isL d x with
    | false =>
      have hx' : (if d = true then digB x else letB x) = false := hx
      rw [hx'] at h
      simp at h
    | true =>
      have hx' : (if d = true then digB x else letB x) = true := hx
      rw [hx'] at h
      cases j with
      | zero => exact hx
      | succ j =>
        have := row_in d L j (by unfold rowN; simpa using h)
        simpa using this
theorem row_end (d : Bool) : ∀ (L : List Int), rowN d L < L.length → isL d (L.getD (rowN d L) 0) = false
  | [], h => by simp at h
  | x :: L, h => by
    cases hx : isL d x with
    | false =>
      have hx' : (if d = true then digB x else letB x) = false := hx
      have : rowN d (x :: L) = 0 := by unfold rowN; rw [List.takeWhile_cons, hx']; rfl
      rw [this]
      exact hx
    | true =>
      have hx' : (if d = true then digB x else letB x) = true := hx
      have : rowN d (x :: L) = rowN d L + 1 := by unfold rowN; rw [List.takeWhile_cons, hx']; rfl
      rw [this] at h ⊢
      have := row_end d L (by simpa using h)
      simpa using this
theorem num_at (s : ByteArray) (a : Nat) (ha : a < s.size) : (nums s).getD a 0 = ((s.get! a).toNat : Int) := by
  unfold nums
  simp only [List.getD, List.getElem?_map, get_list s a ha]
  rfl
theorem dec_low (s : ByteArray) (a : Nat) (h : (s.get! a).toNat < 128) : Utf8.decode s a = ((s.get! a).toNat, 1) := by
  rw [Lib.decode_at]
  exact (dn1 _ _ _ _ _ _ h).1 rfl
theorem dec_hi (s : ByteArray) (a : Nat) (h : ¬ (s.get! a).toNat < 128) : 128 ≤ (Utf8.decode s a).1 := by
  rw [Lib.decode_at]
  unfold Lib.decodeN
  repeat' split
  all_goals first | omega | (exfalso; omega)
/-- A rune more. -/
theorem fold_one (s : ByteArray) (m a : Nat) (σ : List GT × Int) (hm : s.size ≤ m + a) (ha : a < s.size) : (decs s m a).foldl nextG (.ok σ) = (decs s (m - 1) (a + (Utf8.decode s a).2)).foldl nextG (stepG σ ((a : Int), ((Utf8.decode s a).1 : Int))) := by
  rw [decs_more s m a hm ha]
  rfl
theorem fold_low (s : ByteArray) (m a : Nat) (σ : List GT × Int) (hm : s.size ≤ m + a) (ha : a < s.size) (h : (s.get! a).toNat < 128) : (decs s m a).foldl nextG (.ok σ) = (decs s (m - 1) (a + 1)).foldl nextG (stepG σ ((a : Int), ((s.get! a).toNat : Int))) := by
  rw [fold_one s m a σ hm ha, dec_low s a h]
theorem extract_more (s : ByteArray) (a k : Nat) (h : a + k < s.size) : s.extract a (a + (k + 1)) = s.extract a (a + k) ++ ⟨#[s.get! (a + k)]⟩ := by
  apply ByteArray.ext
  apply Array.toList_inj.1
  rw [ByteArray.data_append, Array.toList_append, ByteArray.data_extract, ByteArray.data_extract, Array.toList_extract, Array.toList_extract, List.extract_eq_take_drop, List.extract_eq_take_drop]
  rw [show a + (k + 1) - a = k + 1 by omega, show a + k - a = k by omega, List.take_add_one, List.getElem?_drop, get_list s (a + k) h]
  rfl
theorem kOf_let (r : Int) (h : letB r = true) : kOf r = 2 := by
  unfold letB at h
  simp only [Bool.and_eq_true, decide_eq_true_eq] at h
  unfold kOf
  rw [if_neg (by omega), if_neg ?_, if_pos h]
  unfold runesK
  simp only [List.mem_cons, List.not_mem_nil, or_false, not_or]
  omega
theorem kOf_dig (r : Int) (h : digB r = true) : kOf r = 3 := by
  unfold digB at h
  simp only [Bool.and_eq_true, decide_eq_true_eq] at h
  unfold kOf
  rw [if_neg (by omega), if_neg ?_, if_neg (by omega), if_pos h]
  unfold runesK
  simp only [List.mem_cons, List.not_mem_nil, or_false, not_or]
  omega
theorem byte_back (x : UInt8) : ((x.toNat : Int)).toNat.toUInt8 = x := by
  show (x.toNat).toUInt8 = x
  exact UInt8.ofNat_toNat
def wordG (s : ByteArray) (a k : Nat) : GT := ⟨2, a, s.extract a (a + k), 0, 0⟩
theorem put_word (l : List GT) (t : GT) (r k : Int) (h : t.k = 2) (hn : t.n = 0) : putG l t r k = .ok (l ++ [{ t with wd := t.wd ++ ⟨#[r.toNat.toUInt8]⟩ }], k) := by
  have e : addG t r = { t with wd := t.wd ++ ⟨#[r.toNat.toUInt8]⟩ } := by unfold addG; rw [if_pos h]
  unfold putG
  rw [e, if_neg (by show ¬ 65535 < t.n; omega)]
theorem put_num (l : List GT) (t : GT) (r k : Int) (h : t.k = 3) : putG l t r k = if 65535 < 10 * t.n + r - 48 then .error t.p else .ok (l ++ [{ t with n := 10 * t.n + r - 48 }], k) := by
  have e : addG t r = { t with n := 10 * t.n + r - 48 } := by unfold addG; rw [if_neg (by omega), if_pos h]
  unfold putG
  rw [e]
theorem put_sign (l : List GT) (t : GT) (r k : Int) (h : t.k = 4) (hn : t.n = 0) : putG l t r k = .ok (l ++ [{ t with s := r }], k) := by
  have e : addG t r = { t with s := r } := by unfold addG; rw [if_neg (by omega), if_neg (by omega)]
  unfold putG
  rw [e, if_neg (by show ¬ 65535 < t.n; omega)]
theorem last_put (l : List GT) (t : GT) (r k : Int) : lastG (l ++ [t]) r k = putG l t r k := by
  unfold lastG
  rw [List.getLast?_concat]
  show putG (l ++ [t]).dropLast t r k = _
  rw [List.dropLast_concat]
theorem step_new (σ : List GT × Int) (x : Int × Int) (k : Int) (hk : kOf x.2 = k) (h0 : k ≠ 0) (h1 : k ≠ 1) (h : k = 4 ∨ k ≠ σ.2) : stepG σ x = putG σ.1 (newG k x.1) x.2 k := by
  unfold stepG
  rw [hk, if_neg h0, if_neg h1, if_pos h]
theorem step_same (l : List GT) (t : GT) (x : Int × Int) (k : Int) (hk : kOf x.2 = k) (h0 : k ≠ 0) (h1 : k ≠ 1) (h4 : k ≠ 4) : stepG (l ++ [t], k) x = putG l t x.2 k := by
  unfold stepG
  rw [hk, if_neg h0, if_neg h1, if_neg (by intro h; rcases h with h | h; exact h4 h; exact h rfl), last_put]
theorem extract_none (s : ByteArray) (a : Nat) : s.extract a (a + 0) = ⟨#[]⟩ := by
  apply ByteArray.ext
  apply Array.toList_inj.1
  rw [ByteArray.data_extract, Array.toList_extract, List.extract_eq_take_drop, show a + 0 - a = 0 by omega, List.take_zero]
/-- The letters of a word, one after another. -/
theorem word_go (s : ByteArray) (a m : Nat) (acc : List GT) (b : Int) (hb : b ≠ 2) (hm : s.size ≤ m + a) : ∀ k, 1 ≤ k → a + k ≤ s.size → (∀ j, j < k → letB ((nums s).getD (a + j) 0) = true) →
    (decs s m a).foldl nextG (.ok (acc, b)) = (decs s (m - k) (a + k)).foldl nextG (.ok (acc ++ [wordG s a k], 2))
  | 0, h, _, _ => by omega
  | 1, _, hk, hl => by
    have h0 := hl 0 (by omega)
    rw [Nat.add_zero, num_at s a (by omega)] at h0
    have hk2 := kOf_let _ h0
    have hlow : (s.get! a).toNat < 128 := by unfold letB at h0; simp only [Bool.and_eq_true, decide_eq_true_eq] at h0; omega
    rw [fold_low s m a _ hm (by omega) hlow, step_new _ _ 2 hk2 (by decide) (by decide) (.inr (fun e => hb e.symm)), put_word _ _ _ _ rfl rfl, byte_back]
    have e1 : s.extract a (a + 1) = ⟨#[]⟩ ++ ⟨#[s.get! a]⟩ := by
      have := extract_more s a 0 (by omega)
      rw [extract_none] at this
      exact this
    unfold wordG
    rw [e1]
    rfl
  | k + 2, _, hk, hl => by
    rw [word_go s a m acc b hb hm (k + 1) (by omega) (by omega) (fun j hj => hl j (by omega))]
    have h0 := hl (k + 1) (by omega)
    rw [num_at s (a + (k + 1)) (by omega)] at h0
    have hk2 := kOf_let _ h0
    have hlow : (s.get! (a + (k + 1))).toNat < 128 := by unfold letB at h0; simp only [Bool.and_eq_true, decide_eq_true_eq] at h0; omega
    rw [fold_low s _ _ _ (by omega) (by omega) hlow, show m - (k + 1) - 1 = m - (k + 2) by omega, show a + (k + 1) + 1 = a + (k + 2) by omega, step_same _ _ _ 2 hk2 (by decide) (by decide) (by decide), put_word _ _ _ _ rfl rfl, byte_back]
    have e1 := extract_more s a (k + 1) (by omega)
    unfold wordG
    rw [e1]
def numG (s : ByteArray) (a k : Nat) : GT := ⟨3, a, ⟨#[]⟩, numV (((nums s).drop a).take k), 0⟩
theorem numV_more (s : ByteArray) (a k : Nat) (h : a + k < s.size) : numV (((nums s).drop a).take (k + 1)) = min (10 * numV (((nums s).drop a).take k) + (((s.get! (a + k)).toNat : Int) - 48)) 65536 := by
  rw [numV_take_succ _ _ (by rw [List.length_drop, nums_length]; omega)]
  congr 3
  rw [← num_at s (a + k) h]
  simp only [List.getD, List.getElem?_drop]
/-- The digits of a number, one after another: it is told where it is too big. -/
theorem num_go (s : ByteArray) (a m : Nat) (acc : List GT) (b : Int) (hb : b ≠ 3) (hm : s.size ≤ m + a) : ∀ k, 1 ≤ k → a + k ≤ s.size → (∀ j, j < k → digB ((nums s).getD (a + j) 0) = true) →
    (decs s m a).foldl nextG (.ok (acc, b)) = if 65535 < numV (((nums s).drop a).take k) then .error (a : Int) else (decs s (m - k) (a + k)).foldl nextG (.ok (acc ++ [numG s a k], 3))
  | 0, h, _, _ => by omega
  | 1, _, hk, hl => by
    have h0 := hl 0 (by omega)
    rw [Nat.add_zero, num_at s a (by omega)] at h0
    have hk2 := kOf_dig _ h0
    have hd : 48 ≤ (s.get! a).toNat ∧ (s.get! a).toNat ≤ 57 := by unfold digB at h0; simp only [Bool.and_eq_true, decide_eq_true_eq] at h0; omega
    have e1 : numV (((nums s).drop a).take 1) = min (10 * 0 + (((s.get! a).toNat : Int) - 48)) 65536 := numV_more s a 0 (by omega)
    have e2 : numV (((nums s).drop a).take 1) = 10 * 0 + ((s.get! a).toNat : Int) - 48 := by rw [e1]; omega
    rw [fold_low s m a _ hm (by omega) (by omega), step_new _ _ 3 hk2 (by decide) (by decide) (.inr (fun e => hb e.symm)), put_num _ _ _ _ rfl]
    unfold numG
    rw [e2, if_neg (show ¬ 65535 < 10 * (newG 3 (a : Int)).n + ((s.get! a).toNat : Int) - 48 from (by show ¬ 65535 < 10 * (0 : Int) + ((s.get! a).toNat : Int) - 48; omega)), if_neg (by omega)]
    rfl
  | k + 2, _, hk, hl => by
    rw [num_go s a m acc b hb hm (k + 1) (by omega) (by omega) (fun j hj => hl j (by omega))]
    have h0 := hl (k + 1) (by omega)
    rw [num_at s (a + (k + 1)) (by omega)] at h0
    have hk2 := kOf_dig _ h0
    have hd : 48 ≤ (s.get! (a + (k + 1))).toNat ∧ (s.get! (a + (k + 1))).toNat ≤ 57 := by unfold digB at h0; simp only [Bool.and_eq_true, decide_eq_true_eq] at h0; omega
    have e1 := numV_more s a (k + 1) (by omega)
    by_cases hbig : 65535 < numV (((nums s).drop a).take (k + 1))
    · rw [if_pos hbig, if_pos (by rw [e1]; omega)]
    · rw [if_neg hbig]
      rw [fold_low s _ _ _ (by omega) (by omega) (by omega), show m - (k + 1) - 1 = m - (k + 2) by omega, show a + (k + 1) + 1 = a + (k + 2) by omega, step_same _ _ _ 3 hk2 (by decide) (by decide) (by decide), put_num _ _ _ _ rfl]
      by_cases hb2 : 65535 < 10 * numV (((nums s).drop a).take (k + 1)) + ((s.get! (a + (k + 1))).toNat : Int) - 48
      · rw [if_pos (show 65535 < numV (((nums s).drop a).take (k + 2)) by rw [e1]; omega), if_pos (show 65535 < 10 * (numG s a (k + 1)).n + _ - 48 from hb2)]
        exact foldl_err _ _
      · have e2 : numV (((nums s).drop a).take (k + 2)) = 10 * numV (((nums s).drop a).take (k + 1)) + ((s.get! (a + (k + 1))).toNat : Int) - 48 := by rw [e1]; omega
        rw [if_neg (show ¬ 65535 < numV (((nums s).drop a).take (k + 2)) by rw [e2]; exact hb2), if_neg (show ¬ 65535 < 10 * (numG s a (k + 1)).n + _ - 48 from hb2)]
        unfold numG
        rw [e2]

def gtT (t : Tok) : GT := ⟨kP t, t.place, wP t, nP t, sP t⟩
theorem word_tok (s : ByteArray) (a : Nat) (ha : a ≤ s.size) : gtT (wordTok s a) = wordG s a (wordAt s a).size := by
  have e : s.extract a (a + (wordAt s a).size) = wordAt s a := by rw [(word_size s a ha).1]; rfl
  unfold gtT wordG
  rw [e]
  unfold wordTok
  cases memB (wordAt s a) kws <;> rfl
theorem num_tok (s : ByteArray) (a : Nat) (ha : a ≤ s.size) : gtT (numTok s a) = numG s a (numAt s a).size := by
  have e : nums (numAt s a) = ((nums s).drop a).take (numAt s a).size := by
    rw [(num_size s a ha).1, numAt, nums_extract, show a + rowN true ((nums s).drop a) - a = rowN true ((nums s).drop a) by omega]
  unfold numG
  rw [← e]
  rfl
theorem sign_tok (s : ByteArray) (a : Nat) : gtT (signTok s a) = ⟨4, a, ⟨#[]⟩, 0, runeOf (signF s a)⟩ := rfl
/-- What lex answers, and the fold from the same place. -/
def lexIs (s : ByteArray) (x : Except Int (List GT × Int)) : Option (List Tok) × Nat → Prop
  | (some l, p) => p = s.size ∧ ∃ b, x = .ok (l.map gtT, b)
  | (none, p) => x = .error (p : Int)
theorem lex_fold (s : ByteArray) : ∀ (f a m : Nat) (acc : List Tok) (b : Int), s.size ≤ f + a → s.size ≤ m + a → a ≤ s.size → (b = 2 → a < s.size → letB ((nums s).getD a 0) = false) → (b = 3 → a < s.size → digB ((nums s).getD a 0) = false) →
    lexIs s ((decs s m a).foldl nextG (.ok (acc.map gtT, b))) (lex s f a acc)
  | 0, a, m, acc, b, hf, hm, ha, _, _ => by
    rw [decs_end s m a (by omega)]
    exact ⟨by omega, b, rfl⟩
  | f + 1, a, m, acc, b, hf, hm, ha, h2, h3 => by
    rw [lex]
    by_cases hlt : a < s.size
    · rw [if_pos hlt]
      have ws := word_size s a ha
      have ns := num_size s a ha
      have dl : ∀ j, ((nums s).drop a).getD j 0 = (nums s).getD (a + j) 0 := fun j => by simp only [List.getD, List.getElem?_drop]
      have ll : ((nums s).drop a).length = s.size - a := by rw [List.length_drop, nums_length]
      cases hbl : blankAt s a with
      | true =>
        rw [if_pos rfl]
        unfold blankAt at hbl
        rw [num_at s a hlt] at hbl
        simp only [Bool.or_eq_true, beq_iff_eq] at hbl
        have hk1 : kOf ((s.get! a).toNat : Int) = 1 := by unfold kOf; rw [if_pos hbl]
        rw [fold_low s m a _ hm hlt (by omega)]
        have hst : stepG (acc.map gtT, b) ((a : Int), ((s.get! a).toNat : Int)) = .ok (acc.map gtT, 1) := by unfold stepG; rw [hk1]; rfl
        rw [hst]
        exact lex_fold s f (a + 1) (m - 1) acc 1 (by omega) (by omega) (by omega) (fun h => by omega) (fun h => by omega)
      | false =>
        rw [if_neg (by simp)]
        by_cases hw : 0 < (wordAt s a).size
        · rw [if_pos hw]
          have hl : ∀ j, j < (wordAt s a).size → letB ((nums s).getD (a + j) 0) = true := fun j hj => by
            rw [← dl j]
            exact row_in false _ j (by rw [← ws.1]; exact hj)
          have hb2 : b ≠ 2 := fun e => by
            have := hl 0 hw
            rw [Nat.add_zero, h2 e hlt] at this
            cases this
          rw [word_go s a m _ b hb2 hm _ hw ws.2 hl, ← word_tok s a ha, show acc.map gtT ++ [gtT (wordTok s a)] = (acc ++ [wordTok s a]).map gtT by simp]
          refine lex_fold s f _ _ _ 2 (by omega) (by omega) ws.2 (fun _ hx => ?_) (fun h => by omega)
          have := row_end false ((nums s).drop a) (by rw [← ws.1, ll]; omega)
          rw [← ws.1, dl] at this
          exact this
        · rw [if_neg hw]
          have hnl : letB ((nums s).getD a 0) = false := by
            have h0 : rowN false ((nums s).drop a) = 0 := by rw [← ws.1]; omega
            have := row_end false ((nums s).drop a) (by rw [h0, ll]; omega)
            rw [h0, dl, Nat.add_zero] at this
            exact this
          by_cases hn : 0 < (numAt s a).size
          · rw [if_pos hn]
            have hl : ∀ j, j < (numAt s a).size → digB ((nums s).getD (a + j) 0) = true := fun j hj => by
              rw [← dl j]
              exact row_in true _ j (by rw [← ns.1]; exact hj)
            have hb3 : b ≠ 3 := fun e => by
              have := hl 0 hn
              rw [Nat.add_zero, h3 e hlt] at this
              cases this
            have e : nums (numAt s a) = ((nums s).drop a).take (numAt s a).size := by
              rw [ns.1, numAt, nums_extract, show a + rowN true ((nums s).drop a) - a = rowN true ((nums s).drop a) by omega]
            rw [num_go s a m _ b hb3 hm _ hn ns.2 hl, ← e]
            by_cases hbig : 65535 < numV (nums (numAt s a))
            · rw [if_pos hbig, if_pos hbig]
              rfl
            · rw [if_neg hbig, if_neg hbig, ← num_tok s a ha, show acc.map gtT ++ [gtT (numTok s a)] = (acc ++ [numTok s a]).map gtT by simp]
              refine lex_fold s f _ _ _ 3 (by omega) (by omega) ns.2 (fun h => by omega) (fun _ hx => ?_)
              have := row_end true ((nums s).drop a) (by rw [← ns.1, ll]; omega)
              rw [← ns.1, dl] at this
              exact this
          · rw [if_neg hn]
            have hnd : digB ((nums s).getD a 0) = false := by
              have h0 : rowN true ((nums s).drop a) = 0 := by rw [← ns.1]; omega
              have := row_end true ((nums s).drop a) (by rw [h0, ll]; omega)
              rw [h0, dl, Nat.add_zero] at this
              exact this
            by_cases hs : 0 < (signF s a).size
            · rw [if_pos hs]
              obtain ⟨hd, hmem⟩ := sign_some s a hlt hs
              have sz := sign_size s a
              have hrp : 0 ≤ runeOf (signF s a) ∧ runeOf (signF s a) ∈ runesK := by
                have : ∀ g ∈ signs, 0 ≤ runeOf g ∧ runeOf g ∈ runesK := by
                  intro g hg
                  have hm2 : runeOf g ∈ signs.map runeOf := List.mem_map.2 ⟨g, hg, rfl⟩
                  rw [rune_table] at hm2
                  have : ∀ r ∈ runesL, 0 ≤ r := by decide
                  exact ⟨this _ hm2, hm2⟩
                exact this _ hmem
              have hk4 : kOf (runeOf (signF s a)) = 4 := by
                have : ∀ r ∈ runesK, kOf r = 4 := by decide
                exact this _ hrp.2
              rw [fold_one s m a _ hm hlt, hd]
              have hc : (((runeOf (signF s a)).toNat : Nat) : Int) = runeOf (signF s a) := Int.toNat_of_nonneg hrp.1
              show lexIs s ((decs s (m - 1) (a + (signF s a).size)).foldl nextG (stepG (acc.map gtT, b) ((a : Int), ((runeOf (signF s a)).toNat : Int)))) _
              rw [hc, step_new _ _ 4 hk4 (by decide) (by decide) (.inl rfl), put_sign _ _ _ _ rfl rfl]
              have e : (acc.map gtT ++ [{ newG 4 (a : Int) with s := runeOf (signF s a) }]) = (acc ++ [signTok s a]).map gtT := by rw [List.map_append]; rfl
              show lexIs s ((decs s (m - 1) (a + (signF s a).size)).foldl nextG (.ok ((acc.map gtT ++ [{ newG 4 (a : Int) with s := runeOf (signF s a) }]), 4))) _
              rw [e]
              exact lex_fold s f _ _ _ 4 (by omega) (by omega) (sz.2 hs) (fun h => by omega) (fun h => by omega)
            · rw [if_neg hs]
              have hns := sign_none s a hlt hs
              have hk0 : kOf ((Utf8.decode s a).1 : Int) = 0 := by
                unfold blankAt at hbl
                rw [num_at s a hlt] at hbl hnl hnd
                unfold letB at hnl
                unfold digB at hnd
                simp only [Bool.or_eq_false_iff, beq_eq_false_iff_ne, ne_eq, Bool.and_eq_false_iff, decide_eq_false_iff_not] at hbl hnl hnd
                unfold kOf
                by_cases hlow : (s.get! a).toNat < 128
                · rw [dec_low s a hlow] at hns ⊢
                  simp only at hns ⊢
                  rw [if_neg (by omega), if_neg hns, if_neg (by omega), if_neg (by omega)]
                · have := dec_hi s a hlow
                  rw [if_neg (by omega), if_neg hns, if_neg (by omega), if_neg (by omega)]
              rw [fold_one s m a _ hm hlt]
              have hst : stepG (acc.map gtT, b) ((a : Int), ((Utf8.decode s a).1 : Int)) = .error (a : Int) := by unfold stepG; rw [hk0]; rfl
              rw [hst]
              exact foldl_err _ _
    · rw [if_neg hlt, decs_end s m a hlt]
      exact ⟨by omega, b, rfl⟩
/-- The project's tokens are the document's. -/
theorem scan_lex (s : ByteArray) : lexIs s (foldG (runesOf s)) (lex s s.size 0 []) := lex_fold s s.size 0 s.size [] 1 (by omega) (by omega) (by omega) (fun h => by omega) (fun h => by omega)

end Go.Proofs.Ythmmgiaobakilaa
