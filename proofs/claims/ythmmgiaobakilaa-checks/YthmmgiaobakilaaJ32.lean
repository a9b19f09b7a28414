import Derived.Test.YthmmgiaobakilaaJ31
/- scan, against lex. -/
set_option maxRecDepth 100000
namespace Go.Proofs.Ythmmgiaobakilaa
open Go.RowKit Go.Shelf

theorem gtT_over (p : Nat) : gtT (overTok p) = newG 5 p := rfl
theorem gtC_tok (t : Tok) : gtC (gtT t) = tokC t := rfl
theorem gts_at (T : List Tok) (j i : Nat) (hj : j < T.length) (hi : i < 5) : (gtsC (T.map gtT))[j * 5 + i]? = (tokC T[j])[i]? := by
  induction T generalizing j with
  | nil => simp at hj
  | cons t T ih =>
    have e : gtsC ((t :: T).map gtT) = tokC t ++ gtsC (T.map gtT) := rfl
    rw [e]
    have h5 : (tokC t).length = 5 := rfl
    cases j with
    | zero => rw [List.getElem?_append_left (by omega)]; simp
    | succ j =>
      rw [List.getElem?_append_right (by omega), h5, show (j + 1) * 5 + i - 5 = j * 5 + i by omega, ih j (by simpa using hj)]
      rfl
theorem toks_of {w : World} {base g c : Nat} {T : List Tok} {m : Nat} (h : w.ownsRow base 126 5 (.slice (some ⟨g, 0, none⟩) m c) m (gtsC (T.map gtT))) (hm : m = T.length) : PToks w g T := by
  subst hm
  intro j hj
  have f : ∀ i (hi : i < 5), w.cell? ⟨g, j * 5 + i, none⟩ = (tokC T[j])[i]? := fun i hi => (h.cellAt (j * 5 + i) (by omega)).trans (gts_at T j i hj hi)
  exact ⟨f 0 (by omega), f 1 (by omega), f 2 (by omega), f 3 (by omega), f 4 (by omega)⟩
/-- What scan answers, in the document's tokens. -/
def ScTok (w : World) (s : ByteArray) (e : Ending) (w' : World) : Option (List Tok) × Nat → Prop
  | (none, p) => e = .returned (.tuple #[.slice none 0 0, .agg #[.int .i64 8, .int .i64 p]])
  | (some l, p) => p = s.size ∧ ∃ g c, (w.heap.size ≤ g ∧ g < w'.heap.size) ∧ ((l ++ [overTok p]).length ≤ c ∧ c ≤ maxLen) ∧ e = .returned (.tuple #[.slice (some ⟨g, 0, none⟩) (l ++ [overTok p]).length c, .agg #[.int .i64 0, .int .i64 0]]) ∧ PToks w' g (l ++ [overTok p])
theorem scanT (s : ByteArray) (hs : s.size ≤ 300) (w : World) : Calls Try.prog 48 #[.string s] w fun e w' => Below w.heap.size w w' ∧ ScTok w s e w' (lex s s.size 0 []) := by
  refine (scan_any s hs w).mono ?_
  rintro e w' ⟨hb, hout⟩
  refine ⟨hb, ?_⟩
  have hl := scan_lex s
  cases hx : lex s s.size 0 [] with
  | mk o p =>
    rw [hx] at hl
    cases o with
    | none =>
      have hl' : foldG (runesOf s) = .error (p : Int) := hl
      rcases hout with ⟨q, hq, rfl⟩ | ⟨σ, g, c, hq, _⟩
      · rw [hl'] at hq
        cases hq
        rfl
      · rw [hl'] at hq
        cases hq
    | some l =>
      obtain ⟨hp, b, hl'⟩ : p = s.size ∧ ∃ b, foldG (runesOf s) = .ok (l.map gtT, b) := hl
      rcases hout with ⟨q, hq, _⟩ | ⟨σ, g, c, hq, rfl, hown⟩
      · rw [hl'] at hq
        cases hq
      · rw [hl'] at hq
        cases hq
        have e1 : l.map gtT ++ [newG 5 (s.size : Int)] = (l ++ [overTok p]).map gtT := by rw [List.map_append, hp]; rfl
        have e2 : (l.map gtT, b).1.length + 1 = (l ++ [overTok p]).length := by simp
        rw [e2] at hown ⊢
        rw [e1] at hown
        refine ⟨hp, g, c, hown.lt g rfl, ?_, rfl, toks_of hown rfl⟩
        rcases hown.2 with ⟨h0, _⟩ | ⟨g', cap, cur, h0, _, _, hn, hc, _⟩
        · cases h0
        · cases h0
          exact ⟨hn, hc⟩

end Go.Proofs.Ythmmgiaobakilaa
