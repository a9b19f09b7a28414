import Derived.Test.YthmmgiaobakilaaJ38
/- What a painted answer shows, and the law's function untold: true for every scene whose shape is right. -/
set_option maxRecDepth 100000
namespace Go.Proofs.Ythmmgiaobakilaa
open Go.RowKit Go.Deep

theorem ev_len (D : PD) (e : Ex) (S : PSt) : (ev1 D e (stepP S)).2.opn.length = S.opn.length := by
  obtain ⟨m, _, h⟩ := ev1_any D e (stepP S)
  rw [h.opn]; rfl
theorem put_len (D : PD) (S : PSt) (out : Bool) (v : Int) : (putP D S out v).opn.length = S.opn.length := by
  unfold putP
  split
  · show (S.opn.set _ _).length = _; rw [List.length_set]
  · show (touchP S 3 (hereP D S)).opn.length = _; rw [(touchP_steps S 3 (hereP D S)).2.2.2.1]
theorem rounds_len {body : PSt → PSt} {nm : ByteArray} (hb : ∀ T, (body T).opn.length = T.opn.length) : ∀ (q : Nat) (i : Int) (S : PSt), (roundsP body nm q i S).opn.length = S.opn.length
  | 0, _, _ => rfl
  | q + 1, i, _ => (rounds_len hb q (i + 1) _).trans (hb _)
theorem st_len (D : PD) : ∀ (n : Nat) (s : Sx), szS s ≤ n → ∀ S, (stP D s S).opn.length = S.opn.length
  | _, .nil, _, _ => rfl
  | 0, .node _ _ _ _ _, h, _ => by simp [szS] at h
  | n + 1, .node b o p k r, h, S => by
    by_cases h0 : 20000 < S.steps
    · rw [stP_over h0]
    have hr : szS r ≤ n := by simp only [szS] at h; omega
    have hk : szS k ≤ n := by simp only [szS] at h; omega
    cases k with
    | nil =>
      show (if 20000 < S.steps then S else stP D r _).opn.length = _
      rw [if_neg h0, st_len D n r hr]
      split
      · exact ev_len D p.e S
      split
      · exact ev_len D p.e S
      split
      · exact rounds_len (fun T => rfl) _ _ _
      · rw [put_len]; exact ev_len D p.e S
    | node b1 o1 q s u =>
      have hs : szS s ≤ n := by simp only [szS] at hk; omega
      have hu : szS u ≤ n := by simp only [szS] at hk; omega
      show (if 20000 < S.steps then S else stP D r _).opn.length = _
      rw [if_neg h0, st_len D n r hr]
      split
      · exact ev_len D p.e S
      split
      · show (if _ then _ else _ : PSt).opn.length = _
        split
        · rw [st_len D n s hs]; exact ev_len D p.e S
        · rw [st_len D n u hu]; exact ev_len D p.e S
      split
      · exact rounds_len (fun T => st_len D n _ hk T) _ _ _
      · rw [put_len]; exact ev_len D p.e S
theorem go_len (D : PD) (t : Sx) : ∀ (l : List (Int × Int)) (S T : PSt), goP D t l S = some T → T.opn.length = S.opn.length
  | [], S, T, h => by cases h; rfl
  | x :: l, S, T, h => by
    rw [goP] at h
    split at h
    · cases h
    · rw [go_len D t l _ T h]; exact st_len D _ t (Nat.le_refl _) _
def opnO : Option PSt → List Int
  | none => []
  | some S => S.opn
def trO : Option PSt → List (Int × Int)
  | none => []
  | some S => S.trace
def stO : Option PSt → Int
  | none => 0
  | some S => S.steps
def ttO : Option PSt → Int
  | none => 0
  | some S => S.touched
def hlO : Option PSt → Nat
  | none => 0
  | some S => S.hid.length
theorem LoO.eqs {H : List ByteArray} {r r' : Option PSt} (h : LoO H r r') : opnO r' = opnO r ∧ trO r' = trO r ∧ stO r' = stO r ∧ ttO r' = ttO r ∧ hlO r' = hlO r := by
  cases r with
  | none =>
    cases r' with
    | none => exact ⟨rfl, rfl, rfl, rfl, rfl⟩
    | some T => cases h
  | some S =>
    cases r' with
    | none => cases h
    | some T => exact ⟨h.opn.symm, h.trace.symm, h.steps.symm, h.touched.symm, h.hid.symm⟩
theorem ans_len {sw sh : Int} {xs ys : List Int} {src : ByteArray} {E P : Int} {r : Option PSt} (h : Ans sw sh xs ys src E P r) : (opnO r).length ≤ sw.toNat * sh.toNat := by
  rcases h with ⟨_, _, _, rfl⟩ | ⟨_, _, _, _, rfl⟩ | ⟨_, _, _, ds, t, _, hr, _⟩
  · exact Nat.zero_le _
  · exact Nat.zero_le _
  · cases r with
    | none => exact Nat.zero_le _
    | some S =>
      show S.opn.length ≤ _
      rw [go_len _ _ _ _ _ hr.symm]
      show (List.replicate _ _).length ≤ _
      rw [List.length_replicate]
      exact Nat.le_refl _
theorem tchs_get : ∀ (l : List (Int × Int)) (j : Nat), j < l.length → (tchsC l)[j * 2]? = some (.int .i64 (l.getD j (0, 0)).1) ∧ (tchsC l)[j * 2 + 1]? = some (.int .i64 (l.getD j (0, 0)).2)
  | [], j, h => by simp at h
  | t :: l, 0, _ => ⟨rfl, rfl⟩
  | t :: l, j + 1, h => by
    have := tchs_get l j (by simpa using h)
    have e : tchsC (t :: l) = .int .i64 t.1 :: .int .i64 t.2 :: tchsC l := rfl
    rw [e, show (j + 1) * 2 = j * 2 + 1 + 1 by omega]
    simpa using this
theorem PntRes.view {w : World} {E P : Int} {r : Option PSt} {e : Ending} {w' : World} (h : PntRes w E P r e w') : ∃ ao c bo d to f, e = .returned (.tuple #[.agg #[.slice ao (opnO r).length c, .slice bo (hlO r) d, .int .i64 (stO r), .int .i64 (ttO r), .slice to (trO r).length f], .int .i64 E, .int .i64 P]) ∧ IntsAt w'.heap.size w' ao (opnO r) ∧ TrAt w'.heap.size w' to (trO r) ∧ (trO r).length ≤ maxLen ∧ Below w.heap.size w w' := by
  cases r with
  | none => exact ⟨none, 0, none, 0, none, 0, h.2, .inl rfl, .inl rfl, Nat.zero_le _, h.1⟩
  | some S =>
    obtain ⟨hb, ob, hb', rv, he, ho, _, hr, _⟩ := h
    have i1 : IntsAt w'.heap.size w' (some ⟨ob, 0, none⟩) S.opn := by
      refine .inr ⟨ob, 0, rfl, (Array.getElem?_eq_some_iff.1 ho).1, fun j hj => ?_⟩
      rw [Nat.zero_add]; exact (pic_cell ho hj).1
    have hr' := hr
    rcases hr.2 with ⟨h1, h0⟩ | ⟨g, cap, cur, rfl, _, _, k1, k2, _⟩
    · rw [h1] at he
      have h2 : S.trace = [] := List.eq_nil_of_length_eq_zero h0
      refine ⟨some ⟨ob, 0, none⟩, S.opn.length, some ⟨hb', 0, none⟩, S.hid.length, none, 0, ?_, i1, .inl h2, ?_, hb⟩
      · rw [he]; simp [opnO, hlO, stO, ttO, trO, h2]
      · show S.trace.length ≤ _; rw [h0]; exact Nat.zero_le _
    · refine ⟨_, _, _, _, _, cap, he, i1, .inr ⟨g, rfl, (hr'.lt g rfl).2, fun j hj => ?_⟩, Nat.le_trans k1 k2, hb⟩
      have hj' : j < S.trace.length := hj
      obtain ⟨t1, t2⟩ := tchs_get S.trace j hj'
      exact ⟨(hr'.cellAt _ (by omega)).trans t1, (hr'.cellAt _ (by omega)).trans t2⟩
end Go.Proofs.Ythmmgiaobakilaa
