import Derived.Test.YthmmgiaobakilaaJ32
/- Steps only grow. -/
set_option maxRecDepth 100000
namespace Go.Proofs.Ythmmgiaobakilaa
open Go.RowKit Go.Deep

theorem ev_mono (D : PD) (e : Ex) (S : PSt) : S.steps + 1 ≤ (ev1 D e (stepP S)).2.steps := by
  obtain ⟨m, _, h⟩ := ev1_any D e (stepP S)
  have : (stepP S).steps = S.steps + 1 := rfl
  rw [h.steps]; omega
theorem put_steps (D : PD) (S : PSt) (out : Bool) (v : Int) : (putP D S out v).steps = S.steps := by
  unfold putP
  split
  · exact (touchP_steps S 2 (hereP D S)).1
  · exact (touchP_steps S 3 (hereP D S)).1
theorem rounds_mono {body : PSt → PSt} {nm : ByteArray} (hb : ∀ T : PSt, T.steps ≤ (body T).steps) : ∀ (q : Nat) (i : Int) (S : PSt), S.steps ≤ (roundsP body nm q i S).steps
  | 0, _, _ => Int.le_refl _
  | q + 1, i, S => by
    have h1 := hb (setV (stepP S) nm i)
    have h2 := rounds_mono hb (nm := nm) q (i + 1) (body (setV (stepP S) nm i))
    have h3 : (setV (stepP S) nm i).steps = S.steps + 1 := rfl
    show S.steps ≤ (roundsP body nm q (i + 1) (body (setV (stepP S) nm i))).steps
    omega
theorem st_mono (D : PD) : ∀ (n : Nat) (s : Sx), szS s ≤ n → ∀ S : PSt, S.steps ≤ (stP D s S).steps
  | _, .nil, _, S => Int.le_refl _
  | 0, .node _ _ _ _ _, h, _ => by simp [szS] at h
  | n + 1, .node b o p k r, h, S => by
    by_cases h0 : 20000 < S.steps
    · rw [stP_over h0]; exact Int.le_refl _
    have hr : szS r ≤ n := by simp only [szS] at h; omega
    have hk : szS k ≤ n := by simp only [szS] at h; omega
    have he := ev_mono D p.e S
    have tr : ∀ X : PSt, S.steps ≤ X.steps → S.steps ≤ (stP D r X).steps := fun X hX => Int.le_trans hX (st_mono D n r hr X)
    cases k with
    | nil =>
      show S.steps ≤ (if 20000 < S.steps then S else stP D r _).steps
      rw [if_neg h0]
      refine tr _ ?_
      split
      · show S.steps ≤ (ev1 D p.e (stepP S)).2.steps; omega
      split
      · show S.steps ≤ (ev1 D p.e (stepP S)).2.steps; omega
      split
      · have h1 := rounds_mono (body := fun T => stP D .nil T) (nm := wP p.t) (fun T => Int.le_refl _) (nP p.b - nP p.a + 1).toNat (nP p.a) (stepP S)
        have h2 : (stepP S).steps = S.steps + 1 := rfl
        omega
      · rw [put_steps]; omega
    | node b1 o1 q s u =>
      have hs : szS s ≤ n := by simp only [szS] at hk; omega
      have hu : szS u ≤ n := by simp only [szS] at hk; omega
      show S.steps ≤ (if 20000 < S.steps then S else stP D r _).steps
      rw [if_neg h0]
      refine tr _ ?_
      split
      · show S.steps ≤ (ev1 D p.e (stepP S)).2.steps; omega
      split
      · show S.steps ≤ (if _ then _ else _ : PSt).steps
        split
        · exact Int.le_trans (by omega) (st_mono D n s hs _)
        · exact Int.le_trans (by omega) (st_mono D n u hu _)
      split
      · have h1 := rounds_mono (body := fun T => stP D (.node b1 o1 q s u) T) (nm := wP p.t) (fun T => st_mono D n _ hk T) (nP p.b - nP p.a + 1).toNat (nP p.a) (stepP S)
        have h2 : (stepP S).steps = S.steps + 1 := rfl
        omega
      · rw [put_steps]; omega
end Go.Proofs.Ythmmgiaobakilaa
