import Derived.Test.YthmmgiaobakilaaJ45
/- Looped on data: a point. -/
set_option maxRecDepth 100000
namespace Go.Proofs.Ythmmgiaobakilaa
open Go.RowKit Go.Deep

def lpIn (c : Int) (x3 : ByteArray) (p10 p11 p13 p15 p17 p18 p19 : Int) : Sx := .node 0 0 ⟨2, nT ⟨#[106]⟩ p10, uT 0 ⟨#[48]⟩ p11, uT c x3 p13, .nil⟩ (lpAs p15 p17 p18 p19) .nil
/-- What the loops add up to. -/
def sumV : Nat → Int → Int → Int
  | 0, _, _ => 0
  | q + 1, i, c1 => i * c1 + sumV q (i + 1) c1
section
variable {D : PD} {c : Nat} (x3 : ByteArray) (p10 p11 p13 p15 p17 p18 p19 : Int)
theorem in_rn (S : PSt) (hs : S.steps + (1 + 5 * ((c + 1 : Nat) : Int)) ≤ 20000 ∨ (stP D (lpIn c x3 p10 p11 p13 p15 p17 p18 p19) S).steps ≤ 20000) (v0 : 0 ≤ S.vals wN) (v1 : 0 ≤ S.vals wI) (v2 : S.vals wN + ((c + 1 : Nat) : Int) * S.vals wI ≤ 1000000) :
    Rn S (stP D (lpIn c x3 p10 p11 p13 p15 p17 p18 p19) S) (1 + 5 * ((c + 1 : Nat) : Int)) (((c + 1 : Nat) : Int) * S.vals wI) := by
  have m := st_mono D _ (lpIn c x3 p10 p11 p13 p15 p17 p18 p19) (Nat.le_refl _) S
  have h0 : ¬ 20000 < S.steps := by omega
  have e : stP D (lpIn c x3 p10 p11 p13 p15 p17 p18 p19) S = roundsP (stP D (lpAs p15 p17 p18 p19)) wJ (c + 1) 0 (stepP S) := by
    unfold lpIn
    rw [stP_2 h0 rfl]
    show roundsP _ wJ ((c : Int) - 0 + 1).toNat 0 (stepP S) = _
    rw [show ((c : Int) - 0 + 1).toNat = c + 1 by omega]
  rw [e] at hs ⊢
  have hs2 : (stepP S).steps + 5 * ((c + 1 : Nat) : Int) ≤ 20000 ∨ (roundsP (stP D (lpAs p15 p17 p18 p19)) wJ (c + 1) 0 (stepP S)).steps ≤ 20000 := by
    rcases hs with h | h
    · left; show S.steps + 1 + _ ≤ _; omega
    · exact .inr h
  have r0 : Rn S (stepP S) 1 0 := ⟨rfl, by show S.vals wN = _; omega, rfl, rfl, rfl, rfl, rfl, rfl⟩
  have := r0.trans (inner_rn p15 p17 p18 p19 (c + 1) 0 (stepP S) hs2 v0 v1 v2).1
  rw [Int.zero_add] at this
  exact this
theorem sum_pos {c1 : Int} (h : 0 ≤ c1) : ∀ (q : Nat) (i : Int), 0 ≤ i → 0 ≤ sumV q i c1
  | 0, _, _ => Int.le_refl _
  | q + 1, i, hi => Int.add_nonneg (Int.mul_nonneg hi h) (sum_pos h q (i + 1) (by omega))
theorem outer_rn (hc : c ≤ 20) : ∀ (q : Nat) (i : Int) (S : PSt), (S.steps + q * (2 + 5 * ((c + 1 : Nat) : Int)) ≤ 20000 ∨ (roundsP (stP D (lpIn c x3 p10 p11 p13 p15 p17 p18 p19)) wI q i S).steps ≤ 20000) → 0 ≤ i → i + q ≤ 100 → 0 ≤ S.vals wN → S.vals wN + q * 3000 ≤ 1000000 →
    Rn S (roundsP (stP D (lpIn c x3 p10 p11 p13 p15 p17 p18 p19)) wI q i S) (q * (2 + 5 * ((c + 1 : Nat) : Int))) (sumV q i ((c + 1 : Nat) : Int))
  | 0, _, S, _, _, _, _, _ => ⟨by simp [roundsP], by simp [roundsP, sumV], rfl, rfl, rfl, rfl, rfl, rfl⟩
  | q + 1, i, S, hs, i0, i1, v0, v2 => by
    obtain ⟨K, hK⟩ : ∃ K, lpIn c x3 p10 p11 p13 p15 p17 p18 p19 = K := ⟨_, rfl⟩
    have IR := fun S => in_rn (D := D) (c := c) x3 p10 p11 p13 p15 p17 p18 p19 S
    have IH := outer_rn hc q (i + 1)
    rw [hK] at hs IR IH ⊢
    have k0 : ((q + 1 : Nat) : Int) * (2 + 5 * ((c + 1 : Nat) : Int)) = (q : Int) * (2 + 5 * ((c + 1 : Nat) : Int)) + (2 + 5 * ((c + 1 : Nat) : Int)) := by
      rw [Int.natCast_add q 1, Int.add_mul (q : Int)]; omega
    have kq : 0 ≤ (q : Int) * (2 + 5 * ((c + 1 : Nat) : Int)) := Int.mul_nonneg (by omega) (by omega)
    have hs' : S.steps + ((q + 1 : Nat) : Int) * (2 + 5 * ((c + 1 : Nat) : Int)) ≤ 20000 ∨ (roundsP (stP D K) wI q (i + 1) (stP D K (setV (stepP S) wI i))).steps ≤ 20000 := hs
    rw [k0] at hs'
    have e0 : (setV (stepP S) wI i).steps = S.steps + 1 := rfl
    have m1 := rounds_mono (body := stP D K) (nm := wI) (fun T => st_mono D _ _ (Nat.le_refl _) T) q (i + 1) (stP D K (setV (stepP S) wI i))
    have e1 : (setV (stepP S) wI i).vals wN = S.vals wN := upd_ne (by decide +kernel) _ _
    have e2 : (setV (stepP S) wI i).vals wI = i := upd_eq _ _ _
    have hci : 0 ≤ ((c + 1 : Nat) : Int) * i := Int.mul_nonneg (by omega) i0
    have hci2 : ((c + 1 : Nat) : Int) * i ≤ 21 * 100 := Int.mul_le_mul (by omega) (by omega) i0 (by omega)
    have a := IR (setV (stepP S) wI i) (by omega) (by rw [e1]; exact v0) (by rw [e2]; exact i0) (by rw [e1, e2]; omega)
    rw [e2] at a
    have av := a.vn
    rw [e1] at av
    have ast := a.steps
    have hs2 : (stP D K (setV (stepP S) wI i)).steps + (q : Int) * (2 + 5 * ((c + 1 : Nat) : Int)) ≤ 20000 ∨ (roundsP (stP D K) wI q (i + 1) (stP D K (setV (stepP S) wI i))).steps ≤ 20000 := by
      rcases hs' with h | h
      · left; omega
      · exact .inr h
    have b := IH _ hs2 (by omega) (by omega) (by rw [av]; omega) (by rw [av]; omega)
    have r0 : Rn S (setV (stepP S) wI i) 1 0 := ⟨rfl, by rw [e1]; omega, rfl, rfl, rfl, rfl, rfl, rfl⟩
    have t := (r0.trans a).trans b
    have k1 : (1 : Int) + (1 + 5 * ((c + 1 : Nat) : Int)) + (q : Int) * (2 + 5 * ((c + 1 : Nat) : Int)) = ((q + 1 : Nat) : Int) * (2 + 5 * ((c + 1 : Nat) : Int)) := by
      rw [Int.natCast_add q 1, Int.add_mul (q : Int)]; omega
    have k2 : (0 : Int) + ((c + 1 : Nat) : Int) * i + sumV q (i + 1) ((c + 1 : Nat) : Int) = sumV (q + 1) i ((c + 1 : Nat) : Int) := by
      rw [sumV, Int.mul_comm i]; omega
    rw [k1, k2] at t
    exact t
end
/-- One point of Looped. -/
theorem pt_run {D : PD} {a b c : Nat} (hab : a ≤ b) (hb : b ≤ 20) (hc : c ≤ 20) (x1 x2 x3 : ByteArray) (p4 p5 p7 p10 p11 p13 p15 p17 p18 p19 p23 p24 : Int) (S : PSt) (hv : S.vals wN = 0)
    (hs : S.steps + (1 + ((b - a + 1 : Nat) : Int) * (2 + 5 * ((c + 1 : Nat) : Int)) + 2) ≤ 20000 ∨ (stP D (lpTree a b c x1 x2 x3 p4 p5 p7 p10 p11 p13 p15 p17 p18 p19 p23 p24) S).steps ≤ 20000) :
    let T := stP D (lpTree a b c x1 x2 x3 p4 p5 p7 p10 p11 p13 p15 p17 p18 p19 p23 p24) S
    T.steps = S.steps + (1 + ((b - a + 1 : Nat) : Int) * (2 + 5 * ((c + 1 : Nat) : Int)) + 2) ∧ T.touched = S.touched + 1 ∧ T.opn = S.opn.set (S.cy * D.sw + S.cx).toNat (toneV (sumV (b - a + 1) a ((c + 1 : Nat) : Int))) ∧ T.hid = S.hid := by
  intro T
  have m := st_mono D _ (lpTree a b c x1 x2 x3 p4 p5 p7 p10 p11 p13 p15 p17 p18 p19 p23 p24) (Nat.le_refl _) S
  have kq : 0 ≤ ((b - a + 1 : Nat) : Int) * (2 + 5 * ((c + 1 : Nat) : Int)) := Int.mul_nonneg (by omega) (by omega)
  have h0 : ¬ 20000 < S.steps := by omega
  obtain ⟨U, hU⟩ : ∃ U, roundsP (stP D (lpIn c x3 p10 p11 p13 p15 p17 p18 p19)) wI (b - a + 1) a (stepP S) = U := ⟨_, rfl⟩
  have eT : T = stP D (.node 0 0 ⟨3, kT ⟨#[111, 117, 116]⟩ p23, noTok, noTok, leafE (nT ⟨#[110]⟩ p24)⟩ .nil .nil) U := by
    show stP D (lpTree a b c x1 x2 x3 p4 p5 p7 p10 p11 p13 p15 p17 p18 p19 p23 p24) S = _
    unfold lpTree
    rw [stP_2 h0 rfl, ← hU]
    show stP D _ (roundsP _ wI ((b : Int) - (a : Int) + 1).toNat a (stepP S)) = _
    rw [show ((b : Int) - (a : Int) + 1).toNat = b - a + 1 by omega]
    rfl
  have hsT : S.steps + (1 + ((b - a + 1 : Nat) : Int) * (2 + 5 * ((c + 1 : Nat) : Int)) + 2) ≤ 20000 ∨ T.steps ≤ 20000 := hs
  rw [eT] at hsT
  have m2 := st_mono D _ (.node 0 0 ⟨3, kT ⟨#[111, 117, 116]⟩ p23, noTok, noTok, leafE (nT ⟨#[110]⟩ p24)⟩ .nil .nil) (Nat.le_refl _) U
  have hs2 : (stepP S).steps + ((b - a + 1 : Nat) : Int) * (2 + 5 * ((c + 1 : Nat) : Int)) ≤ 20000 ∨ U.steps ≤ 20000 := by
    rcases hsT with h | h
    · left; show S.steps + 1 + _ ≤ _; omega
    · right; omega
  have r := outer_rn (D := D) (c := c) x3 p10 p11 p13 p15 p17 p18 p19 hc (b - a + 1) a (stepP S) (by rw [hU]; exact hs2) (by omega) (by omega) (by show 0 ≤ S.vals wN; omega) (by show S.vals wN + _ ≤ _; omega)
  rw [hU] at r
  have rs : U.steps = S.steps + 1 + ((b - a + 1 : Nat) : Int) * (2 + 5 * ((c + 1 : Nat) : Int)) := r.steps
  have hU0 : ¬ 20000 < U.steps := by omega
  have rv : U.vals wN = sumV (b - a + 1) a ((c + 1 : Nat) : Int) := by
    have : U.vals wN = S.vals wN + _ := r.vn
    rw [this, hv, Int.zero_add]
  have eT2 : T = putP D { U with steps := U.steps + 1 + 1 } true (U.vals wN) := by
    rw [eT, stP_3 hU0 (.inl rfl)]
    have e1 : ev1 D (leafE (nT ⟨#[110]⟩ p24)) (stepP U) = (U.vals wN, { U with steps := U.steps + 1 + 1 }) := by kernel_rfl
    show stP D .nil (putP D (ev1 D (leafE (nT ⟨#[110]⟩ p24)) (stepP U)).2 _ (ev1 D (leafE (nT ⟨#[110]⟩ p24)) (stepP U)).1) = _
    rw [e1]
    show putP D _ (decide (wP (kT ⟨#[111, 117, 116]⟩ p23) = sOUT)) _ = _
    rw [show decide (wP (kT ⟨#[111, 117, 116]⟩ p23) = sOUT) = true from decide_eq_true rfl]
  rw [eT2]
  obtain ⟨t1, _, t3, _, t5, _⟩ := touchP_steps { U with steps := U.steps + 1 + 1 } 2 (hereP D { U with steps := U.steps + 1 + 1 })
  refine ⟨?_, ?_, ?_, ?_⟩
  · rw [put_steps]; show U.steps + 1 + 1 = _; rw [rs]; omega
  · show (touchP { U with steps := U.steps + 1 + 1 } 2 (hereP D { U with steps := U.steps + 1 + 1 })).touched = _
    rw [t3]; show U.touched + 1 = _; rw [r.tch]; rfl
  · show U.opn.set (U.cy * D.sw + U.cx).toNat (toneV (U.vals wN)) = _
    rw [rv, r.opn, r.cx, r.cy]; rfl
  · show (touchP { U with steps := U.steps + 1 + 1 } 2 (hereP D { U with steps := U.steps + 1 + 1 })).hid = _
    rw [t5]; exact r.hid
end Go.Proofs.Ythmmgiaobakilaa
