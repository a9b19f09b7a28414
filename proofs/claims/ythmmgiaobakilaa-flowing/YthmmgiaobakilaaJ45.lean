import Derived.Test.YthmmgiaobakilaaJ38
import Derived.Test.YthmmgiaobakilaaJ44
/- Looped on data: how its statements run where no more steps are made than may be. -/
set_option maxRecDepth 100000
namespace Go.Proofs.Ythmmgiaobakilaa
open Go.RowKit Go.Deep

def wN : ByteArray := ⟨#[110]⟩
def wI : ByteArray := ⟨#[105]⟩
def wJ : ByteArray := ⟨#[106]⟩
theorem upd_ne {s t : ByteArray} (h : (t.toList == s.toList) = false) (R : ByteArray → Int) (v : Int) : updR R s v t = R t := by
  unfold updR; rw [h]; rfl
theorem upd_eq (s : ByteArray) (R : ByteArray → Int) (v : Int) : updR R s v s = v := by
  unfold updR; rw [show (s.toList == s.toList) = true from beq_self_eq_true _]; rfl
/-- k steps more, m more for n; nothing else that is told. -/
structure Rn (S T : PSt) (k m : Int) : Prop where
  steps : T.steps = S.steps + k
  vn : T.vals wN = S.vals wN + m
  tch : T.touched = S.touched
  tr : T.trace = S.trace
  opn : T.opn = S.opn
  hid : T.hid = S.hid
  cx : T.cx = S.cx
  cy : T.cy = S.cy
theorem Rn.trans {A B C : PSt} {k m k' m' : Int} (h : Rn A B k m) (g : Rn B C k' m') : Rn A C (k + k') (m + m') :=
  ⟨by rw [g.steps, h.steps]; omega, by rw [g.vn, h.vn]; omega, g.tch.trans h.tch, g.tr.trans h.tr, g.opn.trans h.opn, g.hid.trans h.hid, g.cx.trans h.cx, g.cy.trans h.cy⟩
def lpAs (p15 p17 p18 p19 : Int) : Sx := .node 0 0 ⟨0, nT ⟨#[110]⟩ p15, noTok, noTok, .node 0 0 (sT ⟨#[43]⟩ p18) (.node 0 0 (nT ⟨#[110]⟩ p17) .nil (.node 0 0 (nT ⟨#[105]⟩ p19) .nil .nil)) .nil⟩ .nil .nil
section
variable {D : PD} (p15 p17 p18 p19 : Int)
theorem as_run (S : PSt) (h : ¬ 20000 < S.steps) : stP D (lpAs p15 p17 p18 p19) S = { S with steps := S.steps + 1 + 1 + 1 + 1, vals := updR S.vals wN (wrap32 (S.vals wN + S.vals wI)) } := by
  unfold lpAs
  rw [stP_0 h rfl]
  kernel_rfl
theorem as_rn (S : PSt) (h : ¬ 20000 < S.steps) (v0 : 0 ≤ S.vals wN) (v1 : 0 ≤ S.vals wI) (v2 : S.vals wN + S.vals wI ≤ 1000000) : Rn S (stP D (lpAs p15 p17 p18 p19) S) 4 (S.vals wI) ∧ (stP D (lpAs p15 p17 p18 p19) S).vals wI = S.vals wI := by
  rw [as_run p15 p17 p18 p19 S h]
  refine ⟨⟨by show S.steps + 1 + 1 + 1 + 1 = _; omega, ?_, rfl, rfl, rfl, rfl, rfl, rfl⟩, ?_⟩
  · show updR S.vals wN _ wN = _
    rw [upd_eq]; unfold wrap32; omega
  · show updR S.vals wN _ wI = _
    exact upd_ne (by decide +kernel) _ _
theorem inner_rn : ∀ (q : Nat) (i : Int) (S : PSt), (S.steps + 5 * q ≤ 20000 ∨ (roundsP (stP D (lpAs p15 p17 p18 p19)) wJ q i S).steps ≤ 20000) → 0 ≤ S.vals wN → 0 ≤ S.vals wI → S.vals wN + q * S.vals wI ≤ 1000000 → Rn S (roundsP (stP D (lpAs p15 p17 p18 p19)) wJ q i S) (5 * q) (q * S.vals wI) ∧ (roundsP (stP D (lpAs p15 p17 p18 p19)) wJ q i S).vals wI = S.vals wI
  | 0, _, S, _, _, _, _ => ⟨⟨by simp [roundsP], by simp [roundsP], rfl, rfl, rfl, rfl, rfl, rfl⟩, rfl⟩
  | q + 1, i, S, hs, v0, v1, v2 => by
    have hs' : S.steps + 5 * ((q + 1 : Nat) : Int) ≤ 20000 ∨ (roundsP (stP D (lpAs p15 p17 p18 p19)) wJ q (i + 1) (stP D (lpAs p15 p17 p18 p19) (setV (stepP S) wJ i))).steps ≤ 20000 := hs
    have e0 : (setV (stepP S) wJ i).steps = S.steps + 1 := rfl
    have m1 := rounds_mono (body := stP D (lpAs p15 p17 p18 p19)) (nm := wJ) (fun T => st_mono D _ _ (Nat.le_refl _) T) q (i + 1) (stP D (lpAs p15 p17 p18 p19) (setV (stepP S) wJ i))
    have m2 := st_mono D _ (lpAs p15 p17 p18 p19) (Nat.le_refl _) (setV (stepP S) wJ i)
    have e1 : (setV (stepP S) wJ i).vals wN = S.vals wN := upd_ne (by decide +kernel) _ _
    have e2 : (setV (stepP S) wJ i).vals wI = S.vals wI := upd_ne (by decide +kernel) _ _
    have hq : ((q + 1 : Nat) : Int) * S.vals wI = (q : Int) * S.vals wI + S.vals wI := by
      rw [Int.natCast_add, Int.add_mul]; simp
    rw [hq] at v2 ⊢
    have hq0 : 0 ≤ (q : Int) * S.vals wI := Int.mul_nonneg (by omega) v1
    obtain ⟨a1, a2⟩ := as_rn (D := D) p15 p17 p18 p19 (setV (stepP S) wJ i) (by omega) (by rw [e1]; exact v0) (by rw [e2]; exact v1) (by rw [e1, e2]; omega)
    rw [e2] at a1 a2
    have av := a1.vn
    rw [e1] at av
    have ast := a1.steps
    have hs2 : (stP D (lpAs p15 p17 p18 p19) (setV (stepP S) wJ i)).steps + 5 * (q : Int) ≤ 20000 ∨ (roundsP (stP D (lpAs p15 p17 p18 p19)) wJ q (i + 1) (stP D (lpAs p15 p17 p18 p19) (setV (stepP S) wJ i))).steps ≤ 20000 := by
      rcases hs' with h | h
      · left; omega
      · exact .inr h
    obtain ⟨b1, b2⟩ := inner_rn q (i + 1) _ hs2 (by rw [av]; omega) (by rw [a2]; exact v1) (by rw [av, a2]; omega)
    rw [a2] at b1 b2
    have r0 : Rn S (setV (stepP S) wJ i) 1 0 := ⟨rfl, by rw [e1]; omega, rfl, rfl, rfl, rfl, rfl, rfl⟩
    have c := (r0.trans a1).trans b1
    rw [show (1 : Int) + 4 + 5 * (q : Int) = 5 * ((q + 1 : Nat) : Int) by omega, show (0 : Int) + S.vals wI + (q : Int) * S.vals wI = (q : Int) * S.vals wI + S.vals wI by omega] at c
    exact ⟨c, b2⟩
end
end Go.Proofs.Ythmmgiaobakilaa
