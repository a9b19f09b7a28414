/- What reading a scene's bytes comes to, in plain lists of numbers. No condition; nothing of the program. -/
import Derived.Test.YthmmgiaobakilaaPlain
set_option maxRecDepth 100000
namespace Go.Proofs.Ythmmgiaobakilaa

def failF (f e : Int) : Int := if f = 0 then e else f
def rbV (L : List Int) (f : Int) : Int := if f = 0 then L.headD 0 else 0
def rbL (L : List Int) (f : Int) : List Int := if f = 0 then L.tail else L
def rbF (L : List Int) (f : Int) : Int := if f = 0 then (if L = [] then 1 else 0) else f

def rt : Nat → List Int → Int → List Int × List Int × Int
  | 0, L, f => ([], L, f)
  | n + 1, L, f => ((rt n L f).1 ++ [rbV (rt n L f).2.1 (rt n L f).2.2], rbL (rt n L f).2.1 (rt n L f).2.2, rbF (rt n L f).2.1 (rt n L f).2.2)
def rtV (n : Nat) (L : List Int) (f : Int) : List Int := (rt n L f).1
def rtL (n : Nat) (L : List Int) (f : Int) : List Int := (rt n L f).2.1
def rtF (n : Nat) (L : List Int) (f : Int) : Int := (rt n L f).2.2
theorem rtV_zero (L : List Int) (f : Int) : rtV 0 L f = [] := rfl
theorem rtL_zero (L : List Int) (f : Int) : rtL 0 L f = L := rfl
theorem rtF_zero (L : List Int) (f : Int) : rtF 0 L f = f := rfl
theorem rtV_succ (n : Nat) (L : List Int) (f : Int) : rtV (n + 1) L f = rtV n L f ++ [rbV (rtL n L f) (rtF n L f)] := rfl
theorem rtL_succ (n : Nat) (L : List Int) (f : Int) : rtL (n + 1) L f = rbL (rtL n L f) (rtF n L f) := rfl
theorem rtF_succ (n : Nat) (L : List Int) (f : Int) : rtF (n + 1) L f = rbF (rtL n L f) (rtF n L f) := rfl
theorem rtV_length (n : Nat) (L : List Int) (f : Int) : (rtV n L f).length = n := by
  induction n with
  | zero => rfl
  | succ n ih => rw [rtV_succ, List.length_append, ih]; rfl

theorem set_next (V : List Int) (n j : Nat) (v : Int) (hV : V.length = j) (hj : j < n) : (V ++ List.replicate (n - j) 0).set j v = (V ++ [v]) ++ List.replicate (n - (j + 1)) 0 := by
  rw [List.set_append_right _ _ (by omega), hV, Nat.sub_self, List.append_assoc]
  congr 1
  obtain ⟨m, hm⟩ : ∃ m, n - j = m + 1 := ⟨n - j - 1, by omega⟩
  rw [hm, show n - (j + 1) = m by omega, List.replicate_succ, List.set_cons_zero]
  rfl

def markF (L : List Int) (f : Int) : Int := if rbV L f = 85 then rbF L f else failF (rbF L f) 2
def sideV (L : List Int) (f : Int) : Int := if sideB (rbV L f) then rbV L f else 0
def sideF (L : List Int) (f : Int) : Int := if sideB (rbV L f) then rbF L f else failF (rbF L f) 3
def endF (L : List Int) (f : Int) : Int := if L = [] then f else failF f 5

theorem sideV_bounds (L : List Int) (f : Int) : 0 ≤ sideV L f ∧ sideV L f ≤ 6 := by
  unfold sideV
  split
  · rename_i h; simp [sideB] at h; omega
  · simp

def scL (L : List Int) (f : Int) : List Int := rbL (rbL L f) (rbF L f)
def scN (L : List Int) (f : Int) : Int := rbV L f * 256 + rbV (rbL L f) (rbF L f)
def scF2 (L : List Int) (f : Int) : Int := rbF (rbL L f) (rbF L f)
def scF3 (L : List Int) (f : Int) : Int := if 300 < scN L f then failF (scF2 L f) 7 else scF2 L f
def scF (L : List Int) (f : Int) : Int := if (scL L f).length < scN L f then failF (scF3 L f) 1 else scF3 L f
/-- The source that was read, and what is left behind it. -/
def scS (L : List Int) (f : Int) : List Int := if scF L f = 0 then (scL L f).take (scN L f).toNat else []
def scR (L : List Int) (f : Int) : List Int := if scF L f = 0 then (scL L f).drop (scN L f).toNat else scL L f

theorem failF_ne {f e : Int} (h : e ≠ 0) : failF f e ≠ 0 := by unfold failF; split <;> simp_all
theorem sc_long {L : List Int} {f : Int} (h : 300 < scN L f) (h2 : (scL L f).length < scN L f) : scF L f = failF (failF (scF2 L f) 7) 1 ∧ scS L f = [] ∧ scR L f = scL L f := by
  have e : scF L f = failF (failF (scF2 L f) 7) 1 := by simp only [scF, scF3, if_pos h, if_pos h2]
  have : scF L f ≠ 0 := by rw [e]; exact failF_ne (by decide)
  exact ⟨e, by simp [scS, this], by simp [scR, this]⟩
theorem sc_long2 {L : List Int} {f : Int} (h : 300 < scN L f) (h2 : ¬ (scL L f).length < scN L f) : scF L f = failF (scF2 L f) 7 ∧ scS L f = [] ∧ scR L f = scL L f := by
  have e : scF L f = failF (scF2 L f) 7 := by simp only [scF, scF3, if_pos h, if_neg h2]
  have : scF L f ≠ 0 := by rw [e]; exact failF_ne (by decide)
  exact ⟨e, by simp [scS, this], by simp [scR, this]⟩
theorem sc_short {L : List Int} {f : Int} (h : ¬ 300 < scN L f) (h2 : (scL L f).length < scN L f) : scF L f = failF (scF2 L f) 1 ∧ scS L f = [] ∧ scR L f = scL L f := by
  have e : scF L f = failF (scF2 L f) 1 := by simp only [scF, scF3, if_neg h, if_pos h2]
  have : scF L f ≠ 0 := by rw [e]; exact failF_ne (by decide)
  exact ⟨e, by simp [scS, this], by simp [scR, this]⟩
theorem sc_bad {L : List Int} {f : Int} (h : ¬ 300 < scN L f) (h2 : ¬ (scL L f).length < scN L f) (h3 : scF2 L f ≠ 0) : scF L f = scF2 L f ∧ scS L f = [] ∧ scR L f = scL L f := by
  have e : scF L f = scF2 L f := by simp only [scF, scF3, if_neg h, if_neg h2]
  have : scF L f ≠ 0 := by rw [e]; exact h3
  exact ⟨e, by simp [scS, this], by simp [scR, this]⟩
theorem sc_good {L : List Int} {f : Int} (h : ¬ 300 < scN L f) (h2 : ¬ (scL L f).length < scN L f) (h3 : scF2 L f = 0) : scF L f = 0 ∧ scS L f = (scL L f).take (scN L f).toNat ∧ scR L f = (scL L f).drop (scN L f).toNat := by
  have e : scF L f = 0 := by simp only [scF, scF3, if_neg h, if_neg h2, h3]
  exact ⟨e, by simp [scS, e], by simp [scR, e]⟩

def Bytes01 (L : List Int) : Prop := ∀ x ∈ L, 0 ≤ x ∧ x ≤ 255
theorem bytes_nums (s : ByteArray) : Bytes01 (nums s) := by
  intro x hx
  simp only [nums, List.mem_map] at hx
  obtain ⟨b, _, rfl⟩ := hx
  have := b.toNat_lt
  omega
theorem rbV_bounds {L : List Int} (h : Bytes01 L) (f : Int) : 0 ≤ rbV L f ∧ rbV L f ≤ 255 := by
  unfold rbV
  split
  · cases L with
    | nil => simp
    | cons a l => simpa using h a (List.mem_cons_self)
  · simp
theorem rbL_bytes {L : List Int} (h : Bytes01 L) (f : Int) : Bytes01 (rbL L f) := by
  unfold rbL
  split
  · exact fun x hx => h x (List.mem_of_mem_tail hx)
  · exact h

def rdF1 (L : List Int) : Int := markF L 0
def rdL1 (L : List Int) : List Int := rbL L 0
def rdW (L : List Int) : Int := sideV (rdL1 L) (rdF1 L)
def rdF2 (L : List Int) : Int := sideF (rdL1 L) (rdF1 L)
def rdL2 (L : List Int) : List Int := rbL (rdL1 L) (rdF1 L)
def rdH (L : List Int) : Int := sideV (rdL2 L) (rdF2 L)
def rdF3 (L : List Int) : Int := sideF (rdL2 L) (rdF2 L)
def rdL3 (L : List Int) : List Int := rbL (rdL2 L) (rdF2 L)
def rdN (L : List Int) : Nat := (rdW L * rdH L).toNat
def rdX (L : List Int) : List Int := rtV (rdN L) (rdL3 L) (rdF3 L)
def rdF4 (L : List Int) : Int := rtF (rdN L) (rdL3 L) (rdF3 L)
def rdL4 (L : List Int) : List Int := rtL (rdN L) (rdL3 L) (rdF3 L)
def rdY (L : List Int) : List Int := rtV (rdN L) (rdL4 L) (rdF4 L)
def rdF5 (L : List Int) : Int := rtF (rdN L) (rdL4 L) (rdF4 L)
def rdL5 (L : List Int) : List Int := rtL (rdN L) (rdL4 L) (rdF4 L)
def rdS (L : List Int) : List Int := scS (rdL5 L) (rdF5 L)
def rdF6 (L : List Int) : Int := scF (rdL5 L) (rdF5 L)
def rdL6 (L : List Int) : List Int := scR (rdL5 L) (rdF5 L)
/-- The error of a reading. -/
def rdE (L : List Int) : Int := endF (rdL6 L) (rdF6 L)

theorem rdN_bounds (L : List Int) : 0 ≤ rdW L ∧ rdW L ≤ 6 ∧ 0 ≤ rdH L ∧ rdH L ≤ 6 ∧ 0 ≤ rdW L * rdH L ∧ rdW L * rdH L ≤ 36 ∧ rdW L * rdH L = (rdN L : Int) := by
  obtain ⟨a, b⟩ := sideV_bounds (rdL1 L) (rdF1 L)
  obtain ⟨c, d⟩ := sideV_bounds (rdL2 L) (rdF2 L)
  have h1 : 0 ≤ rdW L * rdH L := Int.mul_nonneg a c
  have h2 : rdW L * rdH L ≤ 36 := by
    have : rdW L * rdH L ≤ 6 * 6 := Int.mul_le_mul b d c (by decide)
    omega
  exact ⟨a, b, c, d, h1, h2, (Int.toNat_of_nonneg h1).symm⟩

end Go.Proofs.Ythmmgiaobakilaa
