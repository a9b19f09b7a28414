import Derived.Test.YthmmgiaobakilaaJ30
import Derived.Test.YthmmgiaobakilaaJ37
/- The law's own function root. -/
set_option maxRecDepth 100000
namespace Go.Proofs.Ythmmgiaobakilaa
open Go.RowKit Go.Deep

theorem count_down {p : Nat → Bool} (hp : ∀ k, p (k + 1) = true → p k = true) : ∀ N, ((List.range N).filter p).length ≤ N ∧ ∀ k, k < N → (p k = true ↔ k < ((List.range N).filter p).length)
  | 0 => ⟨by simp, fun k hk => by omega⟩
  | N + 1 => by
    obtain ⟨h1, h2⟩ := count_down hp N
    rw [List.range_succ, List.filter_append, List.length_append]
    obtain ⟨L, hL⟩ : ∃ L, ((List.range N).filter p).length = L := ⟨_, rfl⟩
    rw [hL] at h1 h2 ⊢
    cases hN : p N with
    | true =>
      have e : ([N].filter p).length = 1 := by simp [hN]
      have hLN : L = N := by
        cases N with
        | zero => omega
        | succ M => have := (h2 M (by omega)).1 (hp M hN); omega
      rw [e]
      refine ⟨by omega, fun k hk => ?_⟩
      by_cases hkN : k = N
      · subst hkN; exact ⟨fun _ => by omega, fun _ => hN⟩
      · have := h2 k (by omega); rw [this]; omega
    | false =>
      have e : ([N].filter p).length = 0 := by simp [hN]
      rw [e]
      refine ⟨by omega, fun k hk => ?_⟩
      by_cases hkN : k = N
      · subst hkN; rw [hN]; exact ⟨(fun h => by cases h), fun h => by omega⟩
      · have := h2 k (by omega); rw [this]; omega
theorem root_le (n : Nat) : rootN n ≤ 256 := (count_down (p := fun k => decide ((2 * k + 1) * (2 * k + 1) < 4 * n)) (fun k h => by
  have h := of_decide_eq_true h
  refine decide_eq_true (Nat.lt_of_le_of_lt (Nat.mul_le_mul ?_ ?_) h) <;> omega) 256).1
theorem root_iff (n k : Nat) (hk : k < 256) : (2 * k + 1) * (2 * k + 1) < 4 * n ↔ k < rootN n := by
  have := (count_down (p := fun k => decide ((2 * k + 1) * (2 * k + 1) < 4 * n)) (fun k h => by
    have h := of_decide_eq_true h
    refine decide_eq_true (Nat.lt_of_le_of_lt (Nat.mul_le_mul ?_ ?_) h) <;> omega) 256).2 k hk
  rw [decide_eq_true_iff] at this
  exact this
theorem root_lt (n : Nat) (hn : n ≤ 65025) : rootN n < 256 := by
  rcases Nat.lt_or_ge (rootN n) 256 with h | h
  · exact h
  · have := (root_iff n 255 (by omega)).2 (by omega)
    omega
set_option maxHeartbeats 1000000 in
theorem root_any (w : World) (n : Nat) (hn : n ≤ 65025) : Calls Try.prog 29 #[.int .i64 (n : Int)] w fun e w' => e = .returned (.int .i64 (rootN n : Int)) ∧ w' = w := by
  have hr := root_lt n hn
  obtain ⟨r, hR⟩ : ∃ r, rootN n = r := ⟨_, rfl⟩
  have hi := fun k hk => root_iff n k hk
  rw [hR] at hr hi ⊢
  clear hR
  go_enter Try.func29, Try.ntmps29
  go_wp2
  go_loopw [3] (fun i wr => ∃ k : Nat, k ≤ r ∧ i = .int .i64 k ∧ wr = w) (fun i _ => r - (intOf i).toNat)
  case atStart => exact ⟨0, Nat.zero_le _, rfl, rfl⟩
  case round =>
    obtain ⟨k, hk, rfl, rfl⟩ := hrel
    have hi := hi k (by omega)
    obtain ⟨P, hP⟩ : ∃ P, (2 * k + 1) * (2 * k + 1) = P := ⟨_, rfl⟩
    have hP2 : P ≤ 511 * 511 := by rw [← hP]; exact Nat.mul_le_mul (by omega) (by omega)
    have hPi : (2 * (k : Int) + 1) * (2 * (k : Int) + 1) = (P : Int) := by rw [← hP]; simp
    rw [hP] at hi
    clear hP
    by_cases hlt : k < r
    · have h1 : (P : Int) < 4 * (n : Int) := by have := hi.2 hlt; omega
      clear hi
      go_wp2
      go_roundw
      case rel => exact ⟨k + 1, by omega, by go_num, by first | rfl | trivial⟩
      case measure => simp [intOf]; omega
    · have h1 : decide ((P : Int) < 4 * (n : Int)) = false := by
        rw [decide_eq_false_iff_not]; intro h; exact hlt (hi.1 (by omega))
      have hkr : k = r := by omega
      subst hkr
      clear hi
      go_wp2
      go_ret
      exact ⟨rfl, rfl⟩
end Go.Proofs.Ythmmgiaobakilaa
