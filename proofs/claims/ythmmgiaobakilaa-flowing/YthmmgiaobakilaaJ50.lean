import Derived.Test.YthmmgiaobakilaaJ43
import Derived.Test.YthmmgiaobakilaaJ48
import Derived.Test.YthmmgiaobakilaaJ49
/- Small facts for the walk of Looped. -/
set_option maxRecDepth 100000
namespace Go.Proofs.Ythmmgiaobakilaa
open Go.RowKit Go.Deep

theorem lpS_lits (a b c : Nat) : (((((((⟨#[111, 112, 101, 110, 32, 110, 59, 32, 102, 111, 114, 32, 105, 32]⟩ : ByteArray) ++ dgS a) ++ ⟨#[32, 226, 128, 166, 32]⟩) ++ dgS b) ++ ⟨#[32, 123, 32, 102, 111, 114, 32, 106, 32, 48, 32, 226, 128, 166, 32]⟩) ++ dgS c) ++ ⟨#[32, 123, 32, 110, 32, 226, 134, 144, 32, 110, 32, 43, 32, 105, 59, 32, 125, 32, 125, 32, 111, 117, 116, 32, 110, 59]⟩) = lpS a b c := by
  unfold lpS
  rw [show lp1 ++ (⟨#[32]⟩ : ByteArray) = ⟨#[111, 112, 101, 110, 32, 110, 59, 32, 102, 111, 114, 32, 105, 32]⟩ from by kernel_rfl, show lp2 ++ (⟨#[32]⟩ : ByteArray) = ⟨#[32, 226, 128, 166, 32]⟩ from by kernel_rfl, show lp3 ++ (⟨#[32]⟩ : ByteArray) = ⟨#[32, 123, 32, 102, 111, 114, 32, 106, 32, 48, 32, 226, 128, 166, 32]⟩ from by kernel_rfl]
  rfl
theorem dgS_size {n : Nat} (h : n < 400) : (dgS n).size ≤ 3 := by
  unfold dgS; rw [strOfNums_size]; exact dg_len n (List.mem_range.2 h)
theorem pick_nat {c n : Int} (hn : 0 < n) : ∃ k : Nat, pickV c n = (k : Int) ∧ (k : Int) < n := by
  have := pick_in (c := c) hn
  exact ⟨(pickV c n).toNat, by omega, by omega⟩
theorem sum_snoc (c1 : Int) : ∀ (k : Nat) (i : Int), sumV (k + 1) i c1 = sumV k i c1 + (i + k) * c1
  | 0, i => by simp [sumV]
  | k + 1, i => by
    rw [sumV, sum_snoc c1 k (i + 1), sumV]
    rw [show i + 1 + (k : Int) = i + ((k + 1 : Nat) : Int) by omega]
    omega
theorem sum_le {c1 : Int} (h0 : 0 ≤ c1) (h : c1 ≤ 21) : ∀ (k : Nat) (i : Int), 0 ≤ i → i + k ≤ 100 → sumV k i c1 ≤ 2100 * k
  | 0, _, _, _ => by simp [sumV]
  | k + 1, i, hi, hk => by
    have h1 : i * c1 ≤ 100 * 21 := Int.mul_le_mul (by omega) h h0 (by omega)
    have h2 := sum_le h0 h k (i + 1) (by omega) (by omega)
    rw [sumV]; omega
theorem size_add (x y : ByteArray) : (x ++ y).size = x.size + y.size := ByteArray.size_append
end Go.Proofs.Ythmmgiaobakilaa
