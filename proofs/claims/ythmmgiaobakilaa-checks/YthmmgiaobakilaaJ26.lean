import Derived.Test.YthmmgiaobakilaaJ01
/- The project's kindOf; what it adds to a token. -/
set_option maxRecDepth 100000
namespace Go.Proofs.Ythmmgiaobakilaa
open Go.RowKit

def runesK : List Int := [8592, 8230, 215, 247, 8804, 8800, 43, 45, 61, 60, 40, 41, 123, 125, 91, 93, 44, 59]
def kOf (r : Int) : Int := if r = 32 ∨ r = 10 then 1 else if r ∈ runesK then 4 else if 97 ≤ r ∧ r ≤ 122 then 2 else if 48 ≤ r ∧ r ≤ 57 then 3 else 0
set_option maxHeartbeats 8000000 in
theorem kindOf_any (r : Int) (w : World) : Calls Try.prog 71 #[.int .i32 r] w fun e w' => e = .returned (.int .i64 (kOf r)) ∧ w' = w := by
  by_cases h1 : r = 32 ∨ r = 10
  · have e : kOf r = 1 := by unfold kOf; rw [if_pos h1]
    rw [e]
    rcases h1 with rfl | rfl
    all_goals
      go_enter Try.func71, Try.ntmps71
      go_wp2
      go_ret
      exact ⟨rfl, rfl⟩
  by_cases h2 : r ∈ runesK
  · have e : kOf r = 4 := by unfold kOf; rw [if_neg h1, if_pos h2]
    rw [e]
    clear h1 e
    simp only [runesK, List.mem_cons, List.not_mem_nil, or_false] at h2
    rcases h2 with rfl | rfl | rfl | rfl | rfl | rfl | rfl | rfl | rfl | rfl | rfl | rfl | rfl | rfl | rfl | rfl | rfl | rfl
    all_goals
      go_enter Try.func71, Try.ntmps71
      go_wp2
      go_ret
      exact ⟨rfl, rfl⟩
  have n1 : ¬ r = 32 := fun e => h1 (.inl e)
  have n2 : ¬ r = 10 := fun e => h1 (.inr e)
  simp only [runesK, List.mem_cons, List.not_mem_nil, or_false, not_or] at h2
  obtain ⟨m1, m2, m3, m4, m5, m6, m7, m8, m9, m10, m11, m12, m13, m14, m15, m16, m17, m18⟩ := h2
  have hn : r ∉ runesK := by simp only [runesK, List.mem_cons, List.not_mem_nil, or_false, not_or]; exact ⟨m1, m2, m3, m4, m5, m6, m7, m8, m9, m10, m11, m12, m13, m14, m15, m16, m17, m18⟩
  by_cases h3 : 97 ≤ r ∧ r ≤ 122
  · have e : kOf r = 2 := by unfold kOf; rw [if_neg h1, if_neg hn, if_pos h3]
    rw [e]
    obtain ⟨h4, h5⟩ := h3
    clear h1 hn e
    go_enter Try.func71, Try.ntmps71
    go_wp2
    go_ret
    exact ⟨rfl, rfl⟩
  by_cases h6 : 48 ≤ r ∧ r ≤ 57
  · have e : kOf r = 3 := by unfold kOf; rw [if_neg h1, if_neg hn, if_neg h3, if_pos h6]
    rw [e]
    obtain ⟨h4, h5⟩ := h6
    have h7 : ¬ 97 ≤ r := by omega
    clear h1 hn e h3
    go_enter Try.func71, Try.ntmps71
    go_wp2
    go_ret
    exact ⟨rfl, rfl⟩
  have e : kOf r = 0 := by unfold kOf; rw [if_neg h1, if_neg hn, if_neg h3, if_neg h6]
  rw [e]
  clear h1 hn e
  by_cases a1 : 97 ≤ r
  · have a2 : ¬ r ≤ 122 := fun h => h3 ⟨a1, h⟩
    have a3 : 48 ≤ r := by omega
    have a4 : ¬ r ≤ 57 := by omega
    go_enter Try.func71, Try.ntmps71
    go_wp2
    go_ret
    exact ⟨rfl, rfl⟩
  · by_cases a2 : 48 ≤ r
    · have a3 : ¬ r ≤ 57 := fun h => h6 ⟨a2, h⟩
      go_enter Try.func71, Try.ntmps71
      go_wp2
      go_ret
      exact ⟨rfl, rfl⟩
    · go_enter Try.func71, Try.ntmps71
      go_wp2
      go_ret
      exact ⟨rfl, rfl⟩
theorem enc_low (r : Int) (h0 : 0 ≤ r) (h1 : r < 128) : Utf8.encode r = ⟨#[r.toNat.toUInt8]⟩ := by
  have hv : Utf8.valid r = true := by unfold Utf8.valid; simp; omega
  unfold Utf8.encode
  rw [hv]
  simp only [if_true]
  rw [if_pos (by omega)]
set_option maxHeartbeats 4000000 in
theorem add_word (r : Int) (w : World) (b o : Nat) (wd : ByteArray) (hr : 97 ≤ r ∧ r ≤ 122) (c0 : w.cell? ⟨b, o, none⟩ = some (.int .i64 2)) (c2 : w.cell? ⟨b, o + 2, none⟩ = some (.string wd)) (z2 : w.frozen? ⟨b, o + 2, none⟩ = false) (hl : wd.size ≤ 1000) :
    Calls Try.prog 72 #[.pointer (some ⟨b, o, none⟩), .int .i32 r] w fun e w' => e = .returned (.tuple #[]) ∧ w' = w.setCell ⟨b, o + 2, none⟩ (.string (wd ++ ⟨#[r.toNat.toUInt8]⟩)) := by
  have he := enc_low r (by omega) (by omega)
  have hz : (Utf8.encode r).size = 1 := by rw [he]; rfl
  have HE := hide he
  obtain ⟨h4, h5⟩ := hr
  clear he
  go_enter Try.func72, Try.ntmps72
  go_wp2
  go_end0
  exact ⟨rfl, by rw [unhide HE]⟩
set_option maxHeartbeats 4000000 in
theorem add_number (r n : Int) (w : World) (b o : Nat) (hr : 48 ≤ r ∧ r ≤ 57) (hn : 0 ≤ n ∧ n ≤ 65535) (c0 : w.cell? ⟨b, o, none⟩ = some (.int .i64 3)) (c2 : w.cell? ⟨b, o + 3, none⟩ = some (.int .i32 n)) (z2 : w.frozen? ⟨b, o + 3, none⟩ = false) :
    Calls Try.prog 72 #[.pointer (some ⟨b, o, none⟩), .int .i32 r] w fun e w' => e = .returned (.tuple #[]) ∧ w' = w.setCell ⟨b, o + 3, none⟩ (.int .i32 (10 * n + r - 48)) := by
  obtain ⟨h4, h5⟩ := hr
  obtain ⟨h6, h7⟩ := hn
  go_enter Try.func72, Try.ntmps72
  go_wp2
  go_end0
  exact ⟨rfl, rfl⟩
set_option maxHeartbeats 4000000 in
theorem add_sign (r s : Int) (w : World) (b o : Nat) (c0 : w.cell? ⟨b, o, none⟩ = some (.int .i64 4)) (c2 : w.cell? ⟨b, o + 4, none⟩ = some (.int .i32 s)) (z2 : w.frozen? ⟨b, o + 4, none⟩ = false) :
    Calls Try.prog 72 #[.pointer (some ⟨b, o, none⟩), .int .i32 r] w fun e w' => e = .returned (.tuple #[]) ∧ w' = w.setCell ⟨b, o + 4, none⟩ (.int .i32 r) := by
  go_enter Try.func72, Try.ntmps72
  go_wp2
  go_end0
  exact ⟨rfl, rfl⟩

end Go.Proofs.Ythmmgiaobakilaa
