/- The walk of the reference's numbers: a text's bytes as a new list. The text has at most 36 bytes. -/
import Derived.Test.YthmmgiaobakilaaRead
set_option maxRecDepth 100000
namespace Go.Proofs.Ythmmgiaobakilaa
open Go.RowKit

theorem nums_snoc (t : ByteArray) (j : Nat) (h : j < t.size) : (nums t).take (j + 1) = (nums t).take j ++ [(t[j].toNat : Int)] := by
  have hl : j < (nums t).length := by rw [nums_length]; exact h
  rw [List.take_succ_eq_append_getElem hl]
  have := nums_get t j h
  rw [List.getElem?_eq_getElem hl] at this
  simp only [Option.some.injEq] at this
  rw [this]

set_option maxHeartbeats 1000000 in
theorem numbers_any (t : ByteArray) (w : World) (ht : t.size ≤ 36) :
    Calls Try.prog 33 #[.string t] w fun e w' => ∃ v, e = .returned v ∧ w'.ownsRow w.heap.size 3 1 v t.size ((nums t).map (Value.int .i64)) ∧ Below w.heap.size w w' := by
  obtain ⟨i0, hi, hz0, hz1, hz2⟩ := info_parts infoInt
  go_enter Try.func33, Try.ntmps33
  go_wp2
  go_loopw [3, 4] (fun v i wr => ∃ j : Nat, j ≤ t.size ∧ i = .int .i64 j ∧ wr.ownsRow w.heap.size 3 1 v j (((nums t).take j).map (Value.int .i64)) ∧ Below w.heap.size w wr) (fun _ i _ => t.size - (intOf i).toNat)
  case atStart => exact ⟨0, Nat.zero_le _, rfl, by simpa using World.ownsRow_nil w w.heap.size 3 1, Below.refl _ _⟩
  case round =>
    obtain ⟨j, hj, rfl, own, hnx⟩ := hrel
    have hwz := hnx.size
    by_cases hlt : j < t.size
    · have HS := hide (nums_snoc t j hlt)
      have hb0 : ((t[j]'hlt).toNat : Int) ≤ 255 := by have := (t[j]'hlt).toNat_lt; omega
      go_wp2_with (at_builtin; refine wpList_append_own _ rfl (.tmp 11) (.tmp 16) 22 rfl w.heap.size 3 i0 (.int .i64 0) 1 8 Try.underlying22 hi hz0 hz1 hz2 rfl (by decide) _ _ _ rfl (own.alloc _) ⟨wr.heap.size, 0, none⟩ 1 1 [.int .i64 ((t[j]'hlt).toNat : Int)] rfl rfl ?c1 ?c2 ?c3 ?c4 ?c5 ?_)
      case c1 => exact cell_one_new _ _ _
      case c2 => intro u hu; simp at hu; subst hu; rfl
      case c3 => unfold maxLen; omega
      case c4 => omega
      case c5 => simp; omega
      intro v' w1 h1 hg _
      have R : w1.ownsRow w.heap.size 3 1 v' (j + 1) (((nums t).take (j + 1)).map (Value.int .i64)) := by rw [unhide HS]; simpa using h1
      have R2 : Below w.heap.size w w1 := (hnx.alloc (by omega) _).grown hg (by simp; omega) (fun q hq => (own.lt q hq).1)
      clear h1 hg own hnx HS
      go_wp2
      go_roundw
      case rel => exact ⟨j + 1, by omega, by go_num, R, R2⟩
      case measure => simp [intOf]; omega
    · go_wp2
      go_ret
      have hj' : j = t.size := by omega
      subst hj'
      exact ⟨_, rfl, by rw [List.take_of_length_le (by rw [nums_length]; exact Nat.le_refl _)] at own; exact own, hnx⟩

end Go.Proofs.Ythmmgiaobakilaa
