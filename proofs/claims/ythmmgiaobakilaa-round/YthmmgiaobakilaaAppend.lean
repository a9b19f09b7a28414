/- The walk of the project's appendTexels: the bytes of a list of texels behind a row of bytes that the call owns. The texels are from 0 to 255. -/
import Derived.Test.YthmmgiaobakilaaWrite
set_option maxRecDepth 100000
namespace Go.Proofs.Ythmmgiaobakilaa
open Go.RowKit

theorem infoByte : (Try.prog.info? 5).map (fun i => (i.zero, i.size, i.bytes)) = some (some (.int .u8 0), 1, 1) := by kernel_rfl

theorem own_snoc {w : World} {base : Nat} {v : Value} {k j : Nat} {bs : List Value} {xs : List Int} (hj : j < xs.length)
    (h : w.ownsRow base 5 1 v (k + j + 1) (bs ++ (xs.take j).map (Value.int .u8) ++ [.int .u8 (xs.getD j 0)])) :
    w.ownsRow base 5 1 v (k + (j + 1)) (bs ++ (xs.take (j + 1)).map (Value.int .u8)) := by
  rw [List.take_succ_eq_append_getElem hj, List.map_append, ← List.append_assoc]
  simpa [List.getD, List.getElem?_eq_getElem hj, Nat.add_assoc] using h

set_option maxHeartbeats 400000 in
theorem append_any (v : Value) (k : Nat) (bs : List Value) (ao : Option Addr) (c : Nat) (xs : List Int) (w : World) (base : Nat) (hown : w.ownsRow base 5 1 v k bs) (hx : IntsAt base w ao xs)
    (hlx : xs.length ≤ 1000) (hk : k ≤ 1000) (hbase : base ≤ w.heap.size) (hall : xs.all texelB = true) :
    Calls Try.prog 42 #[v, .slice ao xs.length c] w fun e w' => ∃ v', e = .returned v' ∧ w'.ownsRow base 5 1 v' (k + xs.length) (bs ++ xs.map (Value.int .u8)) ∧ Below base w w' := by
  obtain ⟨i0, hi, hz0, hz1, hz2⟩ := info_parts infoByte
  go_enter Try.func42, Try.ntmps42
  go_wp2
  go_loopw [0, 9] (fun v i wr => ∃ j : Nat, j ≤ xs.length ∧ i = .int .i64 j ∧ wr.ownsRow base 5 1 v (k + j) (bs ++ (xs.take j).map (Value.int .u8)) ∧ Below base w wr) (fun _ i _ => xs.length - (intOf i).toNat)
  case atStart => exact ⟨0, Nat.zero_le _, rfl, by simpa using hown, Below.refl _ _⟩
  case round =>
    obtain ⟨j, hj, rfl, hown', hnx⟩ := hrel
    by_cases hlt : j < xs.length
    · rcases hx with hx | ⟨b, off, rfl, hbB, hcell⟩
      · simp [hx] at hlt
      have hc1 := (hnx.cell (p := ⟨b, off + j, none⟩) hbB).trans (hcell j hlt)
      clear hcell
      have hbnd : texelB (xs.getD j 0) = true := by
        have := List.all_eq_true.1 hall (xs[j]) (List.getElem_mem hlt)
        simpa [List.getD, List.getElem?_eq_getElem hlt] using this
      have HSN : Hid (∀ (u : World) (v' : Value), u.ownsRow base 5 1 v' (k + j + 1) (bs ++ (xs.take j).map (Value.int .u8) ++ [.int .u8 (xs.getD j 0)]) → u.ownsRow base 5 1 v' (k + (j + 1)) (bs ++ (xs.take (j + 1)).map (Value.int .u8))) := fun u v' h => own_snoc hlt h
      obtain ⟨x, hxe⟩ : ∃ x, x = xs.getD j 0 := ⟨_, rfl⟩
      rw [← hxe] at hc1 hbnd HSN
      simp [texelB] at hbnd
      obtain ⟨x0, x1⟩ := hbnd
      clear hxe
      go_wp2_with (at_builtin; refine wpList_append_own _ rfl _ _ 58 rfl base 5 i0 (.int .u8 0) 1 1 Try.underlying58 hi hz0 hz1 hz2 rfl (by decide) _ _ _ rfl (hown'.alloc _) ⟨wr.heap.size, 0, none⟩ 1 1 [.int .u8 x] rfl rfl ?c1 ?c2 ?c3 ?c4 ?c5 ?_)
      case c1 => exact cell_one_new _ _ _
      case c2 => intro u hu; simp at hu; subst hu; rfl
      case c3 => unfold maxLen; omega
      case c4 => omega
      case c5 => have := hnx.size; simp; omega
      intro v' w1 h1 hg _
      have R : w1.ownsRow base 5 1 v' (k + (j + 1)) (bs ++ (xs.take (j + 1)).map (Value.int .u8)) := HSN.out w1 v' (by simpa using h1)
      have R2 : Below base w w1 := (hnx.alloc (by have := hnx.size; omega) _).grown hg (by have := hnx.size; simp; omega) (fun q hq => (hown'.lt q hq).1)
      clear h1 hg hown' hnx hc1 HSN
      go_wp2
      go_roundw
      case rel => exact ⟨j + 1, by omega, by go_num, R, R2⟩
      case measure => simp [intOf]; omega
    · go_wp2
      go_ret
      have hj' : j = xs.length := by omega
      subst hj'
      exact ⟨_, rfl, by simpa using hown', hnx⟩

end Go.Proofs.Ythmmgiaobakilaa
