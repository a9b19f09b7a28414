/- The walks of the project's reader: fail, readByte, readMark, readSide, readEnd: each in words of the bytes that are left and of the fault. -/
import Derived.Test.YthmmgiaobakilaaWrite
import Derived.Test.YthmmgiaobakilaaCodec
set_option maxRecDepth 100000
namespace Go.Proofs.Ythmmgiaobakilaa
open Go.RowKit

/-- The reader in its block. -/
structure RdAt (w : World) (rb : Nat) (s : ByteArray) (f : Int) : Prop where
  c0 : w.cell? ⟨rb, 0, none⟩ = some (.string s)
  c1 : w.cell? ⟨rb, 1, none⟩ = some (.int .i64 f)
  z0 : w.frozen? ⟨rb, 0, none⟩ = false
  z1 : w.frozen? ⟨rb, 1, none⟩ = false

theorem grown_trans {a b c : World} {r : Option Nat} (h : a.grownBy b r) (k : b.grownBy c r) : a.grownBy c r :=
  ⟨k.os.trans h.os, k.tape.trans h.tape, k.output.trans h.output, Nat.le_trans h.size k.size, fun i hi hr => (k.block i (Nat.lt_of_lt_of_le hi h.size) hr).trans (h.block i hi hr)⟩
theorem grown_setCell (w : World) (rb i : Nat) (v : Value) : w.grownBy (w.setCell ⟨rb, i, none⟩ v) (some rb) :=
  ⟨rfl, rfl, rfl, by simp [World.setCell], fun k _ hk => Below.heap_setCell _ _ _ _ (fun e => hk (by rw [e]))⟩
theorem grown_refl (w : World) (r : Option Nat) : w.grownBy w r := ⟨rfl, rfl, rfl, Nat.le_refl _, fun _ _ _ => rfl⟩

theorem RdAt.lt {w : World} {rb : Nat} {s : ByteArray} {f : Int} (h : RdAt w rb s f) : rb < w.heap.size := World.block_lt_of_cell? w ⟨rb, 0, none⟩ h.c0

theorem RdAt.later {w w' : World} {rb B : Nat} {s : ByteArray} {f : Int} (h : RdAt w rb s f) (hb : Below B w w') (hB : rb < B) : RdAt w' rb s f :=
  ⟨(hb.cell (p := ⟨rb, 0, none⟩) hB).trans h.c0, (hb.cell (p := ⟨rb, 1, none⟩) hB).trans h.c1, (hb.frozen (p := ⟨rb, 0, none⟩) hB).trans h.z0, (hb.frozen (p := ⟨rb, 1, none⟩) hB).trans h.z1⟩

theorem RdAt.set1 {w : World} {rb : Nat} {s : ByteArray} {f : Int} (h : RdAt w rb s f) (e : Int) : RdAt (w.setCell ⟨rb, 1, none⟩ (.int .i64 e)) rb s e := by
  have hs := h.c0
  have hf := h.c1
  have z0 := h.z0
  have z1 := h.z1
  constructor <;> simp_all [go_sem]
theorem RdAt.set0 {w : World} {rb : Nat} {s : ByteArray} {f : Int} (h : RdAt w rb s f) (t : ByteArray) : RdAt (w.setCell ⟨rb, 0, none⟩ (.string t)) rb t f := by
  have hs := h.c0
  have hf := h.c1
  have z0 := h.z0
  have z1 := h.z1
  constructor <;> simp_all [go_sem]

set_option maxHeartbeats 400000 in
theorem fail_any (w : World) (rb : Nat) (s : ByteArray) (f e : Int) (h : RdAt w rb s f) :
    Calls Try.prog 68 #[.pointer (some ⟨rb, 0, none⟩), .int .i64 e] w fun r w' => r = .returned (.tuple #[]) ∧ RdAt w' rb s (failF f e) ∧ w.grownBy w' (some rb) := by
  have hc1 := h.c1
  have hz1 := h.z1
  by_cases h0 : f = 0
  · have e1 : failF f e = e := by simp [failF, h0]
    rw [e1]
    have h0' : (f == 0) = true := by simp [h0]
    have HR := h.set1 e
    clear h h0 e1
    go_enter Try.func68, Try.ntmps68
    go_wp2
    go_end0
    exact ⟨rfl, HR, grown_setCell _ _ _ _⟩
  · have e1 : failF f e = f := by simp [failF, h0]
    rw [e1]
    have h0' : (f == 0) = false := by simp [h0]
    clear h0 e1
    go_enter Try.func68, Try.ntmps68
    go_wp2
    go_end0
    exact ⟨rfl, h, grown_refl _ _⟩

theorem nums_empty {s : ByteArray} (h : s.size = 0) : nums s = [] := List.eq_nil_of_length_eq_zero (by rw [nums_length]; exact h)
theorem nums_get (s : ByteArray) (i : Nat) (h : i < s.size) : (nums s)[i]? = some (s[i].toNat : Int) := by
  have h' : i < s.data.toList.length := by simpa using h
  simp only [nums, List.getElem?_map, List.getElem?_eq_getElem h', Option.map_some]
  rfl
theorem nums_tail (s : ByteArray) : nums (s.extract 1 s.size) = (nums s).tail := by
  rw [nums_extract, List.take_of_length_le (by simp [nums_length]), List.drop_one]
theorem nums_head (s : ByteArray) (h : 0 < s.size) : (nums s).headD 0 = (s[0].toNat : Int) := by
  have := nums_get s 0 h
  cases hn : nums s with
  | nil => rw [hn] at this; simp at this
  | cons a l => rw [hn] at this; simpa using this

set_option maxHeartbeats 1000000 in
theorem byte_any (w : World) (rb : Nat) (s : ByteArray) (f : Int) (h : RdAt w rb s f) (hs : s.size ≤ maxLen) :
    Calls Try.prog 67 #[.pointer (some ⟨rb, 0, none⟩)] w fun r w' => ∃ s', r = .returned (.int .i64 (rbV (nums s) f)) ∧ RdAt w' rb s' (rbF (nums s) f) ∧ nums s' = rbL (nums s) f ∧ w.grownBy w' (some rb) ∧ s'.size ≤ s.size := by
  have hc0 := h.c0
  have hc1 := h.c1
  have hz0 := h.z0
  unfold maxLen at hs
  by_cases h0 : f = 0
  · by_cases hl : s.size = 0
    · have hn := nums_empty hl
      have e1 : rbV (nums s) f = 0 := by simp [rbV, hn]
      have e2 : rbF (nums s) f = failF f 1 := by simp [rbF, failF, hn, h0]
      have e3 : rbL (nums s) f = nums s := by simp [rbL, hn]
      rw [e1, e2, e3]
      have h0' : (f != 0) = false := by simp [h0]
      have hl' : ((s.size : Int) == 0) = true := by simp [hl]
      clear h0 e1 e2 e3 hl hn
      go_enter Try.func67, Try.ntmps67
      go_wp2_with (go_at_call 68; refine (fail_any _ rb s f _ h).mono ?_; rintro r w1 ⟨rfl, hr, hg⟩)
      go_ret
      exact ⟨s, rfl, hr, rfl, hg, Nat.le_refl _⟩
    · have hp : 0 < s.size := by omega
      have e1 : rbV (nums s) f = (s[0].toNat : Int) := by simp only [rbV, h0, if_true]; exact nums_head s hp
      have hne : nums s ≠ [] := by intro hn; have := nums_length s; rw [hn] at this; simp at this; omega
      have e2 : rbF (nums s) f = 0 := by simp [rbF, h0, hne]
      have e3 : rbL (nums s) f = nums (s.extract 1 s.size) := by simp only [rbL, h0, if_true]; exact (nums_tail s).symm
      rw [e1, e2, e3]
      subst h0
      have HR := h.set0 (s.extract 1 s.size)
      have hl' : ((s.size : Int) == 0) = false := beq_eq_false_iff_ne.2 (by omega)
      have HZ : Hid ((s.extract 1 s.size).size ≤ s.size) := by show (s.extract 1 s.size).size ≤ s.size; rw [ByteArray.size_extract]; omega
      have hb0 : ((s[0]'hp).toNat : Int) ≤ 255 := by have := (s[0]'hp).toNat_lt; omega
      clear e1 e2 e3 hne h
      go_enter Try.func67, Try.ntmps67
      go_wp2
      go_ret
      exact ⟨s.extract 1 s.size, rfl, HR, rfl, grown_setCell _ _ _ _, HZ.out⟩
  · have e1 : rbV (nums s) f = 0 := by simp [rbV, h0]
    have e2 : rbF (nums s) f = f := by simp [rbF, h0]
    have e3 : rbL (nums s) f = nums s := by simp [rbL, h0]
    rw [e1, e2, e3]
    have h0' : (f != 0) = true := by simp [h0]
    clear h0 e1 e2 e3
    go_enter Try.func67, Try.ntmps67
    go_wp2
    go_ret
    exact ⟨s, rfl, h, rfl, grown_refl _ _, Nat.le_refl _⟩

end Go.Proofs.Ythmmgiaobakilaa
