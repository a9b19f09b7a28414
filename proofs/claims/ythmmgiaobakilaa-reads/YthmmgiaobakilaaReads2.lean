/- The walks of the project's readTexels and readSource. -/
import Derived.Test.YthmmgiaobakilaaReads1
import Derived.Test.YthmmgiaobakilaaClone
set_option maxRecDepth 100000
namespace Go.Proofs.Ythmmgiaobakilaa
open Go.RowKit

theorem infoInt : (Try.prog.info? 3).map (fun i => (i.zero, i.size, i.bytes)) = some (some (.int .i64 0), 1, 8) := by kernel_rfl

theorem made_ints (n : Nat) : (madeCells #[Value.int .i64 0] n).toList = ((List.replicate n (0 : Int)).map (Value.int .i64)) := by
  apply List.ext_getElem
  · simp [size_madeCells]
  · intro i h1 h2
    simp [madeCells, Nat.mod_one]

set_option maxHeartbeats 1000000 in
theorem rtexels_any (w : World) (rb : Nat) (s : ByteArray) (f : Int) (c : Int) (n : Nat) (hc : c = (n : Int)) (hn36 : n ≤ 36) (h : RdAt w rb s f) (hs : s.size ≤ maxLen) :
    Calls Try.prog 45 #[.pointer (some ⟨rb, 0, none⟩), .int .i64 c] w fun r w' => ∃ s', r = .returned (.slice (some ⟨w.heap.size, 0, none⟩) n n) ∧
      w'.ownsRow w.heap.size 3 1 (.slice (some ⟨w.heap.size, 0, none⟩) n n) n ((rtV n (nums s) f).map (Value.int .i64)) ∧ RdAt w' rb s' (rtF n (nums s) f) ∧ nums s' = rtL n (nums s) f ∧ w.grownBy w' (some rb) ∧ s'.size ≤ s.size := by
  obtain ⟨i0, hi, hz0, hz1, hz2⟩ := info_parts infoInt
  have hlt := h.lt
  have HC : Hid (c = (n : Int)) := hc
  clear hc
  go_enter Try.func45, Try.ntmps45
  go_wp2_with (at_make; refine wpList_make_full _ rfl _ _ 22 rfl w.heap.size 3 i0 (.int .i64 0) 1 Try.underlying22 hi hz0 hz1 _ _ _ _ n rfl rfl HC.out HC.out ?b1 ?b2 ?b3 ?_)
  case b1 => rw [hz2]; omega
  case b2 => unfold maxLen; omega
  case b3 => exact Nat.le_refl _
  intro w0 own0 g0
  rw [made_ints] at own0
  have h' : RdAt w0 rb s f := ⟨g0.cell h.c0 (by simp), g0.cell h.c1 (by simp), (World.frozen?_of_block (g0.block rb hlt (by simp))).trans h.z0, (World.frozen?_of_block (g0.block rb hlt (by simp))).trans h.z1⟩
  have G0 : w.grownBy w0 (some rb) := ⟨g0.os, g0.tape, g0.output, g0.size, fun k hk _ => g0.block k hk (by simp)⟩
  clear h g0
  go_wp2
  go_loopw [11] (fun i wr => ∃ j : Nat, j ≤ n ∧ i = .int .i64 j ∧ ∃ s', wr.ownsRow w.heap.size 3 1 (.slice (some ⟨w.heap.size, 0, none⟩) n n) n ((rtV j (nums s) f ++ List.replicate (n - j) 0).map (Value.int .i64)) ∧ RdAt wr rb s' (rtF j (nums s) f) ∧ nums s' = rtL j (nums s) f ∧ w.grownBy wr (some rb) ∧ s'.size ≤ s.size) (fun i _ => n - (intOf i).toNat)
  case atStart => exact ⟨0, Nat.zero_le _, rfl, s, by simpa [rtV_zero] using own0, h', rfl, G0, Nat.le_refl _⟩
  case round =>
    clear own0 h' G0
    obtain ⟨j, hj, rfl, s', own, hr, hnn, hg, hz⟩ := hrel
    have HN : Hid (nums s' = rtL j (nums s) f) := hnn
    clear hnn
    by_cases hjn : j < n
    · go_wp2_with fail
      refine (byte_any _ rb s' _ hr (by omega)).mono ?_
      rintro r w1 ⟨s2, rfl, hr2, hn2, hg2, hz2'⟩
      have HV : Hid (rbV (nums s') (rtF j (nums s) f) = rbV (rtL j (nums s) f) (rtF j (nums s) f)) := by show _ = _; rw [HN.out]
      have own1 := own.kept hg2 (.inr (by simp [Value.ownBlock]; omega))
      have hcell : ∃ v, w1.cell? ⟨w.heap.size, j, none⟩ = some v := by
        rw [own1.cellAt j (by omega)]
        refine ⟨_, List.getElem?_eq_getElem (by rw [List.length_map, List.length_append, rtV_length, List.length_replicate]; omega)⟩
      obtain ⟨v0, hcell⟩ := hcell
      have hfz := own1.frozenAt j
      generalize hval : rbV (nums s') (rtF j (nums s) f) = val at *
      have HVAL : Hid (rbV (nums s') (rtF j (nums s) f) = val) := hval
      clear hval
      obtain ⟨own2, g2⟩ := own1.stored j (.int .i64 val)
      have R1 : (w1.setCell ⟨w.heap.size, j, none⟩ (.int .i64 val)).ownsRow w.heap.size 3 1 (.slice (some ⟨w.heap.size, 0, none⟩) n n) n ((rtV (j + 1) (nums s) f ++ List.replicate (n - (j + 1)) 0).map (Value.int .i64)) := by
        have e : ((rtV j (nums s) f ++ List.replicate (n - j) 0).map (Value.int .i64)).set j (.int .i64 val) = ((rtV (j + 1) (nums s) f ++ List.replicate (n - (j + 1)) 0).map (Value.int .i64)) := by
          rw [← List.map_set, set_next _ n j val (rtV_length _ _ _) hjn, rtV_succ, ← HN.out, HVAL.out]
        rw [← e]
        exact own2
      have hne : rb ≠ w.heap.size := by omega
      have R2 : RdAt (w1.setCell ⟨w.heap.size, j, none⟩ (.int .i64 val)) rb s2 (rtF (j + 1) (nums s) f) := by
        have e : rbF (nums s') (rtF j (nums s) f) = rtF (j + 1) (nums s) f := by rw [rtF_succ, HN.out]
        rw [e] at hr2
        have hbk : (w1.setCell ⟨w.heap.size, j, none⟩ (.int .i64 val)).heap[rb]? = w1.heap[rb]? := Below.heap_setCell _ _ _ _ hne
        exact ⟨(World.cell?_of_block (w := w1) hbk).trans hr2.c0, (World.cell?_of_block (w := w1) hbk).trans hr2.c1, (World.frozen?_of_block (w := w1) hbk).trans hr2.z0, (World.frozen?_of_block (w := w1) hbk).trans hr2.z1⟩
      have R3 : nums s2 = rtL (j + 1) (nums s) f := by rw [rtL_succ, hn2, HN.out]
      have R4 : w.grownBy (w1.setCell ⟨w.heap.size, j, none⟩ (.int .i64 val)) (some rb) := by
        have hg' := grown_trans hg hg2
        exact ⟨hg'.os, hg'.tape, hg'.output, by have := hg'.size; simpa [World.setCell] using this, fun k hk hr => (Below.heap_setCell _ _ _ _ (by show k ≠ w.heap.size; omega)).trans (hg'.block k hk hr)⟩
      have R5 : s2.size ≤ s.size := by omega
      have HR : Hid _ := And.intro R1 (And.intro R2 (And.intro R3 (And.intro R4 R5)))
      clear R1 R2 R3 R4 R5 own own1 own2 g2 hg hg2 hr hr2 hn2 HV HVAL hz hz2'
      go_wp2
      go_roundw
      case rel => exact ⟨j + 1, by omega, by go_num, s2, HR.out⟩
      case measure => simp [intOf]; omega
    · have hjn' : j = n := by omega
      subst hjn'
      go_wp2
      go_ret
      exact ⟨s', rfl, by simpa using own, hr, HN.out, hg, hz⟩

end Go.Proofs.Ythmmgiaobakilaa
