import Derived.Test.YthmmgiaobakilaaJ38
/- The project's lead. -/
set_option maxRecDepth 100000
namespace Go.Proofs.Ythmmgiaobakilaa
open Go.RowKit Go.Deep

set_option maxHeartbeats 16000000 in
theorem flead_any (m : Nat) (hm : m ≤ 100000) (e : Ex) (w : World) (cb hc : Nat) (ho : Option Addr) (H : List ByteArray) (F : Flt) (Q : Nat → Prop) (t x : Tok) (k : Ex) (ao : Option Addr) (c : Nat) (may : Bool) (hsz : szE e ≤ m) (h : FcAt w cb ho hc H F) (hv : RepV w Q (exV x (.slice ao (lenE k) c)) e) (hQ : ∀ k, Q k → k ≠ cb) :
    Calls Try.prog 113 #[.pointer (some ⟨cb, 0, none⟩), tokP t, exV x (.slice ao (lenE k) c), .bool may] w fun r w' => r = .returned (.tuple #[]) ∧ FcAt w' cb ho hc H (ldF H t e may F) ∧ Kept cb w w' := by
  have hlt := h.lt
  obtain ⟨w1, hw1⟩ : ∃ w1, (w.alloc (.cells #[.int .i64 (kP t), .int .i64 t.place, .string (wP t), .int .i32 (nP t), .int .i32 (sP t)] 126)).alloc (.cells #[.int .i64 (kP x), .int .i64 x.place, .string (wP x), .int .i32 (nP x), .int .i32 (sP x), .slice ao (lenE k) c] 154) = w1 := ⟨_, rfl⟩
  have s1 : w1.heap[w.heap.size + 1]? = some (.cells #[.int .i64 (kP x), .int .i64 x.place, .string (wP x), .int .i32 (nP x), .int .i32 (sP x), .slice ao (lenE k) c] 154 (0, 0)) := by rw [← hw1]; simpa using heap_alloc_new (w.alloc (.cells #[.int .i64 (kP t), .int .i64 t.place, .string (wP t), .int .i32 (nP t), .int .i32 (sP t)] 126)) (.cells #[.int .i64 (kP x), .int .i64 x.place, .string (wP x), .int .i32 (nP x), .int .i32 (sP x), .slice ao (lenE k) c] 154)
  have t1 : w1.heap[w.heap.size]? = some (.cells #[.int .i64 (kP t), .int .i64 t.place, .string (wP t), .int .i32 (nP t), .int .i32 (sP t)] 126 (0, 0)) := by rw [← hw1]; exact (Below.heap_alloc _ _ _ (by simp)).trans (heap_alloc_new w _)
  have B1 : Below w.heap.size w w1 := by rw [← hw1]; exact ((Below.refl _ w).alloc (Nat.le_refl _) _).alloc (by simp) _
  have f1 : FcAt w1 cb ho hc H F := h.below B1
  have v1 : RepV w1 Q (exV x (.slice ao (lenE k) c)) e := hv.later (fun j _ hl => B1.block j hl) (fun j hj _ => hj)
  have lt1 : w.heap.size + 1 < w1.heap.size := (Array.getElem?_eq_some_iff.1 s1).1
  clear h hv
  have d1 := (blk6 s1).1
  have y1 := (bk5 t1).1
  have c1 := (bk3 f1.blk).1
  have nobr : ∀ F2 w2, FcAt w2 cb ho hc H F2 → Kept cb w w2 → RepV w2 Q (exV x (.slice ao (lenE k) c)) e → F2 = (if !may && hid1 H e then noteF F 11 t.place else F) → Calls Try.prog 132 #[.pointer (some ⟨cb, 0, none⟩), exV x (.slice ao (lenE k) c)] w2 fun r w' => r = .returned (.tuple #[]) ∧ FcAt w' cb ho hc H (ldF H t e may F) ∧ Kept cb w w' := fun F2 w2 a1 a2 a3 a4 => by
    refine (ftch_all m hm e w2 cb hc ho H F2 Q _ hsz a1 a3 hQ).mono ?_
    rintro r w' ⟨g1, g2, g3⟩
    exact ⟨g1, by unfold ldF; rw [← a4]; exact g2, a2.trans g3⟩
  have NB := hide nobr
  clear nobr
  have V1 := hide v1
  unfold exV tokP tkV at *
  go_enter Try.func113, Try.ntmps113
  cases hmay : may
  · go_wp2_with fail
    clear hw1
    refine (fhid_all m hm e w1 cb hc ho H F Q _ hsz f1 (unhide V1)).mono ?_
    rintro r w2 ⟨rfl, b2⟩
    have f2 := f1.below b2
    have v2 : RepV w2 Q (exV x (.slice ao (lenE k) c)) e := (unhide V1).later (fun j _ hl => b2.block j hl) (fun j hj _ => hj)
    have s2 := (b2.block _ lt1).trans s1
    have t2 := (b2.block _ (by omega)).trans t1
    have K2 : Kept cb w w2 := Kept.below (B1.trans (b2.mono B1.size))
    have l2 := b2.size
    have d2 := (blk6 s2).1
    have y2 := (bk5 t2).1
    have c2 := (bk3 f2.blk).1
    cases hh : hid1 H e
    · have fx := unhide NB F w2 f2 K2 v2 (by rw [hmay, hh]; rfl)
      rw [hmay] at fx
      have FX := hide fx
      clear NB V1 fx
      go_wp2_with fail
      refine (unhide FX).mono ?_
      rintro r w3 ⟨rfl, h3, k3⟩
      go_wp2
      go_end0
      exact ⟨rfl, h3, k3⟩
    · go_wp2
      first | (go_region_with (go_at_call 110; refine (fnote_any _ cb hc ho H F 11 t.place ?_).mono ?_; exact f2.later (fun _ _ => rfl); rintro r w3 ⟨rfl, h3, k3⟩; have s3 := (k3.2 _ (by show _ < w2.heap.size; omega) (by omega)).trans s2; have d3 := (blk6 s3).1; have K3 := K2.trans (by first | exact k3 | exact k3.undrew | exact k3.undrew.undrew | exact k3.undrew.undrew.undrew); have v3 := RepV.later (w := w2) (w' := w3) (fun j hj hl => k3.2 j hl (hQ j hj)) (fun j hj _ => hj) v2; have fx := unhide NB _ w3 h3 K3 v3 (by rw [hmay, hh]; rfl); rw [hmay] at fx; have FX := hide fx; clear fx)) | fail
      all_goals clear NB V1
      all_goals go_wp2_with fail
      all_goals
        refine (unhide FX).mono ?_
        rintro r w4 ⟨rfl, h4, k4⟩
        go_wp2
        go_end0
        exact ⟨rfl, h4, k4⟩
  · have fx := unhide NB F w1 f1 (Kept.below B1) (unhide V1) (by rw [hmay]; rfl)
    rw [hmay] at fx
    have FX := hide fx
    clear NB V1 fx
    go_wp2_with fail
    clear hw1
    refine (unhide FX).mono ?_
    rintro r w3 ⟨rfl, h3, k3⟩
    go_wp2
    go_end0
    exact ⟨rfl, h3, k3⟩

end Go.Proofs.Ythmmgiaobakilaa
