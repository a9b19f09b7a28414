import Derived.Test.YthmmgiaobakilaaJ36
import Derived.Deep.RegionWith
/- The project's isHidden. -/
set_option maxRecDepth 100000
namespace Go.Proofs.Ythmmgiaobakilaa
open Go.RowKit Go.Deep

theorem strs_A (w : World) (l : List ByteArray) : StrsA (w.alloc (.cells (l.map Value.string).toArray 9)) (some ⟨w.heap.size, 0, none⟩) l := .inr ⟨_, _, rfl, strs_new w l⟩
set_option maxHeartbeats 16000000 in
theorem fhid_step {m : Nat} (hm : m ≤ 100000) (ih : HidOK m) : HidOK (m + 1) := by
  intro e w cb hc ho H F Q v hsz h hv
  obtain ⟨b, o, t, k, r, sv, rfl, rfl, hk⟩ := hv
  obtain ⟨ao, c, rfl, rep⟩ := hk.a
  clear hk
  have hszk : szE k ≤ m := by simp [szE] at hsz; omega
  have hlt := h.lt
  obtain ⟨w1, hw1⟩ : ∃ w1, w.alloc (.cells #[.int .i64 (kP t), .int .i64 t.place, .string (wP t), .int .i32 (nP t), .int .i32 (sP t), .slice ao (lenE k) c] 154) = w1 := ⟨_, rfl⟩
  have s1 : w1.heap[w.heap.size]? = some (.cells #[.int .i64 (kP t), .int .i64 t.place, .string (wP t), .int .i32 (nP t), .int .i32 (sP t), .slice ao (lenE k) c] 154 (0, 0)) := by rw [← hw1]; exact heap_alloc_new w _
  have f1 : FcAt w1 cb ho hc H F := by rw [← hw1]; exact h.later (fun j hj => Below.heap_alloc w _ j hj)
  have B1 : Below w.heap.size w w1 := by rw [← hw1]; exact (Below.refl _ w).alloc (Nat.le_refl _) _
  have rep1 : RepFa w1 Q k ao 0 := by rw [← hw1]; exact rep.later (fun j _ hl => Below.heap_alloc w _ j hl)
  have lt1 : w.heap.size < w1.heap.size := (Array.getElem?_eq_some_iff.1 s1).1
  -- what each later world keeps
  have keep : ∀ w2, Below w1.heap.size w1 w2 → FcAt w2 cb ho hc H F ∧ w2.heap[w.heap.size]? = some (.cells #[.int .i64 (kP t), .int .i64 t.place, .string (wP t), .int .i32 (nP t), .int .i32 (sP t), .slice ao (lenE k) c] 154 (0, 0)) ∧ RepFa w2 Q k ao 0 ∧ Below w.heap.size w w2 := fun w2 B2 =>
    ⟨f1.below B2, (B2.block _ lt1).trans s1, rep1.later (fun j _ hl => B2.block j hl), B1.trans (B2.mono B1.size)⟩
  have KP := hide keep
  clear keep h rep
  unfold exV
  show Calls _ _ _ _ fun r w' => r = .returned (.bool (hidH H t || hidE H k)) ∧ Below w.heap.size w w'
  go_enter Try.func131, Try.ntmps131
  go_wp2
  clear hw1
  have d1 := (blk6 s1).1
  have c1 := (bk3 f1.blk).1
  cases h1 : wdT t [sSPY]
  · cases h2 : wdT t H
    · have eH : (hidH H t || hidE H k) = hidE H k := by unfold hidH; rw [h1, h2]; rfl
      first | (go_region_with (first
        | (go_at_call_of 74 (Value.slice ho H.length hc); refine (isWord_gen _ t ho hc H ?_ f1.few).mono ?_; exact f2.strs; rintro e w3 ⟨rfl, b3⟩; rw [h2]; have B3 := B2.trans (b3.mono B2.size); have fx := unhide KP w3 B3; obtain ⟨f3, s3, rep3, BW3⟩ := fx; have d3 := (blk6 s3).1; have c3 := (bk3 f3.blk).1)
        | (go_at_call 74; refine (isWord_gen _ t (some ⟨w1.heap.size, 0, none⟩) 1 [sSPY] ?_ (by simp)).mono ?_; exact strs_A w1 [sSPY]; rintro e w2 ⟨rfl, b2⟩; rw [h1]; have B2 : Below w1.heap.size w1 w2 := ((Below.refl _ w1).alloc (Nat.le_refl _) _).drew.trans (b2.mono (by simp)); have fx := unhide KP w2 B2; obtain ⟨f2, s2, rep2, BW2⟩ := fx; have d2 := (blk6 s2).1; have c2 := (bk3 f2.blk).1)
        | (go_at_call 142; refine (fcont_any ih k _ cb hc c ho ao H F Q hszk hm f3 rep3).mono ?_; rintro e w4 ⟨rfl, b4⟩; have B4 := BW3.trans (b4.mono BW3.size)))) | fail
      all_goals go_wp2
      all_goals go_ret
      all_goals exact ⟨ret_bool eH.symm, B4⟩
    · have eH : (hidH H t || hidE H k) = true := by unfold hidH; rw [h1, h2]; rfl
      refine wp_region_any (by kernel_rfl) ?_
      try (change wpAny _ _ _ _ _ _ _ (World.drew _))
      refine wpAny_take (i := 0) (v := (.pointer (some ⟨w.heap.size, 0, none⟩))) rfl (by kernel_rfl) (by kernel_rfl) (by kernel_rfl) (fun _ _ _ h => h) (Or.inl ⟨by kernel_rfl, fun _ => by first | kernel_rfl | go_simp⟩) ?_
      refine wpAny_ready (rs := [1, 2]) (by kernel_rfl) (by simp) ?_
      refine AllReady.cons rfl (fun K hK => ?_) (AllReady.cons rfl (fun K hK => ?_) AllReady.nil)
      go_simp
      refine hK _ _ ?_
      clear hK K
      refine wpAny_ready (rs := [2]) (by kernel_rfl) (by simp) ?_
      refine AllReady.cons rfl (fun K hK => ?_) AllReady.nil
      go_simp
      refine hK _ _ ?_
      clear hK K
      rotate_left
      go_simp
      refine hK _ _ ?_
      clear hK K
      refine wpAny_ready (rs := [1]) (by kernel_rfl) (by simp) ?_
      refine AllReady.cons rfl (fun K hK => ?_) AllReady.nil
      go_simp
      refine hK _ _ ?_
      clear hK K
      all_goals
        refine wpAny_ready (rs := [3]) (by kernel_rfl) (by simp) ?_
        refine AllReady.cons rfl (fun K hK => ?_) AllReady.nil
        go_simp
        refine (isWord_gen _ t (some ⟨w1.heap.size, 0, none⟩) 1 [sSPY] ?_ (by simp)).mono ?_
        · exact strs_A w1 [sSPY]
        rintro e w2 ⟨rfl, b2⟩
        rw [h1]
        have B2 : Below w1.heap.size w1 w2 := ((Below.refl _ w1).alloc (Nat.le_refl _) _).drew.trans (b2.mono (by simp))
        obtain ⟨f2, s2, rep2, BW2⟩ := unhide KP w2 B2
        have d2 := (blk6 s2).1
        have c2 := (bk3 f2.blk).1
        go_wp2_with fail
        refine wpAny_take (i := 4) (v := (.bool false)) rfl (by kernel_rfl) (by kernel_rfl) (by kernel_rfl) (fun _ _ _ h => h) (Or.inl ⟨by kernel_rfl, fun _ => by first | kernel_rfl | go_simp⟩) ?_
        refine wpAny_take (i := 5) (v := (.pointer (some ⟨w.heap.size, 0, none⟩))) rfl (by kernel_rfl) (by kernel_rfl) (by kernel_rfl) (fun _ _ _ h => h) (Or.inl ⟨by kernel_rfl, fun _ => by first | kernel_rfl | go_simp⟩) ?_
        refine wpAny_take (i := 7) (v := (.pointer (some ⟨cb, 0, none⟩))) rfl (by kernel_rfl) (by kernel_rfl) (by kernel_rfl) (fun _ _ _ h => h) (Or.inl ⟨by kernel_rfl, fun _ => by first | kernel_rfl | go_simp⟩) ?_
        refine wpAny_take (i := 8) (v := (.pointer (some ⟨cb, 0, none⟩))) rfl (by kernel_rfl) (by kernel_rfl) (by kernel_rfl) (fun _ _ _ h => h) (Or.inl ⟨by kernel_rfl, fun _ => by first | kernel_rfl | go_simp⟩) ?_
        refine wpAny_take (i := 9) (v := (.pointer (some ⟨cb, 0, none⟩))) rfl (by kernel_rfl) (by kernel_rfl) (by kernel_rfl) (fun _ _ _ h => h) (Or.inl ⟨by kernel_rfl, fun _ => by first | kernel_rfl | go_simp⟩) ?_
        refine wpAny_ready (rs := [6, 10]) (by kernel_rfl) (by simp) ?_
        refine AllReady.cons rfl (fun K hK => ?_) (AllReady.cons rfl (fun K hK => ?_) AllReady.nil)
        go_simp
        refine hK _ _ ?_
        clear hK K
        refine wpAny_ready (rs := [10]) (by kernel_rfl) (by simp) ?_
        refine AllReady.cons rfl (fun K hK => ?_) AllReady.nil
        go_simp
        refine hK _ _ ?_
        clear hK K
        rotate_left
        go_simp
        refine hK _ _ ?_
        clear hK K
        refine wpAny_ready (rs := [6]) (by kernel_rfl) (by simp) ?_
        refine AllReady.cons rfl (fun K hK => ?_) AllReady.nil
        go_simp
        refine hK _ _ ?_
        clear hK K
      all_goals
        refine wpAny_ready (rs := [11]) (by kernel_rfl) (by simp) ?_
        refine AllReady.cons rfl (fun K hK => ?_) AllReady.nil
        go_simp
        refine (isWord_gen _ t ho hc H ?_ f1.few).mono ?_
        · exact f2.strs
        rintro e w3 ⟨rfl, b3⟩
        rw [h2]
        have B3 := B2.trans (b3.mono B2.size)
        obtain ⟨f3, s3, rep3, BW3⟩ := unhide KP w3 B3
        have d3 := (blk6 s3).1
        have c3 := (bk3 f3.blk).1
        go_wp2_with fail
        refine wpAny_take (i := 12) (v := (.bool true)) rfl (by kernel_rfl) (by kernel_rfl) (by kernel_rfl) (fun _ _ _ h => h) (Or.inl ⟨by kernel_rfl, fun _ => by first | kernel_rfl | go_simp⟩) ?_
        refine wpAny_take (i := 13) (v := (.bool true)) rfl (by kernel_rfl) (by kernel_rfl) (by kernel_rfl) (fun _ _ _ h => h) (Or.inl ⟨by kernel_rfl, fun _ => by first | kernel_rfl | go_simp⟩) ?_
        refine wpAny_take (i := 14) (v := undef) rfl (by kernel_rfl) (by kernel_rfl) (by kernel_rfl) (fun _ _ _ h => h) (Or.inr ⟨by kernel_rfl, rfl⟩) ?_
        refine wpAny_take (i := 15) (v := undef) rfl (by kernel_rfl) (by kernel_rfl) (by kernel_rfl) (fun _ _ _ h => h) (Or.inr ⟨by kernel_rfl, rfl⟩) ?_
        refine wpAny_take (i := 16) (v := undef) rfl (by kernel_rfl) (by kernel_rfl) (by kernel_rfl) (fun _ _ _ h => h) (Or.inr ⟨by kernel_rfl, rfl⟩) ?_
        refine wpAny_take (i := 17) (v := undef) rfl (by kernel_rfl) (by kernel_rfl) (by kernel_rfl) (fun _ _ _ h => h) (Or.inr ⟨by kernel_rfl, rfl⟩) ?_
        refine wpAny_take (i := 18) (v := undef) rfl (by kernel_rfl) (by kernel_rfl) (by kernel_rfl) (fun _ _ _ h => h) (Or.inr ⟨by kernel_rfl, rfl⟩) ?_
        refine wpAny_take (i := 19) (v := (.bool true)) rfl (by kernel_rfl) (by kernel_rfl) (by kernel_rfl) (fun _ _ _ h => h) (Or.inl ⟨by kernel_rfl, fun _ => by first | kernel_rfl | go_simp⟩) ?_
        refine wpAny_take (i := 20) (v := (.bool true)) rfl (by kernel_rfl) (by kernel_rfl) (by kernel_rfl) (fun _ _ _ h => h) (Or.inl ⟨by kernel_rfl, fun _ => by first | kernel_rfl | go_simp⟩) ?_
        refine wpAny_done (by kernel_rfl) ?_ _
        go_simp
        go_wp2
        go_ret
        exact ⟨ret_bool eH.symm, BW3⟩
  · have eH : (hidH H t || hidE H k) = true := by unfold hidH; rw [h1]; simp
    refine wp_region_any (by kernel_rfl) ?_
    try (change wpAny _ _ _ _ _ _ _ (World.drew _))
    refine wpAny_take (i := 0) (v := (.pointer (some ⟨w.heap.size, 0, none⟩))) rfl (by kernel_rfl) (by kernel_rfl) (by kernel_rfl) (fun _ _ _ h => h) (Or.inl ⟨by kernel_rfl, fun _ => by first | kernel_rfl | go_simp⟩) ?_
    refine wpAny_ready (rs := [1, 2]) (by kernel_rfl) (by simp) ?_
    refine AllReady.cons rfl (fun K hK => ?_) (AllReady.cons rfl (fun K hK => ?_) AllReady.nil)
    go_simp
    refine hK _ _ ?_
    clear hK K
    refine wpAny_ready (rs := [2]) (by kernel_rfl) (by simp) ?_
    refine AllReady.cons rfl (fun K hK => ?_) AllReady.nil
    go_simp
    refine hK _ _ ?_
    clear hK K
    rotate_left
    go_simp
    refine hK _ _ ?_
    clear hK K
    refine wpAny_ready (rs := [1]) (by kernel_rfl) (by simp) ?_
    refine AllReady.cons rfl (fun K hK => ?_) AllReady.nil
    go_simp
    refine hK _ _ ?_
    clear hK K
    all_goals
      refine wpAny_ready (rs := [3]) (by kernel_rfl) (by simp) ?_
      refine AllReady.cons rfl (fun K hK => ?_) AllReady.nil
      go_simp
      refine (isWord_gen _ t (some ⟨w1.heap.size, 0, none⟩) 1 [sSPY] ?_ (by simp)).mono ?_
      · exact strs_A w1 [sSPY]
      rintro e w2 ⟨rfl, b2⟩
      rw [h1]
      have B2 : Below w1.heap.size w1 w2 := ((Below.refl _ w1).alloc (Nat.le_refl _) _).drew.trans (b2.mono (by simp))
      obtain ⟨f2, s2, rep2, BW2⟩ := unhide KP w2 B2
      have d2 := (blk6 s2).1
      have c2 := (bk3 f2.blk).1
      go_wp2_with fail
      refine wpAny_take (i := 4) (v := (.bool true)) rfl (by kernel_rfl) (by kernel_rfl) (by kernel_rfl) (fun _ _ _ h => h) (Or.inl ⟨by kernel_rfl, fun _ => by first | kernel_rfl | go_simp⟩) ?_
      refine wpAny_take (i := 5) (v := undef) rfl (by kernel_rfl) (by kernel_rfl) (by kernel_rfl) (fun _ _ _ h => h) (Or.inr ⟨by kernel_rfl, rfl⟩) ?_
      refine wpAny_take (i := 6) (v := undef) rfl (by kernel_rfl) (by kernel_rfl) (by kernel_rfl) (fun _ _ _ h => h) (Or.inr ⟨by kernel_rfl, rfl⟩) ?_
      refine wpAny_take (i := 7) (v := undef) rfl (by kernel_rfl) (by kernel_rfl) (by kernel_rfl) (fun _ _ _ h => h) (Or.inr ⟨by kernel_rfl, rfl⟩) ?_
      refine wpAny_take (i := 8) (v := undef) rfl (by kernel_rfl) (by kernel_rfl) (by kernel_rfl) (fun _ _ _ h => h) (Or.inr ⟨by kernel_rfl, rfl⟩) ?_
      refine wpAny_take (i := 9) (v := undef) rfl (by kernel_rfl) (by kernel_rfl) (by kernel_rfl) (fun _ _ _ h => h) (Or.inr ⟨by kernel_rfl, rfl⟩) ?_
      refine wpAny_take (i := 10) (v := undef) rfl (by kernel_rfl) (by kernel_rfl) (by kernel_rfl) (fun _ _ _ h => h) (Or.inr ⟨by kernel_rfl, rfl⟩) ?_
      refine wpAny_take (i := 11) (v := undef) rfl (by kernel_rfl) (by kernel_rfl) (by kernel_rfl) (fun _ _ _ h => h) (Or.inr ⟨by kernel_rfl, rfl⟩) ?_
      refine wpAny_take (i := 12) (v := (.bool true)) rfl (by kernel_rfl) (by kernel_rfl) (by kernel_rfl) (fun _ _ _ h => h) (Or.inl ⟨by kernel_rfl, fun _ => by first | kernel_rfl | go_simp⟩) ?_
      refine wpAny_take (i := 13) (v := (.bool true)) rfl (by kernel_rfl) (by kernel_rfl) (by kernel_rfl) (fun _ _ _ h => h) (Or.inl ⟨by kernel_rfl, fun _ => by first | kernel_rfl | go_simp⟩) ?_
      refine wpAny_take (i := 14) (v := undef) rfl (by kernel_rfl) (by kernel_rfl) (by kernel_rfl) (fun _ _ _ h => h) (Or.inr ⟨by kernel_rfl, rfl⟩) ?_
      refine wpAny_take (i := 15) (v := undef) rfl (by kernel_rfl) (by kernel_rfl) (by kernel_rfl) (fun _ _ _ h => h) (Or.inr ⟨by kernel_rfl, rfl⟩) ?_
      refine wpAny_take (i := 16) (v := undef) rfl (by kernel_rfl) (by kernel_rfl) (by kernel_rfl) (fun _ _ _ h => h) (Or.inr ⟨by kernel_rfl, rfl⟩) ?_
      refine wpAny_take (i := 17) (v := undef) rfl (by kernel_rfl) (by kernel_rfl) (by kernel_rfl) (fun _ _ _ h => h) (Or.inr ⟨by kernel_rfl, rfl⟩) ?_
      refine wpAny_take (i := 18) (v := undef) rfl (by kernel_rfl) (by kernel_rfl) (by kernel_rfl) (fun _ _ _ h => h) (Or.inr ⟨by kernel_rfl, rfl⟩) ?_
      refine wpAny_take (i := 19) (v := (.bool true)) rfl (by kernel_rfl) (by kernel_rfl) (by kernel_rfl) (fun _ _ _ h => h) (Or.inl ⟨by kernel_rfl, fun _ => by first | kernel_rfl | go_simp⟩) ?_
      refine wpAny_take (i := 20) (v := (.bool true)) rfl (by kernel_rfl) (by kernel_rfl) (by kernel_rfl) (fun _ _ _ h => h) (Or.inl ⟨by kernel_rfl, fun _ => by first | kernel_rfl | go_simp⟩) ?_
      refine wpAny_done (by kernel_rfl) ?_ _
      go_simp
      go_wp2
      go_ret
      exact ⟨ret_bool eH.symm, BW2⟩
theorem fhid_all : ∀ m, m ≤ 100000 → HidOK m
  | 0, _ => fun e w cb hc ho H F Q v hsz h hv => by
    obtain ⟨b, o, t, k, r, sv, rfl, rfl, hk⟩ := hv
    simp [szE] at hsz
  | m + 1, hm => fhid_step (by omega) (fhid_all m (by omega))

end Go.Proofs.Ythmmgiaobakilaa
