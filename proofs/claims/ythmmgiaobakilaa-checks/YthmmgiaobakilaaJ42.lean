import Derived.Test.YthmmgiaobakilaaJ21
/- The project's bring. -/
set_option maxRecDepth 100000
namespace Go.Proofs.Ythmmgiaobakilaa
open Go.RowKit Go.Deep

/-- Two blocks alone have turned of those that there were. -/
structure Kept2 (a b : Nat) (w w' : World) : Prop where
  size : w.heap.size ≤ w'.heap.size
  block : ∀ k, k < w.heap.size → k ≠ a → k ≠ b → w'.heap[k]? = w.heap[k]?
  same : Same w w'
theorem Kept2.refl (a b : Nat) (w : World) : Kept2 a b w w := ⟨Nat.le_refl _, fun _ _ _ _ => rfl, Same.refl _⟩
theorem Kept2.trans {x y : Nat} {a b c : World} (h1 : Kept2 x y a b) (h2 : Kept2 x y b c) : Kept2 x y a c := ⟨Nat.le_trans h1.1 h2.1, fun k hk hx hy => (h2.2 k (by have := h1.1; omega) hx hy).trans (h1.2 k hk hx hy), h1.same.trans h2.same⟩
theorem Kept.two {x : Nat} {a b : World} (h : Kept x a b) (y : Nat) : Kept2 x y a b := ⟨h.1, fun k hk hx _ => h.2 k hk hx, h.same⟩
theorem Kept2.turned {x y : Nat} {a b : World} (h : a.mapTurned b y) : Kept2 x y a b := ⟨h.grown.size, fun k hk _ hy => h.grown.block k hk (fun e => hy (by cases e; rfl)), Same.grown h.grown⟩
theorem NcAt.stored {w w' : World} {cb mb n m : Nat} {R R' : ByteArray → Int} {F : Flt} (h : NcAt w cb mb n R F) (ht : w.mapTurned w' mb) (hm : MapIs 135 .i64 w' mb m R') : NcAt w' cb mb m R' F :=
  ⟨(ht.grown.block cb h.lt (fun e => h.ne (by cases e; rfl))).trans h.blk, hm⟩
set_option maxHeartbeats 8000000 in
theorem nbring_any (w : World) (cb mb n : Nat) (R : ByteArray → Int) (F : Flt) (t : Tok) (c : Int) (hc : c = 1 ∨ c = 2) (h : NcAt w cb mb n R F) (ht : TokB t) (hn : n ≤ 100000) :
    Calls Try.prog 78 #[.pointer (some ⟨cb, 0, none⟩), tokP t, .int .i64 c] w fun e w' => e = .returned (.tuple #[]) ∧ NcAt w' cb mb (n + 1) (nbr (R, F) t c).1 (nbr (R, F) t c).2 ∧ Kept2 cb mb w w' := by
  have hlt := h.lt
  have hmt := h.map.lt
  have hsz := ht.1
  obtain ⟨w1, hw1⟩ : ∃ w1, w.alloc (.cells #[.int .i64 (kP t), .int .i64 t.place, .string (wP t), .int .i32 (nP t), .int .i32 (sP t)] 126) = w1 := ⟨_, rfl⟩
  have s1 : w1.heap[w.heap.size]? = some (.cells #[.int .i64 (kP t), .int .i64 t.place, .string (wP t), .int .i32 (nP t), .int .i32 (sP t)] 126 (0, 0)) := by rw [← hw1]; exact heap_alloc_new w _
  have h1 : NcAt w1 cb mb n R F := by rw [← hw1]; exact h.later (Below.heap_alloc w _ _ hlt) (Below.heap_alloc w _ _ hmt)
  have k1 : Kept2 cb mb w w1 := by rw [← hw1]; exact (Kept.alloc cb w _).two mb
  have lt1 : w.heap.size < w1.heap.size := (Array.getElem?_eq_some_iff.1 s1).1
  have fin : ∀ (w2 : World) (F2 : Flt), NcAt w2 cb mb n R F2 → Kept2 cb mb w1 w2 → F2 = (nbr (R, F) t c).2 → ∃ w9, (Instr.mapUpdate 136 (.map (some mb)) (.string (wP t)) (.int .i64 c)).run Try.prog w2.drew = .ok () w9 ∧ NcAt w9 cb mb (n + 1) (nbr (R, F) t c).1 (nbr (R, F) t c).2 ∧ Kept2 cb mb w w9 := by
    intro w2 F2 h2 k2 e2
    have h2d : NcAt w2.drew cb mb n R F2 := h2.later rfl rfl
    obtain ⟨w9, hrun, hmap, hturn⟩ := h2d.map.store Try.underlying136 Try.underlying135 (by unfold maxLen; omega) (s := wP t) (by unfold maxLen; omega) (c := c) (by rcases hc with rfl | rfl <;> decide)
    exact ⟨w9, hrun, by rw [← e2]; exact h2d.stored hturn hmap, (k1.trans k2).trans (Kept2.trans (b := w2.drew) ⟨Nat.le_refl _, fun _ _ _ _ => rfl, ⟨rfl, rfl, rfl⟩⟩ (Kept2.turned hturn))⟩
  have FIN := hide fin
  clear h fin
  unfold tokP tkV
  go_enter Try.func78, Try.ntmps78
  go_wp2
  clear hw1
  obtain ⟨⟨t0, t1, t2, t3, t4⟩, y0, y1, y2, y3, y4⟩ := bk5 s1
  obtain ⟨⟨c0, c1, c2⟩, z0, z1, z2⟩ := bk3 h1.blk
  by_cases hlong : 6 < (wP t).size
  · have e2 : (nbr (R, F) t c).2 = noteF F 10 t.place := by unfold nbr; simp [hlong]
    have hdl : decide ((6 : Int) < ((wP t).size : Int)) = true := by simp; omega
    go_region
    go_wp2
    have h1d : NcAt w1.drew cb mb n R F := h1.later rfl rfl
    have h1e : NcAt w1.drew.drew cb mb n R F := h1.later rfl rfl
    go_region_with (go_at_call 110; refine (nnote_any _ cb mb n R F 10 t.place ?_).mono ?_; exact h1e; rintro e w2 ⟨rfl, h2, k2⟩; have fx := unhide FIN w2 _ h2 (Kept.two (a := w1) (by first | exact k2 | exact k2.undrew | exact k2.undrew.undrew | exact k2.undrew.undrew.undrew) mb) e2.symm; obtain ⟨w9, hrun, h9, k9⟩ := fx; have s2 := (k2.2 _ (by show _ < w1.heap.size; omega) (by omega)).trans s1; have d2 := bk5 s2; have c2 := bk3 h2.blk)
    all_goals go_wp2
    all_goals go_region
    all_goals go_end0
    all_goals exact ⟨rfl, h9, k9⟩
  · have hdl : decide ((6 : Int) < ((wP t).size : Int)) = false := by simp; omega
    have hl : (Instr.lookup 136 (.map (some mb)) (.string (wP t)) false).run Try.prog w1.drew = .ok (.int .i64 (R (wP t))) w1.drew := (h1.later (w' := w1.drew) rfl rfl).look hsz
    by_cases hR : R (wP t) = 0
    · have e2 : F = (nbr (R, F) t c).2 := by unfold nbr; simp [hlong, hR]
      obtain ⟨w9, hrun, h9, k9⟩ := unhide FIN w1.drew F (h1.later rfl rfl) ⟨Nat.le_refl _, fun _ _ _ _ => rfl, ⟨rfl, rfl, rfl⟩⟩ e2
      have H9 := hide (And.intro h9 k9)
      clear FIN h9 k9 e2
      go_region
      all_goals go_wp2
      all_goals go_region
      all_goals go_end0
      all_goals exact ⟨rfl, (unhide H9).1, (unhide H9).2⟩
    · have e2 : (nbr (R, F) t c).2 = noteF F 10 t.place := by unfold nbr; simp [hR]
      go_region
      go_wp2
      have h1e : NcAt w1.drew.drew cb mb n R F := h1.later rfl rfl
      go_region_with (go_at_call 110; refine (nnote_any _ cb mb n R F 10 t.place ?_).mono ?_; exact h1e; rintro e w2 ⟨rfl, h2, k2⟩; have fx := unhide FIN w2 _ h2 (Kept.two (a := w1) (by first | exact k2 | exact k2.undrew | exact k2.undrew.undrew | exact k2.undrew.undrew.undrew) mb) e2.symm; obtain ⟨w9, hrun, h9, k9⟩ := fx; have s2 := (k2.2 _ (by show _ < w1.heap.size; omega) (by omega)).trans s1; have d2 := bk5 s2; have c2 := bk3 h2.blk)
      all_goals go_wp2
      all_goals go_region
      all_goals go_end0
      all_goals exact ⟨rfl, h9, k9⟩

end Go.Proofs.Ythmmgiaobakilaa
