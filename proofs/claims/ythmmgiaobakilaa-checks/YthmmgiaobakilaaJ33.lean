import Derived.Test.YthmmgiaobakilaaJ18
/- The project's parse: the walk. -/
set_option maxRecDepth 100000
namespace Go.Proofs.Ythmmgiaobakilaa
open Go.RowKit Go.Deep

set_option maxHeartbeats 16000000 in
theorem parse_any (w : World) (tb cap : Nat) (T : List Tok) (hT : TokW T) (htk : PToks w tb T) (htb : tb < w.heap.size) (hfew : T.length ≤ 1000) (hroom : T.length ≤ cap ∧ cap ≤ maxLen) (n : Nat) (hn : n ≤ 1000) (r : Except Nat ((List (Tok × Bool) × Sx) × Nat)) (hr : pSource n T = some r) :
    Calls Try.prog 49 #[.slice (some ⟨tb, 0, none⟩) T.length cap] w (PsOut w T r) := by
  obtain ⟨fin, hfin, hr2⟩ := source_are hr
  have hlt := hT.last.1
  obtain ⟨i0, hi0, hz0, hz1, hz2⟩ := info_parts infoDec
  have inv0 : PcInv T (w.heap.size + 2) tb cap n (n - 1) fin w (n - 1) ((((w.alloc (.cells #[.slice none 0 0, .slice none 0 0] 63)).alloc (.cells #[.int .i64 0, .int .i64 0] 87)).alloc (.cells #[.slice (some ⟨tb, 0, none⟩) T.length cap, .int .i64 0, .int .i64 0] 130)).alloc (.cells #[.slice none 0 0, .slice none 0 0] 63)) := by
    have b1 : ∀ (W : World) (o : Obj) (k : Nat), k < W.heap.size → (W.alloc o).heap[k]? = W.heap[k]? := fun W o k hk => Below.heap_alloc W o k hk
    refine ⟨none, 0, 0, 0, [], ?_, ?_, ?_, by simp, ⟨rfl, rfl, rfl⟩, fun j hj => ?_, World.ownsRow_nil _ _ _ _, (by intro u hu; cases hu), by omega, .ok ([], 0), ?_, (by intro acc j e; cases e; rfl), hfin⟩
    · rw [b1 _ _ _ (by simp; omega), b1 _ _ _ (by simp; omega), b1 _ _ _ (by simp)]; exact heap_alloc_new w _
    · rw [b1 _ _ _ (by simp), b1 _ _ _ (by simp)]; exact (by simpa using heap_alloc_new (w.alloc (.cells #[.slice none 0 0, .slice none 0 0] 63)) (.cells #[.int .i64 0, .int .i64 0] 87))
    · exact (by simpa using heap_alloc_new (((w.alloc (.cells #[.slice none 0 0, .slice none 0 0] 63)).alloc (.cells #[.int .i64 0, .int .i64 0] 87)).alloc (.cells #[.slice (some ⟨tb, 0, none⟩) T.length cap, .int .i64 0, .int .i64 0] 130)) (.cells #[.slice none 0 0, .slice none 0 0] 63))
    · rw [b1 _ _ _ (by simp; omega), b1 _ _ _ (by simp; omega), b1 _ _ _ (by simp; omega), b1 _ _ _ hj]
    · refine ⟨?_, PToks.same htk ?_, by omega, hlt, hfew, hroom⟩
      · rw [b1 _ _ _ (by simp)]; exact (by simpa using heap_alloc_new ((w.alloc (.cells #[.slice none 0 0, .slice none 0 0] 63)).alloc (.cells #[.int .i64 0, .int .i64 0] 87)) (.cells #[.slice (some ⟨tb, 0, none⟩) T.length cap, .int .i64 0, .int .i64 0] 130))
      · rw [b1 _ _ _ (by simp; omega), b1 _ _ _ (by simp; omega), b1 _ _ _ (by simp; omega), b1 _ _ _ htb]
  have HR2 := hide hr2
  clear hr hr2 hfin htk
  go_enter Try.func49, Try.ntmps49
  go_wp2
  go_loopg [8] (n - 1) (fun k _ wr => PcInv T (w.heap.size + 2) tb cap n (n - 1) fin w k wr)
  case atStart => exact inv0
  case round =>
  clear inv0
  obtain ⟨so, sl, sc, m, cs, q1, q2, q3, hsz, hsm, hold, own, hone, hm, cur, hst, hex, hpa⟩ := hrel
  obtain ⟨i', f', pl', hps, hdead⟩ : ∃ i' f' pl', PsAt wr (w.heap.size + 2) tb cap T i' f' pl' ∧ ((∃ acc, cur = .ok (acc, i') ∧ f' = 0 ∧ pl' = 0) ∨ (∃ x, i' = T.length - 1 ∧ cur = .error x ∧ f' = badF 0 ∧ pl' = badP 0 0 (tkAt T x).place)) := by
    cases cur with
    | error x => exact ⟨_, _, _, hst, .inr ⟨x, rfl, rfl, rfl, rfl⟩⟩
    | ok p => exact ⟨p.2, 0, 0, hst, .inl ⟨p.1, rfl, rfl, rfl⟩⟩
  have hmN : m ≤ 1001000 := by
    have : (n - 1) * (n + 1) ≤ 1000 * 1001 := Nat.mul_le_mul (by omega) (by omega)
    omega
  go_wp2_with fail
  refine (next_any wr (w.heap.size + 2) tb cap i' T f' pl' hps).mono ?_
  rintro e w2 ⟨rfl, hb2⟩
  unfold tokP tkV
  go_wp2_with fail
  refine (isWord_any _ (kP (tkAt T i')) (tkAt T i').place (nP (tkAt T i')) (sP (tkAt T i')) (wP (tkAt T i')) w2.heap.size 0 2 [sOPEN, sHIDDEN] (strs_new w2 [sOPEN, sHIDDEN]) (by simp)).mono ?_
  rintro e w3 ⟨rfl, hb3⟩
  have B3 : Below wr.heap.size wr w3 := (hb2.alloc hb2.size _).trans (hb3.mono (by have := hb2.size; simp; omega))
  have es : ((kP (tkAt T i') == 2) && [sOPEN, sHIDDEN].any (fun t => (wP (tkAt T i')).toList == t.toList)) = [sOPEN, sHIDDEN].any (isT T i') := wd_is hT i' (fun s hs => kw_ok s (by simp only [List.mem_cons, List.not_mem_nil, or_false] at hs ⊢; rcases hs with rfl | rfl <;> simp))
  have es2 : [sOPEN, sHIDDEN].any (isT T i') = (isT T i' sOPEN || isT T i' sHIDDEN) := by simp
  rw [es, es2]
  have sz3 := B3.size
  have p1 := (B3.block _ (by omega)).trans q1
  have p2 := (B3.block _ (by omega)).trans q2
  have p3 := (B3.block _ (by omega)).trans q3
  have sm3 := hsm.trans (Same.below B3)
  have hold3 : ∀ j, j < w.heap.size → w3.heap[j]? = w.heap[j]? := fun j hj => (B3.block j (by omega)).trans (hold j hj)
  have own3 := rowP_same own (w' := w3) (fun k hk => B3.block k (own.lt k hk).2)
  have hps3 := hps.below B3 (Nat.le_refl _)
  have hst3 := StAt.later hst (fun k hk => B3.block k hk)
  clear es es2 hb2 hb3 q1 q2 q3 hold own hps hst B3
  cases hc : (isT T i' sOPEN || isT T i' sHIDDEN)
  · obtain ⟨efin, hdone⟩ : cur = fin ∧ (∀ acc j, fin = .ok (acc, j) → cs = decC acc) := by
      have : cur = fin := by
        rcases hdead with ⟨acc, rfl, rfl, rfl⟩ | ⟨x, rfl, rfl, rfl, rfl⟩
        · cases gk with
          | zero => cases hpa
          | succ gk =>
            have hpa : pDcA T n (gk + 1) acc i' = some fin := hpa
            rw [pDcA, hc, if_neg (by simp)] at hpa
            cases hpa
            rfl
        · cases hpa
          rfl
      exact ⟨this, fun acc j e => hex acc j (this.trans e)⟩
    subst efin
    obtain ⟨rS, r2, hS, hst2, hv2, hrr⟩ := seq_split (unhide HR2)
    have hrr : seqR r2 (fun ab j => andThen (endB T ab.2 j) fun s j => got (ab.1, s) j) = some r := hrr
    have HS := hide hS
    have HST2 := hide hst2
    have HV2 := hide hv2
    have HRR := hide hrr
    have DN := hide hdone
    clear hS hst2 hv2 hrr hpa hdead hdone HR2 hex hps3
    go_wp2_with fail
    refine (statements_seq ((pSB_any n (by omega)).2 (n - 1) (by omega)) hT w3 (w.heap.size + 2) tb cap 0 0 hst3 (unhide HS)).mono ?_
    rintro e w4 ⟨k4, bo, bl, bc, rfl, h4⟩
    have sz4 := k4.1
    have r1 := (k4.2 _ (by omega) (by omega)).trans p1
    have r2' := (k4.2 _ (by omega) (by omega)).trans p2
    have r3 := (k4.2 _ (by omega) (by omega)).trans p3
    have sm4 := sm3.trans k4.same
    have hold4 : ∀ j, j < w.heap.size → w4.heap[j]? = w.heap[j]? := fun j hj => (k4.2 j (by omega) (by omega)).trans (hold3 j hj)
    have own4 := rowP_same own3 (w' := w4) (fun k hk => k4.2 k (own3.lt k hk).2 (by have := (own3.lt k hk).1; omega))
    obtain ⟨⟨x0, x1⟩, y0, y1⟩ := bk2 r3
    clear hst3 p1 p2 p3 hold3 own3 k4
    go_wp2_with fail
    obtain ⟨w5, hw5⟩ : ∃ w5, w4.setCell ⟨w.heap.size + 3, 1, none⟩ (.slice bo bl bc) = w5 := ⟨_, rfl⟩
    rw [hw5]
    have o5 : ∀ k, k ≠ w.heap.size + 3 → w5.heap[k]? = w4.heap[k]? := fun k hk => by rw [← hw5]; exact Below.heap_setCell _ _ _ _ hk
    have z5 : w5.heap.size = w4.heap.size := by rw [← hw5]; simp
    have v3 : w5.heap[w.heap.size + 3]? = some (.cells #[.slice so sl sc, .slice bo bl bc] 63 (0, 0)) := by rw [← hw5]; exact heap_setCell_same _ (w.heap.size + 3) 1 _ _ _ r3
    have v1 := (o5 _ (by omega)).trans r1
    have v2 := (o5 _ (by omega)).trans r2'
    have sm5 : Same w w5 := by rw [← hw5]; exact sm4.set _ _
    have hold5 : ∀ j, j < w.heap.size → w5.heap[j]? = w.heap[j]? := fun j hj => (o5 j (by omega)).trans (hold4 j hj)
    have own5 := rowP_same own4 (w' := w5) (fun k hk => o5 k (by have := (own4.lt k hk).1; omega))
    have h5 : StAt w5 (w.heap.size + 2) tb cap T 0 0 r2 := StAt.two (unhide HST2 _ _ _ _ _ _ _ h4.st) (fun k hk => o5 k (by omega))
    have L5 : ∀ s j, rS = .ok (s, j) → RepL w5 (fun g => w.heap.size + 4 ≤ g) (.slice bo bl bc) s := fun s j e => by
      rw [e] at h4
      exact h4.2.later (fun k hk hl => o5 k (by have : w3.heap.size ≤ k := hk; omega)) (fun k hk _ => by have : w3.heap.size ≤ k := hk; show _ ≤ k; omega)
    clear hw5 x0 x1 y0 y1 r1 r2' r3 hold4 own4 h4 o5
    obtain ⟨i5, f5, pl5, hps5, hd5⟩ : ∃ i5 f5 pl5, PsAt w5 (w.heap.size + 2) tb cap T i5 f5 pl5 ∧ ((∃ acc, r2 = .ok (acc, i5) ∧ f5 = 0 ∧ pl5 = 0) ∨ (∃ x, i5 = T.length - 1 ∧ r2 = .error x ∧ f5 = badF 0 ∧ pl5 = badP 0 0 (tkAt T x).place)) := by
      cases r2 with
      | error x => exact ⟨_, _, _, h5, .inr ⟨x, rfl, rfl, rfl, rfl⟩⟩
      | ok p => exact ⟨p.2, 0, 0, h5, .inl ⟨p.1, rfl, rfl, rfl⟩⟩
    refine (next_any w5 (w.heap.size + 2) tb cap i5 T f5 pl5 hps5).mono ?_
    rintro e w6 ⟨rfl, B6⟩
    have sz6 := B6.size
    have s1 := (B6.block _ (by omega)).trans v1
    have s2 := (B6.block _ (by omega)).trans v2
    have s3 := (B6.block _ (by omega)).trans v3
    have sm6 := sm5.trans (Same.below B6)
    have hold6 : ∀ j, j < w.heap.size → w6.heap[j]? = w.heap[j]? := fun j hj => (B6.block j (by omega)).trans (hold5 j hj)
    have own6 := rowP_same own5 (w' := w6) (fun k hk => B6.block k (own5.lt k hk).2)
    have hps6 := hps5.below B6 (Nat.le_refl _)
    have L6 : ∀ s j, rS = .ok (s, j) → RepL w6 (fun g => w.heap.size + 4 ≤ g) (.slice bo bl bc) s := fun s j e => (L5 s j e).later (fun k _ hl => B6.block k hl) (fun k hk _ => hk)
    have fin6 : ∀ (w7 W : World) (ff pp : Int), Same w6 w7 → Same w7 W → w6.heap.size ≤ w7.heap.size → (∀ k, k < w6.heap.size → k ≠ (w.heap.size + 2) → w7.heap[k]? = w6.heap[k]?) → w7.heap.size ≤ W.heap.size → (∀ k, k ≠ w.heap.size → k ≠ w.heap.size + 1 → W.heap[k]? = w7.heap[k]?) →
        ((∃ ds s j, r = .ok ((ds, s), j) ∧ ff = 0 ∧ pp = 0 ∧ (∃ jf, cur = .ok (ds, jf)) ∧ ∃ j', rS = .ok (s, j')) ∨ (∃ x, r = .error x ∧ ff = 9 ∧ pp = (tkAt T x).place)) → PsOut w T r (.returned (.tuple #[.agg #[.slice so sl sc, .slice bo bl bc], .agg #[.int .i64 ff, .int .i64 pp]])) W := by
      intro w7 W ff pp sm7 smW hs7 h7 hsW hW hcase
      have smA := (sm6.trans sm7).trans smW
      refine ⟨⟨smA.os, smA.tape, smA.output, by omega, fun j hj => (hW j (by omega) (by omega)).trans ((h7 j (by omega) (by omega)).trans (hold6 j hj))⟩, so, sl, sc, bo, bl, bc, ff, pp, rfl, ?_⟩
      rcases hcase with ⟨ds, s, j, e1, e2, e3, ⟨jf, e4⟩, j', e5⟩ | h
      · refine .inl ⟨ds, s, j, e1, e2, e3, ?_, ?_⟩
        · have ec := unhide DN ds jf e4
          by_cases hz : m = 0
          · subst hz
            have hl := own6.1
            rw [ec, decC_len] at hl
            have : ds = [] := List.length_eq_zero_iff.1 (by omega)
            subst this
            refine .inl ⟨rfl, ?_⟩
            rcases own6.2 with ⟨e, _⟩ | ⟨g, c, _, e, _⟩
            · rw [e]; exact ⟨_, _, rfl⟩
            · rw [e]; exact ⟨_, _, rfl⟩
          · obtain ⟨g, c, e, hg, hg2⟩ := own6.form (by omega)
            have hl := own6.1
            rw [ec, decC_len] at hl
            have hml : ds.length = m := by omega
            refine .inr ⟨fun e0 => by rw [e0] at hml; simp at hml; omega, g, c, by rw [e, hml], by show _ ≤ g; omega, fun k u hu => ?_⟩
            rw [← ec] at hu
            have hk := (List.getElem?_eq_some_iff.1 hu).1
            have own7 := own6
            rw [e] at own7
            have hc := (own7.cellAt k (by rw [← own7.1]; exact hk)).trans hu
            have hb : W.heap[g]? = w6.heap[g]? := (hW g (by omega) (by omega)).trans (h7 g hg2 (by omega))
            simp only [World.cell?] at hc ⊢
            rw [hb]
            exact hc
        · exact (L6 s j' e5).later (fun k hk hl => by have hk : w.heap.size + 4 ≤ k := hk; exact (hW k (by omega) (by omega)).trans (h7 k hl (by omega))) (fun k hk _ => by have hk : w.heap.size + 4 ≤ k := hk; show w.heap.size ≤ k; omega)
      · exact .inr h
    have FIN := hide fin6
    clear h5 v1 v2 v3 hold5 own5 hps5 L5 L6 B6 own6 hold6 fin6
    have tk := tok_kind
    unfold tokP tkV
    cases hk4 : ((tkAt T i5).kind == 4)
    · have hk5 : kP (tkAt T i5) ≠ 5 := by
        have := hT.kinds i5
        unfold kP
        rcases this with h | h | h | h | h
        · rw [h]; decide
        · rw [h]; decide
        · rw [h]; decide
        · rw [h]; decide
        · rw [h] at hk4; cases hk4
      obtain ⟨acc, e2, rfl, rfl⟩ : ∃ acc, r2 = .ok (acc, i5) ∧ f5 = 0 ∧ pl5 = 0 := by
        rcases hd5 with h | ⟨x, rfl, _⟩
        · exact h
        · rw [over_kind hT] at hk4; cases hk4
      have er : r = .error i5 := by
        have := unhide HRR
        rw [e2] at this
        have : andThen (endB T acc.2 i5) (fun s j => got (acc.1, s) j) = some r := this
        unfold endB at this
        rw [hk4, if_neg (by simp)] at this
        cases this
        rfl
      go_wp2_with fail
      refine (pfail_any w6 (w.heap.size + 2) tb cap i5 T 0 0 hps6).mono ?_
      rintro e w7 ⟨rfl, h7, k7⟩
      have sz7 := k7.1
      have t1 := (k7.2 _ (by omega) (by omega)).trans s1
      have t2 := (k7.2 _ (by omega) (by omega)).trans s2
      have t3 := (k7.2 _ (by omega) (by omega)).trans s3
      have t4 := h7.blk
      have F7 := hide (fun W h => unhide FIN w7 W (badF 0) (badP 0 0 (tkAt T i5).place) k7.same h k7.1 k7.2)
      have b9 : badF 0 = 9 := rfl
      have bp : badP 0 0 (tkAt T i5).place = (tkAt T i5).place := rfl
      obtain ⟨⟨a0, a1⟩, b0, b1⟩ := bk2 t1
      obtain ⟨⟨c0, c1⟩, d0, d1⟩ := bk2 t2
      obtain ⟨⟨g0, g1⟩, _⟩ := bk2 t3
      obtain ⟨⟨j0, j1, j2⟩, _⟩ := bk3 t4
      clear FIN s1 s2 s3 hps6 h7 k7 t1 t2 t3 t4 HRR HV2 HST2 HS DN
      go_wp2
      go_region
      go_wp2
      refine bodyPost_ret (v := .tuple #[.agg #[.slice so sl sc, .slice bo bl bc], .agg #[.int .i64 9, .int .i64 (tkAt T i5).place]]) (by simp [results, Try.results49, go_sem, a0, a1, c0, c1]) rfl ?_
      refine unhide F7 _ (((((Same.refl _).set _ _).set _ _).set _ _).set _ _).drew (by simp) (fun k hk hk2 => ?_) (.inr ⟨i5, er, rfl, rfl⟩)
      exact (Below.heap_setCell _ _ _ _ hk2).trans ((Below.heap_setCell _ _ _ _ hk2).trans ((Below.heap_setCell _ _ _ _ hk).trans (Below.heap_setCell _ _ _ _ hk)))
    · have hk5 : kP (tkAt T i5) = 5 := kP_over _ (by simpa using hk4)
      have hk6 : (kP (tkAt T i5) != 5) = false := by rw [hk5]; rfl
      have F7 := hide (fun W h => unhide FIN w6 W f5 pl5 (Same.refl _) h (Nat.le_refl _) (fun _ _ _ => rfl))
      have hcase : ((∃ ds s j, r = .ok ((ds, s), j) ∧ f5 = 0 ∧ pl5 = 0 ∧ (∃ jf, cur = .ok (ds, jf)) ∧ ∃ j', rS = .ok (s, j')) ∨ (∃ x, r = .error x ∧ f5 = 9 ∧ pl5 = (tkAt T x).place)) := by
        rcases hd5 with ⟨acc, e2, rfl, rfl⟩ | ⟨x, _, e2, rfl, rfl⟩
        · obtain ⟨ds, s⟩ := acc
          have h9 := unhide HRR
          rw [e2] at h9
          have h9 : andThen (endB T s i5) (fun s j => got (ds, s) j) = some r := h9
          unfold endB at h9
          rw [hk4, if_pos rfl] at h9
          cases h9
          obtain ⟨j0, ec, eS⟩ := unhide HV2 _ _ e2
          exact .inl ⟨ds, s, i5, rfl, rfl, rfl, ⟨j0, ec⟩, i5, eS⟩
        · have h9 := unhide HRR
          rw [e2] at h9
          cases h9
          exact .inr ⟨x, rfl, rfl, rfl⟩
      have HC := hide hcase
      have t4 := hps6.blk
      obtain ⟨⟨a0, a1⟩, b0, b1⟩ := bk2 s1
      obtain ⟨⟨c0, c1⟩, d0, d1⟩ := bk2 s2
      obtain ⟨⟨g0, g1⟩, _⟩ := bk2 s3
      obtain ⟨⟨j0, j1, j2⟩, _⟩ := bk3 t4
      clear FIN s1 s2 s3 hps6 t4 HRR HV2 HST2 HS DN hcase hd5 hk6
      go_wp2
      go_region
      go_wp2
      refine bodyPost_ret (v := .tuple #[.agg #[.slice so sl sc, .slice bo bl bc], .agg #[.int .i64 f5, .int .i64 pl5]]) (by simp [results, Try.results49, go_sem, a0, a1, c0, c1]) rfl ?_
      refine unhide F7 _ (((((Same.refl _).set _ _).set _ _).set _ _).set _ _).drew (by simp) (fun k hk hk2 => ?_) (unhide HC)
      exact (Below.heap_setCell _ _ _ _ hk2).trans ((Below.heap_setCell _ _ _ _ hk2).trans ((Below.heap_setCell _ _ _ _ hk).trans (Below.heap_setCell _ _ _ _ hk)))
  · obtain ⟨acc, ecur, ef, epl⟩ : ∃ acc, cur = .ok (acc, i') ∧ f' = 0 ∧ pl' = 0 := by
      rcases hdead with h | ⟨x, rfl, _⟩
      · exact h
      · rw [over_is hT.last, over_is hT.last] at hc; cases hc
    subst ecur
    subst ef
    subst epl
    have hi1 : i' + 1 < T.length := by
      cases h1 : isT T i' sOPEN
      · rw [h1, Bool.false_or] at hc; exact isT_next hT.last hps3.lt hc
      · exact isT_next hT.last hps3.lt h1
    cases gk with
    | zero => cases hpa
    | succ gk =>
    have hpa : pDcA T n (gk + 1) acc i' = some fin := hpa
    rw [pDcA, hc, if_pos rfl] at hpa
    cases hD : pDcl T (isT T i' sHIDDEN) n (i' + 1) with
    | none => rw [hD] at hpa; cases hpa
    | some r2 =>
    rw [hD] at hpa
    have stp := fun (w4 w5 : World) (g cap' len : Nat) (cs2 : List Value) (k4 : Kept (w.heap.size + 2) w3 w4) (h4 : DRes w4 (w.heap.size + 2) tb cap T 0 0 cs2 r2) (hone2 : ∀ u ∈ cs2, u.oneCell' = true) (hlen : len ≤ n + 1) hown hgrow =>
      pc_step (fin := fin) (N := n - 1) (w0 := w) (wc := w3) (w4 := w4) (w5 := w5) (so := so) (sl := sl) (sc := sc) (m := m) (g := g) (cap' := cap') (len := len) (cs := cs) (cs2 := cs2) (acc := acc) (r2 := r2) (k := gk) rfl p1 p2 p3 (by omega) sm3 hold3 own3 hone hone2 hm hlen (hex acc i' rfl) hpa k4 h4 hown hgrow
    have STP := hide stp
    have HD := hide hD
    obtain ⟨⟨x0, x1⟩, y0, y1⟩ := bk2 p3
    clear stp hD hpa hex hdead hst3 p1 p2 hold3
    go_wp2
    go_region_law (first
        | (refine step_append_lies _ rfl _ _ 60 rfl (w.heap.size + 4) 140 i0 (.agg #[.int .i64 0, .int .i64 0, .string ⟨#[]⟩, .int .i32 0, .int .i32 0, .bool false]) 6 48 Try.underlying60 hi0 hz0 hz1 hz2 rfl (by decide) (.slice so sl sc) m cs (by simp [Act.eval]) own4 ⟨g, 0, none⟩ len c cs2 (by simp [Act.eval]) own2.1 news4 hone2 hl0 (by unfold maxLen; omega) (by omega) (by omega) w4.heap.size rfl ?_; intro g' cap' w5 hown hgrow hat hlt5; have z5 : w5.heap[w.heap.size + 3]? = some (.cells #[.slice so sl sc, .slice none 0 0] 63 (0, 0)) := (hgrow.block _ (by omega) (fun e => by have := (own4.lt _ e.symm).1; omega)).trans z4; have c5 := (bk2 z5).1; have e5 := (bk2 z5).2; have fin5 := unhide FIN4 w5 g' cap' hown hgrow)
        | (go_simp; go_at_call 75; refine (pdeclaration_any _ (w.heap.size + 2) tb cap i' T 0 0 r2 hT ?_ hi1 n (by omega) (unhide HD)).mono ?_; exact hps3.later (fun _ _ => rfl); rintro e w4 ⟨k4, g, len, c, cs2, rfl, hl0, hl1, own2, hone2, h4⟩; have z4 : w4.heap[w.heap.size + 3]? = some (.cells #[.slice so sl sc, .slice none 0 0] 63 (0, 0)) := (k4.2 _ (by show _ < w3.heap.size; omega) (by omega)).trans p3; have c4 := (bk2 z4).1; have sz4 : w3.heap.size ≤ w4.heap.size := k4.1; have own4 := rowP_same own3 (w' := w4) (fun k hk => k4.2 k (own3.lt k hk).2 (by have := (own3.lt k hk).1; omega)); have news4 : ∀ j u, cs2[j]? = some u → w4.cell? (Addr.add ⟨g, 0, none⟩ j) = some u := (fun j u hu => by have hj := (List.getElem?_eq_some_iff.1 hu).1; have hc := (own2.cellAt j (by rw [← own2.1]; exact hj)).trans hu; rw [addr_add0]; exact hc); have FIN4 := hide (fun w5 g' cap' => unhide STP w4 w5 g' cap' len cs2 (by first | exact k4 | exact k4.undrew) h4 hone2 hl1)))
    all_goals go_wp2
    all_goals go_roundg gk
    all_goals first | omega | exact fin5

end Go.Proofs.Ythmmgiaobakilaa
