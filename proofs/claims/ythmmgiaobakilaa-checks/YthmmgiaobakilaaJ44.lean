import Derived.Test.YthmmgiaobakilaaJ43
/- The project's look at the names of a loop. -/
set_option maxRecDepth 100000
namespace Go.Proofs.Ythmmgiaobakilaa
open Go.RowKit Go.Deep

/-- What a look at statements answers. -/
def NSOut (w : World) (cb mb n m : Nat) (τ : NSt) (e : Ending) (w' : World) : Prop := e = .returned (.tuple #[]) ∧ ∃ n', n' ≤ n + m ∧ NcAt w' cb mb n' τ.1 τ.2 ∧ Kept2 cb mb w w'
set_option maxHeartbeats 16000000 in
theorem nloop_any {k : Sx} {Q : Nat → Prop} {so : Option Addr} {sl sc : Nat} (cb mb : Nat) (hbody : ∀ (w : World) (n : Nat) (σ : NSt), NcAt w cb mb n σ.1 σ.2 → RepL w Q (.slice so sl sc) k → n + szS k ≤ 100000 → Calls Try.prog 79 #[.pointer (some ⟨cb, 0, none⟩), .slice so sl sc] w (NSOut w cb mb n (szS k) (nxS k σ)))
    (w : World) (n : Nat) (R : ByteArray → Int) (F : Flt) (t x y : Tok) (h : NcAt w cb mb n R F) (hrep : RepL w Q (.slice so sl sc) k) (ht : TokB t) (hQ : ∀ j, Q j → j ≠ cb ∧ j ≠ mb) (hn : n + szS k + 1 ≤ 100000) :
    Calls Try.prog 112 #[.pointer (some ⟨cb, 0, none⟩), .agg #[.int .i64 (kP t), .int .i64 t.place, .string (wP t), .int .i32 (nP t), .int .i32 (sP t), .int .i64 (kP x), .int .i64 x.place, .string (wP x), .int .i32 (nP x), .int .i32 (sP x), .int .i64 (kP y), .int .i64 y.place, .string (wP y), .int .i32 (nP y), .int .i32 (sP y), .slice so sl sc]] w (NSOut w cb mb n (szS k + 1) ((fun τ : NSt => (updR τ.1 (wP t) 0, τ.2)) (nxS k (nxN x y (nbr (R, F) t 2))))) := by
  have hlt := h.lt
  have hmt := h.map.lt
  have htz := ht.1
  obtain ⟨w1, hw1⟩ : ∃ w1, w.alloc (.cells #[.int .i64 (kP t), .int .i64 t.place, .string (wP t), .int .i32 (nP t), .int .i32 (sP t), .int .i64 (kP x), .int .i64 x.place, .string (wP x), .int .i32 (nP x), .int .i32 (sP x), .int .i64 (kP y), .int .i64 y.place, .string (wP y), .int .i32 (nP y), .int .i32 (sP y), .slice so sl sc] 162) = w1 := ⟨_, rfl⟩
  have s1 : w1.heap[w.heap.size]? = some (.cells #[.int .i64 (kP t), .int .i64 t.place, .string (wP t), .int .i32 (nP t), .int .i32 (sP t), .int .i64 (kP x), .int .i64 x.place, .string (wP x), .int .i32 (nP x), .int .i32 (sP x), .int .i64 (kP y), .int .i64 y.place, .string (wP y), .int .i32 (nP y), .int .i32 (sP y), .slice so sl sc] 162 (0, 0)) := by rw [← hw1]; exact heap_alloc_new w _
  have h1 : NcAt w1 cb mb n R F := by rw [← hw1]; exact h.later (Below.heap_alloc w _ _ hlt) (Below.heap_alloc w _ _ hmt)
  have k1 : Kept2 cb mb w w1 := by rw [← hw1]; exact (Kept.alloc cb w _).two mb
  have lt1 : w.heap.size < w1.heap.size := (Array.getElem?_eq_some_iff.1 s1).1
  clear h
  have d1 := (bk16 s1).1
  go_enter Try.func112, Try.ntmps112
  go_wp2_with fail
  clear hw1
  refine (nbring_any w1 cb mb n R F t 2 (.inr rfl) h1 ht (by omega)).mono ?_
  rintro e w2 ⟨rfl, h2, k2⟩
  have s2 := (k2.2 _ lt1 (by omega) (by omega)).trans s1
  have d2 := (bk16 s2).1
  have c2 := (bk3 h2.blk).1
  have K2 := k1.trans k2
  have lt2 := k2.1
  have onn : ∀ (w3 : World) (F3 : Flt), NcAt w3 cb mb (n + 1) (nbr (R, F) t 2).1 F3 → (⟨(nbr (R, F) t 2).1, F3⟩ : NSt) = nxN x y (nbr (R, F) t 2) → Kept cb w2.drew w3 → NcAt w3 cb mb (n + 1) (nxN x y (nbr (R, F) t 2)).1 (nxN x y (nbr (R, F) t 2)).2 ∧ Kept2 cb mb w w3 ∧ w3.heap[w.heap.size]? = some (.cells #[.int .i64 (kP t), .int .i64 t.place, .string (wP t), .int .i32 (nP t), .int .i32 (sP t), .int .i64 (kP x), .int .i64 x.place, .string (wP x), .int .i32 (nP x), .int .i32 (sP x), .int .i64 (kP y), .int .i64 y.place, .string (wP y), .int .i32 (nP y), .int .i32 (sP y), .slice so sl sc] 162 (0, 0)) ∧ w.heap.size < w3.heap.size := fun w3 F3 a1 a2 a3 => by
    have l3 := a3.1
    exact ⟨by rw [← a2]; exact a1, K2.trans (Kept.two (a := w2) a3.undrew mb), (a3.2 _ (by show _ < w2.heap.size; omega) (by omega)).trans s2, by have : w2.heap.size ≤ w3.heap.size := l3; omega⟩
  have ONN := hide onn
  clear h1 s1 d1 k1 k2 onn
  by_cases hb1 : nP y < nP x
  · have e3 : (⟨(nbr (R, F) t 2).1, noteF (nbr (R, F) t 2).2 10 x.place⟩ : NSt) = nxN x y (nbr (R, F) t 2) := by unfold nxN; simp [hb1]
    go_wp2
    first | (go_region_with (go_at_call 110; refine (nnote_any _ cb mb (n + 1) (nbr (R, F) t 2).1 (nbr (R, F) t 2).2 10 x.place ?_).mono ?_; exact h2.later rfl rfl; rintro e w3 ⟨rfl, h3', k3'⟩; have fx := unhide ONN w3 _ h3' e3 k3'; obtain ⟨h3, K3, s3, lt3⟩ := fx; have d3 := (bk16 s3).1)) | fail
    all_goals clear ONN
    all_goals go_wp2_with fail
    all_goals
      refine (hbody _ (n + 1) (nxN x y (nbr (R, F) t 2)) h3 ?_ ?_).mono ?_
      · exact RepL.later (fun j hj hl => K3.2 j hl (hQ j hj).1 (hQ j hj).2) (fun j hj _ => hj) hrep
      · omega
      rintro e w4 ⟨rfl, n4, hn4, h4, k4⟩
      have s4 := (k4.2 _ (by omega) (by omega) (by omega)).trans s3
      have d4 := (bk16 s4).1
      have c4 := (bk3 h4.blk).1
      have lt4 := k4.1
      obtain ⟨w5, hrun, hmap, hturn⟩ := (h4.later (w' := w4.drew) rfl rfl).map.drop Try.underlying136 (s := wP t) (by unfold maxLen; omega) 0
      have H5 := hide (NcAt.stored (w := w4.drew) (h4.later rfl rfl) hturn hmap)
      have K5 := hide ((K3.trans k4).trans (Kept2.trans (b := w4.drew) ⟨Nat.le_refl _, fun _ _ _ _ => rfl, ⟨rfl, rfl, rfl⟩⟩ (Kept2.turned hturn)))
      clear h3 K3 s3 h4 k4 hmap hturn
      go_wp2
      go_region
      go_end0
      exact ⟨rfl, n4, by omega, unhide H5, unhide K5⟩
  · by_cases hb2 : 20 < nP y
    · have e3 : (⟨(nbr (R, F) t 2).1, noteF (nbr (R, F) t 2).2 10 x.place⟩ : NSt) = nxN x y (nbr (R, F) t 2) := by unfold nxN; simp [hb2]
      go_wp2
      first | (go_region_with (go_at_call 110; refine (nnote_any _ cb mb (n + 1) (nbr (R, F) t 2).1 (nbr (R, F) t 2).2 10 x.place ?_).mono ?_; exact h2.later rfl rfl; rintro e w3 ⟨rfl, h3', k3'⟩; have fx := unhide ONN w3 _ h3' e3 k3'; obtain ⟨h3, K3, s3, lt3⟩ := fx; have d3 := (bk16 s3).1)) | fail
      all_goals clear ONN
      all_goals go_wp2_with fail
      all_goals
        refine (hbody _ (n + 1) (nxN x y (nbr (R, F) t 2)) h3 ?_ ?_).mono ?_
        · exact RepL.later (fun j hj hl => K3.2 j hl (hQ j hj).1 (hQ j hj).2) (fun j hj _ => hj) hrep
        · omega
        rintro e w4 ⟨rfl, n4, hn4, h4, k4⟩
        have s4 := (k4.2 _ (by omega) (by omega) (by omega)).trans s3
        have d4 := (bk16 s4).1
        have c4 := (bk3 h4.blk).1
        have lt4 := k4.1
        obtain ⟨w5, hrun, hmap, hturn⟩ := (h4.later (w' := w4.drew) rfl rfl).map.drop Try.underlying136 (s := wP t) (by unfold maxLen; omega) 0
        have H5 := hide (NcAt.stored (w := w4.drew) (h4.later rfl rfl) hturn hmap)
        have K5 := hide ((K3.trans k4).trans (Kept2.trans (b := w4.drew) ⟨Nat.le_refl _, fun _ _ _ _ => rfl, ⟨rfl, rfl, rfl⟩⟩ (Kept2.turned hturn)))
        clear h3 K3 s3 h4 k4 hmap hturn
        go_wp2
        go_region
        go_end0
        exact ⟨rfl, n4, by omega, unhide H5, unhide K5⟩
    · have e3 : (⟨(nbr (R, F) t 2).1, (nbr (R, F) t 2).2⟩ : NSt) = nxN x y (nbr (R, F) t 2) := by unfold nxN; simp [hb1, hb2]
      obtain ⟨h3, K3, s3, lt3⟩ := unhide ONN w2 _ h2 e3 ⟨Nat.le_refl _, fun _ _ _ => rfl, ⟨rfl, rfl, rfl⟩⟩
      all_goals clear ONN
      all_goals go_wp2_with fail
      all_goals
        refine (hbody _ (n + 1) (nxN x y (nbr (R, F) t 2)) h3 ?_ ?_).mono ?_
        · exact RepL.later (fun j hj hl => K3.2 j hl (hQ j hj).1 (hQ j hj).2) (fun j hj _ => hj) hrep
        · omega
        rintro e w4 ⟨rfl, n4, hn4, h4, k4⟩
        have s4 := (k4.2 _ (by omega) (by omega) (by omega)).trans s3
        have d4 := (bk16 s4).1
        have c4 := (bk3 h4.blk).1
        have lt4 := k4.1
        obtain ⟨w5, hrun, hmap, hturn⟩ := (h4.later (w' := w4.drew) rfl rfl).map.drop Try.underlying136 (s := wP t) (by unfold maxLen; omega) 0
        have H5 := hide (NcAt.stored (w := w4.drew) (h4.later rfl rfl) hturn hmap)
        have K5 := hide ((K3.trans k4).trans (Kept2.trans (b := w4.drew) ⟨Nat.le_refl _, fun _ _ _ _ => rfl, ⟨rfl, rfl, rfl⟩⟩ (Kept2.turned hturn)))
        clear h3 K3 s3 h4 k4 hmap hturn
        go_wp2
        go_region
        go_end0
        exact ⟨rfl, n4, by omega, unhide H5, unhide K5⟩

end Go.Proofs.Ythmmgiaobakilaa
