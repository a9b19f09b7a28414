import Derived.Test.YthmmgiaobakilaaJ45
/- The project's checkNames. -/
set_option maxRecDepth 100000
namespace Go.Proofs.Ythmmgiaobakilaa
open Go.RowKit Go.Deep

def sX : ByteArray := ⟨#[120]⟩
def sY : ByteArray := ⟨#[121]⟩
def roles0 : ByteArray → Int := updR (updR (fun _ => 0) sX 2) sY 2
def nmDs (ds : List (Tok × Bool)) (σ : NSt) : NSt := ds.foldl (fun σ d => nbr σ d.1 1) σ
/-- What is wrong first with a tree's names. -/
def namesF (ds : List (Tok × Bool)) (s : Sx) : Flt := (nxS s (nmDs ds (roles0, (0, 0)))).2
theorem decC_at (ds : List (Tok × Bool)) (i : Nat) (t : Tok) (h : Bool) (hi : ds[i]? = some (t, h)) (j : Nat) (v : Value) (hv : (tokC t ++ [Value.bool h])[j]? = some v) : (decC ds)[i * 6 + j]? = some v := by
  induction ds generalizing i with
  | nil => cases hi
  | cons a ds ih =>
    have hl : (tokC a.1 ++ [Value.bool a.2]).length = 6 := rfl
    have e : decC (a :: ds) = (tokC a.1 ++ [Value.bool a.2]) ++ decC ds := rfl
    rw [e]
    cases i with
    | zero =>
      cases hi
      have hj : j < 6 := by have := (List.getElem?_eq_some_iff.1 hv).1; rw [show (tokC t ++ [Value.bool h]).length = 6 from rfl] at this; exact this
      rw [List.getElem?_append_left (by rw [hl]; omega)]
      simpa using hv
    | succ i =>
      rw [List.getElem?_append_right (by rw [hl]; omega), hl, show (i + 1) * 6 + j - 6 = i * 6 + j by omega]
      exact ih i hi
/-- The cells of the i-th name that is declared. -/
theorem dec_cells {w : World} {g : Nat} {ds : List (Tok × Bool)} (hc : ∀ k u, (decC ds)[k]? = some u → w.cell? ⟨g, k, none⟩ = some u) {i : Nat} {t : Tok} {h : Bool} (hi : ds[i]? = some (t, h)) :
    w.cell? ⟨g, i * 6, none⟩ = some (.int .i64 (kP t)) ∧ w.cell? ⟨g, i * 6 + 1, none⟩ = some (.int .i64 t.place) ∧ w.cell? ⟨g, i * 6 + 2, none⟩ = some (.string (wP t)) ∧ w.cell? ⟨g, i * 6 + 3, none⟩ = some (.int .i32 (nP t)) ∧ w.cell? ⟨g, i * 6 + 4, none⟩ = some (.int .i32 (sP t)) ∧ w.cell? ⟨g, i * 6 + 5, none⟩ = some (.bool h) :=
  ⟨hc _ _ (decC_at ds i t h hi 0 _ rfl), hc _ _ (decC_at ds i t h hi 1 _ rfl), hc _ _ (decC_at ds i t h hi 2 _ rfl), hc _ _ (decC_at ds i t h hi 3 _ rfl), hc _ _ (decC_at ds i t h hi 4 _ rfl), hc _ _ (decC_at ds i t h hi 5 _ rfl)⟩
/-- What is left of the names, from the i-th on. -/
def RepDa (w : World) (Q : Nat → Prop) (ds : List (Tok × Bool)) (ao : Option Addr) : Prop := ds = [] ∨ ∃ g, ao = some ⟨g, 0, none⟩ ∧ Q g ∧ g < w.heap.size ∧ ∀ k u, (decC ds)[k]? = some u → w.cell? ⟨g, k, none⟩ = some u
theorem RepD.a {w : World} {Q : Nat → Prop} {sv : Value} {ds : List (Tok × Bool)} (h : RepD w Q sv ds) : ∃ ao c, sv = .slice ao ds.length c ∧ RepDa w Q ds ao := by
  rcases h with ⟨rfl, ao, c, rfl⟩ | ⟨hn, g, c, rfl, hg, hc⟩
  · exact ⟨ao, c, rfl, .inl rfl⟩
  · have h0 : 0 < (decC ds).length := by rw [decC_len]; have := List.length_pos_iff.2 hn; omega
    exact ⟨_, c, rfl, .inr ⟨g, rfl, hg, World.block_lt_of_cell? _ _ (hc 0 _ (List.getElem?_eq_getElem h0)), hc⟩⟩
theorem RepDa.later {w w' : World} {Q : Nat → Prop} (hk : Stay Q w w') (hs : w.heap.size ≤ w'.heap.size) {ds : List (Tok × Bool)} {ao : Option Addr} (h : RepDa w Q ds ao) : RepDa w' Q ds ao := by
  rcases h with h | ⟨g, e, hg, hl, hc⟩
  · exact .inl h
  · refine .inr ⟨g, e, hg, by omega, fun k u hu => ?_⟩
    have := hc k u hu
    simp only [World.cell?] at this ⊢
    rw [hk g hg hl]
    exact this
theorem turned_size {w w' : World} {b : Nat} (h : w.mapTurned w' b) : w'.heap.size = w.heap.size := by
  obtain ⟨es, c, es', c', hb, rfl⟩ := h
  simp [ChangeMaps.setBlock]
set_option maxHeartbeats 16000000 in
theorem checkNames_any (w : World) (Q : Nat → Prop) (hQ : ∀ k, Q k → k < w.heap.size) (ds : List (Tok × Bool)) (s : Sx) (nv bv : Value) (hd : RepD w Q nv ds) (hs : RepL w Q bv s) (had : ∀ d ∈ ds, TokB d.1) (has : AllS TokB s ∧ AllZ s) (hn : ds.length + szS s + 2 ≤ 100000) :
    Calls Try.prog 50 #[.agg #[nv, bv]] w fun e w' => e = .returned (.agg #[.int .i64 (namesF ds s).1, .int .i64 (namesF ds s).2]) ∧ Below w.heap.size w w' := by
  obtain ⟨no, nc, rfl, hda⟩ := hd.a
  obtain ⟨bo, bc, hbf⟩ := RepL.form hs
  subst hbf
  obtain ⟨bl, hbl⟩ : ∃ bl, lenS s = bl := ⟨_, rfl⟩
  rw [hbl] at hs ⊢
  clear hbl hd
  have hmm := @run_makeMap Try.prog
  obtain ⟨w1, hw1⟩ : ∃ w1, (w.alloc (.cells #[.slice no ds.length nc, .slice bo bl bc] 63)).alloc (.cells #[.int .i64 0, .int .i64 0] 87) = w1 := ⟨_, rfl⟩
  have z1 : w1.heap.size = w.heap.size + 2 := by rw [← hw1]; simp
  have m1 : MapIs 135 .i64 (w1.alloc (.map #[] 0)) w1.heap.size 0 (fun _ => 0) := MapIs.made w1
  rw [z1] at m1
  obtain ⟨w2, hrun2, m2, ht2⟩ := m1.store (T := 136) Try.underlying136 Try.underlying135 (by unfold maxLen; omega) (s := ⟨#[120]⟩) (by decide) (c := 2) (by decide)
  obtain ⟨w3, hrun3, m3, ht3⟩ := m2.store (T := 136) Try.underlying136 Try.underlying135 (by unfold maxLen; omega) (s := ⟨#[121]⟩) (by decide) (c := 2) (by decide)
  have e3 : w3.heap.size = w.heap.size + 3 := by rw [turned_size ht3, turned_size ht2]; simp [z1]
  have o3 : ∀ j, j < w.heap.size + 2 → w3.heap[j]? = w1.heap[j]? := fun j hj => (ht3.grown.block j (by rw [turned_size ht2]; simp; omega) (fun e => by cases e; omega)).trans ((ht2.grown.block j (by simp; omega) (fun e => by cases e; omega)).trans (Below.heap_alloc w1 _ j (by omega)))
  have b1 : w1.heap[w.heap.size]? = some (.cells #[.slice no ds.length nc, .slice bo bl bc] 63 (0, 0)) := by rw [← hw1]; exact (Below.heap_alloc _ _ _ (by simp)).trans (heap_alloc_new w _)
  have r1 : w1.heap[w.heap.size + 1]? = some (.cells #[.int .i64 0, .int .i64 0] 87 (0, 0)) := by rw [← hw1]; simpa using heap_alloc_new (w.alloc (.cells #[.slice no ds.length nc, .slice bo bl bc] 63)) (.cells #[.int .i64 0, .int .i64 0] 87)
  have B1 : ∀ j, j < w.heap.size → w1.heap[j]? = w.heap[j]? := fun j hj => by rw [← hw1]; exact (Below.heap_alloc _ _ _ (by simp; omega)).trans (Below.heap_alloc w _ j hj)
  obtain ⟨w4, hw4⟩ : ∃ w4, w3.alloc (.cells #[.map (some (w.heap.size + 2)), .int .i64 0, .int .i64 0] 138) = w4 := ⟨_, rfl⟩
  have n4 : NcAt w4 (w.heap.size + 3) (w.heap.size + 2) 2 roles0 (0, 0) := by
    rw [← hw4]
    exact ⟨by rw [← e3]; exact heap_alloc_new w3 _, m3.later (Below.heap_alloc w3 _ _ (by omega))⟩
  have z4 : w4.heap.size = w.heap.size + 4 := by rw [← hw4]; simp [e3]
  have o4 : ∀ j, j < w.heap.size + 2 → w4.heap[j]? = w1.heap[j]? := fun j hj => by rw [← hw4]; exact (Below.heap_alloc w3 _ j (by omega)).trans (o3 j hj)
  have sm4 : Same w w4 := by rw [← hw4]; refine Same.alloc (Same.trans ?_ (Same.trans (Same.grown ht2.grown) (Same.grown ht3.grown))) _; rw [← hw1]; exact ⟨rfl, rfl, rfl⟩
  have B4 : ∀ j, j < w.heap.size → w4.heap[j]? = w.heap[j]? := fun j hj => (o4 j (by omega)).trans (B1 j hj)
  have t4 := (o4 _ (by omega)).trans b1
  have r4 := (o4 _ (by omega)).trans r1
  have d4 : RepDa w4 Q ds no := hda.later (fun j hj hl => B4 j hl) (by omega)
  have hb4 := hide (hs.later (w' := w4) (fun j hj hl => B4 j hl) (fun j hj _ => hj))
  have hlen : ds.length ≤ 100000 := by omega
  have hmapne : ∀ k, Q k → k ≠ w.heap.size + 3 ∧ k ≠ w.heap.size + 2 := fun k hk => by have := hQ k hk; omega
  clear m1 m2 m3 ht2 ht3 o3 o4 b1 r1 B1 hda hs
  have x4 := (bk2 t4).1
  have y4 : (w4.cell? ⟨w.heap.size + 3, 1, none⟩ = some (.int .i64 0) ∧ w4.cell? ⟨w.heap.size + 3, 2, none⟩ = some (.int .i64 0)) ∧ w4.frozen? ⟨w.heap.size + 3, 1, none⟩ = false ∧ w4.frozen? ⟨w.heap.size + 3, 2, none⟩ = false := by
    have := bk3 n4.blk
    exact ⟨⟨this.1.2.1, this.1.2.2⟩, this.2.2.1, this.2.2.2⟩
  have s1 : w4.setCell ⟨w.heap.size + 3, 1, none⟩ (.int .i64 0) = w4 := by rw [← hw4, World.setCell_alloc_at _ _ _ _ _ e3.symm]; rfl
  have s2 : w4.setCell ⟨w.heap.size + 3, 2, none⟩ (.int .i64 0) = w4 := by rw [← hw4, World.setCell_alloc_at _ _ _ _ _ e3.symm]; rfl
  go_enter Try.func50, Try.ntmps50
  go_wp2
  clear hrun2 hrun3 hw1 hw4 hmm s1 s2 y4
  go_loopg [12] ds.length (fun q v wr => ∃ σ' n', v = .int .i64 ((ds.length - q : Nat) : Int) ∧ q ≤ ds.length ∧ NcAt wr (w.heap.size + 3) (w.heap.size + 2) n' σ'.1 σ'.2 ∧ n' + q ≤ 2 + ds.length ∧ Kept2 (w.heap.size + 3) (w.heap.size + 2) w4 wr ∧ nmDs (ds.drop (ds.length - q)) σ' = nmDs ds (roles0, (0, 0)))
  case atStart => exact ⟨(roles0, (0, 0)), 2, by rw [Nat.sub_self]; rfl, Nat.le_refl _, n4, by omega, Kept2.refl _ _ _, by rw [Nat.sub_self]; rfl⟩
  case round =>
  obtain ⟨σ', n', rfl, hq, hnc, hnn, kw, hfold⟩ := hrel
  have hszw := kw.1
  cases gk with
  | zero =>
    have hge : decide (((ds.length - 0 : Nat) : Int) < (ds.length : Int)) = false := by simp
    have hσ : σ' = nmDs ds (roles0, (0, 0)) := by rw [Nat.sub_zero, List.drop_length] at hfold; exact hfold
    subst hσ
    have tr := (kw.2 _ (by omega) (by omega) (by omega)).trans t4
    have rr := (kw.2 _ (by omega) (by omega) (by omega)).trans r4
    have xr := (bk2 tr).1
    clear hfold n4
    go_wp2_with fail
    refine (nstm_all (szS s + 1) s wr _ _ n' _ Q (.slice bo bl bc) (by omega) hnc (RepL.later (fun j hj hl => kw.2 j hl (hmapne j hj).1 (hmapne j hj).2) (fun j hj _ => hj) (unhide hb4)) has hmapne (by omega)).mono ?_
    rintro e w5 ⟨rfl, n5, _, h5, k5⟩
    have l5 := k5.1
    have r5 := (k5.2 _ (by omega) (by omega) (by omega)).trans rr
    obtain ⟨⟨y0, y1⟩, v0, v1⟩ := bk2 r5
    have c5 := (bk3 h5.blk).1
    have fin : ∀ W : World, Same w5 W → w5.heap.size ≤ W.heap.size → (∀ j, j ≠ w.heap.size + 1 → W.heap[j]? = w5.heap[j]?) → Below w.heap.size w W := by
      intro W smW a b
      have smA := ((sm4.trans kw.same).trans k5.same).trans smW
      exact ⟨smA.os, smA.tape, smA.output, by omega, fun j hj => (b j (by omega)).trans ((k5.2 j (by omega) (by omega) (by omega)).trans ((kw.2 j (by omega) (by omega) (by omega)).trans (B4 j hj)))⟩
    have FIN := hide fin
    clear hnc kw k5 tr rr fin
    go_wp2
    refine bodyPost_ret (v := .agg #[.int .i64 (namesF ds s).1, .int .i64 (namesF ds s).2]) (by simp [results, Try.results50, go_sem, y0, y1, namesF]) rfl ⟨rfl, unhide FIN _ (((Same.refl _).set _ _).set _ _) (by simp) (fun j hj => (Below.heap_setCell _ _ _ _ hj).trans (Below.heap_setCell _ _ _ _ hj))⟩
  | succ gk =>
    obtain ⟨d, hd⟩ : ∃ d, d + (gk + 1) = ds.length := ⟨ds.length - (gk + 1), by omega⟩
    have hnd : ds.length - (gk + 1) = d := by omega
    rw [hnd] at hfold ⊢
    have hlt : decide ((d : Int) < (ds.length : Int)) = true := by simp; omega
    obtain ⟨⟨t, hb⟩, hget⟩ : ∃ p, ds[d]? = some p := ⟨ds[d], List.getElem?_eq_getElem (by omega)⟩
    have hmem : (t, hb) ∈ ds := List.mem_of_getElem? hget
    have htb := had _ hmem
    have hdr : ds.drop d = (t, hb) :: ds.drop (d + 1) := by
      rw [List.drop_eq_getElem_cons (by omega)]
      congr 1
      exact (List.getElem?_eq_some_iff.1 hget).2
    have dr := d4.later (w' := wr) (fun j hj hl => kw.2 j hl (hmapne j hj).1 (hmapne j hj).2) kw.1
    rcases dr with hn0 | ⟨g, rfl, hg, hgl, hcs⟩
    · rw [hn0] at hd; simp at hd
    obtain ⟨q0, q1, q2, q3, q4, q5⟩ := dec_cells hcs hget
    have hgw := hQ g hg
    have F2 : nmDs (ds.drop (d + 1)) (nbr σ' t 1) = nmDs ds (roles0, (0, 0)) := by rw [hdr] at hfold; exact hfold
    have HF := hide F2
    clear hfold F2 hcs hdr
    go_wp2_with fail
    refine (nbring_any _ _ _ n' σ'.1 σ'.2 t 1 (.inl rfl) (hnc.later (Below.heap_alloc wr _ _ hnc.lt) (Below.heap_alloc wr _ _ hnc.map.lt)) htb (by omega)).mono ?_
    rintro e w5 ⟨rfl, h5, k5⟩
    have K5 := kw.trans ((Kept2.trans ((Kept.alloc (w.heap.size + 3) wr _).two (w.heap.size + 2)) k5))
    clear k5 kw hnc
    go_wp2
    go_roundg gk
    case rel => exact ⟨_, n' + 1, by congr 1; omega, by omega, h5, by omega, K5, by rw [show ds.length - gk = d + 1 by omega]; exact unhide HF⟩
    case measure => omega

end Go.Proofs.Ythmmgiaobakilaa
