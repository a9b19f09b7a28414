import Derived.Test.YthmmgiaobakilaaJ31
/- The painter's begin. -/
set_option maxRecDepth 100000
namespace Go.Proofs.Ythmmgiaobakilaa
open Go.RowKit Go.Deep

def nmX : ByteArray := ⟨#[120]⟩
def nmY : ByteArray := ⟨#[121]⟩
def beginP (S : PSt) (x y : Int) : PSt := { S with cx := x, cy := y, vals := updR (updR (fun _ => 0) nmX x) nmY y }
theorem PtAt.cleared {w : World} {D : PD} {S : PSt} {n : Nat} {rv : Value} (h : PtAt w D S n rv) (ty : TypeId) : ∃ w9, (Builtin.clear_ #[112] ty #[.map (some D.mb)]).run Try.prog w = .ok (.tuple #[]) w9 ∧ PtAt w9 D { S with vals := fun _ => 0 } 0 rv ∧ PStep D rv w w9 rv := by
  obtain ⟨w9, hrun, hmap, ht⟩ := h.map.clear Try.underlying112 ty
  have hg := ht.grown
  have oth : ∀ k, k < w.heap.size → k ≠ D.mb → w9.heap[k]? = w.heap[k]? := fun k hk hne => hg.block k hk (fun e => hne (by cases e; rfl))
  obtain ⟨n1, n2, n3, n4, n5, n6⟩ := h.ne
  have hB : D.B ≤ D.mb := h.base _ (.inr (.inl rfl))
  have hlm := h.ltM
  refine ⟨w9, hrun, ⟨(oth _ h.ltP n1).trans h.blk, hmap, (oth _ h.ltO (Ne.symm n4)).trans h.rowO, (oth _ h.ltH (Ne.symm n5)).trans h.rowH, own_sameP h.rowR (fun k e => oth k (h.rowR.lt k e).2 (fun e2 => h.away k e (.inr (.inl e2)))), h.ne, h.base, h.away, h.tex1.sameP (fun k hk => oth k (by omega) (by omega)), h.tex2.sameP (fun k hk => oth k (by omega) (by omega))⟩, ⟨hg.size, fun k hk ho _ => oth k hk (fun e => ho (.inr (.inl e))), Same.grown hg, .inl rfl⟩⟩
set_option maxHeartbeats 4000000 in
theorem begin_any (w : World) (D : PD) (S : PSt) (n : Nat) (rv : Value) (x y : Int) (h : PtAt w D S n rv) (hx : 0 ≤ x ∧ x ≤ 100) (hy : 0 ≤ y ∧ y ≤ 100) :
    Calls Try.prog 62 #[.pointer (some ⟨D.pb, 0, none⟩), .agg #[.int .i64 x, .int .i64 y]] w fun e w' => e = .returned (.tuple #[]) ∧ PtAt w' D (beginP S x y) 2 rv ∧ PStep D rv w w' rv := by
  obtain ⟨w1, hw1⟩ : ∃ w1, w.alloc (.cells #[.int .i64 x, .int .i64 y] 109) = w1 := ⟨_, rfl⟩
  have h1 : PtAt w1 D S n rv := by rw [← hw1]; exact h.later (fun k hk => Below.heap_alloc w _ k hk)
  have k1 : PStep D rv w w1 rv := by rw [← hw1]; exact PStep.alloc D rv w _
  have s1 : w1.heap[w.heap.size]? = some (.cells #[.int .i64 x, .int .i64 y] 109 (0, 0)) := by rw [← hw1]; exact heap_alloc_new w _
  have z1 : w1.heap.size = w.heap.size + 1 := by rw [← hw1]; simp
  have fnb : ¬ D.own w.heap.size := by
    rintro (o | o | o | o)
    · have := h.ltP; omega
    · have := h.ltM; omega
    · have := h.ltO; omega
    · have := h.ltH; omega
  have fnr : rv.ownBlock ≠ some w.heap.size := fun e => by have := (h.rowR.lt _ e).2; omega
  have hltp := h.ltP
  obtain ⟨hx0, hx1⟩ := hx
  obtain ⟨hy0, hy1⟩ := hy
  -- behind the two stores
  obtain ⟨w2, hw2⟩ : ∃ w2, (w1.setCell ⟨D.pb, 5, none⟩ (.int .i64 x)).setCell ⟨D.pb, 6, none⟩ (.int .i64 y) = w2 := ⟨_, rfl⟩
  have h2 : PtAt w2 D { S with cx := x, cy := y } n rv := by
    rw [← hw2]
    have a := h1.turn (S' := { S with cx := x }) rfl rfl rfl rfl (heap_setCell_same _ D.pb 5 _ _ (.int .i64 x) h1.blk) (fun k hk => Below.heap_setCell _ _ _ _ hk)
    exact a.turn (S' := { S with cx := x, cy := y }) rfl rfl rfl rfl (heap_setCell_same _ D.pb 6 _ _ (.int .i64 y) a.blk) (fun k hk => Below.heap_setCell _ _ _ _ hk)
  have k2 : PStep D rv w1 w2 rv := by rw [← hw2]; exact ((PStep.refl D rv w1).set (.inl rfl) _).set (.inl rfl) _
  obtain ⟨w3, run3, h3, k3⟩ := h2.cleared 0
  obtain ⟨w4, run4, h4, k4⟩ := h3.drew.store (s := nmX) (by decide) (c := x) ⟨by omega, by omega⟩ (by omega)
  obtain ⟨w5, run5, h5, k5⟩ := h4.drew.store (s := nmY) (by decide) (c := y) ⟨by omega, by omega⟩ (by omega)
  have k13 := k2.trans k3
  have k14 := (k13.trans (PStep.drew D rv w3)).trans k4
  have b3 := (k13.block _ (by omega) fnb fnr).trans s1
  have b4 := (k14.block _ (by omega) fnb fnr).trans s1
  have pc : ∀ {w' : World} {T : PSt} {nn : Nat} {rr : Value}, PtAt w' D T nn rr → w'.cell? ⟨D.pb, 7, none⟩ = some (.map (some D.mb)) := fun hh => by
    have hb := hh.blk
    unfold ptO at hb
    exact (bk13 hb).1.2.2.2.2.2.2.2.1
  have p2 := pc h2
  have p3 := pc h3
  have p4 := pc h4
  have FIN : Hid (PtAt w5 D (beginP S x y) 2 rv ∧ PStep D rv w w5 rv) := ⟨h5, k1.trans ((k14.trans (PStep.drew D rv w4)).trans k5)⟩
  have hb1 := h1.blk
  unfold ptO at hb1
  obtain ⟨⟨x0, x1, x2, x3, x4, x5, x6, x7, x8, x9, x10, x11, x12⟩, ⟨y0, y1, y2, y3, y4, y5, y6, y7, y8, y9, y10, y11, y12⟩⟩ := bk13 hb1
  obtain ⟨⟨q0, q1⟩, _⟩ := bkp2 s1
  obtain ⟨⟨r0, r1⟩, _⟩ := bkp2 b3
  obtain ⟨⟨t0, t1⟩, _⟩ := bkp2 b4
  have hne : ¬ D.pb = w.heap.size := by omega
  have ex : wrap32 x = x := by unfold wrap32; omega
  have ey : wrap32 y = y := by unfold wrap32; omega
  unfold nmX at run4
  unfold nmY at run5
  clear h h1 h2 h3 h4 h5 k1 k2 k3 k4 k5 k13 k14 b3 b4 s1 hb1 pc x0 x1 x2 x3 x4 x8 x9 x10 x11 x12 y0 y1 y2 y3 y4 y7 y8 y9 y10 y11 y12
  go_enter Try.func62, Try.ntmps62
  go_wp2
  go_region
  go_wp2
  go_region
  go_end0
  exact ⟨rfl, (unhide FIN).1, (unhide FIN).2⟩
end Go.Proofs.Ythmmgiaobakilaa
