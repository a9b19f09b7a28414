import Derived.Test.YthmmgiaobakilaaJ32
/- The painter's rounds, over its statements. -/
set_option maxRecDepth 100000
namespace Go.Proofs.Ythmmgiaobakilaa
open Go.RowKit Go.Deep

structure RLoop (D : PD) (S : PSt) (rv : Value) (nm : ByteArray) (k : Sx) (a : Int) (N : Nat) (w1 : World) (q : Nat) (i : Int) (S' : PSt) (n' : Nat) (rv' : Value) (wr : World) : Prop where
  le : q ≤ N
  at_ : i + q = a + N
  pt : PtAt wr D S' n' rv'
  st : PStep D rv w1 wr rv'
  fold : roundsP (stP D k) nm q i S' = roundsP (stP D k) nm N a S
  ok : POk D S'
  cnt : (n' : Int) ≤ S'.steps + 2
  ub : S'.steps + q ≤ 20001 + wtS k + N
set_option maxHeartbeats 8000000 in
theorem rounds_any {m : Nat} (ih : PStOK m) (w : World) (D : PD) (S : PSt) (n : Nat) (rv : Value) (Q : Nat → Prop) (t x y : Tok) (ao : Option Addr) (al ac : Nat) (k : Sx) (hD : D.Ok) (h : PtAt w D S n rv) (ha : RepL w Q (.slice ao al ac) k) (hwk : WfS k) (htt : TokB t) (htx : TokB x) (hty : nP y ≤ 20) (hQ : ∀ k, Q k → k < D.B) (ho : POk D S) (hs : S.steps ≤ 20001) (hss : szS k < m) (hts : wtS k ≤ 100000) (hn : (n : Int) ≤ S.steps + 2) :
    Calls Try.prog 96 #[.pointer (some ⟨D.pb, 0, none⟩), .agg #[.int .i64 (kP t), .int .i64 t.place, .string (wP t), .int .i32 (nP t), .int .i32 (sP t), .int .i64 (kP x), .int .i64 x.place, .string (wP x), .int .i32 (nP x), .int .i32 (sP x), .int .i64 (kP y), .int .i64 y.place, .string (wP y), .int .i32 (nP y), .int .i32 (sP y), .slice ao al ac]] w (PTOut w D rv (roundsP (stP D k) (wP t) (nP y - nP x + 1).toNat (nP x) S)) := by
  obtain ⟨w1, hw1⟩ : ∃ w1, w.alloc (.cells #[.int .i64 (kP t), .int .i64 t.place, .string (wP t), .int .i32 (nP t), .int .i32 (sP t), .int .i64 (kP x), .int .i64 x.place, .string (wP x), .int .i32 (nP x), .int .i32 (sP x), .int .i64 (kP y), .int .i64 y.place, .string (wP y), .int .i32 (nP y), .int .i32 (sP y), .slice ao al ac] 162) = w1 := ⟨_, rfl⟩
  have s1 : w1.heap[w.heap.size]? = some (.cells #[.int .i64 (kP t), .int .i64 t.place, .string (wP t), .int .i32 (nP t), .int .i32 (sP t), .int .i64 (kP x), .int .i64 x.place, .string (wP x), .int .i32 (nP x), .int .i32 (sP x), .int .i64 (kP y), .int .i64 y.place, .string (wP y), .int .i32 (nP y), .int .i32 (sP y), .slice ao al ac] 162 (0, 0)) := by rw [← hw1]; exact heap_alloc_new w _
  have h1 : PtAt w1 D S n rv := by rw [← hw1]; exact h.later (fun k hk => Below.heap_alloc w _ k hk)
  have k1 : PStep D rv w w1 rv := by rw [← hw1]; exact PStep.alloc D rv w _
  have z1 : w1.heap.size = w.heap.size + 1 := by rw [← hw1]; simp
  have a1 : RepL w1 Q (.slice ao al ac) k := RepL.later (k1.stay h hQ) (fun j hj _ => hj) ha
  obtain ⟨hnb, hnr⟩ := h.fresh
  have hx0 := htx.2.1
  have hx1 := htx.2.2
  obtain ⟨N, hN⟩ : ∃ N, (nP y - nP x + 1).toNat = N := ⟨_, rfl⟩
  have hN2 : N ≤ 21 := by omega
  have hN3 : 0 < N → nP x + N = nP y + 1 := by omega
  have hN4 : nP y < nP x + N := by omega
  rw [hN]
  obtain ⟨A, hA⟩ : ∃ A, nP x = A := ⟨_, rfl⟩
  obtain ⟨Bn, hBn⟩ : ∃ Bn, nP y = Bn := ⟨_, rfl⟩
  have L0 : RLoop D S rv (wP t) k A N w1 N A S n rv w1 := ⟨Nat.le_refl _, rfl, h1, PStep.refl _ _ _, rfl, ho, hn, by omega⟩
  -- a round
  have rnd : ∀ (q : Nat) (i : Int) (S' : PSt) (n' : Nat) (rv' : Value) (wr : World), RLoop D S rv (wP t) k A N w1 (q + 1) i S' n' rv' wr → ∀ w3, PtAt w3 D (stepP S') n' rv' → PStep D rv' wr w3 rv' → w3.heap[w.heap.size]? = w1.heap[w.heap.size]? ∧ ∃ w9, (Instr.mapUpdate 112 (.map (some D.mb)) (.string (wP t)) (.int .i32 i)).run Try.prog w3.drew = .ok () w9 ∧ w9.heap[w.heap.size]? = w1.heap[w.heap.size]? ∧ Calls Try.prog 63 #[.pointer (some ⟨D.pb, 0, none⟩), .slice ao al ac] w9 (fun e w5 => e = .returned (.tuple #[]) ∧ ∃ S5 n5 rv5, RLoop D S rv (wP t) k A N w1 q (i + 1) S5 n5 rv5 w5 ∧ w5.heap[w.heap.size]? = w1.heap[w.heap.size]?) := fun q i S' n' rv' wr L w3 h3 k3 => by
    have lub := L.ub
    have lle := L.le
    have lat := L.at_
    have lcnt := L.cnt
    have ls0 := L.ok.s0
    have k13 := L.st.trans k3
    obtain ⟨w9, hrun, h9, k9⟩ := h3.drew.store htt.1 (c := i) ⟨by omega, by omega⟩ (by omega)
    have k19 := (k13.trans (PStep.drew D rv' w3)).trans k9
    refine ⟨k13.block _ (by omega) hnb hnr, w9, hrun, k19.block _ (by omega) hnb hnr, ?_⟩
    have ok9 : POk D (setV (stepP S') (wP t) i) := L.ok.step.set _ ⟨by omega, by omega⟩
    have e9 : (setV (stepP S') (wP t) i).steps = S'.steps + 1 := rfl
    refine (ih k w9 D (setV (stepP S') (wP t) i) (n' + 1) rv' Q _ hss h9 (RepL.later (k19.stay h1 hQ) (fun j hj _ => hj) a1) hwk hQ hD ok9 (by rw [e9]; omega) hts (by rw [e9]; omega)).mono ?_
    rintro e w5 ⟨rfl, n5, rv5, p5, k5, hn5⟩
    have g := st_grow (D := D) _ k (Nat.le_refl _) hwk _ ok9
    have g2 := g.ub
    rw [e9] at g2
    refine ⟨rfl, _, n5, rv5, ⟨by omega, by omega, p5, k19.trans k5, ?_, g.ok, hn5, by omega⟩, (k19.trans k5).block _ (by omega) hnb hnr⟩
    have := L.fold
    exact this
  have fin : ∀ (i : Int) (S' : PSt) (n' : Nat) (rv' : Value) (wr : World), RLoop D S rv (wP t) k A N w1 0 i S' n' rv' wr → PTOut w D rv (roundsP (stP D k) (wP t) N A S) (.returned (.tuple #[])) wr := fun i S' n' rv' wr L => by
    have f : S' = roundsP (stP D k) (wP t) N A S := L.fold
    rw [← f]
    exact ⟨rfl, n', rv', L.pt, k1.trans L.st, L.cnt⟩
  have box : ∀ (q : Nat) (i : Int) (S' : PSt) (n' : Nat) (rv' : Value) (wr : World), RLoop D S rv (wP t) k A N w1 q i S' n' rv' wr → wr.heap[w.heap.size]? = w1.heap[w.heap.size]? := fun q i S' n' rv' wr L => L.st.block _ (by omega) hnb hnr
  have RND := hide rnd
  have FIN := hide fin
  have BOX := hide box
  have HL0 := hide L0
  rw [hA, hBn] at s1
  rw [hA, hBn] at hw1
  rw [hA] at hN3 hN4 hx0 hx1 ⊢
  rw [hBn] at hN3 hN4 hty ⊢
  obtain ⟨d0, d1, d2, d3, d4, d5, d6, d7, d8, d9, d10, d11, d12, d13, d14, d15⟩ := (bk16 s1).1
  clear rnd fin box L0 h ha a1 h1 k1 ho hs hss hn hQ hD ih hwk htt htx hA hBn hN hnb hnr
  go_enter Try.func96, Try.ntmps96
  go_wp2
  clear hw1 d0 d1 d2 d3 d4 d5 d6 d7 d8 d9 d10 d11 d12 d13 d14 d15
  go_loopg [4] N (fun q v wr => ∃ i S' n' rv', v = .int .i32 i ∧ RLoop D S rv (wP t) k A N w1 q i S' n' rv' wr)
  case atStart => exact ⟨A, S, n, rv, rfl, unhide HL0⟩
  case round =>
    clear HL0
    obtain ⟨i, S', n', rv', rfl, L⟩ := hrel
    have bx := (unhide BOX gk i S' n' rv' wr L).trans s1
    have lat := L.at_
    have lle := L.le
    obtain ⟨d0, d1, d2, d3, d4, d5, d6, d7, d8, d9, d10, d11, d12, d13, d14, d15⟩ := (bk16 bx).1
    cases gk with
    | zero =>
      have hle : decide (i ≤ Bn) = false := by simp; omega
      have FF := hide (unhide FIN i S' n' rv' wr L)
      clear RND FIN BOX L
      go_wp2
      go_end0
      exact unhide FF
    | succ q =>
      have hle : decide (i ≤ Bn) = true := by simp; omega
      have hi0 : 0 ≤ i := by omega
      have hi1 : i ≤ 21 := by omega
      have STP := hide (step_any wr D S' n' rv' L.pt L.ok.s0 (by have := L.ub; omega))
      have RN := hide (unhide RND q i S' n' rv' wr L)
      clear RND FIN BOX L
      go_wp2_with fail
      refine (unhide STP).mono ?_
      rintro e w3 ⟨rfl, h3, k3⟩
      obtain ⟨b3, w9, hrun, b9, CC⟩ := unhide RN w3 h3 k3
      have s3 := b3.trans s1
      have s9 := b9.trans s1
      have C9 := hide CC
      have hb3 := h3.blk
      unfold ptO at hb3
      obtain ⟨⟨x0, x1, x2, x3, x4, x5, x6, x7, x8, x9, x10, x11, x12⟩, _⟩ := bk13 hb3
      clear RN STP d0 d1 d2 d3 d4 d5 d6 d7 d8 d9 d10 d11 d12 d13 d14 d15 h3 k3 CC hb3 x0 x1 x2 x3 x4 x5 x6 x8 x9 x10 x11 x12
      obtain ⟨d0, d1, d2, d3, d4, d5, d6, d7, d8, d9, d10, d11, d12, d13, d14, d15⟩ := (bk16 s3).1
      go_wp2
      clear b3 b9
      go_region
      clear d0 d1 d2 d3 d4 d5 d6 d7 d8 d9 d10 d11 d12 d13 d14 d15 x7 hrun s3
      obtain ⟨d0, d1, d2, d3, d4, d5, d6, d7, d8, d9, d10, d11, d12, d13, d14, d15⟩ := (bk16 s9).1
      go_wp2_with fail
      refine (unhide C9).mono ?_
      rintro e w5 ⟨rfl, S5, n5, rv5, L5, b5⟩
      clear C9 d0 d1 d2 d3 d4 d5 d6 d7 d8 d9 d10 d11 d12 d13 d14 d15 s9
      go_wp2
      go_roundg q
      case rel => exact ⟨i + 1, S5, n5, rv5, rfl, L5⟩
      case measure => omega
end Go.Proofs.Ythmmgiaobakilaa
