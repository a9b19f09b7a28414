import Derived.Test.YthmmgiaobakilaaJ31
/- The painter's choose and rounds, over its statements. -/
set_option maxRecDepth 100000
namespace Go.Proofs.Ythmmgiaobakilaa
open Go.RowKit Go.Deep

def PTOut (w : World) (D : PD) (rv : Value) (S' : PSt) (e : Ending) (w' : World) : Prop := e = .returned (.tuple #[]) ∧ ∃ n' rv', PtAt w' D S' n' rv' ∧ PStep D rv w w' rv' ∧ (n' : Int) ≤ S'.steps + 2
def PStOK (m : Nat) : Prop := ∀ (s : Sx) (w : World) (D : PD) (S : PSt) (n : Nat) (rv : Value) (Q : Nat → Prop) (v : Value), szS s < m → PtAt w D S n rv → RepL w Q v s → WfS s → (∀ k, Q k → k < D.B) → D.Ok → POk D S → S.steps ≤ 150000 → wtS s ≤ 100000 → (n : Int) ≤ S.steps + 2 →
  Calls Try.prog 63 #[.pointer (some ⟨D.pb, 0, none⟩), v] w (PTOut w D rv (stP D s S))
/-- A fresh block is none of the painter's. -/
theorem PtAt.fresh {w : World} {D : PD} {S : PSt} {n : Nat} {rv : Value} (h : PtAt w D S n rv) : ¬ D.own w.heap.size ∧ rv.ownBlock ≠ some w.heap.size := by
  refine ⟨?_, fun e => by have := (h.rowR.lt _ e).2; omega⟩
  rintro (o | o | o | o)
  · have := h.ltP; omega
  · have := h.ltM; omega
  · have := h.ltO; omega
  · have := h.ltH; omega
/-- What lies in the tree stays. -/
theorem PStep.stay {w w' : World} {D : PD} {S : PSt} {n : Nat} {rv rv' : Value} (h : PStep D rv w w' rv') (p : PtAt w D S n rv) {Q : Nat → Prop} (hQ : ∀ k, Q k → k < D.B) : Stay Q w w' := fun j hj _ => h.low p (hQ j hj)
set_option maxHeartbeats 8000000 in
theorem choose_any {m : Nat} (ih : PStOK m) (w : World) (D : PD) (S : PSt) (n : Nat) (rv : Value) (Q : Nat → Prop) (t x : Tok) (so ao bo : Option Addr) (sl sc al ac bl bc : Nat) (e : Ex) (s u : Sx) (hD : D.Ok) (h : PtAt w D S n rv) (hv : RepV w Q (exV x (.slice so sl sc)) e) (ha : RepL w Q (.slice ao al ac) s) (hb : RepL w Q (.slice bo bl bc) u) (hw : WfV e) (hws : WfS s) (hwu : WfS u) (hQ : ∀ k, Q k → k < D.B) (ho : POk D S) (hs : S.steps ≤ 20001) (hsz : szE e ≤ 100000) (hss : szS s < m) (hsu : szS u < m) (hts : wtS s ≤ 100000) (htu : wtS u ≤ 100000) (hn : (n : Int) ≤ S.steps + 2) :
    Calls Try.prog 95 #[.pointer (some ⟨D.pb, 0, none⟩), .agg #[.int .i64 (kP t), .int .i64 t.place, .string (wP t), .int .i32 (nP t), .int .i32 (sP t), .int .i64 (kP x), .int .i64 x.place, .string (wP x), .int .i32 (nP x), .int .i32 (sP x), .slice so sl sc, .slice ao al ac, .slice bo bl bc]] w (PTOut w D rv (if (ev1 D e S).1 ≠ 0 then stP D s (ev1 D e S).2 else stP D u (ev1 D e S).2)) := by
  obtain ⟨w1, hw1⟩ : ∃ w1, w.alloc (.cells #[.int .i64 (kP t), .int .i64 t.place, .string (wP t), .int .i32 (nP t), .int .i32 (sP t), .int .i64 (kP x), .int .i64 x.place, .string (wP x), .int .i32 (nP x), .int .i32 (sP x), .slice so sl sc, .slice ao al ac, .slice bo bl bc] 159) = w1 := ⟨_, rfl⟩
  have s1 : w1.heap[w.heap.size]? = some (.cells #[.int .i64 (kP t), .int .i64 t.place, .string (wP t), .int .i32 (nP t), .int .i32 (sP t), .int .i64 (kP x), .int .i64 x.place, .string (wP x), .int .i32 (nP x), .int .i32 (sP x), .slice so sl sc, .slice ao al ac, .slice bo bl bc] 159 (0, 0)) := by rw [← hw1]; exact heap_alloc_new w _
  have h1 : PtAt w1 D S n rv := by rw [← hw1]; exact h.later (fun k hk => Below.heap_alloc w _ k hk)
  have k1 : PStep D rv w w1 rv := by rw [← hw1]; exact PStep.alloc D rv w _
  have z1 : w1.heap.size = w.heap.size + 1 := by rw [← hw1]; simp
  have v1 : RepV w1 Q (exV x (.slice so sl sc)) e := RepV.later (k1.stay h hQ) (fun j hj _ => hj) hv
  obtain ⟨hnb, hnr⟩ := h.fresh
  have val := value_all 100000 (Nat.le_refl _) e w1 D S n rv Q _ hsz h1 v1 hw hQ hD ho.vals ho.s0 (by omega) ho.t0 (by have := ho.t1; omega)
  obtain ⟨q, _, hq2, evs⟩ := ev1_some D hv S
  obtain ⟨r0, hr0⟩ : ∃ r0, ev1 D e S = r0 := ⟨_, rfl⟩
  obtain ⟨vv, S1⟩ := r0
  rw [hr0] at val evs ⊢
  have evs : EvS S S1 q := evs
  have ok1 : POk D S1 := ho.ev evs
  have st1 := evs.steps
  have CS : Hid (∀ w2 rv2, PtAt w2 D S1 n rv2 → PStep D rv w1 w2 rv2 → Calls Try.prog 63 #[.pointer (some ⟨D.pb, 0, none⟩), .slice ao al ac] w2 (fun e w3 => e = .returned (.tuple #[]) ∧ Hid (PTOut w D rv (stP D s S1) (.returned (.tuple #[])) w3))) := fun w2 rv2 h2 k2 => by
    refine (ih s w2 D S1 n rv2 Q _ hss h2 (RepL.later (k2.stay h1 hQ) (fun j hj _ => hj) (RepL.later (k1.stay h hQ) (fun j hj _ => hj) ha)) hws hQ hD ok1 (by omega) hts (by omega)).mono ?_
    rintro e w3 ⟨rfl, n', rv', p3, k3, hn3⟩
    exact ⟨rfl, rfl, n', rv', p3, (k1.trans k2).trans k3, hn3⟩
  have CU : Hid (∀ w2 rv2, PtAt w2 D S1 n rv2 → PStep D rv w1 w2 rv2 → Calls Try.prog 63 #[.pointer (some ⟨D.pb, 0, none⟩), .slice bo bl bc] w2 (fun e w3 => e = .returned (.tuple #[]) ∧ Hid (PTOut w D rv (stP D u S1) (.returned (.tuple #[])) w3))) := fun w2 rv2 h2 k2 => by
    refine (ih u w2 D S1 n rv2 Q _ hsu h2 (RepL.later (k2.stay h1 hQ) (fun j hj _ => hj) (RepL.later (k1.stay h hQ) (fun j hj _ => hj) hb)) hwu hQ hD ok1 (by omega) htu (by omega)).mono ?_
    rintro e w3 ⟨rfl, n', rv', p3, k3, hn3⟩
    exact ⟨rfl, rfl, n', rv', p3, (k1.trans k2).trans k3, hn3⟩
  obtain ⟨d0, d1, d2, d3, d4, d5, d6, d7, d8, d9, d10, d11, d12⟩ := (bk13 s1).1
  have VAL := hide val
  clear val h v1 hv ha hb hw hws hwu hQ ho evs ok1 hD hr0 hs hsz h1 st1 hq2 hss hsu hts htu hn k1 ih
  show Calls _ _ _ _ (PTOut w D rv (if vv ≠ 0 then stP D s S1 else stP D u S1))
  unfold exV at VAL
  by_cases hvv : vv = 0
  · have hv2 : (vv != 0) = false := by simp [hvv]
    rw [if_neg (fun hh => hh hvv)]
    clear hvv CS
    go_enter Try.func95, Try.ntmps95
    go_wp2_with fail
    clear hw1
    refine (unhide VAL).mono ?_
    rintro e w2 ⟨rfl, rv2, h2, k2⟩
    have s2 := (k2.block _ (by omega) hnb hnr).trans s1
    have hz2 := k2.size
    have CU2 := hide (unhide CU w2 rv2 h2 k2)
    clear VAL d0 d1 d2 d3 d4 d5 d6 d7 d8 d9 d10 d11 d12 s1 k2 h2 CU
    obtain ⟨d0, d1, d2, d3, d4, d5, d6, d7, d8, d9, d10, d11, d12⟩ := (bk13 s2).1
    go_wp2_with fail
    refine (unhide CU2).mono ?_
    rintro e w3 ⟨rfl, fin⟩
    clear CU2 s2 d0 d1 d2 d3 d4 d5 d6 d7 d8 d9 d10 d11 d12
    go_wp2
    go_end0
    exact unhide fin
  · have hv2 : (vv != 0) = true := by simp [hvv]
    rw [if_pos hvv]
    clear hvv CU
    go_enter Try.func95, Try.ntmps95
    go_wp2_with fail
    clear hw1
    refine (unhide VAL).mono ?_
    rintro e w2 ⟨rfl, rv2, h2, k2⟩
    have s2 := (k2.block _ (by omega) hnb hnr).trans s1
    have hz2 := k2.size
    have CS2 := hide (unhide CS w2 rv2 h2 k2)
    clear VAL d0 d1 d2 d3 d4 d5 d6 d7 d8 d9 d10 d11 d12 s1 k2 h2 CS
    obtain ⟨d0, d1, d2, d3, d4, d5, d6, d7, d8, d9, d10, d11, d12⟩ := (bk13 s2).1
    go_wp2_with fail
    refine (unhide CS2).mono ?_
    rintro e w3 ⟨rfl, fin⟩
    clear CS2 s2 d0 d1 d2 d3 d4 d5 d6 d7 d8 d9 d10 d11 d12
    go_wp2
    go_end0
    exact unhide fin
end Go.Proofs.Ythmmgiaobakilaa
