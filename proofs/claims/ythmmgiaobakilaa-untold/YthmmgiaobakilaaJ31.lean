import Derived.Test.YthmmgiaobakilaaJ17
import Derived.Test.YthmmgiaobakilaaJ30
/- Statements on data: what they keep, how many steps they may take; a value is kept in the map. -/
set_option maxRecDepth 100000
namespace Go.Proofs.Ythmmgiaobakilaa
open Go.RowKit Go.Deep

def setV (S : PSt) (nm : ByteArray) (v : Int) : PSt := { S with vals := updR S.vals nm v }
def roundsP (body : PSt → PSt) (nm : ByteArray) : Nat → Int → PSt → PSt
  | 0, _, S => S
  | q + 1, i, S => roundsP body nm q (i + 1) (body (setV (stepP S) nm i))
def stP (D : PD) : Sx → PSt → PSt
  | .nil, S => S
  | .node _ _ p k r, S => if 20000 < S.steps then S else stP D r (
    if p.tag = 0 then setV (ev1 D p.e (stepP S)).2 (wP p.t) (ev1 D p.e (stepP S)).1 else
    if p.tag = 1 then (match k with
      | .nil => (ev1 D p.e (stepP S)).2
      | .node _ _ _ s u => if (ev1 D p.e (stepP S)).1 ≠ 0 then stP D s (ev1 D p.e (stepP S)).2 else stP D u (ev1 D p.e (stepP S)).2) else
    if p.tag = 2 then roundsP (fun T => stP D k T) (wP p.t) (nP p.b - nP p.a + 1).toNat (nP p.a) (stepP S) else
    putP D (ev1 D p.e (stepP S)).2 (decide (wP p.t = sOUT)) (ev1 D p.e (stepP S)).1)
section
variable {D : PD} {b o : Nat} {p : SP} {k r : Sx} {S : PSt}
theorem stP_over (h : 20000 < S.steps) : ∀ s : Sx, stP D s S = S
  | .nil => rfl
  | .node _ _ p k r => by cases k <;> (show (if 20000 < S.steps then S else _) = S; rw [if_pos h])
theorem stP_0 (h : ¬ 20000 < S.steps) (t : p.tag = 0) : stP D (.node b o p k r) S = stP D r (setV (ev1 D p.e (stepP S)).2 (wP p.t) (ev1 D p.e (stepP S)).1) := by
  cases k <;> (show (if 20000 < S.steps then S else stP D r (if p.tag = 0 then _ else _)) = _; rw [if_neg h, if_pos t])
theorem stP_1 {b1 o1 : Nat} {q : SP} {s u : Sx} (h : ¬ 20000 < S.steps) (t : p.tag = 1) : stP D (.node b o p (.node b1 o1 q s u) r) S = stP D r (if (ev1 D p.e (stepP S)).1 ≠ 0 then stP D s (ev1 D p.e (stepP S)).2 else stP D u (ev1 D p.e (stepP S)).2) := by
  show (if 20000 < S.steps then S else stP D r (if p.tag = 0 then _ else if p.tag = 1 then _ else _)) = _
  rw [if_neg h, if_neg (by omega), if_pos t]
theorem stP_2 (h : ¬ 20000 < S.steps) (t : p.tag = 2) : stP D (.node b o p k r) S = stP D r (roundsP (stP D k) (wP p.t) (nP p.b - nP p.a + 1).toNat (nP p.a) (stepP S)) := by
  cases k <;> (show (if 20000 < S.steps then S else stP D r (if p.tag = 0 then _ else if p.tag = 1 then _ else if p.tag = 2 then _ else _)) = _; rw [if_neg h, if_neg (by omega), if_neg (by omega), if_pos t])
theorem stP_3 (h : ¬ 20000 < S.steps) (t : p.tag = 3 ∨ p.tag = 4) : stP D (.node b o p k r) S = stP D r (putP D (ev1 D p.e (stepP S)).2 (decide (wP p.t = sOUT)) (ev1 D p.e (stepP S)).1) := by
  cases k <;> (show (if 20000 < S.steps then S else stP D r (if p.tag = 0 then _ else if p.tag = 1 then _ else if p.tag = 2 then _ else _)) = _; rw [if_neg h, if_neg (by omega), if_neg (by omega), if_neg (by omega)])
end
def wtS : Sx → Nat
  | .nil => 0
  | .node _ _ p k r => szE p.e + 22 + wtS k + wtS r
def WfS : Sx → Prop
  | .nil => True
  | .node _ _ p k r => (WfV p.e ∧ TokB p.t ∧ TokB p.a ∧ TokB p.b ∧ (p.tag = 2 → nP p.b ≤ 20)) ∧ WfS k ∧ WfS r
theorem ev1_any (D : PD) (e : Ex) (S : PSt) : ∃ m, m ≤ szE e ∧ EvS S (ev1 D e S).2 m := by
  cases e with
  | nil => exact ⟨0, Nat.zero_le _, EvS.refl S⟩
  | node b o t k r => exact ⟨szE k + 1, by simp [szE], ev1_ev D S⟩
theorem ev1_in (D : PD) {e : Ex} {S : PSt} (hw : WfV e) (hS : OkV S) : In31 (ev1 D e S).1 := by
  cases e with
  | nil => show In31 0; unfold In31; decide
  | node b o t k r => exact head_in D hw.1.2.2 (hS.ev (evE_ev D k S)).step (evE_in D k S hw.2.1 hS)
theorem POk.step {D : PD} {S : PSt} (h : POk D S) : POk D (stepP S) := ⟨h.vals, by have := h.s0; show 0 ≤ S.steps + 1; omega, h.t0, by have := h.t1; show S.touched ≤ S.steps + 1; omega, h.lo, h.lh, h.x0, h.x1, h.y0, h.y1⟩
theorem POk.set {D : PD} {S : PSt} (h : POk D S) (nm : ByteArray) {v : Int} (hv : In31 v) : POk D (setV S nm v) := ⟨fun s => by
  show In31 (updR S.vals nm v s)
  unfold updR
  split
  · exact hv
  · exact h.vals s, h.s0, h.t0, h.t1, h.lo, h.lh, h.x0, h.x1, h.y0, h.y1⟩
theorem POk.put {D : PD} {S : PSt} (h : POk D S) (ht : S.touched + 1 ≤ S.steps) (out : Bool) (v : Int) : POk D (putP D S out v) ∧ (putP D S out v).steps = S.steps := by
  unfold putP
  split
  · obtain ⟨a, b, c, d, e, f, g⟩ := touchP_steps S 2 (hereP D S)
    refine ⟨⟨fun s => ?_, ?_, ?_, ?_, ?_, ?_, ?_, ?_, ?_, ?_⟩, a⟩
    · show In31 ((touchP S 2 (hereP D S)).vals s); rw [b]; exact h.vals s
    · show 0 ≤ (touchP S 2 (hereP D S)).steps; rw [a]; exact h.s0
    · show 0 ≤ (touchP S 2 (hereP D S)).touched; rw [c]; have := h.t0; omega
    · show (touchP S 2 (hereP D S)).touched ≤ (touchP S 2 (hereP D S)).steps; rw [a, c]; exact ht
    · show ((S.opn.set _ _).length : Int) = _; rw [List.length_set]; exact h.lo
    · show ((touchP S 2 (hereP D S)).hid.length : Int) = _; rw [e]; exact h.lh
    · show 0 ≤ (touchP S 2 (hereP D S)).cx; rw [f]; exact h.x0
    · show (touchP S 2 (hereP D S)).cx ≤ _; rw [f]; exact h.x1
    · show 0 ≤ (touchP S 2 (hereP D S)).cy; rw [g]; exact h.y0
    · show (touchP S 2 (hereP D S)).cy ≤ _; rw [g]; exact h.y1
  · obtain ⟨a, b, c, d, e, f, g⟩ := touchP_steps S 3 (hereP D S)
    refine ⟨⟨fun s => ?_, ?_, ?_, ?_, ?_, ?_, ?_, ?_, ?_, ?_⟩, a⟩
    · show In31 ((touchP S 3 (hereP D S)).vals s); rw [b]; exact h.vals s
    · show 0 ≤ (touchP S 3 (hereP D S)).steps; rw [a]; exact h.s0
    · show 0 ≤ (touchP S 3 (hereP D S)).touched; rw [c]; have := h.t0; omega
    · show (touchP S 3 (hereP D S)).touched ≤ (touchP S 3 (hereP D S)).steps; rw [a, c]; exact ht
    · show ((touchP S 3 (hereP D S)).opn.length : Int) = _; rw [d]; exact h.lo
    · show ((S.hid.set _ _).length : Int) = _; rw [List.length_set]; exact h.lh
    · show 0 ≤ (touchP S 3 (hereP D S)).cx; rw [f]; exact h.x0
    · show (touchP S 3 (hereP D S)).cx ≤ _; rw [f]; exact h.x1
    · show 0 ≤ (touchP S 3 (hereP D S)).cy; rw [g]; exact h.y0
    · show (touchP S 3 (hereP D S)).cy ≤ _; rw [g]; exact h.y1
/-- How many steps statements may take: the bound B beyond which no statement begins. -/
structure Grows (D : PD) (S S' : PSt) (B : Int) : Prop where
  ok : POk D S'
  le : S.steps ≤ S'.steps
  ub : S'.steps ≤ max S.steps B
theorem rounds_grow {D : PD} {body : PSt → PSt} {nm : ByteArray} {B : Int} (hb : ∀ T, POk D T → Grows D T (body T) B) : ∀ (q : Nat) (i : Int) (S : PSt), POk D S → 0 ≤ i → i + q ≤ 2000000000 → POk D (roundsP body nm q i S) ∧ S.steps + q ≤ (roundsP body nm q i S).steps ∧ (roundsP body nm q i S).steps ≤ max S.steps B + q
  | 0, i, S, h, _, _ => ⟨h, by show S.steps + 0 ≤ S.steps; omega, by show S.steps ≤ max S.steps B + 0; omega⟩
  | q + 1, i, S, h, h0, h1 => by
    have g := hb (setV (stepP S) nm i) (h.step.set nm ⟨by omega, by omega⟩)
    have e1 : (setV (stepP S) nm i).steps = S.steps + 1 := rfl
    obtain ⟨a, c, d⟩ := rounds_grow hb q (i + 1) (body (setV (stepP S) nm i)) g.ok (by omega) (by omega)
    have g2 := g.le
    have g3 := g.ub
    rw [e1] at g2 g3
    refine ⟨a, ?_, ?_⟩
    · show S.steps + ((q + 1 : Nat) : Int) ≤ (roundsP body nm q (i + 1) (body (setV (stepP S) nm i))).steps
      omega
    · show (roundsP body nm q (i + 1) (body (setV (stepP S) nm i))).steps ≤ max S.steps B + ((q + 1 : Nat) : Int)
      omega
theorem st_grow {D : PD} (n : Nat) : ∀ (s : Sx), szS s ≤ n → WfS s → ∀ S, POk D S → Grows D S (stP D s S) (20001 + wtS s) := by
  induction n with
  | zero =>
    intro s hs _ S h
    cases s with
    | nil => exact ⟨h, Int.le_refl _, by show S.steps ≤ max S.steps _; omega⟩
    | node b o p k r => simp [szS] at hs
  | succ n ih =>
    intro s hs hw S h
    cases s with
    | nil => exact ⟨h, Int.le_refl _, by show S.steps ≤ max S.steps _; omega⟩
    | node b o p k r =>
      by_cases hov : 20000 < S.steps
      · rw [stP_over hov]; exact ⟨h, Int.le_refl _, by omega⟩
      simp only [szS] at hs
      obtain ⟨⟨wv, wt, wa, wb, w2⟩, wk, wr⟩ := hw
      obtain ⟨m, hm, ev⟩ := ev1_any D p.e (stepP S)
      have e1 := ev.steps
      have e2 : (stepP S).steps = S.steps + 1 := rfl
      have ok1 := h.step.ev ev
      have hwt : (wtS (.node b o p k r) : Int) = szE p.e + 22 + wtS k + wtS r := by simp [wtS]
      have rest : ∀ T, POk D T → S.steps ≤ T.steps → T.steps ≤ 20001 + szE p.e + 22 + wtS k → Grows D S (stP D r T) (20001 + wtS (.node b o p k r)) := fun T hT h1 h2 => by
        have g := ih r (by omega) wr T hT
        have g2 := g.le
        have g3 := g.ub
        exact ⟨g.ok, by omega, by omega⟩
      by_cases t0 : p.tag = 0
      · rw [stP_0 hov t0]
        exact rest _ (ok1.set _ (ev1_in D wv h.step.vals)) (by show S.steps ≤ (ev1 D p.e (stepP S)).2.steps; omega) (by show (ev1 D p.e (stepP S)).2.steps ≤ _; omega)
      by_cases t1 : p.tag = 1
      · cases k with
        | nil =>
          have : stP D (.node b o p .nil r) S = stP D r (ev1 D p.e (stepP S)).2 := by
            show (if 20000 < S.steps then S else stP D r (if p.tag = 0 then _ else if p.tag = 1 then _ else _)) = _
            rw [if_neg hov, if_neg t0, if_pos t1]
          rw [this]
          exact rest _ ok1 (by omega) (by omega)
        | node b1 o1 q s u =>
          simp only [szS] at hs
          have hk2 : (wtS (.node b1 o1 q s u) : Int) = szE q.e + 22 + wtS s + wtS u := by simp [wtS]
          rw [stP_1 hov t1]
          split
          · have g := ih s (by omega) wk.2.1 _ ok1
            have g2 := g.le
            have g3 := g.ub
            exact rest _ g.ok (by omega) (by omega)
          · have g := ih u (by omega) wk.2.2 _ ok1
            have g2 := g.le
            have g3 := g.ub
            exact rest _ g.ok (by omega) (by omega)
      by_cases t2 : p.tag = 2
      · rw [stP_2 hov t2]
        have hb := w2 t2
        have ha := wa.2
        obtain ⟨a, c, d⟩ := rounds_grow (D := D) (body := stP D k) (nm := wP p.t) (B := 20001 + wtS k) (fun T hT => ih k (by omega) wk T hT) (nP p.b - nP p.a + 1).toNat (nP p.a) (stepP S) h.step (by omega) (by omega)
        have hq : ((nP p.b - nP p.a + 1).toNat : Int) ≤ 21 := by omega
        exact rest _ a (by omega) (by omega)
      · have e3 : stP D (.node b o p k r) S = stP D r (putP D (ev1 D p.e (stepP S)).2 (decide (wP p.t = sOUT)) (ev1 D p.e (stepP S)).1) := by
          cases k <;> (show (if 20000 < S.steps then S else stP D r (if p.tag = 0 then _ else if p.tag = 1 then _ else if p.tag = 2 then _ else _)) = _; rw [if_neg hov, if_neg t0, if_neg t1, if_neg t2])
        rw [e3]
        have tt : (ev1 D p.e (stepP S)).2.touched + 1 ≤ (ev1 D p.e (stepP S)).2.steps := by
          have := ev.t2; have := h.t1; have : (stepP S).touched = S.touched := rfl; omega
        obtain ⟨a, c⟩ := ok1.put tt (decide (wP p.t = sOUT)) (ev1 D p.e (stepP S)).1
        exact rest _ a (by omega) (by omega)
/-- A value is kept. -/
theorem PtAt.store {w : World} {D : PD} {S : PSt} {n : Nat} {rv : Value} (h : PtAt w D S n rv) {s : ByteArray} (hs : s.size ≤ 300) {c : Int} (hc : In31 c) (hn : n ≤ 1000000) : ∃ w9, (Instr.mapUpdate 112 (.map (some D.mb)) (.string s) (.int .i32 c)).run Try.prog w = .ok () w9 ∧ PtAt w9 D (setV S s c) (n + 1) rv ∧ PStep D rv w w9 rv := by
  obtain ⟨w9, hrun, hmap, ht⟩ := h.map.store Try.underlying112 Try.underlying21 (by unfold maxLen; omega) (s := s) (by unfold maxLen; omega) (c := c) (by
    obtain ⟨a, b⟩ := hc
    have e1 : IntKind.i32.min = -2147483648 := rfl
    have e2 : IntKind.i32.max = 2147483647 := rfl
    simp only [Lit.wf, e1, e2, Bool.and_eq_true, decide_eq_true_eq]
    omega)
  have hg := ht.grown
  have oth : ∀ k, k < w.heap.size → k ≠ D.mb → w9.heap[k]? = w.heap[k]? := fun k hk hne => hg.block k hk (fun e => hne (by cases e; rfl))
  obtain ⟨n1, n2, n3, n4, n5, n6⟩ := h.ne
  have hB : D.B ≤ D.mb := h.base _ (.inr (.inl rfl))
  have hlm := h.ltM
  refine ⟨w9, hrun, ⟨(oth _ h.ltP n1).trans h.blk, hmap, (oth _ h.ltO (Ne.symm n4)).trans h.rowO, (oth _ h.ltH (Ne.symm n5)).trans h.rowH, own_sameP h.rowR (fun k e => oth k (h.rowR.lt k e).2 (fun e2 => h.away k e (.inr (.inl e2)))), h.ne, h.base, h.away, h.tex1.sameP (fun k hk => oth k (by omega) (by omega)), h.tex2.sameP (fun k hk => oth k (by omega) (by omega))⟩, ⟨hg.size, fun k hk ho _ => oth k hk (fun e => ho (.inr (.inl e))), Same.grown hg, .inl rfl⟩⟩
end Go.Proofs.Ythmmgiaobakilaa
