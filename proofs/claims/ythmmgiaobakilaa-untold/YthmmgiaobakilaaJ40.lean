import Derived.Test.YthmmgiaobakilaaJ39
/- What lies between two points of a picture. -/
set_option maxRecDepth 100000
namespace Go.Proofs.Ythmmgiaobakilaa
open Go.RowKit Go.Shelf

def ptOne (D : PD) (t : Sx) (S : PSt) (x : Int × Int) : PSt := stP D t (beginP S x.1 x.2)
/-- All points, one behind the other; none: more steps than may be. -/
def goP (D : PD) (t : Sx) : List (Int × Int) → PSt → Option PSt
  | [], S => some S
  | x :: l, S => if 20000 < (ptOne D t S x).steps then none else goP D t l (ptOne D t S x)
theorem goP_snoc (D : PD) (t : Sx) : ∀ (l : List (Int × Int)) (x : Int × Int) (S T : PSt), goP D t l S = some T → goP D t (l ++ [x]) S = if 20000 < (ptOne D t T x).steps then none else some (ptOne D t T x)
  | [], x, S, T, h => by cases h; rfl
  | y :: l, x, S, T, h => by
    show (if 20000 < (ptOne D t S y).steps then none else goP D t (l ++ [x]) (ptOne D t S y)) = _
    rw [goP] at h
    split at h
    · cases h
    · rename_i hn
      rw [if_neg hn]
      exact goP_snoc D t l x _ T h
theorem goP_err (D : PD) (t : Sx) : ∀ (l s : List (Int × Int)) (S : PSt), goP D t l S = none → goP D t (l ++ s) S = none
  | [], s, S, h => by cases h
  | y :: l, s, S, h => by
    show (if 20000 < (ptOne D t S y).steps then none else goP D t (l ++ s) (ptOne D t S y)) = _
    rw [goP] at h
    split at h
    · rename_i hn; rw [if_pos hn]
    · rename_i hn; rw [if_neg hn]; exact goP_err D t l s _ h
/-- Between two rounds. -/
structure PIn (w : World) (pw ph : Nat) (so sd : Option Addr) (c1 c2 : Nat) (xs ys : List Int) (src : ByteArray) (D : PD) (t : Sx) (Q : Nat → Prop) (T6 T9 Bw : Nat) (no bo : Option Addr) (nl nc bl bc : Nat) (S : PSt) (n : Nat) (rv : Value) (W : World) : Prop where
  f : Four w pw ph so sd c1 c2 xs ys src W
  t6 : W.heap[T6]? = some (.cells #[.slice no nl nc, .slice bo bl bc] 63 (0, 0))
  t9 : W.heap[T9]? = some (.cells #[.pointer (some ⟨D.pb, 0, none⟩)] 103 (0, 0))
  bw : W.heap[Bw]? = some (.cells #[.int .i64 pw] 3 (0, 0))
  pt : PtAt W D S n rv
  aw : rv.ownBlock ≠ some T9 ∧ rv.ownBlock ≠ some Bw
  rep : RepL W Q (.slice bo bl bc) t
  ok : POk D S
  st : S.steps ≤ 20000
/-- What does not turn for all of a picture. -/
structure PFix (w : World) (D : PD) (Q : Nat → Prop) (T6 T9 Bw B : Nat) : Prop where
  q : ∀ k, Q k → k < D.B
  ds : w.heap.size + 4 ≤ D.B
  d6 : T6 < D.B
  o9 : ¬ D.own T9 ∧ T9 < B
  ow : ¬ D.own Bw ∧ Bw < B
  mb : D.mb < B
  bb : D.B ≤ B
section
variable {w : World} {pw ph : Nat} {so sd : Option Addr} {c1 c2 : Nat} {xs ys : List Int} {src : ByteArray} {D : PD} {t : Sx} {Q : Nat → Prop} {T6 T9 Bw B : Nat} {no bo : Option Addr} {nl nc bl bc : Nat} {S : PSt} {n : Nat} {rv : Value} {W : World}
theorem row_cells {W : World} {base : Nat} {e : TypeId} {size : Nat} {v : Value} {n : Nat} {xs : List Value} (h : W.ownsRow base e size v n xs) {j : Nat} {o : Obj} (hj : v.ownBlock = some j) (ho : W.heap[j]? = some o) : o.isCells = true := own_cells h j o hj ho
/-- What other blocks do, the iterator's own ones, does not matter. -/
theorem PtAt.grown {W' : World} {row : Option Nat} (h : PtAt W D S n rv) (hm : D.mb < B) (hb : D.B ≤ B) (hg : W.grownBy W' row) (hr : ∀ r, row = some r → B ≤ r ∧ ∃ o : Obj, W.heap[r]? = some o ∧ o.isCells = false) : PtAt W' D S n rv := by
  have hr' := fun r e => (hr r e).2
  have low : ∀ k, k < B → k < W.heap.size → W'.heap[k]? = W.heap[k]? := fun k hk hl => hg.block k hl (fun e => by have := (hr k e.symm).1; omega)
  have hB := h.base _ (.inl rfl)
  have hp := h.ltP
  refine ⟨cells_grown hg hr' h.blk, h.map.later (low _ hm h.ltM), cells_grown hg hr' h.rowO, cells_grown hg hr' h.rowH, own_grown hg hr' h.rowR, h.ne, h.base, h.away, ?_, ?_⟩
  · exact h.tex1.sameP (fun k hk => low k (by omega) (by omega))
  · exact h.tex2.sameP (fun k hk => low k (by omega) (by omega))
theorem PIn.grown {W' : World} {row : Option Nat} (h : PIn w pw ph so sd c1 c2 xs ys src D t Q T6 T9 Bw no bo nl nc bl bc S n rv W) (x : PFix w D Q T6 T9 Bw B) (hg : W.grownBy W' row) (hr : ∀ r, row = some r → B ≤ r ∧ ∃ o : Obj, W.heap[r]? = some o ∧ o.isCells = false) : PIn w pw ph so sd c1 c2 xs ys src D t Q T6 T9 Bw no bo nl nc bl bc S n rv W' := by
  have hr' := fun r e => (hr r e).2
  have low : ∀ k, k < B → k < W.heap.size → W'.heap[k]? = W.heap[k]? := fun k hk hl => hg.block k hl (fun e => by have := (hr k e.symm).1; omega)
  have x1 := x.ds
  have x2 := x.bb
  refine ⟨⟨cells_grown hg hr' h.f.b0, cells_grown hg hr' h.f.b1, cells_grown hg hr' h.f.b2, cells_grown hg hr' h.f.b3, h.f.bel.grown hg h.f.bel.size (fun r e => by have := (hr r e).1; omega), by have := hg.size; have := h.f.sz; omega⟩, cells_grown hg hr' h.t6, cells_grown hg hr' h.t9, cells_grown hg hr' h.bw, h.pt.grown x.mb x.bb hg hr, h.aw, ?_, h.ok, h.st⟩
  exact RepL.later (fun j hj hl => low j (by have := x.q j hj; omega) hl) (fun j hj _ => hj) h.rep
/-- The painter has done something: what it left. -/
theorem PIn.moved {W' : World} {rv' : Value} (h : PIn w pw ph so sd c1 c2 xs ys src D t Q T6 T9 Bw no bo nl nc bl bc S n rv W) (x : PFix w D Q T6 T9 Bw B) (k : PStep D rv W W' rv') : Four w pw ph so sd c1 c2 xs ys src W' ∧ W'.heap[T6]? = some (.cells #[.slice no nl nc, .slice bo bl bc] 63 (0, 0)) ∧ W'.heap[T9]? = some (.cells #[.pointer (some ⟨D.pb, 0, none⟩)] 103 (0, 0)) ∧ W'.heap[Bw]? = some (.cells #[.int .i64 pw] 3 (0, 0)) ∧ (rv'.ownBlock ≠ some T9 ∧ rv'.ownBlock ≠ some Bw) ∧ RepL W' Q (.slice bo bl bc) t := by
  have x1 := x.ds
  have low : ∀ j, j < D.B → W'.heap[j]? = W.heap[j]? := fun j hj => k.low h.pt hj
  have l9 := (Array.getElem?_eq_some_iff.1 h.t9).1
  have lw := (Array.getElem?_eq_some_iff.1 h.bw).1
  have sz := h.f.sz
  have ks := k.size
  refine ⟨⟨(low _ (by omega)).trans h.f.b0, (low _ (by omega)).trans h.f.b1, (low _ (by omega)).trans h.f.b2, (low _ (by omega)).trans h.f.b3, ?_, by omega⟩, (low _ x.d6).trans h.t6, (k.block _ l9 x.o9.1 h.aw.1).trans h.t9, (k.block _ lw x.ow.1 h.aw.2).trans h.bw, ?_, RepL.later (k.stay h.pt x.q) (fun j hj _ => hj) h.rep⟩
  · exact h.f.bel.trans ⟨k.same.os, k.same.tape, k.same.output, ks, fun j hj => low j (by omega)⟩
  · rcases k.tr with e | ⟨j, e, hj⟩
    · rw [e]; exact h.aw
    · rw [e]; constructor <;> (intro e2; cases e2; omega)
theorem PStep.keeps {W' : World} {rv' : Value} (k : PStep D rv W W' rv') (h : PtAt W D S n rv) (hm : D.mb < B) : KeepsFrom B W W' := ⟨k.size, fun j o hB hj ho => by
  have hl := (Array.getElem?_eq_some_iff.1 hj).1
  refine (k.block j hl ?_ ?_).trans hj
  · rintro (e | e | e | e)
    · rw [e, h.blk] at hj; cases hj; cases ho
    · omega
    · rw [e, h.rowO] at hj; cases hj; cases ho
    · rw [e, h.rowH] at hj; cases hj; cases ho
  · intro e
    have := own_cells h.rowR j o e hj
    rw [this] at ho
    cases ho⟩
theorem PStep.box {W' : World} {rv' : Value} {b : Nat} (k : PStep D rv W W' rv') (hb : ¬ D.own b) (hr : rv.ownBlock ≠ some b) : boxK b W W' := fun _ h1 _ => (k.block b (Array.getElem?_eq_some_iff.1 h1).1 hb hr).trans h1
end
theorem POk.begin {D : PD} {S : PSt} (h : POk D S) {x y : Int} (hx : 0 ≤ x ∧ x ≤ D.sw - 1) (hy : 0 ≤ y ∧ y ≤ D.sh - 1) (hw : D.sw ≤ 6) (hh : D.sh ≤ 6) : POk D (beginP S x y) := ⟨fun s => by
  show In31 (updR (updR (fun _ => 0) nmX x) nmY y s)
  unfold updR
  split
  · exact ⟨by omega, by omega⟩
  split
  · exact ⟨by omega, by omega⟩
  · show In31 0; unfold In31; decide, h.s0, h.t0, h.t1, h.lo, h.lh, hx.1, hx.2, hy.1, hy.2⟩
end Go.Proofs.Ythmmgiaobakilaa
