import Derived.Test.YthmmgiaobakilaaJ18
import Derived.Test.YthmmgiaobakilaaJ19
import Derived.Test.YthmmgiaobakilaaJ20
import Derived.Deep.RegionWith
/- The project's look at names, on data; its state in memory; note. -/
set_option maxRecDepth 100000
namespace Go.Proofs.Ythmmgiaobakilaa
open Go.RowKit Go.Deep

/-- What is wrong first, and where. -/
abbrev Flt := Int × Int
def noteF (F : Flt) (e p : Int) : Flt := if F.1 = 0 then (e, p) else F
def nmT (t : Tok) : Bool := (kP t == 2) && !kwsP.any (fun u => (wP t).toList == u.toList)
/-- One expression's head. -/
def nxH (R : ByteArray → Int) (t : Tok) (F : Flt) : Flt := if nmT t && (R (wP t) == 0) then noteF F 10 t.place else F
def nxE (R : ByteArray → Int) : Ex → Flt → Flt
  | .nil, F => F
  | .node _ _ t k r, F => nxE R r (nxE R k (nxH R t F))
/-- One expression, whatever stands beside it. -/
def nx1 (R : ByteArray → Int) : Ex → Flt → Flt
  | .nil, F => F
  | .node _ _ t k _, F => nxE R k (nxH R t F)
abbrev NSt := (ByteArray → Int) × Flt
def nbr (σ : NSt) (t : Tok) (c : Int) : NSt := (updR σ.1 (wP t) c, if decide (6 < (wP t).size) || (σ.1 (wP t) != 0) then noteF σ.2 10 t.place else σ.2)
def nxN (a b : Tok) (σ : NSt) : NSt := (σ.1, if decide (nP b < nP a) || decide (20 < nP b) then noteF σ.2 10 a.place else σ.2)
/-- Statements side by side. -/
def nxS : Sx → NSt → NSt
  | .nil, σ => σ
  | .node _ _ p k r, σ => nxS r (
    if p.tag = 0 then (σ.1, nx1 σ.1 p.e (if σ.1 (wP p.t) != 1 then noteF σ.2 10 p.t.place else σ.2)) else
    if p.tag = 1 then (match k with
      | .nil => σ
      | .node _ _ _ s u => nxS u (nxS s (σ.1, nx1 σ.1 p.e σ.2))) else
    if p.tag = 2 then (fun τ : NSt => (updR τ.1 (wP p.t) 0, τ.2)) (nxS k (nxN p.a p.b (nbr σ p.t 2))) else
    (σ.1, nx1 σ.1 p.e σ.2))
theorem nxS_0 {b o : Nat} {p : SP} {k r : Sx} {σ : NSt} (h : p.tag = 0) : nxS (.node b o p k r) σ = nxS r (σ.1, nx1 σ.1 p.e (if σ.1 (wP p.t) != 1 then noteF σ.2 10 p.t.place else σ.2)) := by
  cases k <;> (show nxS r (if p.tag = 0 then _ else _) = _; rw [if_pos h])
theorem nxS_1 {b o b1 o1 : Nat} {p q : SP} {s u r : Sx} {σ : NSt} (h : p.tag = 1) : nxS (.node b o p (.node b1 o1 q s u) r) σ = nxS r (nxS u (nxS s (σ.1, nx1 σ.1 p.e σ.2))) := by
  show nxS r (if p.tag = 0 then _ else if p.tag = 1 then _ else _) = _
  rw [if_neg (by omega), if_pos h]
theorem nxS_2 {b o : Nat} {p : SP} {k r : Sx} {σ : NSt} (h : p.tag = 2) : nxS (.node b o p k r) σ = nxS r ((fun τ : NSt => (updR τ.1 (wP p.t) 0, τ.2)) (nxS k (nxN p.a p.b (nbr σ p.t 2)))) := by
  cases k <;> (show nxS r (if p.tag = 0 then _ else if p.tag = 1 then _ else if p.tag = 2 then _ else _) = _; rw [if_neg (by omega), if_neg (by omega), if_pos h])
theorem nxS_3 {b o : Nat} {p : SP} {k r : Sx} {σ : NSt} (h : p.tag = 3 ∨ p.tag = 4) : nxS (.node b o p k r) σ = nxS r (σ.1, nx1 σ.1 p.e σ.2) := by
  cases k <;> (show nxS r (if p.tag = 0 then _ else if p.tag = 1 then _ else if p.tag = 2 then _ else _) = _; rw [if_neg (by omega), if_neg (by omega), if_neg (by omega)])
/-- A token's text is no longer than a source, its number no greater than one more than may be. -/
def TokB (t : Tok) : Prop := (wP t).size ≤ 300 ∧ 0 ≤ nP t ∧ nP t ≤ 65536
/-- The look's block, and the map of the names that are there. -/
structure NcAt (w : World) (cb mb n : Nat) (R : ByteArray → Int) (F : Flt) : Prop where
  blk : w.heap[cb]? = some (.cells #[.map (some mb), .int .i64 F.1, .int .i64 F.2] 138 (0, 0))
  map : MapIs 135 .i64 w mb n R
theorem NcAt.ne {w : World} {cb mb n : Nat} {R : ByteArray → Int} {F : Flt} (h : NcAt w cb mb n R F) : cb ≠ mb := fun e => by
  obtain ⟨es, c, hb⟩ := h.map.obj
  rw [← e, h.blk] at hb
  cases hb
theorem NcAt.lt {w : World} {cb mb n : Nat} {R : ByteArray → Int} {F : Flt} (h : NcAt w cb mb n R F) : cb < w.heap.size := (Array.getElem?_eq_some_iff.1 h.blk).1
theorem NcAt.later {w w' : World} {cb mb n : Nat} {R : ByteArray → Int} {F : Flt} (h : NcAt w cb mb n R F) (h1 : w'.heap[cb]? = w.heap[cb]?) (h2 : w'.heap[mb]? = w.heap[mb]?) : NcAt w' cb mb n R F := ⟨h1.trans h.blk, h.map.later h2⟩
theorem NcAt.below {w w' : World} {cb mb n : Nat} {R : ByteArray → Int} {F : Flt} (h : NcAt w cb mb n R F) (hb : Below w.heap.size w w') : NcAt w' cb mb n R F := h.later (hb.block _ h.lt) (hb.block _ h.map.lt)
theorem zeroRole (w : World) : (zeroValue 135).run Try.prog w = .ok (.int .i64 0) w := by kernel_rfl
theorem NcAt.look {w : World} {cb mb n : Nat} {R : ByteArray → Int} {F : Flt} (h : NcAt w cb mb n R F) {s : ByteArray} (hs : s.size ≤ 300) : (Instr.lookup 136 (.map (some mb)) (.string s) false).run Try.prog w = .ok (.int .i64 (R s)) w :=
  h.map.look Try.underlying136 Try.underlying135 (zeroRole w) (by unfold maxLen; omega)
set_option maxHeartbeats 1000000 in
theorem note_gen (w : World) (b k : Nat) (f pl er at_ : Int) (c1 : w.cell? ⟨b, k, none⟩ = some (.int .i64 f)) (c2 : w.cell? ⟨b, k + 1, none⟩ = some (.int .i64 pl)) (z1 : w.frozen? ⟨b, k, none⟩ = false) (z2 : w.frozen? ⟨b, k + 1, none⟩ = false) :
    Calls Try.prog 110 #[.pointer (some ⟨b, k, none⟩), .int .i64 er, .int .i64 at_] w fun e w' => e = .returned (.tuple #[]) ∧ w' = if f = 0 then (w.setCell ⟨b, k, none⟩ (.int .i64 er)).setCell ⟨b, k + 1, none⟩ (.int .i64 at_) else w := by
  by_cases hf : f = 0
  · rw [if_pos hf]
    go_enter Try.func110, Try.ntmps110
    go_wp2
    go_end0
    exact ⟨rfl, rfl⟩
  · rw [if_neg hf]
    go_enter Try.func110, Try.ntmps110
    go_wp2
    go_end0
    exact ⟨rfl, rfl⟩
theorem nnote_any (w : World) (cb mb n : Nat) (R : ByteArray → Int) (F : Flt) (er at_ : Int) (h : NcAt w cb mb n R F) :
    Calls Try.prog 110 #[.pointer (some ⟨cb, 1, none⟩), .int .i64 er, .int .i64 at_] w fun e w' => e = .returned (.tuple #[]) ∧ NcAt w' cb mb n R (noteF F er at_) ∧ Kept cb w w' := by
  obtain ⟨⟨c0, c1, c2⟩, z0, z1, z2⟩ := bk3 h.blk
  refine (note_gen w cb 1 F.1 F.2 er at_ c1 c2 z1 z2).mono ?_
  rintro e w' ⟨he, rfl⟩
  refine ⟨he, ?_⟩
  unfold noteF
  split
  · refine ⟨⟨?_, ?_⟩, (Kept.set cb w 1 _).trans (Kept.set cb _ 2 _)⟩
    · exact heap_setCell_same _ cb 2 _ _ _ (heap_setCell_same _ cb 1 _ _ _ h.blk)
    · exact (h.map.later (Below.heap_setCell _ _ _ _ (fun e => h.ne e.symm))).later (Below.heap_setCell _ _ _ _ (fun e => h.ne e.symm))
  · exact ⟨h, Kept.refl _ _⟩

end Go.Proofs.Ythmmgiaobakilaa
