import Derived.Test.YthmmgiaobakilaaJ10
import Derived.Test.YthmmgiaobakilaaJ11
import Derived.Test.YthmmgiaobakilaaJ12
import Derived.Deep.RegionWith
import Derived.Deep.LoopGhost
/- The project's look at names, on data; its state in memory; note. -/
set_option maxRecDepth 100000
namespace Go.Proofs.Ythmmgiaobakilaa
open Go.RowKit Go.Deep

/-- What is wrong first, and where. -/
abbrev Flt := Int × Int
def noteF (F : Flt) (e p : Int) : Flt := if F.1 = 0 then (e, p) else F
def nmT (t : Tok) : Bool := (kP t == 2) && !kwsP.any (fun u => (wP t).toList == u.toList)
/-- One expression's head. -/
def nxH (R : ByteArray → Int) (t : Tok) (F : Flt) : Flt := if nmT t && (R (wP t) == 0) then noteF F 10 t.place else F
def nxE (R : ByteArray → Int) : Ex → Flt → Flt
  | .nil, F => F
  | .node _ _ t k r, F => nxE R r (nxE R k (nxH R t F))
/-- One expression, whatever stands beside it. -/
def nx1 (R : ByteArray → Int) : Ex → Flt → Flt
  | .nil, F => F
  | .node _ _ t k _, F => nxE R k (nxH R t F)
abbrev NSt := (ByteArray → Int) × Flt
def nbr (σ : NSt) (t : Tok) (c : Int) : NSt := (updR σ.1 (wP t) c, if decide (6 < (wP t).size) || (σ.1 (wP t) != 0) then noteF σ.2 10 t.place else σ.2)
def nxN (a b : Tok) (σ : NSt) : NSt := (σ.1, if decide (nP b < nP a) || decide (20 < nP b) then noteF σ.2 10 a.place else σ.2)
/-- Statements side by side. -/
def nxS : Sx → NSt → NSt
  | .nil, σ => σ
  | .node _ _ p k r, σ => nxS r (
    if p.tag = 0 then (σ.1, nx1 σ.1 p.e (if σ.1 (wP p.t) != 1 then noteF σ.2 10 p.t.place else σ.2)) else
    if p.tag = 1 then (match k with
      | .nil => σ
      | .node _ _ _ s u => nxS u (nxS s (σ.1, nx1 σ.1 p.e σ.2))) else
    if p.tag = 2 then (fun τ : NSt => (updR τ.1 (wP p.t) 0, τ.2)) (nxS k (nxN p.a p.b (nbr σ p.t 2))) else
    (σ.1, nx1 σ.1 p.e σ.2))
theorem nxS_0 {b o : Nat} {p : SP} {k r : Sx} {σ : NSt} (h : p.tag = 0) : nxS (.node b o p k r) σ = nxS r (σ.1, nx1 σ.1 p.e (if σ.1 (wP p.t) != 1 then noteF σ.2 10 p.t.place else σ.2)) := by
  cases k <;> (show nxS r (if p.tag = 0 then _ else _) = _; rw [if_pos h])
theorem nxS_1 {b o b1 o1 : Nat} {p q : SP} {s u r : Sx} {σ : NSt} (h : p.tag = 1) : nxS (.node b o p (.node b1 o1 q s u) r) σ = nxS r (nxS u (nxS s (σ.1, nx1 σ.1 p.e σ.2))) := by
  show nxS r (if p.tag = 0 then _ else if p.tag = 1 then _ else _) = _
  rw [if_neg (by omega), if_pos h]
theorem nxS_2 {b o : Nat} {p : SP} {k r : Sx} {σ : NSt} (h : p.tag = 2) : nxS (.node b o p k r) σ = nxS r ((fun τ : NSt => (updR τ.1 (wP p.t) 0, τ.2)) (nxS k (nxN p.a p.b (nbr σ p.t 2)))) := by
  cases k <;> (show nxS r (if p.tag = 0 then _ else if p.tag = 1 then _ else if p.tag = 2 then _ else _) = _; rw [if_neg (by omega), if_neg (by omega), if_pos h])
theorem nxS_3 {b o : Nat} {p : SP} {k r : Sx} {σ : NSt} (h : p.tag = 3 ∨ p.tag = 4) : nxS (.node b o p k r) σ = nxS r (σ.1, nx1 σ.1 p.e σ.2) := by
  cases k <;> (show nxS r (if p.tag = 0 then _ else if p.tag = 1 then _ else if p.tag = 2 then _ else _) = _; rw [if_neg (by omega), if_neg (by omega), if_neg (by omega)])
/-- A token's text is no longer than a source, its number no greater than one more than may be. -/
def TokB (t : Tok) : Prop := (wP t).size ≤ 300 ∧ 0 ≤ nP t ∧ nP t ≤ 65536
/-- The look's block, and the map of the names that are there. -/
structure NcAt (w : World) (cb mb n : Nat) (R : ByteArray → Int) (F : Flt) : Prop where
  blk : w.heap[cb]? = some (.cells #[.map (some mb), .int .i64 F.1, .int .i64 F.2] 138 (0, 0))
  map : MapIs 135 .i64 w mb n R
theorem NcAt.ne {w : World} {cb mb n : Nat} {R : ByteArray → Int} {F : Flt} (h : NcAt w cb mb n R F) : cb ≠ mb := fun e => by
  obtain ⟨es, c, hb⟩ := h.map.obj
  rw [← e, h.blk] at hb
  cases hb
theorem NcAt.lt {w : World} {cb mb n : Nat} {R : ByteArray → Int} {F : Flt} (h : NcAt w cb mb n R F) : cb < w.heap.size := (Array.getElem?_eq_some_iff.1 h.blk).1
theorem NcAt.later {w w' : World} {cb mb n : Nat} {R : ByteArray → Int} {F : Flt} (h : NcAt w cb mb n R F) (h1 : w'.heap[cb]? = w.heap[cb]?) (h2 : w'.heap[mb]? = w.heap[mb]?) : NcAt w' cb mb n R F := ⟨h1.trans h.blk, h.map.later h2⟩
theorem NcAt.below {w w' : World} {cb mb n : Nat} {R : ByteArray → Int} {F : Flt} (h : NcAt w cb mb n R F) (hb : Below w.heap.size w w') : NcAt w' cb mb n R F := h.later (hb.block _ h.lt) (hb.block _ h.map.lt)
theorem zeroRole (w : World) : (zeroValue 135).run Try.prog w = .ok (.int .i64 0) w := by kernel_rfl
theorem NcAt.look {w : World} {cb mb n : Nat} {R : ByteArray → Int} {F : Flt} (h : NcAt w cb mb n R F) {s : ByteArray} (hs : s.size ≤ 300) : (Instr.lookup 136 (.map (some mb)) (.string s) false).run Try.prog w = .ok (.int .i64 (R s)) w :=
  h.map.look Try.underlying136 Try.underlying135 (zeroRole w) (by unfold maxLen; omega)
set_option maxHeartbeats 1000000 in
theorem note_gen (w : World) (b k : Nat) (f pl er at_ : Int) (c1 : w.cell? ⟨b, k, none⟩ = some (.int .i64 f)) (c2 : w.cell? ⟨b, k + 1, none⟩ = some (.int .i64 pl)) (z1 : w.frozen? ⟨b, k, none⟩ = false) (z2 : w.frozen? ⟨b, k + 1, none⟩ = false) :
    Calls Try.prog 110 #[.pointer (some ⟨b, k, none⟩), .int .i64 er, .int .i64 at_] w fun e w' => e = .returned (.tuple #[]) ∧ w' = if f = 0 then (w.setCell ⟨b, k, none⟩ (.int .i64 er)).setCell ⟨b, k + 1, none⟩ (.int .i64 at_) else w := by
  by_cases hf : f = 0
  · rw [if_pos hf]
    go_enter Try.func110, Try.ntmps110
    go_wp2
    go_end0
    exact ⟨rfl, rfl⟩
  · rw [if_neg hf]
    go_enter Try.func110, Try.ntmps110
    go_wp2
    go_end0
    exact ⟨rfl, rfl⟩
theorem nnote_any (w : World) (cb mb n : Nat) (R : ByteArray → Int) (F : Flt) (er at_ : Int) (h : NcAt w cb mb n R F) :
    Calls Try.prog 110 #[.pointer (some ⟨cb, 1, none⟩), .int .i64 er, .int .i64 at_] w fun e w' => e = .returned (.tuple #[]) ∧ NcAt w' cb mb n R (noteF F er at_) ∧ Kept cb w w' := by
  obtain ⟨⟨c0, c1, c2⟩, z0, z1, z2⟩ := bk3 h.blk
  refine (note_gen w cb 1 F.1 F.2 er at_ c1 c2 z1 z2).mono ?_
  rintro e w' ⟨he, rfl⟩
  refine ⟨he, ?_⟩
  unfold noteF
  split
  · refine ⟨⟨?_, ?_⟩, (Kept.set cb w 1 _).trans (Kept.set cb _ 2 _)⟩
    · exact heap_setCell_same _ cb 2 _ _ _ (heap_setCell_same _ cb 1 _ _ _ h.blk)
    · exact (h.map.later (Below.heap_setCell _ _ _ _ (fun e => h.ne e.symm))).later (Below.heap_setCell _ _ _ _ (fun e => h.ne e.symm))
  · exact ⟨h, Kept.refl _ _⟩

end Go.Proofs.Ythmmgiaobakilaa

/- The project's look at what is hidden, on data; its state in memory. -/
set_option maxRecDepth 100000
namespace Go.Proofs.Ythmmgiaobakilaa
open Go.RowKit Go.Deep

def wdT (t : Tok) (l : List ByteArray) : Bool := (kP t == 2) && l.any (fun u => (wP t).toList == u.toList)
def hidH (H : List ByteArray) (t : Tok) : Bool := wdT t [sSPY] || wdT t H
def hidE (H : List ByteArray) : Ex → Bool
  | .nil => false
  | .node _ _ t k r => (hidH H t || hidE H k) || hidE H r
def hid1 (H : List ByteArray) : Ex → Bool
  | .nil => false
  | .node _ _ t k _ => hidH H t || hidE H k
/-- The brackets of each peek and spy. -/
def tcH (H : List ByteArray) (t : Tok) (k : Ex) (F : Flt) : Flt := if wdT t [sPEEK, sSPY] && hidE H k then noteF F 11 t.place else F
def tcE (H : List ByteArray) : Ex → Flt → Flt
  | .nil, F => F
  | .node _ _ t k r, F => tcE H r (tcE H k (tcH H t k F))
def tc1 (H : List ByteArray) : Ex → Flt → Flt
  | .nil, F => F
  | .node _ _ t k _, F => tcE H k (tcH H t k F)
def ldF (H : List ByteArray) (t : Tok) (e : Ex) (may : Bool) (F : Flt) : Flt := tc1 H e (if !may && hid1 H e then noteF F 11 t.place else F)
def flS (H : List ByteArray) : Sx → Flt → Flt
  | .nil, F => F
  | .node _ _ p k r, F => flS H r (
    if p.tag = 0 then ldF H p.t p.e (wdT p.t H) F else
    if p.tag = 1 then (match k with
      | .nil => F
      | .node _ _ _ s u => flS H u (flS H s (ldF H p.t p.e false F))) else
    if p.tag = 2 then flS H k F else
    ldF H p.t p.e (wdT p.t [sHIDE]) F)
theorem flS_0 {H : List ByteArray} {b o : Nat} {p : SP} {k r : Sx} {F : Flt} (h : p.tag = 0) : flS H (.node b o p k r) F = flS H r (ldF H p.t p.e (wdT p.t H) F) := by
  cases k <;> (show flS H r (if p.tag = 0 then _ else _) = _; rw [if_pos h])
theorem flS_1 {H : List ByteArray} {b o b1 o1 : Nat} {p q : SP} {s u r : Sx} {F : Flt} (h : p.tag = 1) : flS H (.node b o p (.node b1 o1 q s u) r) F = flS H r (flS H u (flS H s (ldF H p.t p.e false F))) := by
  show flS H r (if p.tag = 0 then _ else if p.tag = 1 then _ else _) = _
  rw [if_neg (by omega), if_pos h]
theorem flS_2 {H : List ByteArray} {b o : Nat} {p : SP} {k r : Sx} {F : Flt} (h : p.tag = 2) : flS H (.node b o p k r) F = flS H r (flS H k F) := by
  cases k <;> (show flS H r (if p.tag = 0 then _ else if p.tag = 1 then _ else if p.tag = 2 then _ else _) = _; rw [if_neg (by omega), if_neg (by omega), if_pos h])
theorem flS_3 {H : List ByteArray} {b o : Nat} {p : SP} {k r : Sx} {F : Flt} (h : p.tag = 3 ∨ p.tag = 4) : flS H (.node b o p k r) F = flS H r (ldF H p.t p.e (wdT p.t [sHIDE]) F) := by
  cases k <;> (show flS H r (if p.tag = 0 then _ else if p.tag = 1 then _ else if p.tag = 2 then _ else _) = _; rw [if_neg (by omega), if_neg (by omega), if_neg (by omega)])
/-- A list of texts, wherever: nothing is asked of an empty one. -/
def StrsA (w : World) (ao : Option Addr) (l : List ByteArray) : Prop := l = [] ∨ ∃ b off, ao = some ⟨b, off, none⟩ ∧ StrsIn w b off l
theorem StrsA.later {w w' : World} {ao : Option Addr} {l : List ByteArray} (h : StrsA w ao l) (hs : ∀ k, k < w.heap.size → (∀ b, ao.map (·.block) = some b → k = b → w'.heap[k]? = w.heap[k]?)) : StrsA w' ao l := by
  rcases h with h | ⟨b, off, rfl, hc⟩
  · exact .inl h
  · refine .inr ⟨b, off, rfl, fun j hj => ?_⟩
    have h0 := hc j hj
    have hb := World.block_lt_of_cell? _ _ h0
    have e := hs b hb b rfl rfl
    simp only [World.cell?] at h0 ⊢
    rw [e]
    exact h0
structure FcAt (w : World) (cb : Nat) (ho : Option Addr) (hc : Nat) (H : List ByteArray) (F : Flt) : Prop where
  blk : w.heap[cb]? = some (.cells #[.slice ho H.length hc, .int .i64 F.1, .int .i64 F.2] 143 (0, 0))
  strs : StrsA w ho H
  off : ho.map (·.block) ≠ some cb
  few : H.length ≤ 1000
section
variable {w w' : World} {cb hc : Nat} {ho : Option Addr} {H : List ByteArray} {F : Flt}
theorem FcAt.lt (h : FcAt w cb ho hc H F) : cb < w.heap.size := (Array.getElem?_eq_some_iff.1 h.blk).1
theorem FcAt.later (h : FcAt w cb ho hc H F) (hs : ∀ k, k < w.heap.size → w'.heap[k]? = w.heap[k]?) : FcAt w' cb ho hc H F := ⟨(hs cb h.lt).trans h.blk, h.strs.later (fun k hk _ _ _ => hs k hk), h.off, h.few⟩
theorem FcAt.below (h : FcAt w cb ho hc H F) (hb : Below w.heap.size w w') : FcAt w' cb ho hc H F := h.later (fun k hk => hb.block k hk)
end
theorem fnote_any (w : World) (cb hc : Nat) (ho : Option Addr) (H : List ByteArray) (F : Flt) (er at_ : Int) (h : FcAt w cb ho hc H F) :
    Calls Try.prog 110 #[.pointer (some ⟨cb, 1, none⟩), .int .i64 er, .int .i64 at_] w fun e w' => e = .returned (.tuple #[]) ∧ FcAt w' cb ho hc H (noteF F er at_) ∧ Kept cb w w' := by
  obtain ⟨⟨c0, c1, c2⟩, z0, z1, z2⟩ := bk3 h.blk
  refine (note_gen w cb 1 F.1 F.2 er at_ c1 c2 z1 z2).mono ?_
  rintro e w' ⟨he, rfl⟩
  refine ⟨he, ?_⟩
  unfold noteF
  split
  · refine ⟨⟨?_, ?_, h.off, h.few⟩, (Kept.set cb w 1 _).trans (Kept.set cb _ 2 _)⟩
    · exact heap_setCell_same _ cb 2 _ _ _ (heap_setCell_same _ cb 1 _ _ _ h.blk)
    · refine h.strs.later (fun k hk b hb e => ?_)
      have hne : k ≠ cb := fun e2 => h.off (by rw [hb, ← e, e2])
      exact (Below.heap_setCell _ _ _ _ hne).trans (Below.heap_setCell _ _ _ _ hne)
  · exact ⟨h, Kept.refl _ _⟩
/-! A word among none. -/
set_option maxHeartbeats 2000000 in
theorem sindex_nil (w : World) (ao : Option Addr) (c : Nat) (v : ByteArray) :
    Calls Try.prog 126 #[.slice ao 0 c, Value.string v] w fun e w' => e = .returned (.int .i64 (-1)) ∧ w' = w := by
  go_enter Try.func126, Try.ntmps126
  go_wp2
  go_loop [8] (fun i => i = .int .i64 0) (fun _ => 0)
  case atStart => rfl
  case round =>
    subst hrel
    go_wp2
    go_ret
    exact ⟨rfl, rfl⟩
set_option maxHeartbeats 2000000 in
theorem scontains_nil (w : World) (ao : Option Addr) (c : Nat) (v : ByteArray) :
    Calls Try.prog 100 #[.slice ao 0 c, Value.string v] w fun e w' => e = .returned (.bool false) ∧ w' = w := by
  go_enter Try.func100, Try.ntmps100
  go_wp2_with fail
  refine (sindex_nil w ao c v).mono ?_
  rintro e w1 ⟨rfl, rfl⟩
  go_wp2
  go_ret
  exact ⟨rfl, rfl⟩
set_option maxHeartbeats 1000000 in
theorem isWord_nil (w : World) (k p n s : Int) (wd : ByteArray) (ao : Option Addr) (c : Nat) :
    Calls Try.prog 74 #[tkV k p wd n s, .slice ao 0 c] w fun e w' => e = .returned (.bool false) ∧ Below w.heap.size w w' := by
  unfold tkV
  cases hk : (k == 2)
  · go_enter Try.func74, Try.ntmps74
    go_wp2
    go_ret
    exact ⟨rfl, (Below.refl _ w).alloc (Nat.le_refl _) _⟩
  · go_enter Try.func74, Try.ntmps74
    go_wp2_with fail
    refine (scontains_nil _ ao c wd).mono ?_
    rintro e w1 ⟨rfl, hw⟩
    have hb : Below w.heap.size w w1 := by rw [hw]; exact (Below.refl _ w).alloc (Nat.le_refl _) _
    clear hw
    go_wp2
    go_ret
    exact ⟨rfl, hb⟩
theorem isWord_gen (w : World) (t : Tok) (ao : Option Addr) (c : Nat) (l : List ByteArray) (hs : StrsA w ao l) (hl : l.length ≤ 1000) :
    Calls Try.prog 74 #[tkV (kP t) t.place (wP t) (nP t) (sP t), .slice ao l.length c] w fun e w' => e = .returned (.bool (wdT t l)) ∧ Below w.heap.size w w' := by
  rcases hs with rfl | ⟨b, off, rfl, hc⟩
  · refine (isWord_nil w (kP t) t.place (nP t) (sP t) (wP t) ao c).mono ?_
    rintro e w' ⟨rfl, hb⟩
    exact ⟨by unfold wdT; simp, hb⟩
  · exact isWord_any w (kP t) t.place (nP t) (sP t) (wP t) b off c l hc hl

end Go.Proofs.Ythmmgiaobakilaa

/- The look at names: the first fault stays; what holds of loops where there is none. -/
set_option maxRecDepth 100000
namespace Go.Proofs.Ythmmgiaobakilaa
open Go.RowKit Go.Deep

theorem note_eq {F : Flt} (h : F.1 = 0) (e p : Int) : noteF F e p = (e, p) := by unfold noteF; rw [if_pos h]
theorem note_not {F : Flt} (h : F.1 ≠ 0) (e p : Int) : noteF F e p = F := by unfold noteF; rw [if_neg h]
theorem nxH_stuck {R : ByteArray → Int} {t : Tok} {F : Flt} (hf : F.1 ≠ 0) : nxH R t F = F := by
  unfold nxH; split
  · exact note_not hf _ _
  · rfl
theorem nxE_stuck {R : ByteArray → Int} {F : Flt} (hf : F.1 ≠ 0) : ∀ e : Ex, nxE R e F = F
  | .nil => rfl
  | .node _ _ t k r => by
    show nxE R r (nxE R k (nxH R t F)) = F
    rw [nxH_stuck hf, nxE_stuck hf k, nxE_stuck hf r]
theorem nx1_eq (R : ByteArray → Int) (e : Ex) (F : Flt) : nxE R (besideE e .nil) F = nx1 R e F := by
  cases e <;> rfl
theorem nx1_stuck {R : ByteArray → Int} {F : Flt} (hf : F.1 ≠ 0) (e : Ex) : nx1 R e F = F := by rw [← nx1_eq]; exact nxE_stuck hf _
theorem nbr_stuck {σ : NSt} {t : Tok} {c : Int} (hf : σ.2.1 ≠ 0) : (nbr σ t c).2 = σ.2 := by
  unfold nbr; dsimp only; split
  · exact note_not hf _ _
  · rfl
theorem nxN_stuck {σ : NSt} {a b : Tok} (hf : σ.2.1 ≠ 0) : (nxN a b σ).2 = σ.2 := by
  unfold nxN; dsimp only; split
  · exact note_not hf _ _
  · rfl
theorem nxS_stuck (n : Nat) : ∀ (s : Sx), szS s ≤ n → ∀ (σ : NSt), σ.2.1 ≠ 0 → (nxS s σ).2 = σ.2 := by
  induction n with
  | zero =>
    intro s hs σ _
    cases s with
    | nil => rfl
    | node b o p k r => simp [szS] at hs
  | succ n ih =>
    intro s hs σ hf
    cases s with
    | nil => rfl
    | node b o p k r =>
      simp only [szS] at hs
      have hr : ∀ τ : NSt, τ.2 = σ.2 → (nxS r τ).2 = σ.2 := fun τ e => by rw [ih r (by omega) τ (by rw [e]; exact hf), e]
      have hx : ∀ e : Ex, nx1 σ.1 e σ.2 = σ.2 := fun e => nx1_stuck hf e
      by_cases t0 : p.tag = 0
      · rw [nxS_0 t0]
        refine hr _ ?_
        show nx1 _ _ (if _ then _ else _) = σ.2
        split
        · rw [note_not hf]; exact hx _
        · exact hx _
      by_cases t1 : p.tag = 1
      · cases k with
        | nil =>
          show (nxS r (if p.tag = 0 then _ else if p.tag = 1 then _ else _)).2 = σ.2
          rw [if_neg t0, if_pos t1]
          exact hr _ rfl
        | node b1 o1 q s u =>
          simp only [szS] at hs
          rw [nxS_1 t1]
          refine hr _ ?_
          have e1 : (nxS s (σ.1, nx1 σ.1 p.e σ.2)).2 = σ.2 := by
            rw [hx]
            exact ih s (by omega) σ hf
          rw [ih u (by omega) _ (by rw [e1]; exact hf), e1]
      by_cases t2 : p.tag = 2
      · rw [nxS_2 t2]
        refine hr _ ?_
        show (nxS k _).2 = σ.2
        have e1 : (nxN p.a p.b (nbr σ p.t 2)).2 = σ.2 := by
          have := nbr_stuck (t := p.t) (c := 2) hf
          rw [nxN_stuck (by rw [this]; exact hf), this]
        rw [ih k (by omega) _ (by rw [e1]; exact hf), e1]
      · cases k <;> (show (nxS r (if p.tag = 0 then _ else if p.tag = 1 then _ else if p.tag = 2 then _ else _)).2 = σ.2; rw [if_neg t0, if_neg t1, if_neg t2]; exact hr _ (hx _))
/-- The numbers of loops are as they may be. -/
def NumS : Sx → Prop
  | .nil => True
  | .node _ _ p k r => NumS r ∧ (p.tag = 1 → (match k with
    | .nil => True
    | .node _ _ _ s u => NumS s ∧ NumS u)) ∧ (p.tag = 2 → nP p.b ≤ 20 ∧ NumS k)
theorem nx_zero {σ : NSt} {s : Sx} (h : (nxS s σ).2.1 = 0) : σ.2.1 = 0 := Classical.byContradiction fun hn => by
  have := nxS_stuck _ s (Nat.le_refl _) σ hn
  rw [this] at h
  exact hn h
theorem nums_ok (n : Nat) : ∀ (s : Sx), szS s ≤ n → ∀ (σ : NSt), (nxS s σ).2.1 = 0 → NumS s := by
  induction n with
  | zero =>
    intro s hs σ _
    cases s with
    | nil => trivial
    | node b o p k r => simp [szS] at hs
  | succ n ih =>
    intro s hs σ h
    cases s with
    | nil => trivial
    | node b o p k r =>
      simp only [szS] at hs
      unfold NumS
      by_cases t1 : p.tag = 1
      · cases k with
        | nil =>
          have e : nxS (.node b o p .nil r) σ = nxS r σ := by
            show nxS r (if p.tag = 0 then _ else if p.tag = 1 then _ else _) = _
            rw [if_neg (by omega), if_pos t1]
          rw [e] at h
          exact ⟨ih r (by omega) _ h, fun _ => trivial, fun e => by omega⟩
        | node b1 o1 q s u =>
          simp only [szS] at hs
          rw [nxS_1 t1] at h
          have h1 := nx_zero h
          have h2 := nx_zero h1
          exact ⟨ih r (by omega) _ h, fun _ => ⟨ih s (by omega) _ h2, ih u (by omega) _ h1⟩, fun e => by omega⟩
      by_cases t2 : p.tag = 2
      · rw [nxS_2 t2] at h
        have h0 := nx_zero h
        have h1 : (nxS k (nxN p.a p.b (nbr σ p.t 2))).2.1 = 0 := h0
        have h2 := nx_zero h1
        refine ⟨ih r (by omega) _ h, fun e => absurd e t1, fun _ => ⟨?_, ih k (by omega) _ h1⟩⟩
        unfold nxN at h2
        dsimp only at h2
        split at h2
        · exfalso
          unfold noteF at h2
          split at h2
          · cases h2
          · rename_i hn; exact hn h2
        · rename_i hn
          simp at hn
          omega
      · have e : ∃ τ, nxS (.node b o p k r) σ = nxS r τ := by
          cases k
          · exact ⟨_, rfl⟩
          · exact ⟨_, rfl⟩
        obtain ⟨τ, e⟩ := e
        rw [e] at h
        exact ⟨ih r (by omega) _ h, fun e => absurd e t1, fun e => absurd e t2⟩
end Go.Proofs.Ythmmgiaobakilaa

/- The look at what is hidden: the first fault stays; what holds where there is none. -/
set_option maxRecDepth 100000
namespace Go.Proofs.Ythmmgiaobakilaa
open Go.RowKit Go.Deep

theorem tcH_stuck {H : List ByteArray} {t : Tok} {k : Ex} {F : Flt} (hf : F.1 ≠ 0) : tcH H t k F = F := by
  unfold tcH; split
  · exact note_not hf _ _
  · rfl
theorem tcE_stuck {H : List ByteArray} {F : Flt} (hf : F.1 ≠ 0) : ∀ e : Ex, tcE H e F = F
  | .nil => rfl
  | .node _ _ t k r => by
    show tcE H r (tcE H k (tcH H t k F)) = F
    rw [tcH_stuck hf, tcE_stuck hf k, tcE_stuck hf r]
theorem tc1_eq (H : List ByteArray) (e : Ex) (F : Flt) : tcE H (besideE e .nil) F = tc1 H e F := by
  cases e <;> rfl
theorem tc1_stuck {H : List ByteArray} {F : Flt} (hf : F.1 ≠ 0) (e : Ex) : tc1 H e F = F := by rw [← tc1_eq]; exact tcE_stuck hf _
theorem ldF_stuck {H : List ByteArray} {t : Tok} {e : Ex} {m : Bool} {F : Flt} (hf : F.1 ≠ 0) : ldF H t e m F = F := by
  unfold ldF; split
  · rw [note_not hf]; exact tc1_stuck hf e
  · exact tc1_stuck hf e
theorem flS_stuck {H : List ByteArray} (n : Nat) : ∀ (s : Sx), szS s ≤ n → ∀ (F : Flt), F.1 ≠ 0 → flS H s F = F := by
  induction n with
  | zero =>
    intro s hs F _
    cases s with
    | nil => rfl
    | node b o p k r => simp [szS] at hs
  | succ n ih =>
    intro s hs F hf
    cases s with
    | nil => rfl
    | node b o p k r =>
      simp only [szS] at hs
      have hr : ∀ G : Flt, G = F → flS H r G = F := fun G e => by rw [e]; exact ih r (by omega) F hf
      by_cases t0 : p.tag = 0
      · rw [flS_0 t0]; exact hr _ (ldF_stuck hf)
      by_cases t1 : p.tag = 1
      · cases k with
        | nil =>
          show flS H r (if p.tag = 0 then _ else if p.tag = 1 then _ else _) = F
          rw [if_neg t0, if_pos t1]
          exact hr _ rfl
        | node b1 o1 q s u =>
          simp only [szS] at hs
          rw [flS_1 t1]
          refine hr _ ?_
          rw [ldF_stuck hf, ih s (by omega) F hf, ih u (by omega) F hf]
      by_cases t2 : p.tag = 2
      · rw [flS_2 t2]
        exact hr _ (ih k (by omega) F hf)
      · cases k <;> (show flS H r (if p.tag = 0 then _ else if p.tag = 1 then _ else if p.tag = 2 then _ else _) = F; rw [if_neg t0, if_neg t1, if_neg t2]; exact hr _ (ldF_stuck hf))
/-- No place that is touched hangs on what is hidden. -/
def TcOK (H : List ByteArray) : Ex → Prop
  | .nil => True
  | .node _ _ t k r => (wdT t [sPEEK, sSPY] = true → hidE H k = false) ∧ TcOK H k ∧ TcOK H r
theorem tcE_zero {H : List ByteArray} {e : Ex} {F : Flt} (h : (tcE H e F).1 = 0) : F.1 = 0 := Classical.byContradiction fun hn => by
  rw [tcE_stuck hn] at h; exact hn h
theorem note_ne {F : Flt} {e p : Int} (he : e ≠ 0) : (noteF F e p).1 ≠ 0 := by
  unfold noteF; split
  · exact he
  · assumption
theorem tc_ok {H : List ByteArray} : ∀ (e : Ex) (F : Flt), (tcE H e F).1 = 0 → TcOK H e
  | .nil, _, _ => trivial
  | .node _ _ t k r, F, h => by
    have h1 : (tcE H k (tcH H t k F)).1 = 0 := tcE_zero (e := r) h
    have h2 : (tcH H t k F).1 = 0 := tcE_zero h1
    refine ⟨fun hw => ?_, tc_ok k _ h1, tc_ok r _ h⟩
    unfold tcH at h2
    split at h2
    · exact absurd h2 (note_ne (by decide))
    · rename_i hn
      rw [hw] at hn
      simpa using hn
def Tc1 (H : List ByteArray) : Ex → Prop
  | .nil => True
  | .node b o t k _ => TcOK H (.node b o t k .nil)
theorem tc1_ok {H : List ByteArray} {e : Ex} {F : Flt} (h : (tc1 H e F).1 = 0) : Tc1 H e ∧ F.1 = 0 := by
  cases e with
  | nil => exact ⟨trivial, h⟩
  | node b o t k r =>
    have h1 : (tcE H (.node b o t k .nil) F).1 = 0 := h
    exact ⟨tc_ok _ F h1, tcE_zero h1⟩
/-- What leads to a token may go there. -/
def LdOK (H : List ByteArray) (e : Ex) (may : Bool) : Prop := (may = false → hid1 H e = false) ∧ Tc1 H e
theorem ld_ok {H : List ByteArray} {t : Tok} {e : Ex} {m : Bool} {F : Flt} (h : (ldF H t e m F).1 = 0) : LdOK H e m ∧ F.1 = 0 := by
  unfold ldF at h
  obtain ⟨a, b⟩ := tc1_ok h
  split at b
  · exact absurd b (note_ne (by decide))
  · rename_i hn
    refine ⟨⟨fun hm => ?_, a⟩, b⟩
    rw [hm] at hn
    simpa using hn
def FlOK (H : List ByteArray) : Sx → Prop
  | .nil => True
  | .node _ _ p k r => FlOK H r ∧ (p.tag = 0 → LdOK H p.e (wdT p.t H)) ∧ (p.tag = 1 → (match k with
    | .nil => True
    | .node _ _ _ s u => LdOK H p.e false ∧ FlOK H s ∧ FlOK H u)) ∧ (p.tag = 2 → FlOK H k) ∧ (p.tag ≠ 0 → p.tag ≠ 1 → p.tag ≠ 2 → LdOK H p.e (wdT p.t [sHIDE]))
theorem fl_zero {H : List ByteArray} {s : Sx} {F : Flt} (h : (flS H s F).1 = 0) : F.1 = 0 := Classical.byContradiction fun hn => by
  rw [flS_stuck _ s (Nat.le_refl _) F hn] at h; exact hn h
theorem fl_ok {H : List ByteArray} (n : Nat) : ∀ (s : Sx), szS s ≤ n → ∀ (F : Flt), (flS H s F).1 = 0 → FlOK H s := by
  induction n with
  | zero =>
    intro s hs F _
    cases s with
    | nil => trivial
    | node b o p k r => simp [szS] at hs
  | succ n ih =>
    intro s hs F h
    cases s with
    | nil => trivial
    | node b o p k r =>
      simp only [szS] at hs
      unfold FlOK
      by_cases t0 : p.tag = 0
      · rw [flS_0 t0] at h
        exact ⟨ih r (by omega) _ h, fun _ => (ld_ok (fl_zero h)).1, fun e => by omega, fun e => by omega, fun e => absurd t0 e⟩
      by_cases t1 : p.tag = 1
      · cases k with
        | nil =>
          have e : flS H (.node b o p .nil r) F = flS H r F := by
            show flS H r (if p.tag = 0 then _ else if p.tag = 1 then _ else _) = _
            rw [if_neg t0, if_pos t1]
          rw [e] at h
          exact ⟨ih r (by omega) _ h, fun e => absurd e t0, fun _ => trivial, fun e => by omega, fun _ e => absurd t1 e⟩
        | node b1 o1 q s u =>
          simp only [szS] at hs
          rw [flS_1 t1] at h
          have h1 := fl_zero h
          have h2 := fl_zero h1
          exact ⟨ih r (by omega) _ h, fun e => absurd e t0, fun _ => ⟨(ld_ok (fl_zero h2)).1, ih s (by omega) _ h2, ih u (by omega) _ h1⟩, fun e => by omega, fun _ e => absurd t1 e⟩
      by_cases t2 : p.tag = 2
      · rw [flS_2 t2] at h
        exact ⟨ih r (by omega) _ h, fun e => absurd e t0, fun e => absurd e t1, fun _ => ih k (by omega) _ (fl_zero h), fun _ _ e => absurd t2 e⟩
      · have e : flS H (.node b o p k r) F = flS H r (ldF H p.t p.e (wdT p.t [sHIDE]) F) := by
          cases k <;> (show flS H r (if p.tag = 0 then _ else if p.tag = 1 then _ else if p.tag = 2 then _ else _) = _; rw [if_neg t0, if_neg t1, if_neg t2])
        rw [e] at h
        exact ⟨ih r (by omega) _ h, fun e => absurd e t0, fun e => absurd e t1, fun e => absurd e t2, fun _ _ _ => (ld_ok (fl_zero h)).1⟩
end Go.Proofs.Ythmmgiaobakilaa

/- Expressions, statements in memory, what is left of them. -/
set_option maxRecDepth 100000
namespace Go.Proofs.Ythmmgiaobakilaa
open Go.RowKit Go.Deep

/-- What is left of the expressions side by side, from the i-th on. -/
def RepFa (w : World) (Q : Nat → Prop) (rest : Ex) (ao : Option Addr) (i : Nat) : Prop := rest = .nil ∨ ∃ g, ao = some ⟨g, 0, none⟩ ∧ Q g ∧ RepF w Q rest g i
theorem RepK.a {w : World} {Q : Nat → Prop} {sv : Value} {k : Ex} (h : RepK w Q sv k) : ∃ ao c, sv = .slice ao (lenE k) c ∧ RepFa w Q k ao 0 := by
  rcases h with ⟨rfl, ao, c, rfl⟩ | ⟨_, g, c, rfl, hg, hf⟩
  · exact ⟨ao, c, rfl, .inl rfl⟩
  · exact ⟨_, c, rfl, .inr ⟨g, rfl, hg, hf⟩⟩
theorem RepFa.later {w w' : World} {Q : Nat → Prop} (hk : Stay Q w w') {rest : Ex} {ao : Option Addr} {i : Nat} (h : RepFa w Q rest ao i) : RepFa w' Q rest ao i := by
  rcases h with h | ⟨g, e, hg, hf⟩
  · exact .inl h
  · exact .inr ⟨g, e, hg, RepF.later hk (fun j hj _ => hj) rest g i hg hf⟩
theorem lenE_le (e : Ex) : lenE e ≤ szE e := by
  induction e with
  | nil => exact Nat.le_refl _
  | node b o t k r ihk ihr => simp only [lenE, szE]; omega
/-- What is left of the statements side by side, from the i-th on. -/
def RepSa (w : World) (Q : Nat → Prop) (rest : Sx) (ao : Option Addr) (i : Nat) : Prop := rest = .nil ∨ ∃ g, ao = some ⟨g, 0, none⟩ ∧ Q g ∧ RepS w Q rest g i
theorem RepL.a {w : World} {Q : Nat → Prop} {sv : Value} {k : Sx} (h : RepL w Q sv k) : ∃ ao c, sv = .slice ao (lenS k) c ∧ RepSa w Q k ao 0 := by
  rcases h with ⟨rfl, ao, c, rfl⟩ | ⟨_, g, c, rfl, hg, hf⟩
  · exact ⟨ao, c, rfl, .inl rfl⟩
  · exact ⟨_, c, rfl, .inr ⟨g, rfl, hg, hf⟩⟩
theorem lenS_le (e : Sx) : lenS e ≤ szS e := by
  induction e with
  | nil => exact Nat.le_refl _
  | node b o t k r ihk ihr => simp only [lenS, szS]; omega

end Go.Proofs.Ythmmgiaobakilaa

/- Is one of the operands hidden? IndexFunc, ContainsFunc over the project's isHidden. -/
set_option maxRecDepth 100000
namespace Go.Proofs.Ythmmgiaobakilaa
open Go.RowKit Go.Deep

def HidOK (m : Nat) : Prop := ∀ (e : Ex) (w : World) (cb hc : Nat) (ho : Option Addr) (H : List ByteArray) (F : Flt) (Q : Nat → Prop) (v : Value), szE e ≤ m → FcAt w cb ho hc H F → RepV w Q v e →
  Calls Try.prog 131 #[.pointer (some ⟨cb, 0, none⟩), v] w fun r w' => r = .returned (.bool (hid1 H e)) ∧ Below w.heap.size w w'
set_option maxHeartbeats 8000000 in
theorem fidx_any {m : Nat} (ih : HidOK m) (k : Ex) (w : World) (cb hc c : Nat) (ho ao : Option Addr) (H : List ByteArray) (F : Flt) (Q : Nat → Prop) (hsz : szE k ≤ m) (hm : m ≤ 100000) (h : FcAt w cb ho hc H F) (rep : RepFa w Q k ao 0) :
    Calls Try.prog 149 #[.slice ao (lenE k) c, .func (.func 131) #[.pointer (some ⟨cb, 0, none⟩)] #[]] w fun r w' => (∃ i : Int, r = .returned (.int .i64 i) ∧ decide (0 ≤ i) = hidE H k) ∧ Below w.heap.size w w' := by
  have hlen : lenE k ≤ 100000 := by have := lenE_le k; omega
  go_enter Try.func149, Try.ntmps149
  go_wp2
  go_loopg [8] (lenE k) (fun q v wr => ∃ rest, v = .int .i64 ((lenE k - q : Nat) : Int) ∧ q ≤ lenE k ∧ lenE rest = q ∧ szE rest ≤ szE k ∧ FcAt wr cb ho hc H F ∧ Below w.heap.size w wr ∧ hidE H rest = hidE H k ∧ RepFa wr Q rest ao (lenE k - q))
  case atStart => exact ⟨k, by rw [Nat.sub_self]; rfl, Nat.le_refl _, rfl, Nat.le_refl _, h, Below.refl _ _, rfl, by rw [Nat.sub_self]; exact rep⟩
  case round =>
  clear h rep
  obtain ⟨rest, rfl, hq, hlr, hsr, hfc, kw, hfold, hrep⟩ := hrel
  cases rest with
  | nil =>
    have hq0 : gk = 0 := by rw [← hlr]; rfl
    subst hq0
    have hge : decide (((lenE k - 0 : Nat) : Int) < (lenE k : Int)) = false := by simp
    have HF := hide hfold
    clear hfold
    go_wp2
    go_ret
    exact ⟨⟨-1, rfl, by rw [← unhide HF]; simp [hidE]⟩, kw⟩
  | node b1 o1 t1 k1 r1 =>
    have hl1 : lenE r1 + 1 = gk := hlr
    obtain ⟨d, hd⟩ : ∃ d, d + gk = lenE k := ⟨lenE k - gk, by omega⟩
    have hnd : lenE k - gk = d := by omega
    rw [hnd] at hrep ⊢
    have hlt : decide ((d : Int) < (lenE k : Int)) = true := by simp; omega
    rcases hrep with hn | ⟨g, rfl, hg, hrf⟩
    · cases hn
    obtain ⟨⟨sv1, hcells, hkids⟩, hrest⟩ := hrf
    obtain ⟨x0, x1, x2, x3, x4, x5⟩ := hcells
    have hv1 : RepV wr Q (exV t1 sv1) (.node b1 o1 t1 k1 r1) := ⟨b1, o1, t1, k1, r1, sv1, rfl, rfl, hkids⟩
    obtain ⟨so1, sc1, hsv1⟩ := RepK.form hkids
    subst hsv1
    have hsz1 : szE (.node b1 o1 t1 k1 r1) ≤ m := by omega
    have hgw : g < wr.heap.size := World.block_lt_of_cell? _ _ x0
    have HF := hide hfold
    clear hkids hfold
    go_wp2_with fail
    refine (ih (.node b1 o1 t1 k1 r1) wr cb hc ho H F Q (exV t1 (.slice so1 (lenE k1) sc1)) hsz1 hfc hv1).mono ?_
    rintro e w3 ⟨rfl, B3⟩
    have K3 := kw.trans (B3.mono kw.size)
    have f3 := hfc.below B3
    have hr3 : RepFa w3 Q r1 (some ⟨g, 0, none⟩) (d + 1) := .inr ⟨g, rfl, hg, RepF.later (fun j hj hl => B3.block j hl) (fun j hj _ => hj) r1 g (d + 1) hg hrest⟩
    clear hv1 hrest B3 hfc kw
    cases hh : hid1 H (.node b1 o1 t1 k1 r1)
    · go_wp2
      go_roundg (lenE r1)
      case rel =>
        refine ⟨r1, by congr 1; omega, by omega, rfl, by simp [szE] at hsr; omega, f3, K3, ?_, by rw [show lenE k - lenE r1 = d + 1 by omega]; exact hr3⟩
        have := unhide HF
        have hh : (hidH H t1 || hidE H k1) = false := hh
        have this : ((hidH H t1 || hidE H k1) || hidE H r1) = hidE H k := this
        rw [hh, Bool.false_or] at this
        exact this
      case measure => omega
    · have hk : hidE H k = true := by
        have := unhide HF
        have hh : (hidH H t1 || hidE H k1) = true := hh
        have this : ((hidH H t1 || hidE H k1) || hidE H r1) = hidE H k := this
        rw [hh, Bool.true_or] at this
        exact this.symm
      go_wp2
      go_ret
      exact ⟨⟨(d : Int), rfl, by rw [hk]; simp⟩, K3⟩
set_option maxHeartbeats 4000000 in
theorem fcont_any {m : Nat} (ih : HidOK m) (k : Ex) (w : World) (cb hc c : Nat) (ho ao : Option Addr) (H : List ByteArray) (F : Flt) (Q : Nat → Prop) (hsz : szE k ≤ m) (hm : m ≤ 100000) (h : FcAt w cb ho hc H F) (rep : RepFa w Q k ao 0) :
    Calls Try.prog 142 #[.slice ao (lenE k) c, .func (.func 131) #[.pointer (some ⟨cb, 0, none⟩)] #[]] w fun r w' => r = .returned (.bool (hidE H k)) ∧ Below w.heap.size w w' := by
  go_enter Try.func142, Try.ntmps142
  go_wp2_with fail
  refine (fidx_any ih k w cb hc c ho ao H F Q hsz hm h rep).mono ?_
  rintro e w1 ⟨⟨n, rfl, hn⟩, hb⟩
  have HN := hide hn
  clear hn
  go_wp2
  go_ret
  exact ⟨ret_bool (unhide HN), hb⟩

end Go.Proofs.Ythmmgiaobakilaa

/- The project's isHidden. -/
set_option maxRecDepth 100000
namespace Go.Proofs.Ythmmgiaobakilaa
open Go.RowKit Go.Deep

theorem strs_A (w : World) (l : List ByteArray) : StrsA (w.alloc (.cells (l.map Value.string).toArray 9)) (some ⟨w.heap.size, 0, none⟩) l := .inr ⟨_, _, rfl, strs_new w l⟩
set_option maxHeartbeats 16000000 in
theorem fhid_step {m : Nat} (hm : m ≤ 100000) (ih : HidOK m) : HidOK (m + 1) := by
  intro e w cb hc ho H F Q v hsz h hv
  obtain ⟨b, o, t, k, r, sv, rfl, rfl, hk⟩ := hv
  obtain ⟨ao, c, rfl, rep⟩ := hk.a
  clear hk
  have hszk : szE k ≤ m := by simp [szE] at hsz; omega
  have hlt := h.lt
  obtain ⟨w1, hw1⟩ : ∃ w1, w.alloc (.cells #[.int .i64 (kP t), .int .i64 t.place, .string (wP t), .int .i32 (nP t), .int .i32 (sP t), .slice ao (lenE k) c] 154) = w1 := ⟨_, rfl⟩
  have s1 : w1.heap[w.heap.size]? = some (.cells #[.int .i64 (kP t), .int .i64 t.place, .string (wP t), .int .i32 (nP t), .int .i32 (sP t), .slice ao (lenE k) c] 154 (0, 0)) := by rw [← hw1]; exact heap_alloc_new w _
  have f1 : FcAt w1 cb ho hc H F := by rw [← hw1]; exact h.later (fun j hj => Below.heap_alloc w _ j hj)
  have B1 : Below w.heap.size w w1 := by rw [← hw1]; exact (Below.refl _ w).alloc (Nat.le_refl _) _
  have rep1 : RepFa w1 Q k ao 0 := by rw [← hw1]; exact rep.later (fun j _ hl => Below.heap_alloc w _ j hl)
  have lt1 : w.heap.size < w1.heap.size := (Array.getElem?_eq_some_iff.1 s1).1
  -- what each later world keeps
  have keep : ∀ w2, Below w1.heap.size w1 w2 → FcAt w2 cb ho hc H F ∧ w2.heap[w.heap.size]? = some (.cells #[.int .i64 (kP t), .int .i64 t.place, .string (wP t), .int .i32 (nP t), .int .i32 (sP t), .slice ao (lenE k) c] 154 (0, 0)) ∧ RepFa w2 Q k ao 0 ∧ Below w.heap.size w w2 := fun w2 B2 =>
    ⟨f1.below B2, (B2.block _ lt1).trans s1, rep1.later (fun j _ hl => B2.block j hl), B1.trans (B2.mono B1.size)⟩
  have KP := hide keep
  clear keep h rep
  unfold exV
  show Calls _ _ _ _ fun r w' => r = .returned (.bool (hidH H t || hidE H k)) ∧ Below w.heap.size w w'
  go_enter Try.func131, Try.ntmps131
  go_wp2
  clear hw1
  have d1 := (blk6 s1).1
  have c1 := (bk3 f1.blk).1
  cases h1 : wdT t [sSPY]
  · cases h2 : wdT t H
    · have eH : (hidH H t || hidE H k) = hidE H k := by unfold hidH; rw [h1, h2]; rfl
      first | (go_region_with (first
        | (go_at_call_of 74 (Value.slice ho H.length hc); refine (isWord_gen _ t ho hc H ?_ f1.few).mono ?_; exact f2.strs; rintro e w3 ⟨rfl, b3⟩; rw [h2]; have B3 := B2.trans (b3.mono B2.size); have fx := unhide KP w3 B3; obtain ⟨f3, s3, rep3, BW3⟩ := fx; have d3 := (blk6 s3).1; have c3 := (bk3 f3.blk).1)
        | (go_at_call 74; refine (isWord_gen _ t (some ⟨w1.heap.size, 0, none⟩) 1 [sSPY] ?_ (by simp)).mono ?_; exact strs_A w1 [sSPY]; rintro e w2 ⟨rfl, b2⟩; rw [h1]; have B2 : Below w1.heap.size w1 w2 := ((Below.refl _ w1).alloc (Nat.le_refl _) _).drew.trans (b2.mono (by simp)); have fx := unhide KP w2 B2; obtain ⟨f2, s2, rep2, BW2⟩ := fx; have d2 := (blk6 s2).1; have c2 := (bk3 f2.blk).1)
        | (go_at_call 142; refine (fcont_any ih k _ cb hc c ho ao H F Q hszk hm f3 rep3).mono ?_; rintro e w4 ⟨rfl, b4⟩; have B4 := BW3.trans (b4.mono BW3.size)))) | fail
      all_goals go_wp2
      all_goals go_ret
      all_goals exact ⟨ret_bool eH.symm, B4⟩
    · have eH : (hidH H t || hidE H k) = true := by unfold hidH; rw [h1, h2]; rfl
      refine wp_region_any (by kernel_rfl) ?_
      try (change wpAny _ _ _ _ _ _ _ (World.drew _))
      refine wpAny_take (i := 0) (v := (.pointer (some ⟨w.heap.size, 0, none⟩))) rfl (by kernel_rfl) (by kernel_rfl) (by kernel_rfl) (fun _ _ _ h => h) (Or.inl ⟨by kernel_rfl, fun _ => by first | kernel_rfl | go_simp⟩) ?_
      refine wpAny_ready (rs := [1, 2]) (by kernel_rfl) (by simp) ?_
      refine AllReady.cons rfl (fun K hK => ?_) (AllReady.cons rfl (fun K hK => ?_) AllReady.nil)
      go_simp
      refine hK _ _ ?_
      clear hK K
      refine wpAny_ready (rs := [2]) (by kernel_rfl) (by simp) ?_
      refine AllReady.cons rfl (fun K hK => ?_) AllReady.nil
      go_simp
      refine hK _ _ ?_
      clear hK K
      rotate_left
      go_simp
      refine hK _ _ ?_
      clear hK K
      refine wpAny_ready (rs := [1]) (by kernel_rfl) (by simp) ?_
      refine AllReady.cons rfl (fun K hK => ?_) AllReady.nil
      go_simp
      refine hK _ _ ?_
      clear hK K
      all_goals
        refine wpAny_ready (rs := [3]) (by kernel_rfl) (by simp) ?_
        refine AllReady.cons rfl (fun K hK => ?_) AllReady.nil
        go_simp
        refine (isWord_gen _ t (some ⟨w1.heap.size, 0, none⟩) 1 [sSPY] ?_ (by simp)).mono ?_
        · exact strs_A w1 [sSPY]
        rintro e w2 ⟨rfl, b2⟩
        rw [h1]
        have B2 : Below w1.heap.size w1 w2 := ((Below.refl _ w1).alloc (Nat.le_refl _) _).drew.trans (b2.mono (by simp))
        obtain ⟨f2, s2, rep2, BW2⟩ := unhide KP w2 B2
        have d2 := (blk6 s2).1
        have c2 := (bk3 f2.blk).1
        go_wp2_with fail
        refine wpAny_take (i := 4) (v := (.bool false)) rfl (by kernel_rfl) (by kernel_rfl) (by kernel_rfl) (fun _ _ _ h => h) (Or.inl ⟨by kernel_rfl, fun _ => by first | kernel_rfl | go_simp⟩) ?_
        refine wpAny_take (i := 5) (v := (.pointer (some ⟨w.heap.size, 0, none⟩))) rfl (by kernel_rfl) (by kernel_rfl) (by kernel_rfl) (fun _ _ _ h => h) (Or.inl ⟨by kernel_rfl, fun _ => by first | kernel_rfl | go_simp⟩) ?_
        refine wpAny_take (i := 7) (v := (.pointer (some ⟨cb, 0, none⟩))) rfl (by kernel_rfl) (by kernel_rfl) (by kernel_rfl) (fun _ _ _ h => h) (Or.inl ⟨by kernel_rfl, fun _ => by first | kernel_rfl | go_simp⟩) ?_
        refine wpAny_take (i := 8) (v := (.pointer (some ⟨cb, 0, none⟩))) rfl (by kernel_rfl) (by kernel_rfl) (by kernel_rfl) (fun _ _ _ h => h) (Or.inl ⟨by kernel_rfl, fun _ => by first | kernel_rfl | go_simp⟩) ?_
        refine wpAny_take (i := 9) (v := (.pointer (some ⟨cb, 0, none⟩))) rfl (by kernel_rfl) (by kernel_rfl) (by kernel_rfl) (fun _ _ _ h => h) (Or.inl ⟨by kernel_rfl, fun _ => by first | kernel_rfl | go_simp⟩) ?_
        refine wpAny_ready (rs := [6, 10]) (by kernel_rfl) (by simp) ?_
        refine AllReady.cons rfl (fun K hK => ?_) (AllReady.cons rfl (fun K hK => ?_) AllReady.nil)
        go_simp
        refine hK _ _ ?_
        clear hK K
        refine wpAny_ready (rs := [10]) (by kernel_rfl) (by simp) ?_
        refine AllReady.cons rfl (fun K hK => ?_) AllReady.nil
        go_simp
        refine hK _ _ ?_
        clear hK K
        rotate_left
        go_simp
        refine hK _ _ ?_
        clear hK K
        refine wpAny_ready (rs := [6]) (by kernel_rfl) (by simp) ?_
        refine AllReady.cons rfl (fun K hK => ?_) AllReady.nil
        go_simp
        refine hK _ _ ?_
        clear hK K
      all_goals
        refine wpAny_ready (rs := [11]) (by kernel_rfl) (by simp) ?_
        refine AllReady.cons rfl (fun K hK => ?_) AllReady.nil
        go_simp
        refine (isWord_gen _ t ho hc H ?_ f1.few).mono ?_
        · exact f2.strs
        rintro e w3 ⟨rfl, b3⟩
        rw [h2]
        have B3 := B2.trans (b3.mono B2.size)
        obtain ⟨f3, s3, rep3, BW3⟩ := unhide KP w3 B3
        have d3 := (blk6 s3).1
        have c3 := (bk3 f3.blk).1
        go_wp2_with fail
        refine wpAny_take (i := 12) (v := (.bool true)) rfl (by kernel_rfl) (by kernel_rfl) (by kernel_rfl) (fun _ _ _ h => h) (Or.inl ⟨by kernel_rfl, fun _ => by first | kernel_rfl | go_simp⟩) ?_
        refine wpAny_take (i := 13) (v := (.bool true)) rfl (by kernel_rfl) (by kernel_rfl) (by kernel_rfl) (fun _ _ _ h => h) (Or.inl ⟨by kernel_rfl, fun _ => by first | kernel_rfl | go_simp⟩) ?_
        refine wpAny_take (i := 14) (v := undef) rfl (by kernel_rfl) (by kernel_rfl) (by kernel_rfl) (fun _ _ _ h => h) (Or.inr ⟨by kernel_rfl, rfl⟩) ?_
        refine wpAny_take (i := 15) (v := undef) rfl (by kernel_rfl) (by kernel_rfl) (by kernel_rfl) (fun _ _ _ h => h) (Or.inr ⟨by kernel_rfl, rfl⟩) ?_
        refine wpAny_take (i := 16) (v := undef) rfl (by kernel_rfl) (by kernel_rfl) (by kernel_rfl) (fun _ _ _ h => h) (Or.inr ⟨by kernel_rfl, rfl⟩) ?_
        refine wpAny_take (i := 17) (v := undef) rfl (by kernel_rfl) (by kernel_rfl) (by kernel_rfl) (fun _ _ _ h => h) (Or.inr ⟨by kernel_rfl, rfl⟩) ?_
        refine wpAny_take (i := 18) (v := undef) rfl (by kernel_rfl) (by kernel_rfl) (by kernel_rfl) (fun _ _ _ h => h) (Or.inr ⟨by kernel_rfl, rfl⟩) ?_
        refine wpAny_take (i := 19) (v := (.bool true)) rfl (by kernel_rfl) (by kernel_rfl) (by kernel_rfl) (fun _ _ _ h => h) (Or.inl ⟨by kernel_rfl, fun _ => by first | kernel_rfl | go_simp⟩) ?_
        refine wpAny_take (i := 20) (v := (.bool true)) rfl (by kernel_rfl) (by kernel_rfl) (by kernel_rfl) (fun _ _ _ h => h) (Or.inl ⟨by kernel_rfl, fun _ => by first | kernel_rfl | go_simp⟩) ?_
        refine wpAny_done (by kernel_rfl) ?_ _
        go_simp
        go_wp2
        go_ret
        exact ⟨ret_bool eH.symm, BW3⟩
  · have eH : (hidH H t || hidE H k) = true := by unfold hidH; rw [h1]; simp
    refine wp_region_any (by kernel_rfl) ?_
    try (change wpAny _ _ _ _ _ _ _ (World.drew _))
    refine wpAny_take (i := 0) (v := (.pointer (some ⟨w.heap.size, 0, none⟩))) rfl (by kernel_rfl) (by kernel_rfl) (by kernel_rfl) (fun _ _ _ h => h) (Or.inl ⟨by kernel_rfl, fun _ => by first | kernel_rfl | go_simp⟩) ?_
    refine wpAny_ready (rs := [1, 2]) (by kernel_rfl) (by simp) ?_
    refine AllReady.cons rfl (fun K hK => ?_) (AllReady.cons rfl (fun K hK => ?_) AllReady.nil)
    go_simp
    refine hK _ _ ?_
    clear hK K
    refine wpAny_ready (rs := [2]) (by kernel_rfl) (by simp) ?_
    refine AllReady.cons rfl (fun K hK => ?_) AllReady.nil
    go_simp
    refine hK _ _ ?_
    clear hK K
    rotate_left
    go_simp
    refine hK _ _ ?_
    clear hK K
    refine wpAny_ready (rs := [1]) (by kernel_rfl) (by simp) ?_
    refine AllReady.cons rfl (fun K hK => ?_) AllReady.nil
    go_simp
    refine hK _ _ ?_
    clear hK K
    all_goals
      refine wpAny_ready (rs := [3]) (by kernel_rfl) (by simp) ?_
      refine AllReady.cons rfl (fun K hK => ?_) AllReady.nil
      go_simp
      refine (isWord_gen _ t (some ⟨w1.heap.size, 0, none⟩) 1 [sSPY] ?_ (by simp)).mono ?_
      · exact strs_A w1 [sSPY]
      rintro e w2 ⟨rfl, b2⟩
      rw [h1]
      have B2 : Below w1.heap.size w1 w2 := ((Below.refl _ w1).alloc (Nat.le_refl _) _).drew.trans (b2.mono (by simp))
      obtain ⟨f2, s2, rep2, BW2⟩ := unhide KP w2 B2
      have d2 := (blk6 s2).1
      have c2 := (bk3 f2.blk).1
      go_wp2_with fail
      refine wpAny_take (i := 4) (v := (.bool true)) rfl (by kernel_rfl) (by kernel_rfl) (by kernel_rfl) (fun _ _ _ h => h) (Or.inl ⟨by kernel_rfl, fun _ => by first | kernel_rfl | go_simp⟩) ?_
      refine wpAny_take (i := 5) (v := undef) rfl (by kernel_rfl) (by kernel_rfl) (by kernel_rfl) (fun _ _ _ h => h) (Or.inr ⟨by kernel_rfl, rfl⟩) ?_
      refine wpAny_take (i := 6) (v := undef) rfl (by kernel_rfl) (by kernel_rfl) (by kernel_rfl) (fun _ _ _ h => h) (Or.inr ⟨by kernel_rfl, rfl⟩) ?_
      refine wpAny_take (i := 7) (v := undef) rfl (by kernel_rfl) (by kernel_rfl) (by kernel_rfl) (fun _ _ _ h => h) (Or.inr ⟨by kernel_rfl, rfl⟩) ?_
      refine wpAny_take (i := 8) (v := undef) rfl (by kernel_rfl) (by kernel_rfl) (by kernel_rfl) (fun _ _ _ h => h) (Or.inr ⟨by kernel_rfl, rfl⟩) ?_
      refine wpAny_take (i := 9) (v := undef) rfl (by kernel_rfl) (by kernel_rfl) (by kernel_rfl) (fun _ _ _ h => h) (Or.inr ⟨by kernel_rfl, rfl⟩) ?_
      refine wpAny_take (i := 10) (v := undef) rfl (by kernel_rfl) (by kernel_rfl) (by kernel_rfl) (fun _ _ _ h => h) (Or.inr ⟨by kernel_rfl, rfl⟩) ?_
      refine wpAny_take (i := 11) (v := undef) rfl (by kernel_rfl) (by kernel_rfl) (by kernel_rfl) (fun _ _ _ h => h) (Or.inr ⟨by kernel_rfl, rfl⟩) ?_
      refine wpAny_take (i := 12) (v := (.bool true)) rfl (by kernel_rfl) (by kernel_rfl) (by kernel_rfl) (fun _ _ _ h => h) (Or.inl ⟨by kernel_rfl, fun _ => by first | kernel_rfl | go_simp⟩) ?_
      refine wpAny_take (i := 13) (v := (.bool true)) rfl (by kernel_rfl) (by kernel_rfl) (by kernel_rfl) (fun _ _ _ h => h) (Or.inl ⟨by kernel_rfl, fun _ => by first | kernel_rfl | go_simp⟩) ?_
      refine wpAny_take (i := 14) (v := undef) rfl (by kernel_rfl) (by kernel_rfl) (by kernel_rfl) (fun _ _ _ h => h) (Or.inr ⟨by kernel_rfl, rfl⟩) ?_
      refine wpAny_take (i := 15) (v := undef) rfl (by kernel_rfl) (by kernel_rfl) (by kernel_rfl) (fun _ _ _ h => h) (Or.inr ⟨by kernel_rfl, rfl⟩) ?_
      refine wpAny_take (i := 16) (v := undef) rfl (by kernel_rfl) (by kernel_rfl) (by kernel_rfl) (fun _ _ _ h => h) (Or.inr ⟨by kernel_rfl, rfl⟩) ?_
      refine wpAny_take (i := 17) (v := undef) rfl (by kernel_rfl) (by kernel_rfl) (by kernel_rfl) (fun _ _ _ h => h) (Or.inr ⟨by kernel_rfl, rfl⟩) ?_
      refine wpAny_take (i := 18) (v := undef) rfl (by kernel_rfl) (by kernel_rfl) (by kernel_rfl) (fun _ _ _ h => h) (Or.inr ⟨by kernel_rfl, rfl⟩) ?_
      refine wpAny_take (i := 19) (v := (.bool true)) rfl (by kernel_rfl) (by kernel_rfl) (by kernel_rfl) (fun _ _ _ h => h) (Or.inl ⟨by kernel_rfl, fun _ => by first | kernel_rfl | go_simp⟩) ?_
      refine wpAny_take (i := 20) (v := (.bool true)) rfl (by kernel_rfl) (by kernel_rfl) (by kernel_rfl) (fun _ _ _ h => h) (Or.inl ⟨by kernel_rfl, fun _ => by first | kernel_rfl | go_simp⟩) ?_
      refine wpAny_done (by kernel_rfl) ?_ _
      go_simp
      go_wp2
      go_ret
      exact ⟨ret_bool eH.symm, BW2⟩
theorem fhid_all : ∀ m, m ≤ 100000 → HidOK m
  | 0, _ => fun e w cb hc ho H F Q v hsz h hv => by
    obtain ⟨b, o, t, k, r, sv, rfl, rfl, hk⟩ := hv
    simp [szE] at hsz
  | m + 1, hm => fhid_step (by omega) (fhid_all m (by omega))

end Go.Proofs.Ythmmgiaobakilaa

/- The project's touches. -/
set_option maxRecDepth 100000
namespace Go.Proofs.Ythmmgiaobakilaa
open Go.RowKit Go.Deep

def TchOK (m : Nat) : Prop := ∀ (e : Ex) (w : World) (cb hc : Nat) (ho : Option Addr) (H : List ByteArray) (F : Flt) (Q : Nat → Prop) (v : Value), szE e ≤ m → FcAt w cb ho hc H F → RepV w Q v e → (∀ k, Q k → k ≠ cb) →
  Calls Try.prog 132 #[.pointer (some ⟨cb, 0, none⟩), v] w fun r w' => r = .returned (.tuple #[]) ∧ FcAt w' cb ho hc H (tc1 H e F) ∧ Kept cb w w'
set_option maxHeartbeats 16000000 in
theorem ftch_step {m : Nat} (hm : m ≤ 100000) (ih : TchOK m) : TchOK (m + 1) := by
  intro e w cb hc ho H F Q v hsz h hv hQ
  obtain ⟨b, o, t, k, r, sv, rfl, rfl, hk⟩ := hv
  obtain ⟨ao, c, rfl, rep⟩ := hk.a
  clear hk
  have hszk : szE k ≤ m := by simp [szE] at hsz; omega
  have hlen : lenE k ≤ 100000 := by have := lenE_le k; omega
  have hlt := h.lt
  obtain ⟨w1, hw1⟩ : ∃ w1, w.alloc (.cells #[.int .i64 (kP t), .int .i64 t.place, .string (wP t), .int .i32 (nP t), .int .i32 (sP t), .slice ao (lenE k) c] 154) = w1 := ⟨_, rfl⟩
  have s1 : w1.heap[w.heap.size]? = some (.cells #[.int .i64 (kP t), .int .i64 t.place, .string (wP t), .int .i32 (nP t), .int .i32 (sP t), .slice ao (lenE k) c] 154 (0, 0)) := by rw [← hw1]; exact heap_alloc_new w _
  have f1 : FcAt w1 cb ho hc H F := by rw [← hw1]; exact h.later (fun j hj => Below.heap_alloc w _ j hj)
  have B1 : Below w.heap.size w w1 := by rw [← hw1]; exact (Below.refl _ w).alloc (Nat.le_refl _) _
  have rep1 : RepFa w1 Q k ao 0 := by rw [← hw1]; exact rep.later (fun j _ hl => Below.heap_alloc w _ j hl)
  have lt1 : w.heap.size < w1.heap.size := (Array.getElem?_eq_some_iff.1 s1).1
  have keep : ∀ w2, Below w1.heap.size w1 w2 → FcAt w2 cb ho hc H F ∧ w2.heap[w.heap.size]? = some (.cells #[.int .i64 (kP t), .int .i64 t.place, .string (wP t), .int .i32 (nP t), .int .i32 (sP t), .slice ao (lenE k) c] 154 (0, 0)) ∧ RepFa w2 Q k ao 0 ∧ Kept cb w w2 := fun w2 B2 =>
    ⟨f1.below B2, (B2.block _ lt1).trans s1, rep1.later (fun j _ hl => B2.block j hl), Kept.below (B1.trans (B2.mono B1.size))⟩
  have KP := hide keep
  clear keep h rep
  unfold exV
  show Calls _ _ _ _ fun r w' => r = .returned (.tuple #[]) ∧ FcAt w' cb ho hc H (tcE H k (tcH H t k F)) ∧ Kept cb w w'
  have d1 := (blk6 s1).1
  go_enter Try.func132, Try.ntmps132
  go_wp2_with fail
  clear hw1
  refine (isWord_gen _ t (some ⟨w1.heap.size, 0, none⟩) 2 [sPEEK, sSPY] (strs_A w1 [sPEEK, sSPY]) (by simp)).mono ?_
  rintro e w2 ⟨rfl, b2⟩
  have B2 : Below w1.heap.size w1 w2 := ((Below.refl _ w1).alloc (Nat.le_refl _) _).trans (b2.mono (by simp))
  obtain ⟨h2, s2, rep2, K2⟩ := unhide KP w2 B2
  have d2 := (blk6 s2).1
  have c2 := (bk3 h2.blk).1
  clear f1 s1 d1 rep1 b2
  cases hwd : wdT t [sPEEK, sSPY]
  · have e2 : tcH H t k F = F := by unfold tcH; rw [hwd]; rfl
    rw [← e2] at h2
    clear KP B2
    all_goals go_wp2
    all_goals
      go_loopg [27] (lenE k) (fun q v wr => ∃ rest F', v = .int .i64 ((lenE k - q : Nat) : Int) ∧ q ≤ lenE k ∧ lenE rest = q ∧ szE rest ≤ szE k ∧ FcAt wr cb ho hc H F' ∧ Kept cb w wr ∧ tcE H rest F' = tcE H k (tcH H t k F) ∧ RepFa wr Q rest ao (lenE k - q))
      case atStart => exact ⟨k, _, by rw [Nat.sub_self]; rfl, Nat.le_refl _, rfl, Nat.le_refl _, h2, K2, rfl, by rw [Nat.sub_self]; exact rep2⟩
      case round =>
        clear h2 K2 rep2
        obtain ⟨rest, F', rfl, hq, hlr, hsr, hnc, kw, hfold, hrep⟩ := hrel
        cases rest with
        | nil =>
          have hq0 : gk = 0 := by rw [← hlr]; rfl
          subst hq0
          have hge : decide (((lenE k - 0 : Nat) : Int) < (lenE k : Int)) = false := by simp
          have hf : F' = tcE H k (tcH H t k F) := hfold
          subst hf
          clear hfold
          go_wp2
          go_end0
          exact ⟨rfl, hnc, kw⟩
        | node b1 o1 t1 k1 r1 =>
          have hl1 : lenE r1 + 1 = gk := hlr
          obtain ⟨d, hd⟩ : ∃ d, d + gk = lenE k := ⟨lenE k - gk, by omega⟩
          have hnd : lenE k - gk = d := by omega
          rw [hnd] at hrep ⊢
          have hlt : decide ((d : Int) < (lenE k : Int)) = true := by simp; omega
          rcases hrep with hn | ⟨g, rfl, hg, hrf⟩
          · cases hn
          obtain ⟨⟨sv1, hcells, hkids⟩, hrest⟩ := hrf
          obtain ⟨x0, x1, x2, x3, x4, x5⟩ := hcells
          have hv1 : RepV wr Q (exV t1 sv1) (.node b1 o1 t1 k1 r1) := ⟨b1, o1, t1, k1, r1, sv1, rfl, rfl, hkids⟩
          obtain ⟨so1, sc1, hsv1⟩ := RepK.form hkids
          subst hsv1
          have hsz1 : szE (.node b1 o1 t1 k1 r1) ≤ m := by omega
          have hszw := kw.1
          have nextF : ∀ w3, FcAt w3 cb ho hc H (tc1 H (.node b1 o1 t1 k1 r1) F') → Kept cb wr w3 → ∃ rest F'', Value.int .i64 ((d : Int) + 1) = .int .i64 ((lenE k - lenE r1 : Nat) : Int) ∧ lenE r1 ≤ lenE k ∧ lenE rest = lenE r1 ∧ szE rest ≤ szE k ∧ FcAt w3 cb ho hc H F'' ∧ Kept cb w w3 ∧ tcE H rest F'' = tcE H k (tcH H t k F) ∧ RepFa w3 Q rest (some ⟨g, 0, none⟩) (lenE k - lenE r1) := fun w3 h3 k3 => by
            refine ⟨r1, _, by congr 1; omega, by omega, rfl, by simp [szE] at hsr; omega, h3, kw.trans k3, hfold, .inr ⟨g, rfl, hg, ?_⟩⟩
            rw [show lenE k - lenE r1 = d + 1 by omega]
            exact RepF.later (fun j hj hl => k3.2 j hl (hQ j hj)) (fun j hj _ => hj) r1 g (d + 1) hg hrest
          have NX := hide nextF
          have HV1 := hide hv1
          have hgw : g < wr.heap.size := World.block_lt_of_cell? _ _ x0
          have hgcb := hQ g hg
          clear nextF hv1 hrest hkids hfold
          go_wp2_with fail
          refine (ih (.node b1 o1 t1 k1 r1) _ cb hc ho H F' Q (exV t1 (.slice so1 (lenE k1) sc1)) hsz1 (hnc.later (fun j hj => Below.heap_alloc wr _ j hj)) (RepV.later (fun j _ hl => Below.heap_alloc wr _ j hl) (fun j hj _ => hj) (unhide HV1)) hQ).mono ?_
          rintro e w3 ⟨rfl, h3, k3⟩
          have fin3 := unhide NX w3 h3 ((Kept.alloc cb wr _).trans k3)
          clear NX HV1 k3 hnc
          go_wp2
          go_roundg (lenE r1)
          case rel => exact fin3
          case measure => omega
  · go_wp2_with fail
    refine (fcont_any (fhid_all m hm) k w2 cb hc c ho ao H F Q hszk hm h2 rep2).mono ?_
    rintro e w3 ⟨rfl, b3⟩
    have B3 := B2.trans (b3.mono B2.size)
    clear h2 s2 rep2 K2 d2 c2
    obtain ⟨h2, s2, rep2, K2⟩ := unhide KP w3 B3
    have d2 := (blk6 s2).1
    have c2 := (bk3 h2.blk).1
    cases hhk : hidE H k
    · have e2 : tcH H t k F = F := by unfold tcH; rw [hwd, hhk]; rfl
      rw [← e2] at h2
      clear KP B2 B3 b3
      all_goals go_wp2
      all_goals
        go_loopg [27] (lenE k) (fun q v wr => ∃ rest F', v = .int .i64 ((lenE k - q : Nat) : Int) ∧ q ≤ lenE k ∧ lenE rest = q ∧ szE rest ≤ szE k ∧ FcAt wr cb ho hc H F' ∧ Kept cb w wr ∧ tcE H rest F' = tcE H k (tcH H t k F) ∧ RepFa wr Q rest ao (lenE k - q))
        case atStart => exact ⟨k, _, by rw [Nat.sub_self]; rfl, Nat.le_refl _, rfl, Nat.le_refl _, h2, K2, rfl, by rw [Nat.sub_self]; exact rep2⟩
        case round =>
          clear h2 K2 rep2
          obtain ⟨rest, F', rfl, hq, hlr, hsr, hnc, kw, hfold, hrep⟩ := hrel
          cases rest with
          | nil =>
            have hq0 : gk = 0 := by rw [← hlr]; rfl
            subst hq0
            have hge : decide (((lenE k - 0 : Nat) : Int) < (lenE k : Int)) = false := by simp
            have hf : F' = tcE H k (tcH H t k F) := hfold
            subst hf
            clear hfold
            go_wp2
            go_end0
            exact ⟨rfl, hnc, kw⟩
          | node b1 o1 t1 k1 r1 =>
            have hl1 : lenE r1 + 1 = gk := hlr
            obtain ⟨d, hd⟩ : ∃ d, d + gk = lenE k := ⟨lenE k - gk, by omega⟩
            have hnd : lenE k - gk = d := by omega
            rw [hnd] at hrep ⊢
            have hlt : decide ((d : Int) < (lenE k : Int)) = true := by simp; omega
            rcases hrep with hn | ⟨g, rfl, hg, hrf⟩
            · cases hn
            obtain ⟨⟨sv1, hcells, hkids⟩, hrest⟩ := hrf
            obtain ⟨x0, x1, x2, x3, x4, x5⟩ := hcells
            have hv1 : RepV wr Q (exV t1 sv1) (.node b1 o1 t1 k1 r1) := ⟨b1, o1, t1, k1, r1, sv1, rfl, rfl, hkids⟩
            obtain ⟨so1, sc1, hsv1⟩ := RepK.form hkids
            subst hsv1
            have hsz1 : szE (.node b1 o1 t1 k1 r1) ≤ m := by omega
            have hszw := kw.1
            have nextF : ∀ w3, FcAt w3 cb ho hc H (tc1 H (.node b1 o1 t1 k1 r1) F') → Kept cb wr w3 → ∃ rest F'', Value.int .i64 ((d : Int) + 1) = .int .i64 ((lenE k - lenE r1 : Nat) : Int) ∧ lenE r1 ≤ lenE k ∧ lenE rest = lenE r1 ∧ szE rest ≤ szE k ∧ FcAt w3 cb ho hc H F'' ∧ Kept cb w w3 ∧ tcE H rest F'' = tcE H k (tcH H t k F) ∧ RepFa w3 Q rest (some ⟨g, 0, none⟩) (lenE k - lenE r1) := fun w3 h3 k3 => by
              refine ⟨r1, _, by congr 1; omega, by omega, rfl, by simp [szE] at hsr; omega, h3, kw.trans k3, hfold, .inr ⟨g, rfl, hg, ?_⟩⟩
              rw [show lenE k - lenE r1 = d + 1 by omega]
              exact RepF.later (fun j hj hl => k3.2 j hl (hQ j hj)) (fun j hj _ => hj) r1 g (d + 1) hg hrest
            have NX := hide nextF
            have HV1 := hide hv1
            have hgw : g < wr.heap.size := World.block_lt_of_cell? _ _ x0
            have hgcb := hQ g hg
            clear nextF hv1 hrest hkids hfold
            go_wp2_with fail
            refine (ih (.node b1 o1 t1 k1 r1) _ cb hc ho H F' Q (exV t1 (.slice so1 (lenE k1) sc1)) hsz1 (hnc.later (fun j hj => Below.heap_alloc wr _ j hj)) (RepV.later (fun j _ hl => Below.heap_alloc wr _ j hl) (fun j hj _ => hj) (unhide HV1)) hQ).mono ?_
            rintro e w3 ⟨rfl, h3, k3⟩
            have fin3 := unhide NX w3 h3 ((Kept.alloc cb wr _).trans k3)
            clear NX HV1 k3 hnc
            go_wp2
            go_roundg (lenE r1)
            case rel => exact fin3
            case measure => omega
    · have e2 : tcH H t k F = noteF F 11 t.place := by unfold tcH; rw [hwd, hhk]; rfl
      have l3 : w.heap.size < w3.heap.size := (Array.getElem?_eq_some_iff.1 s2).1
      go_wp2
      first | (go_region_with (go_at_call 110; refine (fnote_any _ cb hc ho H F 11 t.place ?_).mono ?_; exact h2.later (fun _ _ => rfl); rintro e w4 ⟨rfl, h4, k4⟩; have s4 := (k4.2 _ (by show _ < w3.heap.size; omega) (by omega)).trans s2; have K4 := K2.trans (by first | exact k4 | exact k4.undrew | exact k4.undrew.undrew | exact k4.undrew.undrew.undrew); have rep4 := RepFa.later (w := w3) (w' := w4) (fun j hj hl => k4.2 j hl (hQ j hj)) rep2; clear h2 s2 rep2 K2 d2 c2; have d2 := (blk6 s4).1; have h2 := h4; have K2 := K4; have rep2 := rep4; rw [← e2] at h2)) | fail
      all_goals clear KP B2 B3 b3
      all_goals go_wp2
      all_goals
        go_loopg [27] (lenE k) (fun q v wr => ∃ rest F', v = .int .i64 ((lenE k - q : Nat) : Int) ∧ q ≤ lenE k ∧ lenE rest = q ∧ szE rest ≤ szE k ∧ FcAt wr cb ho hc H F' ∧ Kept cb w wr ∧ tcE H rest F' = tcE H k (tcH H t k F) ∧ RepFa wr Q rest ao (lenE k - q))
        case atStart => exact ⟨k, _, by rw [Nat.sub_self]; rfl, Nat.le_refl _, rfl, Nat.le_refl _, h2, K2, rfl, by rw [Nat.sub_self]; exact rep2⟩
        case round =>
          clear h2 K2 rep2
          obtain ⟨rest, F', rfl, hq, hlr, hsr, hnc, kw, hfold, hrep⟩ := hrel
          cases rest with
          | nil =>
            have hq0 : gk = 0 := by rw [← hlr]; rfl
            subst hq0
            have hge : decide (((lenE k - 0 : Nat) : Int) < (lenE k : Int)) = false := by simp
            have hf : F' = tcE H k (tcH H t k F) := hfold
            subst hf
            clear hfold
            go_wp2
            go_end0
            exact ⟨rfl, hnc, kw⟩
          | node b1 o1 t1 k1 r1 =>
            have hl1 : lenE r1 + 1 = gk := hlr
            obtain ⟨d, hd⟩ : ∃ d, d + gk = lenE k := ⟨lenE k - gk, by omega⟩
            have hnd : lenE k - gk = d := by omega
            rw [hnd] at hrep ⊢
            have hlt : decide ((d : Int) < (lenE k : Int)) = true := by simp; omega
            rcases hrep with hn | ⟨g, rfl, hg, hrf⟩
            · cases hn
            obtain ⟨⟨sv1, hcells, hkids⟩, hrest⟩ := hrf
            obtain ⟨x0, x1, x2, x3, x4, x5⟩ := hcells
            have hv1 : RepV wr Q (exV t1 sv1) (.node b1 o1 t1 k1 r1) := ⟨b1, o1, t1, k1, r1, sv1, rfl, rfl, hkids⟩
            obtain ⟨so1, sc1, hsv1⟩ := RepK.form hkids
            subst hsv1
            have hsz1 : szE (.node b1 o1 t1 k1 r1) ≤ m := by omega
            have hszw := kw.1
            have nextF : ∀ w3, FcAt w3 cb ho hc H (tc1 H (.node b1 o1 t1 k1 r1) F') → Kept cb wr w3 → ∃ rest F'', Value.int .i64 ((d : Int) + 1) = .int .i64 ((lenE k - lenE r1 : Nat) : Int) ∧ lenE r1 ≤ lenE k ∧ lenE rest = lenE r1 ∧ szE rest ≤ szE k ∧ FcAt w3 cb ho hc H F'' ∧ Kept cb w w3 ∧ tcE H rest F'' = tcE H k (tcH H t k F) ∧ RepFa w3 Q rest (some ⟨g, 0, none⟩) (lenE k - lenE r1) := fun w3 h3 k3 => by
              refine ⟨r1, _, by congr 1; omega, by omega, rfl, by simp [szE] at hsr; omega, h3, kw.trans k3, hfold, .inr ⟨g, rfl, hg, ?_⟩⟩
              rw [show lenE k - lenE r1 = d + 1 by omega]
              exact RepF.later (fun j hj hl => k3.2 j hl (hQ j hj)) (fun j hj _ => hj) r1 g (d + 1) hg hrest
            have NX := hide nextF
            have HV1 := hide hv1
            have hgw : g < wr.heap.size := World.block_lt_of_cell? _ _ x0
            have hgcb := hQ g hg
            clear nextF hv1 hrest hkids hfold
            go_wp2_with fail
            refine (ih (.node b1 o1 t1 k1 r1) _ cb hc ho H F' Q (exV t1 (.slice so1 (lenE k1) sc1)) hsz1 (hnc.later (fun j hj => Below.heap_alloc wr _ j hj)) (RepV.later (fun j _ hl => Below.heap_alloc wr _ j hl) (fun j hj _ => hj) (unhide HV1)) hQ).mono ?_
            rintro e w3 ⟨rfl, h3, k3⟩
            have fin3 := unhide NX w3 h3 ((Kept.alloc cb wr _).trans k3)
            clear NX HV1 k3 hnc
            go_wp2
            go_roundg (lenE r1)
            case rel => exact fin3
            case measure => omega
theorem ftch_all : ∀ m, m ≤ 100000 → TchOK m
  | 0, _ => fun e w cb hc ho H F Q v hsz h hv hQ => by
    obtain ⟨b, o, t, k, r, sv, rfl, rfl, hk⟩ := hv
    simp [szE] at hsz
  | m + 1, hm => ftch_step (by omega) (ftch_all m (by omega))

end Go.Proofs.Ythmmgiaobakilaa

/- The project's lead. -/
set_option maxRecDepth 100000
namespace Go.Proofs.Ythmmgiaobakilaa
open Go.RowKit Go.Deep

set_option maxHeartbeats 16000000 in
theorem flead_any (m : Nat) (hm : m ≤ 100000) (e : Ex) (w : World) (cb hc : Nat) (ho : Option Addr) (H : List ByteArray) (F : Flt) (Q : Nat → Prop) (t x : Tok) (k : Ex) (ao : Option Addr) (c : Nat) (may : Bool) (hsz : szE e ≤ m) (h : FcAt w cb ho hc H F) (hv : RepV w Q (exV x (.slice ao (lenE k) c)) e) (hQ : ∀ k, Q k → k ≠ cb) :
    Calls Try.prog 113 #[.pointer (some ⟨cb, 0, none⟩), tokP t, exV x (.slice ao (lenE k) c), .bool may] w fun r w' => r = .returned (.tuple #[]) ∧ FcAt w' cb ho hc H (ldF H t e may F) ∧ Kept cb w w' := by
  have hlt := h.lt
  obtain ⟨w1, hw1⟩ : ∃ w1, (w.alloc (.cells #[.int .i64 (kP t), .int .i64 t.place, .string (wP t), .int .i32 (nP t), .int .i32 (sP t)] 126)).alloc (.cells #[.int .i64 (kP x), .int .i64 x.place, .string (wP x), .int .i32 (nP x), .int .i32 (sP x), .slice ao (lenE k) c] 154) = w1 := ⟨_, rfl⟩
  have s1 : w1.heap[w.heap.size + 1]? = some (.cells #[.int .i64 (kP x), .int .i64 x.place, .string (wP x), .int .i32 (nP x), .int .i32 (sP x), .slice ao (lenE k) c] 154 (0, 0)) := by rw [← hw1]; simpa using heap_alloc_new (w.alloc (.cells #[.int .i64 (kP t), .int .i64 t.place, .string (wP t), .int .i32 (nP t), .int .i32 (sP t)] 126)) (.cells #[.int .i64 (kP x), .int .i64 x.place, .string (wP x), .int .i32 (nP x), .int .i32 (sP x), .slice ao (lenE k) c] 154)
  have t1 : w1.heap[w.heap.size]? = some (.cells #[.int .i64 (kP t), .int .i64 t.place, .string (wP t), .int .i32 (nP t), .int .i32 (sP t)] 126 (0, 0)) := by rw [← hw1]; exact (Below.heap_alloc _ _ _ (by simp)).trans (heap_alloc_new w _)
  have B1 : Below w.heap.size w w1 := by rw [← hw1]; exact ((Below.refl _ w).alloc (Nat.le_refl _) _).alloc (by simp) _
  have f1 : FcAt w1 cb ho hc H F := h.below B1
  have v1 : RepV w1 Q (exV x (.slice ao (lenE k) c)) e := hv.later (fun j _ hl => B1.block j hl) (fun j hj _ => hj)
  have lt1 : w.heap.size + 1 < w1.heap.size := (Array.getElem?_eq_some_iff.1 s1).1
  clear h hv
  have d1 := (blk6 s1).1
  have y1 := (bk5 t1).1
  have c1 := (bk3 f1.blk).1
  have nobr : ∀ F2 w2, FcAt w2 cb ho hc H F2 → Kept cb w w2 → RepV w2 Q (exV x (.slice ao (lenE k) c)) e → F2 = (if !may && hid1 H e then noteF F 11 t.place else F) → Calls Try.prog 132 #[.pointer (some ⟨cb, 0, none⟩), exV x (.slice ao (lenE k) c)] w2 fun r w' => r = .returned (.tuple #[]) ∧ FcAt w' cb ho hc H (ldF H t e may F) ∧ Kept cb w w' := fun F2 w2 a1 a2 a3 a4 => by
    refine (ftch_all m hm e w2 cb hc ho H F2 Q _ hsz a1 a3 hQ).mono ?_
    rintro r w' ⟨g1, g2, g3⟩
    exact ⟨g1, by unfold ldF; rw [← a4]; exact g2, a2.trans g3⟩
  have NB := hide nobr
  clear nobr
  have V1 := hide v1
  unfold exV tokP tkV at *
  go_enter Try.func113, Try.ntmps113
  cases hmay : may
  · go_wp2_with fail
    clear hw1
    refine (fhid_all m hm e w1 cb hc ho H F Q _ hsz f1 (unhide V1)).mono ?_
    rintro r w2 ⟨rfl, b2⟩
    have f2 := f1.below b2
    have v2 : RepV w2 Q (exV x (.slice ao (lenE k) c)) e := (unhide V1).later (fun j _ hl => b2.block j hl) (fun j hj _ => hj)
    have s2 := (b2.block _ lt1).trans s1
    have t2 := (b2.block _ (by omega)).trans t1
    have K2 : Kept cb w w2 := Kept.below (B1.trans (b2.mono B1.size))
    have l2 := b2.size
    have d2 := (blk6 s2).1
    have y2 := (bk5 t2).1
    have c2 := (bk3 f2.blk).1
    cases hh : hid1 H e
    · have fx := unhide NB F w2 f2 K2 v2 (by rw [hmay, hh]; rfl)
      rw [hmay] at fx
      have FX := hide fx
      clear NB V1 fx
      go_wp2_with fail
      refine (unhide FX).mono ?_
      rintro r w3 ⟨rfl, h3, k3⟩
      go_wp2
      go_end0
      exact ⟨rfl, h3, k3⟩
    · go_wp2
      first | (go_region_with (go_at_call 110; refine (fnote_any _ cb hc ho H F 11 t.place ?_).mono ?_; exact f2.later (fun _ _ => rfl); rintro r w3 ⟨rfl, h3, k3⟩; have s3 := (k3.2 _ (by show _ < w2.heap.size; omega) (by omega)).trans s2; have d3 := (blk6 s3).1; have K3 := K2.trans (by first | exact k3 | exact k3.undrew | exact k3.undrew.undrew | exact k3.undrew.undrew.undrew); have v3 := RepV.later (w := w2) (w' := w3) (fun j hj hl => k3.2 j hl (hQ j hj)) (fun j hj _ => hj) v2; have fx := unhide NB _ w3 h3 K3 v3 (by rw [hmay, hh]; rfl); rw [hmay] at fx; have FX := hide fx; clear fx)) | fail
      all_goals clear NB V1
      all_goals go_wp2_with fail
      all_goals
        refine (unhide FX).mono ?_
        rintro r w4 ⟨rfl, h4, k4⟩
        go_wp2
        go_end0
        exact ⟨rfl, h4, k4⟩
  · have fx := unhide NB F w1 f1 (Kept.below B1) (unhide V1) (by rw [hmay]; rfl)
    rw [hmay] at fx
    have FX := hide fx
    clear NB V1 fx
    go_wp2_with fail
    clear hw1
    refine (unhide FX).mono ?_
    rintro r w3 ⟨rfl, h3, k3⟩
    go_wp2
    go_end0
    exact ⟨rfl, h3, k3⟩

end Go.Proofs.Ythmmgiaobakilaa
