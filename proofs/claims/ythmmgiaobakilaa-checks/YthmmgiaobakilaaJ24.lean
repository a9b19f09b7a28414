import Derived.Test.YthmmgiaobakilaaJ21
/- The project's look at what is hidden, on data; its state in memory. -/
set_option maxRecDepth 100000
namespace Go.Proofs.Ythmmgiaobakilaa
open Go.RowKit Go.Deep

def wdT (t : Tok) (l : List ByteArray) : Bool := (kP t == 2) && l.any (fun u => (wP t).toList == u.toList)
def hidH (H : List ByteArray) (t : Tok) : Bool := wdT t [sSPY] || wdT t H
def hidE (H : List ByteArray) : Ex → Bool
  | .nil => false
  | .node _ _ t k r => (hidH H t || hidE H k) || hidE H r
def hid1 (H : List ByteArray) : Ex → Bool
  | .nil => false
  | .node _ _ t k _ => hidH H t || hidE H k
/-- The brackets of each peek and spy. -/
def tcH (H : List ByteArray) (t : Tok) (k : Ex) (F : Flt) : Flt := if wdT t [sPEEK, sSPY] && hidE H k then noteF F 11 t.place else F
def tcE (H : List ByteArray) : Ex → Flt → Flt
  | .nil, F => F
  | .node _ _ t k r, F => tcE H r (tcE H k (tcH H t k F))
def tc1 (H : List ByteArray) : Ex → Flt → Flt
  | .nil, F => F
  | .node _ _ t k _, F => tcE H k (tcH H t k F)
def ldF (H : List ByteArray) (t : Tok) (e : Ex) (may : Bool) (F : Flt) : Flt := tc1 H e (if !may && hid1 H e then noteF F 11 t.place else F)
def flS (H : List ByteArray) : Sx → Flt → Flt
  | .nil, F => F
  | .node _ _ p k r, F => flS H r (
    if p.tag = 0 then ldF H p.t p.e (wdT p.t H) F else
    if p.tag = 1 then (match k with
      | .nil => F
      | .node _ _ _ s u => flS H u (flS H s (ldF H p.t p.e false F))) else
    if p.tag = 2 then flS H k F else
    ldF H p.t p.e (wdT p.t [sHIDE]) F)
theorem flS_0 {H : List ByteArray} {b o : Nat} {p : SP} {k r : Sx} {F : Flt} (h : p.tag = 0) : flS H (.node b o p k r) F = flS H r (ldF H p.t p.e (wdT p.t H) F) := by
  cases k <;> (show flS H r (if p.tag = 0 then _ else _) = _; rw [if_pos h])
theorem flS_1 {H : List ByteArray} {b o b1 o1 : Nat} {p q : SP} {s u r : Sx} {F : Flt} (h : p.tag = 1) : flS H (.node b o p (.node b1 o1 q s u) r) F = flS H r (flS H u (flS H s (ldF H p.t p.e false F))) := by
  show flS H r (if p.tag = 0 then _ else if p.tag = 1 then _ else _) = _
  rw [if_neg (by omega), if_pos h]
theorem flS_2 {H : List ByteArray} {b o : Nat} {p : SP} {k r : Sx} {F : Flt} (h : p.tag = 2) : flS H (.node b o p k r) F = flS H r (flS H k F) := by
  cases k <;> (show flS H r (if p.tag = 0 then _ else if p.tag = 1 then _ else if p.tag = 2 then _ else _) = _; rw [if_neg (by omega), if_neg (by omega), if_pos h])
theorem flS_3 {H : List ByteArray} {b o : Nat} {p : SP} {k r : Sx} {F : Flt} (h : p.tag = 3 ∨ p.tag = 4) : flS H (.node b o p k r) F = flS H r (ldF H p.t p.e (wdT p.t [sHIDE]) F) := by
  cases k <;> (show flS H r (if p.tag = 0 then _ else if p.tag = 1 then _ else if p.tag = 2 then _ else _) = _; rw [if_neg (by omega), if_neg (by omega), if_neg (by omega)])
/-- A list of texts, wherever: nothing is asked of an empty one. -/
def StrsA (w : World) (ao : Option Addr) (l : List ByteArray) : Prop := l = [] ∨ ∃ b off, ao = some ⟨b, off, none⟩ ∧ StrsIn w b off l
theorem StrsA.later {w w' : World} {ao : Option Addr} {l : List ByteArray} (h : StrsA w ao l) (hs : ∀ k, k < w.heap.size → (∀ b, ao.map (·.block) = some b → k = b → w'.heap[k]? = w.heap[k]?)) : StrsA w' ao l := by
  rcases h with h | ⟨b, off, rfl, hc⟩
  · exact .inl h
  · refine .inr ⟨b, off, rfl, fun j hj => ?_⟩
    have h0 := hc j hj
    have hb := World.block_lt_of_cell? _ _ h0
    have e := hs b hb b rfl rfl
    simp only [World.cell?] at h0 ⊢
    rw [e]
    exact h0
structure FcAt (w : World) (cb : Nat) (ho : Option Addr) (hc : Nat) (H : List ByteArray) (F : Flt) : Prop where
  blk : w.heap[cb]? = some (.cells #[.slice ho H.length hc, .int .i64 F.1, .int .i64 F.2] 143 (0, 0))
  strs : StrsA w ho H
  off : ho.map (·.block) ≠ some cb
  few : H.length ≤ 1000
section
variable {w w' : World} {cb hc : Nat} {ho : Option Addr} {H : List ByteArray} {F : Flt}
theorem FcAt.lt (h : FcAt w cb ho hc H F) : cb < w.heap.size := (Array.getElem?_eq_some_iff.1 h.blk).1
theorem FcAt.later (h : FcAt w cb ho hc H F) (hs : ∀ k, k < w.heap.size → w'.heap[k]? = w.heap[k]?) : FcAt w' cb ho hc H F := ⟨(hs cb h.lt).trans h.blk, h.strs.later (fun k hk _ _ _ => hs k hk), h.off, h.few⟩
theorem FcAt.below (h : FcAt w cb ho hc H F) (hb : Below w.heap.size w w') : FcAt w' cb ho hc H F := h.later (fun k hk => hb.block k hk)
end
theorem fnote_any (w : World) (cb hc : Nat) (ho : Option Addr) (H : List ByteArray) (F : Flt) (er at_ : Int) (h : FcAt w cb ho hc H F) :
    Calls Try.prog 110 #[.pointer (some ⟨cb, 1, none⟩), .int .i64 er, .int .i64 at_] w fun e w' => e = .returned (.tuple #[]) ∧ FcAt w' cb ho hc H (noteF F er at_) ∧ Kept cb w w' := by
  obtain ⟨⟨c0, c1, c2⟩, z0, z1, z2⟩ := bk3 h.blk
  refine (note_gen w cb 1 F.1 F.2 er at_ c1 c2 z1 z2).mono ?_
  rintro e w' ⟨he, rfl⟩
  refine ⟨he, ?_⟩
  unfold noteF
  split
  · refine ⟨⟨?_, ?_, h.off, h.few⟩, (Kept.set cb w 1 _).trans (Kept.set cb _ 2 _)⟩
    · exact heap_setCell_same _ cb 2 _ _ _ (heap_setCell_same _ cb 1 _ _ _ h.blk)
    · refine h.strs.later (fun k hk b hb e => ?_)
      have hne : k ≠ cb := fun e2 => h.off (by rw [hb, ← e, e2])
      exact (Below.heap_setCell _ _ _ _ hne).trans (Below.heap_setCell _ _ _ _ hne)
  · exact ⟨h, Kept.refl _ _⟩
/-! A word among none. -/
set_option maxHeartbeats 2000000 in
theorem sindex_nil (w : World) (ao : Option Addr) (c : Nat) (v : ByteArray) :
    Calls Try.prog 126 #[.slice ao 0 c, Value.string v] w fun e w' => e = .returned (.int .i64 (-1)) ∧ w' = w := by
  go_enter Try.func126, Try.ntmps126
  go_wp2
  go_loop [8] (fun i => i = .int .i64 0) (fun _ => 0)
  case atStart => rfl
  case round =>
    subst hrel
    go_wp2
    go_ret
    exact ⟨rfl, rfl⟩
set_option maxHeartbeats 2000000 in
theorem scontains_nil (w : World) (ao : Option Addr) (c : Nat) (v : ByteArray) :
    Calls Try.prog 100 #[.slice ao 0 c, Value.string v] w fun e w' => e = .returned (.bool false) ∧ w' = w := by
  go_enter Try.func100, Try.ntmps100
  go_wp2_with fail
  refine (sindex_nil w ao c v).mono ?_
  rintro e w1 ⟨rfl, rfl⟩
  go_wp2
  go_ret
  exact ⟨rfl, rfl⟩
set_option maxHeartbeats 1000000 in
theorem isWord_nil (w : World) (k p n s : Int) (wd : ByteArray) (ao : Option Addr) (c : Nat) :
    Calls Try.prog 74 #[tkV k p wd n s, .slice ao 0 c] w fun e w' => e = .returned (.bool false) ∧ Below w.heap.size w w' := by
  unfold tkV
  cases hk : (k == 2)
  · go_enter Try.func74, Try.ntmps74
    go_wp2
    go_ret
    exact ⟨rfl, (Below.refl _ w).alloc (Nat.le_refl _) _⟩
  · go_enter Try.func74, Try.ntmps74
    go_wp2_with fail
    refine (scontains_nil _ ao c wd).mono ?_
    rintro e w1 ⟨rfl, hw⟩
    have hb : Below w.heap.size w w1 := by rw [hw]; exact (Below.refl _ w).alloc (Nat.le_refl _) _
    clear hw
    go_wp2
    go_ret
    exact ⟨rfl, hb⟩
theorem isWord_gen (w : World) (t : Tok) (ao : Option Addr) (c : Nat) (l : List ByteArray) (hs : StrsA w ao l) (hl : l.length ≤ 1000) :
    Calls Try.prog 74 #[tkV (kP t) t.place (wP t) (nP t) (sP t), .slice ao l.length c] w fun e w' => e = .returned (.bool (wdT t l)) ∧ Below w.heap.size w w' := by
  rcases hs with rfl | ⟨b, off, rfl, hc⟩
  · refine (isWord_nil w (kP t) t.place (nP t) (sP t) (wP t) ao c).mono ?_
    rintro e w' ⟨rfl, hb⟩
    exact ⟨by unfold wdT; simp, hb⟩
  · exact isWord_any w (kP t) t.place (nP t) (sP t) (wP t) b off c l hc hl

end Go.Proofs.Ythmmgiaobakilaa
