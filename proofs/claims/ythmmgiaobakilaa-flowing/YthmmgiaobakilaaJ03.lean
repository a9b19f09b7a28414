import Derived.Test.YthmmgiaobakilaaJ02
/- The project's tokens: is it this word, this sign, a name? -/
set_option maxRecDepth 100000
namespace Go.Proofs.Ythmmgiaobakilaa
open Go.RowKit

/-- A token as a value. -/
def tkV (k p : Int) (wd : ByteArray) (n s : Int) : Value := .agg #[.int .i64 k, .int .i64 p, .string wd, .int .i32 n, .int .i32 s]
/-- A list of texts, of runes lies in a block. -/
def StrsIn (w : World) (b off : Nat) (l : List ByteArray) : Prop := ∀ j (hj : j < l.length), w.cell? ⟨b, off + j, none⟩ = some (.string l[j])
def RunesIn (w : World) (b off : Nat) (l : List Int) : Prop := ∀ j (hj : j < l.length), w.cell? ⟨b, off + j, none⟩ = some (.int .i32 l[j])

theorem StrsIn.grown {w w' : World} {b off : Nat} {l : List ByteArray} (h : StrsIn w b off l) (hs : ∀ k, k < w.heap.size → w'.heap[k]? = w.heap[k]?) : StrsIn w' b off l := by
  intro j hj
  have h0 := h j hj
  have hb := World.block_lt_of_cell? _ _ h0
  simp only [World.cell?] at h0 ⊢
  rw [hs b hb]
  exact h0
theorem RunesIn.grown {w w' : World} {b off : Nat} {l : List Int} (h : RunesIn w b off l) (hs : ∀ k, k < w.heap.size → w'.heap[k]? = w.heap[k]?) : RunesIn w' b off l := by
  intro j hj
  have h0 := h j hj
  have hb := World.block_lt_of_cell? _ _ h0
  simp only [World.cell?] at h0 ⊢
  rw [hs b hb]
  exact h0
set_option maxHeartbeats 1000000 in
theorem isWord_any (w : World) (k p n s : Int) (wd : ByteArray) (b off c : Nat) (l : List ByteArray) (hc : StrsIn w b off l) (hl : l.length ≤ 1000) :
    Calls Try.prog 74 #[tkV k p wd n s, .slice (some ⟨b, off, none⟩) l.length c] w fun e w' => e = .returned (.bool ((k == 2) && l.any (fun t => wd.toList == t.toList))) ∧ Below w.heap.size w w' := by
  unfold tkV
  cases hk : (k == 2)
  · go_enter Try.func74, Try.ntmps74
    go_wp2
    go_ret
    exact ⟨rfl, (Below.refl _ w).alloc (Nat.le_refl _) _⟩
  · go_enter Try.func74, Try.ntmps74
    go_wp2_with fail
    refine (scontains_any _ b off c l wd (hc.grown (fun k hk => Below.heap_alloc w _ k hk)) hl).mono ?_
    rintro e w1 ⟨rfl, hw⟩
    have hb : Below w.heap.size w w1 := by rw [hw]; exact (Below.refl _ w).alloc (Nat.le_refl _) _
    clear hw
    go_wp2
    go_ret
    exact ⟨ret_bool (by simp), hb⟩
set_option maxHeartbeats 1000000 in
theorem isSign_any (w : World) (k p n s : Int) (wd : ByteArray) (b off c : Nat) (l : List Int) (hc : RunesIn w b off l) (hl : l.length ≤ 1000) :
    Calls Try.prog 103 #[tkV k p wd n s, .slice (some ⟨b, off, none⟩) l.length c] w fun e w' => e = .returned (.bool ((k == 4) && l.any (fun t => s == t))) ∧ Below w.heap.size w w' := by
  unfold tkV
  cases hk : (k == 4)
  · go_enter Try.func103, Try.ntmps103
    go_wp2
    go_ret
    exact ⟨rfl, (Below.refl _ w).alloc (Nat.le_refl _) _⟩
  · go_enter Try.func103, Try.ntmps103
    go_wp2_with fail
    refine (rcontains_any _ b off c l s (hc.grown (fun k hk => Below.heap_alloc w _ k hk)) hl).mono ?_
    rintro e w1 ⟨rfl, hw⟩
    have hb : Below w.heap.size w w1 := by rw [hw]; exact (Below.refl _ w).alloc (Nat.le_refl _) _
    clear hw
    go_wp2
    go_ret
    exact ⟨ret_bool (by simp), hb⟩
theorem strs_new (w : World) (l : List ByteArray) : StrsIn (w.alloc (.cells (l.map Value.string).toArray 9)) w.heap.size 0 l := by
  intro j hj
  rw [World.cell?_alloc_at _ _ _ _ rfl, Nat.zero_add]
  simp [List.getElem?_eq_getElem hj]
theorem runes_new (w : World) (l : List Int) : RunesIn (w.alloc (.cells (l.map (Value.int .i32)).toArray 21)) w.heap.size 0 l := by
  intro j hj
  rw [World.cell?_alloc_at _ _ _ _ rfl, Nat.zero_add]
  simp [List.getElem?_eq_getElem hj]
/-- The keywords as the project lists them. -/
def kwsP : List ByteArray := [sOPEN, sHIDDEN, sIF, sELSE, sFOR, sOUT, sHIDE, sSEL, sMIN, sMAX, sPEEK, sSPY]
set_option maxHeartbeats 1000000 in
theorem isName_any (w : World) (k p n s : Int) (wd : ByteArray) :
    Calls Try.prog 105 #[tkV k p wd n s] w fun e w' => e = .returned (.bool ((k == 2) && !kwsP.any (fun t => wd.toList == t.toList))) ∧ Below w.heap.size w w' := by
  unfold tkV
  cases hk : (k == 2)
  · go_enter Try.func105, Try.ntmps105
    go_wp2
    go_ret
    exact ⟨rfl, (Below.refl _ w).alloc (Nat.le_refl _) _⟩
  · go_enter Try.func105, Try.ntmps105
    go_wp2_with fail
    have hsi : StrsIn ((w.alloc (.cells #[.int .i64 k, .int .i64 p, .string wd, .int .i32 n, .int .i32 s] 126)).alloc (.cells (kwsP.map Value.string).toArray 9)) (w.heap.size + 1) 0 kwsP := by
      have := strs_new (w.alloc (.cells #[.int .i64 k, .int .i64 p, .string wd, .int .i32 n, .int .i32 s] 126)) kwsP
      rw [World.size_alloc] at this
      exact this
    refine (isWord_any _ k p n s wd (w.heap.size + 1) 0 12 kwsP hsi (by decide)).mono ?_
    rintro e w1 ⟨rfl, hb1⟩
    have hb : Below w.heap.size w w1 := (((Below.refl _ w).alloc (Nat.le_refl _) _).alloc (by simp) _).trans (hb1.mono (by simp; omega))
    clear hb1 hsi
    rw [hk, Bool.true_and]
    go_wp2
    go_ret
    exact ⟨ret_bool (by simp), hb⟩

end Go.Proofs.Ythmmgiaobakilaa

/- The project's parser in memory: its block, the tokens; next, take, note, fail. -/
set_option maxRecDepth 100000
namespace Go.Proofs.Ythmmgiaobakilaa
open Go.RowKit

/-- A token of lex as the project has it. -/
def kP (t : Tok) : Int := if (t.kind == 0) || (t.kind == 1) then 2 else if t.kind == 2 then 3 else if t.kind == 3 then 4 else 5
def wP (t : Tok) : ByteArray := if (t.kind == 0) || (t.kind == 1) then t.text else ⟨#[]⟩
def nP (t : Tok) : Int := if t.kind == 2 then t.num else 0
def runesL : List Int := [8592, 8230, 215, 247, 8804, 8800, 43, 45, 61, 60, 40, 41, 123, 125, 91, 93, 44, 59]
def runeOf (s : ByteArray) : Int := (((signs.zip runesL).find? (fun p => p.1.toList == s.toList)).map (·.2)).getD 0
def sP (t : Tok) : Int := if t.kind == 3 then runeOf t.text else 0
def tokP (t : Tok) : Value := tkV (kP t) t.place (wP t) (nP t) (sP t)
def tokC (t : Tok) : List Value := [.int .i64 (kP t), .int .i64 t.place, .string (wP t), .int .i32 (nP t), .int .i32 (sP t)]

/-- The tokens lie in a block. -/
def PToks (w : World) (tb : Nat) (T : List Tok) : Prop := ∀ j (hj : j < T.length), w.cell? ⟨tb, j * 5, none⟩ = some (.int .i64 (kP T[j])) ∧ w.cell? ⟨tb, j * 5 + 1, none⟩ = some (.int .i64 (T[j]).place) ∧ w.cell? ⟨tb, j * 5 + 2, none⟩ = some (.string (wP T[j])) ∧ w.cell? ⟨tb, j * 5 + 3, none⟩ = some (.int .i32 (nP T[j])) ∧ w.cell? ⟨tb, j * 5 + 4, none⟩ = some (.int .i32 (sP T[j]))
/-- The parser stands at token i; what is wrong, and where. -/
structure PsAt (w : World) (pb tb cap : Nat) (T : List Tok) (i : Nat) (f pl : Int) : Prop where
  blk : w.heap[pb]? = some (.cells #[.slice (some ⟨tb, i * 5, none⟩) (T.length - i) (cap - i), .int .i64 f, .int .i64 pl] 130 (0, 0))
  toks : PToks w tb T
  low : tb < pb
  lt : i < T.length
  few : T.length ≤ 1000
  room : T.length ≤ cap ∧ cap ≤ maxLen

section
variable {w : World} {pb tb cap i : Nat} {T : List Tok} {f pl : Int}
theorem PsAt.cell (h : PsAt w pb tb cap T i f pl) (k : Nat) : w.cell? ⟨pb, k, none⟩ = #[.slice (some ⟨tb, i * 5, none⟩) (T.length - i) (cap - i), .int .i64 f, .int .i64 pl][k]? := by
  simp only [World.cell?]
  rw [h.blk]
  simp
theorem PsAt.thaw (h : PsAt w pb tb cap T i f pl) (k : Nat) : w.frozen? ⟨pb, k, none⟩ = false := by
  simp only [World.frozen?]
  rw [h.blk]
  simp
theorem PsAt.plt (h : PsAt w pb tb cap T i f pl) : pb < w.heap.size := (Array.getElem?_eq_some_iff.1 h.blk).1
theorem PToks.same {w w' : World} {tb : Nat} {T : List Tok} (h : PToks w tb T) (hs : w'.heap[tb]? = w.heap[tb]?) : PToks w' tb T := by
  intro j hj
  have e : ∀ o, w'.cell? ⟨tb, o, none⟩ = w.cell? ⟨tb, o, none⟩ := fun o => by simp only [World.cell?]; rw [hs]
  simp only [e]
  exact h j hj
/-- Other blocks have come, or turned. -/
theorem PsAt.later {w' : World} (h : PsAt w pb tb cap T i f pl) (hs : ∀ k, k < w.heap.size → w'.heap[k]? = w.heap[k]?) : PsAt w' pb tb cap T i f pl :=
  ⟨(hs pb h.plt).trans h.blk, h.toks.same (hs tb (by have := h.plt; have := h.low; omega)), h.low, h.lt, h.few, h.room⟩
theorem PsAt.below {w' : World} {B : Nat} (h : PsAt w pb tb cap T i f pl) (hb : Below B w w') (hB : w.heap.size ≤ B) : PsAt w' pb tb cap T i f pl :=
  ⟨(hb.block pb (by have := h.plt; omega)).trans h.blk, h.toks.same (hb.block tb (by have := h.plt; have := h.low; omega)), h.low, h.lt, h.few, h.room⟩
end
def tkI (T : List Tok) (i : Nat) : Tok := tkAt T i
theorem tkAt_get {T : List Tok} {i : Nat} (hi : i < T.length) : tkAt T i = T[i] := by simp [tkAt, List.getD, List.getElem?_eq_getElem hi]

set_option maxHeartbeats 1000000 in
theorem next_any (w : World) (pb tb cap i : Nat) (T : List Tok) (f pl : Int) (h : PsAt w pb tb cap T i f pl) :
    Calls Try.prog 73 #[.pointer (some ⟨pb, 0, none⟩)] w fun e w' => e = .returned (tokP (tkAt T i)) ∧ Below w.heap.size w w' := by
  have c0 := h.cell 0
  simp at c0
  obtain ⟨t0, t1, t2, t3, t4⟩ := h.toks i h.lt
  have hl := h.lt
  have hl2 : 0 < T.length - i := by omega
  have hp := h.plt
  have ht : tb < w.heap.size := by have := h.low; omega
  rw [tkAt_get h.lt]
  unfold tokP tkV
  generalize kP T[i] = a at *
  generalize (T[i]).place = b at *
  generalize wP T[i] = c at *
  generalize nP T[i] = d at *
  generalize sP T[i] = e at *
  have hnb : pb ≠ w.heap.size := by omega
  have hnt : tb ≠ w.heap.size := by omega
  clear h
  go_enter Try.func73, Try.ntmps73
  go_wp2
  refine bodyPost_ret (v := .agg #[.int .i64 a, .int .i64 b, .string c, .int .i32 d, .int .i32 e]) (by simp [results, Try.results73, go_sem]) rfl ⟨rfl, (Below.refl _ w).alloc (Nat.le_refl _) _⟩

/-- What lies outside memory is as it was. -/
structure Same (w w' : World) : Prop where
  os : w'.os = w.os
  tape : w'.tape = w.tape
  output : w'.output = w.output
theorem Same.refl (w : World) : Same w w := ⟨rfl, rfl, rfl⟩
theorem Same.trans {a b c : World} (h : Same a b) (k : Same b c) : Same a c := ⟨k.os.trans h.os, k.tape.trans h.tape, k.output.trans h.output⟩
theorem Same.below {B : Nat} {a b : World} (h : Below B a b) : Same a b := ⟨h.os, h.tape, h.output⟩
theorem Same.set {a w : World} (h : Same a w) (p : Addr) (v : Value) : Same a (w.setCell p v) := h.trans (Same.below ((Below.refl 0 w).setCell (Nat.zero_le _) v))
theorem Same.alloc {a w : World} (h : Same a w) (o : Obj) : Same a (w.alloc o) := h.trans ⟨rfl, rfl, rfl⟩
theorem Same.drew {a w : World} (h : Same a w) : Same a w.drew := h.trans ⟨rfl, rfl, rfl⟩
theorem Same.grown {a w : World} {r : Option Nat} (h : a.grownBy w r) : Same a w := ⟨h.os, h.tape, h.output⟩
/-- Only the parser's block has turned of those that there were. -/
structure Kept (pb : Nat) (w w' : World) : Prop where
  size : w.heap.size ≤ w'.heap.size
  block : ∀ k, k < w.heap.size → k ≠ pb → w'.heap[k]? = w.heap[k]?
  same : Same w w'
theorem Kept.refl (pb : Nat) (w : World) : Kept pb w w := ⟨Nat.le_refl _, fun _ _ _ => rfl, Same.refl _⟩
theorem Kept.trans {pb : Nat} {a b c : World} (h1 : Kept pb a b) (h2 : Kept pb b c) : Kept pb a c := ⟨Nat.le_trans h1.1 h2.1, fun k hk hn => (h2.2 k (by have := h1.1; omega) hn).trans (h1.2 k hk hn), h1.same.trans h2.same⟩
theorem Kept.below {pb : Nat} {a b : World} (h : Below a.heap.size a b) : Kept pb a b := ⟨h.size, fun k hk _ => h.block k hk, Same.below h⟩
theorem Kept.alloc (pb : Nat) (w : World) (o : Obj) : Kept pb w (w.alloc o) := ⟨by simp, fun k hk _ => Below.heap_alloc w o k hk, ⟨rfl, rfl, rfl⟩⟩
theorem Kept.set (pb : Nat) (w : World) (k : Nat) (v : Value) : Kept pb w (w.setCell ⟨pb, k, none⟩ v) := ⟨by simp, fun j _ hn => Below.heap_setCell _ _ _ _ hn, (Same.refl w).set _ _⟩

theorem Kept.undrew {pb : Nat} {w w' : World} (h : Kept pb w.drew w') : Kept pb w w' := ⟨h.1, h.2, (Same.refl w).drew.trans h.same⟩
theorem PsAt.move {w : World} {pb tb cap i : Nat} {T : List Tok} {f pl : Int} (h : PsAt w pb tb cap T i f pl) (j : Nat) (hj : j < T.length) : PsAt (w.setCell ⟨pb, 0, none⟩ (.slice (some ⟨tb, j * 5, none⟩) (T.length - j) (cap - j))) pb tb cap T j f pl :=
  ⟨heap_setCell_same _ pb 0 _ _ _ h.blk, h.toks.same (Below.heap_setCell _ _ _ _ (by have := h.low; show tb ≠ pb; omega)), h.low, hj, h.few, h.room⟩
theorem PsAt.fault {w : World} {pb tb cap i : Nat} {T : List Tok} {f pl : Int} (h : PsAt w pb tb cap T i f pl) (f' pl' : Int) : PsAt ((w.setCell ⟨pb, 1, none⟩ (.int .i64 f')).setCell ⟨pb, 2, none⟩ (.int .i64 pl')) pb tb cap T i f' pl' :=
  ⟨heap_setCell_same _ pb 2 _ _ _ (heap_setCell_same _ pb 1 _ _ _ h.blk), (h.toks.same (Below.heap_setCell _ _ _ _ (by have := h.low; show tb ≠ pb; omega))).same (Below.heap_setCell _ _ _ _ (by have := h.low; show tb ≠ pb; omega)), h.low, h.lt, h.few, h.room⟩
theorem PsAt.alloc {w : World} {pb tb cap i : Nat} {T : List Tok} {f pl : Int} (h : PsAt w pb tb cap T i f pl) (o : Obj) : PsAt (w.alloc o) pb tb cap T i f pl := h.later (fun k hk => Below.heap_alloc w o k hk)

set_option maxHeartbeats 1000000 in
theorem take_any (w : World) (pb tb cap i : Nat) (T : List Tok) (f pl : Int) (h : PsAt w pb tb cap T i f pl) (hi : i + 1 < T.length) :
    Calls Try.prog 101 #[.pointer (some ⟨pb, 0, none⟩)] w fun e w' => e = .returned (tokP (tkAt T i)) ∧ PsAt w' pb tb cap T (i + 1) f pl ∧ Kept pb w w' := by
  have c0 := h.cell 0
  have z0 := h.thaw 0
  simp at c0
  obtain ⟨t0, t1, t2, t3, t4⟩ := h.toks i h.lt
  have hl := h.lt
  have hl2 : 1 < T.length - i := by omega
  have hp := h.plt
  have hlow := h.low
  have hroom := h.room
  have hfew := h.few
  have ht : tb < w.heap.size := by omega
  rw [tkAt_get h.lt]
  unfold tokP tkV
  generalize kP T[i] = a at *
  generalize (T[i]).place = b at *
  generalize wP T[i] = c at *
  generalize nP T[i] = d at *
  generalize sP T[i] = e at *
  have hnb : pb ≠ w.heap.size := by omega
  have hnt : tb ≠ w.heap.size := by omega
  have H := hide h
  clear h
  go_enter Try.func101, Try.ntmps101
  go_wp2
  have hmv := (unhide H).move (i + 1) hi
  have ek := Kept.set pb w 0 (.slice (some ⟨tb, (i + 1) * 5, none⟩) (T.length - (i + 1)) (cap - (i + 1)))
  rw [show (i + 1) * 5 = i * 5 + 5 by omega, show T.length - (i + 1) = T.length - i - 1 by omega, show cap - (i + 1) = cap - i - 1 by omega] at hmv ek
  refine bodyPost_ret (v := .agg #[.int .i64 a, .int .i64 b, .string c, .int .i32 d, .int .i32 e]) (by simp [results, Try.results101, go_sem]) rfl ⟨rfl, (hmv.alloc _).alloc _, (ek.trans (Kept.alloc _ _ _)).trans (Kept.alloc _ _ _)⟩

set_option maxHeartbeats 1000000 in
theorem note_any (w : World) (pb tb cap i : Nat) (T : List Tok) (f pl er at_ : Int) (h : PsAt w pb tb cap T i f pl) :
    Calls Try.prog 110 #[.pointer (some ⟨pb, 1, none⟩), .int .i64 er, .int .i64 at_] w fun e w' => e = .returned (.tuple #[]) ∧ PsAt w' pb tb cap T i (if f = 0 then er else f) (if f = 0 then at_ else pl) ∧ Kept pb w w' := by
  have c1 := h.cell 1
  have c2 := h.cell 2
  have z1 := h.thaw 1
  have z2 := h.thaw 2
  simp at c1 c2
  have H := hide h
  clear h
  cases hf : (f == 0)
  · have hf' : ¬ f = 0 := by intro e; rw [e] at hf; cases hf
    rw [if_neg hf', if_neg hf']
    go_enter Try.func110, Try.ntmps110
    go_wp2
    go_end0
    exact ⟨rfl, unhide H, Kept.refl _ _⟩
  · have hf' : f = 0 := by simpa using hf
    rw [if_pos hf', if_pos hf']
    go_enter Try.func110, Try.ntmps110
    go_wp2
    go_end0
    exact ⟨rfl, (unhide H).fault er at_, (Kept.set pb w 1 _).trans (Kept.set pb _ 2 _)⟩

end Go.Proofs.Ythmmgiaobakilaa
