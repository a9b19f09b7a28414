import Derived.Test.YthmmgiaobakilaaJ01
import Derived.Deep.Trees
/- The document's language on data: tokens, the grammar, by plain functions; no memory, no program. -/
set_option maxRecDepth 100000
namespace Go.Proofs.Ythmmgiaobakilaa
open Go.RowKit Go.Deep

/-- A list of strings lies at an address, in blocks below B. -/
def StrsAt (B : Nat) (w : World) (ao : Option Addr) (l : List ByteArray) : Prop :=
  ∃ b off, ao = some ⟨b, off, none⟩ ∧ b < B ∧ ∀ j, j < l.length → w.cell? ⟨b, off + j, none⟩ = some (.string (l.getD j ByteArray.empty))
theorem StrsAt.newAt (w : World) (l : List ByteArray) (B n : Nat) (hn : n = w.heap.size) (hB : n < B) : StrsAt B (w.alloc (.cells (l.map Value.string).toArray 9)) (some ⟨n, 0, none⟩) l := by
  refine ⟨n, 0, rfl, hB, fun j hj => ?_⟩
  rw [World.cell?_alloc_at _ _ _ _ hn, Nat.zero_add]
  simp [List.getD, List.getElem?_eq_getElem hj]

theorem StrsAt.new (w : World) (l : List ByteArray) (B : Nat) (hB : w.heap.size < B) : StrsAt B (w.alloc (.cells (l.map Value.string).toArray 9)) (some ⟨w.heap.size, 0, none⟩) l :=
  StrsAt.newAt w l B w.heap.size rfl hB

def memB (s : ByteArray) (l : List ByteArray) : Bool := l.any (fun t => t.toList == s.toList)
def signs : List ByteArray := [⟨#[226, 134, 144]⟩, ⟨#[226, 128, 166]⟩, ⟨#[195, 151]⟩, ⟨#[195, 183]⟩, ⟨#[226, 137, 164]⟩, ⟨#[226, 137, 160]⟩, ⟨#[43]⟩, ⟨#[45]⟩, ⟨#[61]⟩, ⟨#[60]⟩, ⟨#[40]⟩, ⟨#[41]⟩, ⟨#[123]⟩, ⟨#[125]⟩, ⟨#[91]⟩, ⟨#[93]⟩, ⟨#[44]⟩, ⟨#[59]⟩]
def okS (s : ByteArray) (a : Nat) (g : ByteArray) : Bool := decide (a + g.size ≤ s.size) && ((s.extract a (a + g.size)).toList == g.toList)
/-- The sign that begins at a place; empty: none. -/
def signF (s : ByteArray) (a : Nat) : ByteArray := (signs.find? (okS s a)).getD ⟨#[]⟩
theorem signs_small : ∀ k, k < signs.length → (signs.getD k ByteArray.empty).size ≤ 3 := by decide +kernel

structure Tok where
  kind : Int
  num : Int
  place : Int
  text : ByteArray
def kws : List ByteArray := [⟨#[111, 112, 101, 110]⟩, ⟨#[104, 105, 100, 100, 101, 110]⟩, ⟨#[105, 102]⟩, ⟨#[101, 108, 115, 101]⟩, ⟨#[102, 111, 114]⟩, ⟨#[111, 117, 116]⟩, ⟨#[104, 105, 100, 101]⟩, ⟨#[115, 101, 108]⟩, ⟨#[109, 105, 110]⟩, ⟨#[109, 97, 120]⟩, ⟨#[112, 101, 101, 107]⟩, ⟨#[115, 112, 121]⟩]

def wordAt (s : ByteArray) (a : Nat) : ByteArray := s.extract a (a + rowN false ((nums s).drop a))
def numAt (s : ByteArray) (a : Nat) : ByteArray := s.extract a (a + rowN true ((nums s).drop a))
def wordTok (s : ByteArray) (a : Nat) : Tok := ⟨if memB (wordAt s a) kws then 0 else 1, 0, a, wordAt s a⟩
def numTok (s : ByteArray) (a : Nat) : Tok := ⟨2, numV (nums (numAt s a)), a, numAt s a⟩
def signTok (s : ByteArray) (a : Nat) : Tok := ⟨3, 0, a, signF s a⟩
def blankAt (s : ByteArray) (a : Nat) : Bool := (nums s).getD a 0 == 32 || (nums s).getD a 0 == 10

/-- All tokens from a place on, behind those that are there; none: no token begins at that place. -/
def lex (s : ByteArray) : Nat → Nat → List Tok → Option (List Tok) × Nat
  | 0, a, acc => (some acc, a)
  | f + 1, a, acc =>
    if a < s.size then
      (if blankAt s a then lex s f (a + 1) acc
       else if 0 < (wordAt s a).size then lex s f (a + (wordAt s a).size) (acc ++ [wordTok s a])
       else if 0 < (numAt s a).size then (if 65535 < numV (nums (numAt s a)) then (none, a) else lex s f (a + (numAt s a).size) (acc ++ [numTok s a]))
       else if 0 < (signF s a).size then lex s f (a + (signF s a).size) (acc ++ [signTok s a])
       else (none, a))
    else (some acc, a)
def overTok (a : Nat) : Tok := ⟨4, 0, a, ⟨#[]⟩⟩

theorem rowN_le (d : Bool) (L : List Int) : rowN d L ≤ L.length := by unfold rowN; exact (List.takeWhile_prefix _).length_le
theorem word_size (s : ByteArray) (a : Nat) (ha : a ≤ s.size) : (wordAt s a).size = rowN false ((nums s).drop a) ∧ a + (wordAt s a).size ≤ s.size := by
  have := rowN_le false ((nums s).drop a)
  rw [List.length_drop, nums_length] at this
  rw [wordAt, ByteArray.size_extract]; omega
theorem num_size (s : ByteArray) (a : Nat) (ha : a ≤ s.size) : (numAt s a).size = rowN true ((nums s).drop a) ∧ a + (numAt s a).size ≤ s.size := by
  have := rowN_le true ((nums s).drop a)
  rw [List.length_drop, nums_length] at this
  rw [numAt, ByteArray.size_extract]; omega
theorem num_digits (s : ByteArray) (a : Nat) : ∀ x ∈ nums (numAt s a), digB x = true := by
  intro x hx
  rw [numAt, nums_extract, show a + rowN true ((nums s).drop a) - a = rowN true ((nums s).drop a) by omega] at hx
  have e : ((nums s).drop a).take (rowN true ((nums s).drop a)) = ((nums s).drop a).takeWhile (fun x => if true then digB x else letB x) := by
    unfold rowN
    exact (List.prefix_iff_eq_take.1 (List.takeWhile_prefix _)).symm
  rw [e] at hx
  have := List.all_eq_true.1 (List.all_takeWhile (l := (nums s).drop a) (p := fun x => if true then digB x else letB x)) x hx
  simpa using this
theorem sign_size (s : ByteArray) (a : Nat) : (signF s a).size ≤ 3 ∧ (0 < (signF s a).size → a + (signF s a).size ≤ s.size) := by
  unfold signF
  cases h : signs.find? (okS s a) with
  | none => exact ⟨by decide, fun h => absurd h (by decide)⟩
  | some g =>
    have hm := List.mem_of_find?_eq_some h
    have hp := List.find?_some h
    obtain ⟨j, hj, rfl⟩ := List.getElem_of_mem hm
    have := signs_small j hj
    simp only [List.getD, List.getElem?_eq_getElem hj, Option.getD_some] at this
    simp only [okS, Bool.and_eq_true, decide_eq_true_eq] at hp
    exact ⟨this, fun _ => hp.1⟩

def opsT : List ByteArray := [⟨#[195, 151]⟩, ⟨#[195, 183]⟩]
def opsS : List ByteArray := [⟨#[43]⟩, ⟨#[45]⟩]
def opsE : List ByteArray := [⟨#[61]⟩, ⟨#[226, 137, 160]⟩, ⟨#[60]⟩, ⟨#[226, 137, 164]⟩]

def sBO : ByteArray := ⟨#[91]⟩
def sBC : ByteArray := ⟨#[93]⟩
def sCM : ByteArray := ⟨#[44]⟩
def sPO : ByteArray := ⟨#[40]⟩
def sPC : ByteArray := ⟨#[41]⟩
def sAR : ByteArray := ⟨#[226, 134, 144]⟩
def sSC : ByteArray := ⟨#[59]⟩
def sDT : ByteArray := ⟨#[226, 128, 166]⟩
def sCO : ByteArray := ⟨#[123]⟩
def sCC : ByteArray := ⟨#[125]⟩
def sELSE : ByteArray := ⟨#[101, 108, 115, 101]⟩

def sIF : ByteArray := ⟨#[105, 102]⟩
def sFOR : ByteArray := ⟨#[102, 111, 114]⟩
def sOUT : ByteArray := ⟨#[111, 117, 116]⟩
def sHIDE : ByteArray := ⟨#[104, 105, 100, 101]⟩
def sOPEN : ByteArray := ⟨#[111, 112, 101, 110]⟩
def sHIDDEN : ByteArray := ⟨#[104, 105, 100, 100, 101, 110]⟩
/-- Expressions side by side: a head, its operands, what stands beside it. -/
abbrev Ex := BT Tok
def leafE (t : Tok) : Ex := .node 0 0 t .nil .nil
def besideE (a r : Ex) : Ex := match a with
  | .nil => .nil
  | .node b o t k _ => .node b o t k r
def node1 (t : Tok) (a : Ex) : Ex := .node 0 0 t (besideE a .nil) .nil
def node2 (t : Tok) (a b : Ex) : Ex := .node 0 0 t (besideE a (besideE b .nil)) .nil
def node3 (t : Tok) (a b c : Ex) : Ex := .node 0 0 t (besideE a (besideE b (besideE c .nil))) .nil

abbrev PR (α : Type) := Option (Except Nat (α × Nat))
def andThen {α β : Type} (r : PR α) (f : α → Nat → PR β) : PR β := match r with
  | none => none
  | some (.error k) => some (.error k)
  | some (.ok (a, j)) => f a j
def got {α : Type} (a : α) (j : Nat) : PR α := some (.ok (a, j))
def bad {α : Type} (k : Nat) : PR α := some (.error k)

def tkAt (T : List Tok) (i : Nat) : Tok := T.getD i ⟨4, 0, 0, ⟨#[]⟩⟩
def isT (T : List Tok) (i : Nat) (s : ByteArray) : Bool := (((tkAt T i).kind == 3) || ((tkAt T i).kind == 0)) && ((tkAt T i).text.toList == s.toList)
def pNeed (T : List Tok) (s : ByteArray) (i : Nat) : PR Unit := if isT T i s then got () (i + 1) else bad i
def pKind (T : List Tok) (k : Int) (i : Nat) : PR Tok := if (tkAt T i).kind == k then got (tkAt T i) (i + 1) else bad i

abbrev PE := List Tok → Nat → PR Ex
def pChain (M : PE) (ops : List ByteArray) (T : List Tok) : Nat → Ex → Nat → PR Ex
  | 0, _, _ => none
  | n + 1, e, i => if ops.any (isT T i) then andThen (M T (i + 1)) fun x j => pChain M ops T n (node2 (tkAt T i) e x) j else got e i
def pLevel (M : PE) (ops : List ByteArray) (n : Nat) : PE := fun T i => if n = 0 then none else andThen (M T i) (pChain M ops T n)
def pPair (M : PE) (T : List Tok) (e : Ex) (i : Nat) : PR Ex := if opsE.any (isT T i) then andThen (M T (i + 1)) fun x j => got (node2 (tkAt T i) e x) j else got e i
def pExpr (M : PE) : PE := fun T i => andThen (M T i) (pPair M T)

def sPEEK : ByteArray := ⟨#[112, 101, 101, 107]⟩
def sSPY : ByteArray := ⟨#[115, 112, 121]⟩
def sSEL : ByteArray := ⟨#[115, 101, 108]⟩
def sMIN : ByteArray := ⟨#[109, 105, 110]⟩
def sMAX : ByteArray := ⟨#[109, 97, 120]⟩
def sNEG : ByteArray := ⟨#[45]⟩
/-- Two expressions between brackets. -/
def pTwo (X : PE) (l r : ByteArray) (T : List Tok) (i : Nat) : PR Ex :=
  andThen (pNeed T l (i + 1)) fun _ j => andThen (X T j) fun a j => andThen (pNeed T sCM j) fun _ j => andThen (X T j) fun b j => andThen (pNeed T r j) fun _ j => got (node2 (tkAt T i) a b) j
def pThree (X : PE) (l r : ByteArray) (T : List Tok) (i : Nat) : PR Ex :=
  andThen (pNeed T l (i + 1)) fun _ j => andThen (X T j) fun a j => andThen (pNeed T sCM j) fun _ j => andThen (X T j) fun b j => andThen (pNeed T sCM j) fun _ j => andThen (X T j) fun c j => andThen (pNeed T r j) fun _ j => got (node3 (tkAt T i) a b c) j
def pFactor (X F : PE) : PE := fun T i =>
  if (tkAt T i).kind == 2 then got (leafE (tkAt T i)) (i + 1) else
  if (tkAt T i).kind == 1 then got (leafE (tkAt T i)) (i + 1) else
  if isT T i sPO then (andThen (X T (i + 1)) fun e j => andThen (pNeed T sPC j) fun _ j => got e j) else
  if isT T i sNEG then (andThen (F T (i + 1)) fun e j => got (node1 (tkAt T i) e) j) else
  if isT T i sPEEK then pTwo X sBO sBC T i else
  if isT T i sSPY then pTwo X sBO sBC T i else
  if isT T i sMIN then pTwo X sPO sPC T i else
  if isT T i sMAX then pTwo X sPO sPC T i else
  if isT T i sSEL then pThree X sPO sPC T i else
  bad i
def noP : PE := fun _ _ => none
def pXF : Nat → PE × PE
  | 0 => (noP, noP)
  | n + 1 => if n < 2 then (noP, noP) else (pExpr (pLevel (pLevel (pFactor (pXF n).1 (pXF n).2) opsT (n - 1)) opsS (n - 1)), pFactor (pXF n).1 (pXF n).2)

/-- A statement's own words: 0 a name and what it is to be; 1 if; 2 for, its name and numbers; 3 out; 4 hide; 5 the two blocks of an if. -/
structure SP where
  tag : Nat
  t : Tok
  a : Tok
  b : Tok
  e : Ex
abbrev Sx := BT SP
def noTok : Tok := ⟨4, 0, 0, ⟨#[]⟩⟩
def besideS (a r : Sx) : Sx := match a with
  | .nil => .nil
  | .node b o t k _ => .node b o t k r
abbrev PS := List Tok → Nat → PR Sx
def pAssign (X : PE) : PS := fun T i => andThen (pNeed T sAR (i + 1)) fun _ j => andThen (X T j) fun e j => andThen (pNeed T sSC j) fun _ j => got (.node 0 0 ⟨0, tkAt T i, noTok, noTok, e⟩ .nil .nil) j
def pPut (X : PE) (tag : Nat) : PS := fun T i => andThen (X T (i + 1)) fun e j => andThen (pNeed T sSC j) fun _ j => got (.node 0 0 ⟨tag, tkAt T i, noTok, noTok, e⟩ .nil .nil) j
def pElse (B : PS) (T : List Tok) (i : Nat) (e : Ex) (s : Sx) (j : Nat) : PR Sx :=
  if isT T j sELSE then andThen (B T (j + 1)) fun u k => got (.node 0 0 ⟨1, tkAt T i, noTok, noTok, e⟩ (.node 0 0 ⟨5, noTok, noTok, noTok, .nil⟩ s u) .nil) k
  else got (.node 0 0 ⟨1, tkAt T i, noTok, noTok, e⟩ (.node 0 0 ⟨5, noTok, noTok, noTok, .nil⟩ s .nil) .nil) j
def pIf (X : PE) (B : PS) : PS := fun T i => andThen (X T (i + 1)) fun e j => andThen (B T j) fun s j => pElse B T i e s j
def pFor (B : PS) : PS := fun T i => andThen (pKind T 1 (i + 1)) fun n j => andThen (pKind T 2 j) fun a j => andThen (pNeed T sDT j) fun _ j => andThen (pKind T 2 j) fun b j => andThen (B T j) fun s j => got (.node 0 0 ⟨2, n, a, b, .nil⟩ s .nil) j
def pStatement (X : PE) (B : PS) : PS := fun T i =>
  if (tkAt T i).kind == 1 then pAssign X T i else
  if isT T i sIF then pIf X B T i else
  if isT T i sFOR then pFor B T i else
  if isT T i sOUT then pPut X 3 T i else
  if isT T i sHIDE then pPut X 4 T i else
  bad i
/-- Statements as far as the brace. -/
def pItems (S : PS) (T : List Tok) : Nat → Nat → PR Sx
  | 0, _ => none
  | n + 1, i => if isT T i sCC then got .nil (i + 1) else andThen (S T i) fun s j => andThen (pItems S T n j) fun r k => got (besideS s r) k
def pBlock (S : PS) (n : Nat) : PS := fun T i => if n = 0 then none else andThen (pNeed T sCO i) fun _ j => pItems S T n j
def noS : PS := fun _ _ => none
def pSB : Nat → PS × PS
  | 0 => (noS, noS)
  | n + 1 => if n < 2 then (noS, noS) else (pStatement (pXF n).1 (pSB n).2, pBlock (pSB n).1 (n - 1))
/-- Statements as far as the end. -/
def pBody (S : PS) (T : List Tok) : Nat → Nat → PR Sx
  | 0, _ => none
  | n + 1, i => if (tkAt T i).kind == 4 then got .nil i else andThen (S T i) fun s j => andThen (pBody S T n j) fun r k => got (besideS s r) k
/-- Names with commas. -/
def pNames (T : List Tok) (hd : Bool) : Nat → Nat → PR (List (Tok × Bool))
  | 0, _ => none
  | n + 1, i => andThen (pKind T 1 i) fun t j => if isT T j sCM then andThen (pNames T hd n (j + 1)) fun l k => got ((t, hd) :: l) k else andThen (pNeed T sSC j) fun _ k => got [(t, hd)] k
def pDecls (T : List Tok) (f : Nat) : Nat → Nat → PR (List (Tok × Bool))
  | 0, _ => none
  | n + 1, i => if isT T i sOPEN || isT T i sHIDDEN then andThen (pNames T (isT T i sHIDDEN) f (i + 1)) fun l j => andThen (pDecls T f n j) fun m k => got (l ++ m) k else got [] i
/-- A source. -/
def pSource (n : Nat) (T : List Tok) : PR (List (Tok × Bool) × Sx) := andThen (pDecls T n (n - 1) 0) fun ds j => andThen (pBody (pSB n).1 T (n - 1) j) fun s k => got (ds, s) k

theorem lex_len (s : ByteArray) (f : Nat) : ∀ a acc l p, acc.length ≤ a → a ≤ s.size → lex s f a acc = (some l, p) → l.length ≤ s.size := by
  induction f with
  | zero =>
    intro a acc l p h1 h2 h
    simp only [lex, Prod.mk.injEq, Option.some.injEq] at h
    rw [← h.1]; omega
  | succ f ih =>
    intro a acc l p h1 h2 h
    rw [lex] at h
    split at h
    · rename_i hlt
      have w1 := (word_size s a h2).2
      have w2 := (num_size s a h2).2
      have w3 := (sign_size s a).2
      split at h
      · exact ih (a + 1) acc l p (by omega) (by omega) h
      split at h
      · exact ih _ _ l p (by simp; omega) w1 h
      split at h
      · split at h
        · cases h
        · exact ih _ _ l p (by simp; omega) w2 h
      split at h
      · rename_i h3
        exact ih _ _ l p (by simp; omega) (w3 h3) h
      · cases h
    · simp only [Prod.mk.injEq, Option.some.injEq] at h
      rw [← h.1]; omega


def LastOver (T : List Tok) : Prop := 0 < T.length ∧ (tkAt T (T.length - 1)).kind = 4
theorem next_lt {T : List Tok} (h : LastOver T) {i : Nat} (hi : i < T.length) (hk : (tkAt T i).kind ≠ 4) : i + 1 < T.length := by
  rcases Nat.lt_or_ge (i + 1) T.length with h1 | h1
  · exact h1
  · exfalso
    have e : i = T.length - 1 := by omega
    rw [e] at hk
    exact hk h.2
theorem isT_kind {T : List Tok} {i : Nat} {s : ByteArray} (h : isT T i s = true) : (tkAt T i).kind ≠ 4 := by
  intro e
  simp [isT, e] at h
theorem isT_next {T : List Tok} (h : LastOver T) {i : Nat} {s : ByteArray} (hi : i < T.length) (hs : isT T i s = true) : i + 1 < T.length := next_lt h hi (isT_kind hs)

/-- From a on if it is wrong, from b on if not; never beyond the last. -/
def Fwd {α : Type} (T : List Tok) (a b : Nat) : PR α → Prop
  | none => True
  | some (.error k) => a ≤ k ∧ k < T.length
  | some (.ok (_, j)) => b ≤ j ∧ j < T.length
theorem fwd_then {α β : Type} {T : List Tok} {a b c : Nat} {r : PR α} {f : α → Nat → PR β} (h : Fwd T a b r) (hf : ∀ x j, b ≤ j → j < T.length → Fwd T a c (f x j)) : Fwd T a c (andThen r f) := by
  match r, h with
  | none, _ => trivial
  | some (.error k), h => exact h
  | some (.ok (x, j)), h => exact hf x j h.1 h.2
theorem Fwd.mono {α : Type} {T : List Tok} {a a' b b' : Nat} {r : PR α} (h : Fwd T a b r) (ha : a' ≤ a) (hb : b' ≤ b) : Fwd T a' b' r := by
  match r, h with
  | none, _ => trivial
  | some (.error k), h => exact ⟨Nat.le_trans ha h.1, h.2⟩
  | some (.ok (x, j)), h => exact ⟨Nat.le_trans hb h.1, h.2⟩
theorem fwd_got {α : Type} {T : List Tok} {a b j : Nat} {x : α} (h1 : b ≤ j) (h2 : j < T.length) : Fwd T a b (got x j) := ⟨h1, h2⟩
theorem fwd_bad {α : Type} {T : List Tok} {a b k : Nat} (h1 : a ≤ k) (h2 : k < T.length) : Fwd T a b (bad k : PR α) := ⟨h1, h2⟩
theorem need_fwd {T : List Tok} (h : LastOver T) {i : Nat} {s : ByteArray} (hi : i < T.length) : Fwd T i (i + 1) (pNeed T s i) := by
  unfold pNeed
  split
  · rename_i hs; exact fwd_got (Nat.le_refl _) (isT_next h hi hs)
  · exact fwd_bad (Nat.le_refl _) hi
def FwdP {α : Type} (P : List Tok → Nat → PR α) : Prop := ∀ T i, LastOver T → i < T.length → Fwd T i (i + 1) (P T i)
theorem chain_fwd {M : PE} (hM : FwdP M) (ops : List ByteArray) {T : List Tok} (h : LastOver T) (n : Nat) : ∀ e i, i < T.length → Fwd T i i (pChain M ops T n e i) := by
  induction n with
  | zero => intro e i hi; trivial
  | succ n ih =>
    intro e i hi
    rw [pChain]
    split
    · rename_i ha
      obtain ⟨s, _, hs⟩ := List.any_eq_true.1 ha
      have h1 := isT_next h hi hs
      exact fwd_then ((hM T (i + 1) h h1).mono (by omega) (Nat.le_refl _)) (fun x j hj hl => (ih _ j hl).mono (by omega) (by omega))
    · exact fwd_got (Nat.le_refl _) hi
theorem level_fwd {M : PE} (hM : FwdP M) (ops : List ByteArray) (n : Nat) : FwdP (pLevel M ops n) := by
  intro T i h hi
  unfold pLevel
  split
  · trivial
  · exact fwd_then (hM T i h hi) (fun x j hj hl => (chain_fwd hM ops h n x j hl).mono (by omega) hj)
theorem expr_fwd {M : PE} (hM : FwdP M) : FwdP (pExpr M) := by
  intro T i h hi
  refine fwd_then (hM T i h hi) (fun x j hj hl => ?_)
  unfold pPair
  split
  · rename_i ha
    obtain ⟨s, _, hs⟩ := List.any_eq_true.1 ha
    have h1 := isT_next h hl hs
    exact fwd_then ((hM T (j + 1) h h1).mono (by omega) (Nat.le_refl _)) (fun x k hk hl => fwd_got (by omega) hl)
  · exact fwd_got hj hl
theorem two_fwd {X : PE} (hX : FwdP X) {l r : ByteArray} {T : List Tok} (h : LastOver T) {i : Nat} (hi : i + 1 < T.length) : Fwd T i (i + 1) (pTwo X l r T i) := by
  unfold pTwo
  refine fwd_then ((need_fwd h hi).mono (by omega) (Nat.le_refl _)) (fun _ j hj hl => ?_)
  refine fwd_then ((hX T j h hl).mono (by omega) (Nat.le_refl _)) (fun _ j2 hj2 hl2 => ?_)
  refine fwd_then ((need_fwd h hl2).mono (by omega) (Nat.le_refl _)) (fun _ j3 hj3 hl3 => ?_)
  refine fwd_then ((hX T j3 h hl3).mono (by omega) (Nat.le_refl _)) (fun _ j4 hj4 hl4 => ?_)
  refine fwd_then ((need_fwd h hl4).mono (by omega) (Nat.le_refl _)) (fun _ j5 hj5 hl5 => ?_)
  exact fwd_got (by omega) hl5
theorem three_fwd {X : PE} (hX : FwdP X) {l r : ByteArray} {T : List Tok} (h : LastOver T) {i : Nat} (hi : i + 1 < T.length) : Fwd T i (i + 1) (pThree X l r T i) := by
  unfold pThree
  refine fwd_then ((need_fwd h hi).mono (by omega) (Nat.le_refl _)) (fun _ j hj hl => ?_)
  refine fwd_then ((hX T j h hl).mono (by omega) (Nat.le_refl _)) (fun _ j2 hj2 hl2 => ?_)
  refine fwd_then ((need_fwd h hl2).mono (by omega) (Nat.le_refl _)) (fun _ j3 hj3 hl3 => ?_)
  refine fwd_then ((hX T j3 h hl3).mono (by omega) (Nat.le_refl _)) (fun _ j4 hj4 hl4 => ?_)
  refine fwd_then ((need_fwd h hl4).mono (by omega) (Nat.le_refl _)) (fun _ j5 hj5 hl5 => ?_)
  refine fwd_then ((hX T j5 h hl5).mono (by omega) (Nat.le_refl _)) (fun _ j6 hj6 hl6 => ?_)
  refine fwd_then ((need_fwd h hl6).mono (by omega) (Nat.le_refl _)) (fun _ j7 hj7 hl7 => ?_)
  exact fwd_got (by omega) hl7
theorem factor_fwd {X F : PE} (hX : FwdP X) (hF : FwdP F) : FwdP (pFactor X F) := by
  intro T i h hi
  unfold pFactor
  have leaf : ∀ k : Int, k ≠ 4 → ((tkAt T i).kind == k) = true → i + 1 < T.length := fun k hk hs => by
    have e : (tkAt T i).kind = k := by simpa using hs
    exact next_lt h hi (by rw [e]; exact hk)
  split
  · rename_i hs; exact fwd_got (Nat.le_refl _) (leaf 2 (by decide) hs)
  split
  · rename_i hs; exact fwd_got (Nat.le_refl _) (leaf 1 (by decide) hs)
  split
  · rename_i hs
    refine fwd_then ((hX T (i + 1) h (isT_next h hi hs)).mono (by omega) (Nat.le_refl _)) (fun _ j hj hl => ?_)
    exact fwd_then ((need_fwd h hl).mono (by omega) (Nat.le_refl _)) (fun _ k hk hl => fwd_got (by omega) hl)
  split
  · rename_i hs
    exact fwd_then ((hF T (i + 1) h (isT_next h hi hs)).mono (by omega) (Nat.le_refl _)) (fun _ j hj hl => fwd_got (by omega) hl)
  split
  · rename_i hs; exact two_fwd hX h (isT_next h hi hs)
  split
  · rename_i hs; exact two_fwd hX h (isT_next h hi hs)
  split
  · rename_i hs; exact two_fwd hX h (isT_next h hi hs)
  split
  · rename_i hs; exact two_fwd hX h (isT_next h hi hs)
  split
  · rename_i hs; exact three_fwd hX h (isT_next h hi hs)
  · exact fwd_bad (Nat.le_refl _) hi
theorem pXF_fwd (n : Nat) : FwdP (pXF n).1 ∧ FwdP (pXF n).2 := by
  induction n with
  | zero => exact ⟨fun _ _ _ _ => trivial, fun _ _ _ _ => trivial⟩
  | succ n ih =>
    rw [pXF]
    split
    · exact ⟨fun _ _ _ _ => trivial, fun _ _ _ _ => trivial⟩
    have f := factor_fwd ih.1 ih.2
    exact ⟨expr_fwd (level_fwd (level_fwd f opsT _) opsS _), f⟩

theorem need_some (T : List Tok) (s : ByteArray) (i : Nat) : ∃ r, pNeed T s i = some r := by unfold pNeed; split <;> exact ⟨_, rfl⟩
theorem then_ok {α β : Type} {r : PR α} {f : α → Nat → PR β} {y : β × Nat} (h : andThen r f = some (.ok y)) : ∃ x j, r = some (.ok (x, j)) ∧ f x j = some (.ok y) := by
  match r, h with
  | none, h => cases h
  | some (.error k), h => cases h
  | some (.ok (x, j)), h => exact ⟨x, j, rfl, h⟩
theorem bytes_eq {a b : ByteArray} (h : a.toList = b.toList) : a = b := by
  rw [ByteArray.toList_eq, ByteArray.toList_eq] at h
  have := Array.toList_inj.1 h
  cases a; cases b; simp at this; rw [this]
theorem isT_text {T : List Tok} {i : Nat} {s : ByteArray} (h : isT T i s = true) : (tkAt T i).text = s := by
  simp only [isT, Bool.and_eq_true] at h
  exact bytes_eq (by simpa using h.2)
theorem isT_leaf {T : List Tok} {i : Nat} {s : ByteArray} (h : isT T i s = true) : (((tkAt T i).kind == 2) || ((tkAt T i).kind == 1)) = false := by
  simp only [isT, Bool.and_eq_true, Bool.or_eq_true] at h
  rcases h.1 with e | e
  · have e' : (tkAt T i).kind = 3 := by simpa using e
    rw [e']; rfl
  · have e' : (tkAt T i).kind = 0 := by simpa using e
    rw [e']; rfl
/-- Trees as the grammar makes them. -/
def lenE : Ex → Nat
  | .nil => 0
  | .node _ _ _ _ r => lenE r + 1
theorem lex_nums (s : ByteArray) (f : Nat) : ∀ a acc l p, (∀ t ∈ acc, 0 ≤ t.num ∧ t.num ≤ 65536) → lex s f a acc = (some l, p) → ∀ t ∈ l, 0 ≤ t.num ∧ t.num ≤ 65536 := by
  induction f with
  | zero =>
    intro a acc l p h1 h
    simp only [lex, Prod.mk.injEq, Option.some.injEq] at h
    rw [← h.1]; exact h1
  | succ f ih =>
    intro a acc l p h1 h
    rw [lex] at h
    have sn : ∀ t : Tok, 0 ≤ t.num ∧ t.num ≤ 65536 → ∀ u ∈ acc ++ [t], 0 ≤ u.num ∧ u.num ≤ 65536 := fun t ht u hu => by
      rcases List.mem_append.1 hu with hu | hu
      · exact h1 u hu
      · simp at hu; rw [hu]; exact ht
    split at h
    · split at h
      · exact ih _ _ l p h1 h
      split at h
      · exact ih _ _ l p (sn _ ⟨by simp [wordTok], by simp [wordTok]⟩) h
      split at h
      · split at h
        · cases h
        · exact ih _ _ l p (sn _ (numV_bounds _ (num_digits s a))) h
      split at h
      · exact ih _ _ l p (sn _ ⟨by simp [signTok], by simp [signTok]⟩) h
      · cases h
    · simp only [Prod.mk.injEq, Option.some.injEq] at h
      rw [← h.1]; exact h1
theorem toks_ok {s : ByteArray} {l : List Tok} {p : Nat} (hs : s.size ≤ 300) (h : lex s s.size 0 [] = (some l, p)) : LastOver (l ++ [overTok p]) ∧ (∀ i, 0 ≤ (tkAt (l ++ [overTok p]) i).num ∧ (tkAt (l ++ [overTok p]) i).num ≤ 65536) ∧ (l ++ [overTok p]).length ≤ 900 := by
  have hl := lex_len s s.size 0 [] l p (by simp) (by omega) h
  have hn := lex_nums s s.size 0 [] l p (by intro t ht; cases ht) h
  refine ⟨⟨by simp, ?_⟩, fun i => ?_, by simp; omega⟩
  · simp [tkAt, overTok]
  · unfold tkAt
    rcases Nat.lt_or_ge i (l ++ [overTok p]).length with hi | hi
    · have hm : (l ++ [overTok p]).getD i ⟨4, 0, 0, ⟨#[]⟩⟩ ∈ l ++ [overTok p] := by
        rw [List.getD, List.getElem?_eq_getElem hi, Option.getD_some]
        exact List.getElem_mem hi
      rcases List.mem_append.1 hm with hm | hm
      · exact hn _ hm
      · simp only [List.mem_singleton] at hm
        rw [hm]
        exact ⟨Int.le_refl 0, by show (0 : Int) ≤ 65536; decide⟩
    · rw [List.getD, List.getElem?_eq_none hi, Option.getD_none]
      exact ⟨by decide, by decide⟩
end Go.Proofs.Ythmmgiaobakilaa

/- The walks of the reference's letter, digit, row, value, among. -/
set_option maxRecDepth 100000
namespace Go.Proofs.Ythmmgiaobakilaa
open Go.RowKit

theorem let_any (x : Int) (w : World) : Calls Try.prog 81 #[.int .u8 x] w fun e w' => e = .returned (.bool (letB x)) ∧ w' = w := by
  by_cases h1 : 97 ≤ x
  · go_enter Try.func81, Try.ntmps81
    go_wp2
    all_goals go_ret
    all_goals exact ⟨ret_bool (by simp [letB, h1]), rfl⟩
  · have h2 : decide (97 ≤ x) = false := by simpa using h1
    go_enter Try.func81, Try.ntmps81
    go_wp2
    all_goals go_ret
    all_goals exact ⟨ret_bool (by simp [letB, h2]), rfl⟩
theorem dig_any (x : Int) (w : World) : Calls Try.prog 82 #[.int .u8 x] w fun e w' => e = .returned (.bool (digB x)) ∧ w' = w := by
  by_cases h1 : 48 ≤ x
  · go_enter Try.func82, Try.ntmps82
    go_wp2
    all_goals go_ret
    all_goals exact ⟨ret_bool (by simp [digB, h1]), rfl⟩
  · have h2 : decide (48 ≤ x) = false := by simpa using h1
    go_enter Try.func82, Try.ntmps82
    go_wp2
    all_goals go_ret
    all_goals exact ⟨ret_bool (by simp [digB, h2]), rfl⟩

theorem rowN_eq (d : Bool) (s : ByteArray) (a k : Nat) (hak : a ≤ k) (hk : k ≤ s.size) (h1 : ∀ j, a ≤ j → j < k → (if d then digB ((nums s).getD j 0) else letB ((nums s).getD j 0)) = true)
    (h2 : k = s.size ∨ (if d then digB ((nums s).getD k 0) else letB ((nums s).getD k 0)) = false) : a + rowN d ((nums s).drop a) = k := by
  have hg : ∀ j, ((nums s).drop a).getD j 0 = (nums s).getD (a + j) 0 := fun j => by simp [List.getD, List.getElem?_drop]
  have := takeWhile_len (fun x => if d then digB x else letB x) ((nums s).drop a) (k - a) (by rw [List.length_drop, nums_length]; omega)
    (fun j hj => by rw [hg]; exact h1 (a + j) (by omega) (by omega))
    (by rcases h2 with h2 | h2
        · left; rw [List.length_drop, nums_length]; omega
        · right; rw [hg, show a + (k - a) = k by omega]; exact h2)
  unfold rowN
  omega
theorem nums_getD (s : ByteArray) (j : Nat) (h : j < s.size) : (nums s).getD j 0 = (s[j].toNat : Int) := by
  simp [List.getD, nums_get s j h]

set_option maxHeartbeats 1000000 in
theorem row_any (s : ByteArray) (a : Nat) (d : Bool) (w : World) (hs : s.size ≤ 300) (ha : a ≤ s.size) :
    Calls Try.prog 52 #[.string s, .int .i64 a, .bool d] w fun e w' => e = .returned (.string (s.extract a (a + rowN d ((nums s).drop a)))) ∧ w' = w := by
  go_enter Try.func52, Try.ntmps52
  go_wp2
  go_loop [7] (fun i => ∃ k : Nat, a ≤ k ∧ k ≤ s.size ∧ i = .int .i64 k ∧ ∀ j, a ≤ j → j < k → (if d then digB ((nums s).getD j 0) else letB ((nums s).getD j 0)) = true) (fun i => s.size - (intOf i).toNat)
  case atStart => exact ⟨a, Nat.le_refl _, ha, rfl, fun j h1 h2 => by omega⟩
  case round =>
    obtain ⟨k, hak, hk, rfl, hall⟩ := hrel
    have HA := hide hall
    clear hall
    by_cases hlt : k < s.size
    · have HG := hide (nums_getD s k hlt)
      have hb0 : ((s[k]'hlt).toNat : Int) ≤ 255 := by have := (s[k]'hlt).toNat_lt; omega
      cases d
      · cases hc : letB (s[k]'hlt).toNat
        · have HR : Hid (a + rowN false ((nums s).drop a) = k) := rowN_eq false s a k hak hk (unhide HA) (.inr (by rw [unhide HG]; simpa using hc))
          go_wp2_with (first | (go_at_call 81; refine (let_any _ _).mono ?_; rintro e w' ⟨rfl, rfl⟩) | (go_at_call 82; refine (dig_any _ _).mono ?_; rintro e w' ⟨rfl, rfl⟩))
          go_ret
          exact ⟨by rw [unhide HR]; rfl, rfl⟩
        · have HK : Hid (∀ j, a ≤ j → j < k + 1 → (if false = true then digB ((nums s).getD j 0) else letB ((nums s).getD j 0)) = true) := fun j h1 h2 => by
            by_cases hj : j < k
            · exact unhide HA j h1 hj
            · have : j = k := by omega
              subst this
              rw [unhide HG]; simpa using hc
          go_wp2_with (first | (go_at_call 81; refine (let_any _ _).mono ?_; rintro e w' ⟨rfl, rfl⟩) | (go_at_call 82; refine (dig_any _ _).mono ?_; rintro e w' ⟨rfl, rfl⟩))
          go_round
          case rel => exact ⟨k + 1, by omega, by omega, by go_num, unhide HK⟩
          case measure => simp [intOf]; omega
      · cases hc : digB (s[k]'hlt).toNat
        · have HR : Hid (a + rowN true ((nums s).drop a) = k) := rowN_eq true s a k hak hk (unhide HA) (.inr (by rw [unhide HG]; simpa using hc))
          go_wp2_with (first | (go_at_call 81; refine (let_any _ _).mono ?_; rintro e w' ⟨rfl, rfl⟩) | (go_at_call 82; refine (dig_any _ _).mono ?_; rintro e w' ⟨rfl, rfl⟩))
          go_ret
          exact ⟨by rw [unhide HR]; rfl, rfl⟩
        · have HK : Hid (∀ j, a ≤ j → j < k + 1 → (if true = true then digB ((nums s).getD j 0) else letB ((nums s).getD j 0)) = true) := fun j h1 h2 => by
            by_cases hj : j < k
            · exact unhide HA j h1 hj
            · have : j = k := by omega
              subst this
              rw [unhide HG]; simpa using hc
          go_wp2_with (first | (go_at_call 81; refine (let_any _ _).mono ?_; rintro e w' ⟨rfl, rfl⟩) | (go_at_call 82; refine (dig_any _ _).mono ?_; rintro e w' ⟨rfl, rfl⟩))
          go_round
          case rel => exact ⟨k + 1, by omega, by omega, by go_num, unhide HK⟩
          case measure => simp [intOf]; omega
    · have HR : Hid (a + rowN d ((nums s).drop a) = k) := rowN_eq d s a k hak hk (unhide HA) (.inl (by omega))
      go_wp2
      go_ret
      exact ⟨by rw [unhide HR]; rfl, rfl⟩

set_option maxHeartbeats 1000000 in
theorem value_any (s : ByteArray) (w : World) (hs : s.size ≤ 300) (hd : ∀ x ∈ nums s, digB x = true) :
    Calls Try.prog 55 #[.string s] w fun e w' => e = .returned (.int .i64 (numV (nums s))) ∧ w' = w := by
  go_enter Try.func55, Try.ntmps55
  go_wp2
  go_loop [3, 4] (fun n i => ∃ k : Nat, k ≤ s.size ∧ i = .int .i64 k ∧ n = .int .i64 (numV ((nums s).take k))) (fun _ i => s.size - (intOf i).toNat)
  case atStart => exact ⟨0, Nat.zero_le _, rfl, rfl⟩
  case round =>
    obtain ⟨k, hk, rfl, rfl⟩ := hrel
    obtain ⟨nb1, nb2⟩ := numV_bounds ((nums s).take k) (fun x hx => hd x (List.mem_of_mem_take hx))
    by_cases hlt : k < s.size
    · have HS := hide (numV_take_succ (nums s) k (by rw [nums_length]; exact hlt))
      rw [nums_getD s k hlt] at HS
      have hdig := hd (s[k].toNat : Int) (by have := List.mem_of_getElem? (nums_get s k hlt); exact this)
      simp [digB] at hdig
      obtain ⟨d1, d2⟩ := hdig
      generalize hnv : numV ((nums s).take k) = nv at *
      clear hnv
      go_wp2
      go_round
      case rel => exact ⟨k + 1, by omega, by go_num, by rw [unhide HS]⟩
      case measure => simp [intOf]; omega
    · go_wp2
      go_ret
      exact ⟨ret_int (by rw [List.take_of_length_le (by rw [nums_length]; omega)]), rfl⟩

theorem memB_true {s : ByteArray} {l : List ByteArray} {k : Nat} (hk : k < l.length) (h : ((l.getD k ByteArray.empty).toList == s.toList) = true) : memB s l = true := by
  rw [memB, List.any_eq_true]
  exact ⟨l[k], List.getElem_mem hk, by simpa [List.getD, List.getElem?_eq_getElem hk] using h⟩
theorem memB_false {s : ByteArray} {l : List ByteArray} (h : ∀ j, j < l.length → ((l.getD j ByteArray.empty).toList == s.toList) = false) : memB s l = false := by
  rw [memB, List.any_eq_false]
  intro t ht
  obtain ⟨j, hj, rfl⟩ := List.getElem_of_mem ht
  have := h j hj
  simpa [List.getD, List.getElem?_eq_getElem hj] using this

set_option maxHeartbeats 1000000 in
theorem among_any (s : ByteArray) (ao : Option Addr) (c : Nat) (l : List ByteArray) (w : World) (h : StrsAt w.heap.size w ao l) (hl : l.length ≤ 100) :
    Calls Try.prog 54 #[.string s, .slice ao l.length c] w fun e w' => e = .returned (.bool (memB s l)) ∧ w' = w := by
  obtain ⟨b, off, rfl, hb, hcell⟩ := h
  go_enter Try.func54, Try.ntmps54
  go_wp2
  go_loop [5] (fun i => ∃ k : Nat, k ≤ l.length ∧ i = .int .i64 k ∧ ∀ j, j < k → ((l.getD j ByteArray.empty).toList == s.toList) = false) (fun i => l.length - (intOf i).toNat)
  case atStart => exact ⟨0, Nat.zero_le _, rfl, fun j hj => by omega⟩
  case round =>
    obtain ⟨k, hk, rfl, hall⟩ := hrel
    have HA := hide hall
    clear hall
    by_cases hlt : k < l.length
    · have hc := hcell k hlt
      clear hcell
      have HT := hide (fun h => memB_true (s := s) hlt h)
      have HF : Hid (((l.getD k ByteArray.empty).toList == s.toList) = false → ∀ j, j < k + 1 → ((l.getD j ByteArray.empty).toList == s.toList) = false) := fun h j hj => by
        by_cases hjk : j < k
        · exact unhide HA j hjk
        · have : j = k := by omega
          subst this
          exact h
      generalize l.getD k ByteArray.empty = t at hc HT HF
      cases he : (t.toList == s.toList)
      · go_wp2
        go_round
        case rel => exact ⟨k + 1, by omega, by go_num, unhide HF he⟩
        case measure => simp [intOf]; omega
      · go_wp2
        go_ret
        exact ⟨ret_bool (unhide HT he).symm, rfl⟩
    · have HF := hide (memB_false (s := s) (l := l) (fun j hj => unhide HA j (by omega)))
      go_wp2
      go_ret
      exact ⟨ret_bool (unhide HF).symm, rfl⟩

end Go.Proofs.Ythmmgiaobakilaa

/- The grammar always answers, with fuel enough: pure. -/
set_option maxRecDepth 100000
namespace Go.Proofs.Ythmmgiaobakilaa
open Go.RowKit Go.Deep

variable {P : PS}

theorem kind_fwd {T : List Tok} (h : LastOver T) {i : Nat} {k : Int} (hk : k ≠ 4) (hi : i < T.length) : Fwd T i (i + 1) (pKind T k i) := by
  unfold pKind
  split
  · rename_i hs
    have e : (tkAt T i).kind = k := by simpa using hs
    exact fwd_got (Nat.le_refl _) (next_lt h hi (by rw [e]; exact hk))
  · exact fwd_bad (Nat.le_refl _) hi
theorem kind_some (T : List Tok) (k : Int) (i : Nat) : ∃ r, pKind T k i = some r := by unfold pKind; split <;> exact ⟨_, rfl⟩
theorem items_fwd (hF : FwdP P) {T : List Tok} (hT : LastOver T) (m : Nat) : ∀ j, j < T.length → Fwd T j (j + 1) (pItems P T m j) := by
  induction m with
  | zero => intro j hj; trivial
  | succ m ih =>
    intro j hj
    rw [pItems]
    split
    · rename_i hs; exact fwd_got (Nat.le_refl _) (isT_next hT hj hs)
    · refine fwd_then (hF T j hT hj) (fun _ j1 h1 l1 => ?_)
      exact fwd_then ((ih j1 l1).mono (by omega) (Nat.le_refl _)) (fun _ k hk hl => fwd_got (by omega) hl)
theorem block_fwd (hF : FwdP P) (n : Nat) : FwdP (pBlock P n) := by
  intro T i hT hi
  unfold pBlock
  split
  · trivial
  · exact fwd_then (need_fwd hT hi) (fun _ j hj hl => (items_fwd hF hT n j hl).mono (by omega) (by omega))
theorem statement_fwd {P : PE} {Q : PS} (hF : FwdP P) (hQ : FwdP Q) : FwdP (pStatement P Q) := by
  intro T i hT hi
  unfold pStatement
  split
  · rename_i hk
    have e : (tkAt T i).kind = 1 := by simpa using hk
    have h1 := next_lt hT hi (by rw [e]; decide)
    unfold pAssign
    refine fwd_then ((need_fwd hT h1).mono (by omega) (Nat.le_refl _)) (fun _ j hj hl => ?_)
    refine fwd_then ((hF T j hT hl).mono (by omega) (Nat.le_refl _)) (fun _ j2 hj2 hl2 => ?_)
    exact fwd_then ((need_fwd hT hl2).mono (by omega) (Nat.le_refl _)) (fun _ j3 hj3 hl3 => fwd_got (by omega) hl3)
  split
  · rename_i hs
    have h1 := isT_next hT hi hs
    unfold pIf
    refine fwd_then ((hF T (i + 1) hT h1).mono (by omega) (Nat.le_refl _)) (fun _ j hj hl => ?_)
    refine fwd_then ((hQ T j hT hl).mono (by omega) (Nat.le_refl _)) (fun _ j2 hj2 hl2 => ?_)
    unfold pElse
    split
    · rename_i hs2
      exact fwd_then ((hQ T (j2 + 1) hT (isT_next hT hl2 hs2)).mono (by omega) (Nat.le_refl _)) (fun _ j3 hj3 hl3 => fwd_got (by omega) hl3)
    · exact fwd_got (by omega) hl2
  split
  · rename_i hs
    have h1 := isT_next hT hi hs
    unfold pFor
    refine fwd_then ((kind_fwd hT (by decide) h1).mono (by omega) (Nat.le_refl _)) (fun _ j hj hl => ?_)
    refine fwd_then ((kind_fwd hT (by decide) hl).mono (by omega) (Nat.le_refl _)) (fun _ j2 hj2 hl2 => ?_)
    refine fwd_then ((need_fwd hT hl2).mono (by omega) (Nat.le_refl _)) (fun _ j3 hj3 hl3 => ?_)
    refine fwd_then ((kind_fwd hT (by decide) hl3).mono (by omega) (Nat.le_refl _)) (fun _ j4 hj4 hl4 => ?_)
    exact fwd_then ((hQ T j4 hT hl4).mono (by omega) (Nat.le_refl _)) (fun _ j5 hj5 hl5 => fwd_got (by omega) hl5)
  have put : ∀ tag s, isT T i s = true → Fwd T i (i + 1) (pPut P tag T i) := fun tag s hs => by
    unfold pPut
    refine fwd_then ((hF T (i + 1) hT (isT_next hT hi hs)).mono (by omega) (Nat.le_refl _)) (fun _ j hj hl => ?_)
    exact fwd_then ((need_fwd hT hl).mono (by omega) (Nat.le_refl _)) (fun _ j3 hj3 hl3 => fwd_got (by omega) hl3)
  split
  · rename_i hs; exact put 3 _ hs
  split
  · rename_i hs; exact put 4 _ hs
  · exact fwd_bad (Nat.le_refl _) hi
theorem pSB_fwd (n : Nat) : FwdP (pSB n).1 ∧ FwdP (pSB n).2 := by
  induction n with
  | zero => exact ⟨fun _ _ _ _ => trivial, fun _ _ _ _ => trivial⟩
  | succ n ih =>
    rw [pSB]
    split
    · exact ⟨fun _ _ _ _ => trivial, fun _ _ _ _ => trivial⟩
    · exact ⟨statement_fwd (pXF_fwd n).1 ih.2, block_fwd ih.1 _⟩
theorem names_fwd (hd : Bool) {T : List Tok} (hT : LastOver T) (n : Nat) : ∀ i, i < T.length → Fwd T i (i + 1) (pNames T hd n i) := by
  induction n with
  | zero => intro i hi; trivial
  | succ n ih =>
    intro i hi
    rw [pNames]
    refine fwd_then (kind_fwd hT (by decide) hi) (fun _ j hj hl => ?_)
    split
    · rename_i hs
      exact fwd_then ((ih (j + 1) (isT_next hT hl hs)).mono (by omega) (Nat.le_refl _)) (fun _ k hk hl => fwd_got (by omega) hl)
    · exact fwd_then ((need_fwd hT hl).mono (by omega) (Nat.le_refl _)) (fun _ k hk hl => fwd_got (by omega) hl)
theorem decls_fwd {T : List Tok} (hT : LastOver T) (f n : Nat) : ∀ i, i < T.length → Fwd T i i (pDecls T f n i) := by
  induction n with
  | zero => intro i hi; trivial
  | succ n ih =>
    intro i hi
    rw [pDecls]
    split
    · rename_i hs
      have h1 : i + 1 < T.length := by
        simp only [Bool.or_eq_true] at hs
        rcases hs with hs | hs <;> exact isT_next hT hi hs
      refine fwd_then ((names_fwd _ hT f (i + 1) h1).mono (by omega) (Nat.le_refl _)) (fun _ j hj hl => ?_)
      exact fwd_then ((ih j hl).mono (by omega) (Nat.le_refl _)) (fun _ k hk hl => fwd_got (by omega) hl)
    · exact fwd_got (Nat.le_refl _) hi


theorem then_ne {α β : Type} {r : PR α} {f : α → Nat → PR β} (hr : r ≠ none) (hf : ∀ x j, r = some (.ok (x, j)) → f x j ≠ none) : andThen r f ≠ none := by
  match r, hr with
  | none, hr => exact absurd rfl hr
  | some (.error k), _ => intro h; cases h
  | some (.ok (x, j)), _ => exact hf x j rfl
theorem need_ne (T : List Tok) (s : ByteArray) (i : Nat) : pNeed T s i ≠ none := by
  obtain ⟨r, e⟩ := need_some T s i
  rw [e]; intro h; cases h
theorem kind_ne (T : List Tok) (k : Int) (i : Nat) : pKind T k i ≠ none := by
  obtain ⟨r, e⟩ := kind_some T k i
  rw [e]; intro h; cases h
theorem got_ne {α : Type} (x : α) (j : Nat) : got x j ≠ none := by intro h; cases h
theorem bad_ne {α : Type} (k : Nat) : (bad k : PR α) ≠ none := by intro h; cases h
/-- It answers from a place on. -/
def TotAt {α : Type} (P : List Tok → Nat → PR α) (T : List Tok) (a : Nat) : Prop := ∀ i, a ≤ i → i < T.length → P T i ≠ none
theorem fwd_lt {α : Type} {P : List Tok → Nat → PR α} (hF : FwdP P) {T : List Tok} (hT : LastOver T) {i j : Nat} {x : α} (hi : i < T.length) (h : P T i = some (.ok (x, j))) : i < j ∧ j < T.length := by
  have := hF T i hT hi
  rw [h] at this
  exact ⟨this.1, this.2⟩
theorem need_lt' {T : List Tok} (hT : LastOver T) {s : ByteArray} {i j : Nat} {u : Unit} (hi : i < T.length) (h : pNeed T s i = some (.ok (u, j))) : i < j ∧ j < T.length := by
  have := need_fwd (s := s) hT hi
  rw [h] at this
  exact ⟨this.1, this.2⟩
theorem kind_lt' {T : List Tok} (hT : LastOver T) {k : Int} (hk : k ≠ 4) {i j : Nat} {u : Tok} (hi : i < T.length) (h : pKind T k i = some (.ok (u, j))) : i < j ∧ j < T.length := by
  have := kind_fwd hT hk hi
  rw [h] at this
  exact ⟨this.1, this.2⟩
section
variable {T : List Tok} {a : Nat}
theorem chain_tot {M : PE} (hT : LastOver T) (hF : FwdP M) (hM : TotAt M T a) (ops : List ByteArray) (f : Nat) : ∀ e j, a ≤ j → j < T.length → T.length - j ≤ f → pChain M ops T f e j ≠ none := by
  induction f with
  | zero => intro e j _ hj hf; omega
  | succ f ih =>
    intro e j ha hj hf
    rw [pChain]
    split
    · rename_i hany
      obtain ⟨s, _, hs⟩ := List.any_eq_true.1 hany
      have h1 := isT_next hT hj hs
      refine then_ne (hM (j + 1) (by omega) h1) (fun x k hx => ?_)
      have := fwd_lt hF hT h1 hx
      exact ih _ k (by omega) this.2 (by omega)
    · exact got_ne _ _
theorem level_tot {M : PE} (hT : LastOver T) (hF : FwdP M) (hM : TotAt M T a) (ops : List ByteArray) {f : Nat} (hf : T.length - a ≤ f + 1) (h0 : f ≠ 0) : TotAt (pLevel M ops f) T a := by
  intro i ha hi
  unfold pLevel
  rw [if_neg h0]
  refine then_ne (hM i ha hi) (fun x j hx => ?_)
  have := fwd_lt hF hT hi hx
  exact chain_tot hT hF hM ops f _ j (by omega) this.2 (by omega)
theorem expr_tot {M : PE} (hT : LastOver T) (hF : FwdP M) (hM : TotAt M T a) : TotAt (pExpr M) T a := by
  intro i ha hi
  refine then_ne (hM i ha hi) (fun x j hx => ?_)
  have h0 := fwd_lt hF hT hi hx
  unfold pPair
  split
  · rename_i hany
    obtain ⟨s, _, hs⟩ := List.any_eq_true.1 hany
    exact then_ne (hM (j + 1) (by omega) (isT_next hT h0.2 hs)) (fun _ _ _ => got_ne _ _)
  · exact got_ne _ _
theorem two_tot {X : PE} (hT : LastOver T) (hF : FwdP X) (hX : TotAt X T (a + 1)) {l r : ByteArray} {i : Nat} (ha : a ≤ i) (hi : i + 1 < T.length) : pTwo X l r T i ≠ none := by
  unfold pTwo
  refine then_ne (need_ne _ _ _) (fun _ j h1 => ?_)
  have e1 := need_lt' hT hi h1
  refine then_ne (hX j (by omega) e1.2) (fun _ j2 h2 => ?_)
  have e2 := fwd_lt hF hT e1.2 h2
  refine then_ne (need_ne _ _ _) (fun _ j3 h3 => ?_)
  have e3 := need_lt' hT e2.2 h3
  refine then_ne (hX j3 (by omega) e3.2) (fun _ j4 h4 => ?_)
  exact then_ne (need_ne _ _ _) (fun _ _ _ => got_ne _ _)
theorem three_tot {X : PE} (hT : LastOver T) (hF : FwdP X) (hX : TotAt X T (a + 1)) {l r : ByteArray} {i : Nat} (ha : a ≤ i) (hi : i + 1 < T.length) : pThree X l r T i ≠ none := by
  unfold pThree
  refine then_ne (need_ne _ _ _) (fun _ j h1 => ?_)
  have e1 := need_lt' hT hi h1
  refine then_ne (hX j (by omega) e1.2) (fun _ j2 h2 => ?_)
  have e2 := fwd_lt hF hT e1.2 h2
  refine then_ne (need_ne _ _ _) (fun _ j3 h3 => ?_)
  have e3 := need_lt' hT e2.2 h3
  refine then_ne (hX j3 (by omega) e3.2) (fun _ j4 h4 => ?_)
  have e4 := fwd_lt hF hT e3.2 h4
  refine then_ne (need_ne _ _ _) (fun _ j5 h5 => ?_)
  have e5 := need_lt' hT e4.2 h5
  refine then_ne (hX j5 (by omega) e5.2) (fun _ j6 h6 => ?_)
  exact then_ne (need_ne _ _ _) (fun _ _ _ => got_ne _ _)
theorem factor_tot {X F : PE} (hT : LastOver T) (hF : FwdP X) (hX : TotAt X T (a + 1)) (hX2 : TotAt F T (a + 1)) : TotAt (pFactor X F) T a := by
  intro i ha hi
  unfold pFactor
  split
  · exact got_ne _ _
  split
  · exact got_ne _ _
  split
  · rename_i hs
    exact then_ne (hX (i + 1) (by omega) (isT_next hT hi hs)) (fun _ _ _ => then_ne (need_ne _ _ _) (fun _ _ _ => got_ne _ _))
  split
  · rename_i hs
    exact then_ne (hX2 (i + 1) (by omega) (isT_next hT hi hs)) (fun _ _ _ => got_ne _ _)
  split
  · rename_i hs; exact two_tot hT hF hX ha (isT_next hT hi hs)
  split
  · rename_i hs; exact two_tot hT hF hX ha (isT_next hT hi hs)
  split
  · rename_i hs; exact two_tot hT hF hX ha (isT_next hT hi hs)
  split
  · rename_i hs; exact two_tot hT hF hX ha (isT_next hT hi hs)
  split
  · rename_i hs; exact three_tot hT hF hX ha (isT_next hT hi hs)
  · exact bad_ne _
theorem past {α : Type} {P : List Tok → Nat → PR α} (h : T.length ≤ a) : TotAt P T a := fun i hi hl => by omega
theorem pXF_tot (hT : LastOver T) (n : Nat) : ∀ a, T.length - a + 2 ≤ n → TotAt (pXF n).1 T a ∧ TotAt (pXF n).2 T a := by
  induction n with
  | zero => intro a h; omega
  | succ n ih =>
    intro a h
    by_cases hl : T.length ≤ a
    · exact ⟨past hl, past hl⟩
    have i1 := ih (a + 1) (by omega)
    rw [pXF, if_neg (by omega)]
    have fw := pXF_fwd n
    have f := factor_tot (F := (pXF n).2) hT fw.1 i1.1 i1.2
    have ff := factor_fwd fw.1 fw.2
    have t := level_tot hT ff f opsT (f := n - 1) (by omega) (by omega)
    have tf := level_fwd ff opsT (n - 1)
    have s := level_tot hT tf t opsS (f := n - 1) (by omega) (by omega)
    exact ⟨expr_tot hT (level_fwd tf opsS (n - 1)) s, f⟩
theorem statement_tot {X : PE} {B : PS} (hT : LastOver T) (hF : FwdP X) (hX : TotAt X T (a + 1)) (hFB : FwdP B) (hB : TotAt B T (a + 1)) : TotAt (pStatement X B) T a := by
  intro i ha hi
  unfold pStatement
  split
  · rename_i hk
    have e : (tkAt T i).kind = 1 := by simpa using hk
    have h1 := next_lt hT hi (by rw [e]; decide)
    unfold pAssign
    refine then_ne (need_ne _ _ _) (fun _ j e1 => ?_)
    have e2 := need_lt' hT h1 e1
    exact then_ne (hX j (by omega) e2.2) (fun _ _ _ => then_ne (need_ne _ _ _) (fun _ _ _ => got_ne _ _))
  split
  · rename_i hs
    have h1 := isT_next hT hi hs
    unfold pIf
    refine then_ne (hX (i + 1) (by omega) h1) (fun _ j e1 => ?_)
    have e2 := fwd_lt hF hT h1 e1
    refine then_ne (hB j (by omega) e2.2) (fun _ j2 e3 => ?_)
    have e4 := fwd_lt hFB hT e2.2 e3
    unfold pElse
    split
    · rename_i hs2
      exact then_ne (hB (j2 + 1) (by omega) (isT_next hT e4.2 hs2)) (fun _ _ _ => got_ne _ _)
    · exact got_ne _ _
  split
  · rename_i hs
    have h1 := isT_next hT hi hs
    unfold pFor
    refine then_ne (kind_ne _ _ _) (fun _ j e1 => ?_)
    have f1 := kind_lt' hT (by decide) h1 e1
    refine then_ne (kind_ne _ _ _) (fun _ j2 e2 => ?_)
    have f2 := kind_lt' hT (by decide) f1.2 e2
    refine then_ne (need_ne _ _ _) (fun _ j3 e3 => ?_)
    have f3 := need_lt' hT f2.2 e3
    refine then_ne (kind_ne _ _ _) (fun _ j4 e4 => ?_)
    have f4 := kind_lt' hT (by decide) f3.2 e4
    exact then_ne (hB j4 (by omega) f4.2) (fun _ _ _ => got_ne _ _)
  have put : ∀ tag s, isT T i s = true → pPut X tag T i ≠ none := fun tag s hs => by
    unfold pPut
    exact then_ne (hX (i + 1) (by omega) (isT_next hT hi hs)) (fun _ _ _ => then_ne (need_ne _ _ _) (fun _ _ _ => got_ne _ _))
  split
  · rename_i hs; exact put 3 _ hs
  split
  · rename_i hs; exact put 4 _ hs
  · exact bad_ne _
theorem items_tot {S : PS} (hT : LastOver T) (hF : FwdP S) (hS : TotAt S T a) (f : Nat) : ∀ j, a ≤ j → j < T.length → T.length - j ≤ f → pItems S T f j ≠ none := by
  induction f with
  | zero => intro j _ hj hf; omega
  | succ f ih =>
    intro j ha hj hf
    rw [pItems]
    split
    · exact got_ne _ _
    · refine then_ne (hS j ha hj) (fun _ k hk => ?_)
      have := fwd_lt hF hT hj hk
      exact then_ne (ih k (by omega) this.2 (by omega)) (fun _ _ _ => got_ne _ _)
theorem pSB_tot (hT : LastOver T) (n : Nat) : ∀ a, T.length - a + 3 ≤ n → TotAt (pSB n).1 T a ∧ TotAt (pSB n).2 T a := by
  induction n with
  | zero => intro a h; omega
  | succ n ih =>
    intro a h
    by_cases hl : T.length ≤ a
    · exact ⟨past hl, past hl⟩
    have i1 := ih (a + 1) (by omega)
    rw [pSB, if_neg (by omega)]
    refine ⟨statement_tot hT (pXF_fwd n).1 (pXF_tot hT n (a + 1) (by omega)).1 (pSB_fwd n).2 i1.2, fun i ha hi => ?_⟩
    show pBlock (pSB n).1 (n - 1) T i ≠ none
    unfold pBlock
    rw [if_neg (by omega)]
    refine then_ne (need_ne _ _ _) (fun _ j e1 => ?_)
    have e2 := need_lt' hT hi e1
    exact items_tot hT (pSB_fwd n).1 i1.1 (n - 1) j (by omega) e2.2 (by omega)
theorem names_tot (hT : LastOver T) (hd : Bool) (f : Nat) : ∀ j, j < T.length → T.length - j ≤ f → pNames T hd f j ≠ none := by
  induction f with
  | zero => intro j hj hf; omega
  | succ f ih =>
    intro j hj hf
    rw [pNames]
    refine then_ne (kind_ne _ _ _) (fun _ k hk => ?_)
    have := kind_lt' hT (by decide) hj hk
    split
    · rename_i hs
      exact then_ne (ih (k + 1) (isT_next hT this.2 hs) (by omega)) (fun _ _ _ => got_ne _ _)
    · exact then_ne (need_ne _ _ _) (fun _ _ _ => got_ne _ _)
theorem decls_tot (hT : LastOver T) (g f : Nat) (hg : T.length ≤ g) : ∀ j, j < T.length → T.length - j ≤ f → pDecls T g f j ≠ none := by
  induction f with
  | zero => intro j hj hf; omega
  | succ f ih =>
    intro j hj hf
    rw [pDecls]
    split
    · rename_i hs
      have h1 : j + 1 < T.length := by
        simp only [Bool.or_eq_true] at hs
        rcases hs with hs | hs <;> exact isT_next hT hj hs
      refine then_ne (names_tot hT _ g (j + 1) h1 (by omega)) (fun _ k hk => ?_)
      have f1 := names_fwd (isT T j sHIDDEN) hT g (j + 1) h1
      rw [hk] at f1
      have f2 : j + 1 + 1 ≤ k := f1.1
      exact then_ne (ih k f1.2 (by omega)) (fun _ _ _ => got_ne _ _)
    · exact got_ne _ _
theorem body_tot {S : PS} (hT : LastOver T) (hF : FwdP S) (hS : TotAt S T 0) (f : Nat) : ∀ j, j < T.length → T.length - j ≤ f → pBody S T f j ≠ none := by
  induction f with
  | zero => intro j hj hf; omega
  | succ f ih =>
    intro j hj hf
    rw [pBody]
    split
    · exact got_ne _ _
    · refine then_ne (hS j (by omega) hj) (fun _ k hk => ?_)
      have := fwd_lt hF hT hj hk
      exact then_ne (ih k this.2 (by omega)) (fun _ _ _ => got_ne _ _)
/-- The grammar's answer for a source. -/
theorem source_tot (hT : LastOver T) {n : Nat} (hn : T.length + 3 ≤ n) : ∃ r, pSource n T = some r := by
  have : pSource n T ≠ none := by
    unfold pSource
    refine then_ne (decls_tot hT n (n - 1) (by omega) 0 hT.1 (by omega)) (fun _ j hj => ?_)
    have f1 := decls_fwd hT n (n - 1) 0 hT.1
    rw [hj] at f1
    exact then_ne (body_tot hT (pSB_fwd n).1 (pSB_tot hT n 0 (by omega)).1 (n - 1) j f1.2 (by omega)) (fun _ _ _ => got_ne _ _)
  cases h : pSource n T with
  | none => exact absurd h this
  | some r => exact ⟨r, rfl⟩
end

end Go.Proofs.Ythmmgiaobakilaa

/- The project's small words: is a text, a sign in a list? -/
set_option maxRecDepth 100000
namespace Go.Proofs.Ythmmgiaobakilaa
open Go.RowKit

set_option maxHeartbeats 2000000 in
theorem sindex_any (w : World) (b off c : Nat) (l : List ByteArray) (v : ByteArray) (hc : ∀ j (hj : j < l.length), w.cell? ⟨b, off + j, none⟩ = some (Value.string l[j])) (hl : l.length ≤ 1000) :
    Calls Try.prog 126 #[.slice (some ⟨b, off, none⟩) l.length c, Value.string v] w fun e w' => (∃ n : Int, e = .returned (.int .i64 n) ∧ decide (0 ≤ n) = l.any (fun t => v.toList == t.toList)) ∧ w' = w := by
  go_enter Try.func126, Try.ntmps126
  go_wp2
  go_loop [8] (fun i => ∃ k : Nat, k ≤ l.length ∧ i = .int .i64 k ∧ ∀ j (hj : j < l.length), j < k → (fun t => v.toList == t.toList) l[j] = false) (fun i => l.length - (intOf i).toNat)
  case atStart => exact ⟨0, Nat.zero_le _, rfl, fun j hj h0 => absurd h0 (Nat.not_lt_zero _)⟩
  case round =>
    obtain ⟨k, hk, rfl, hno⟩ := hrel
    by_cases hlt : k < l.length
    · have hck := hc k hlt
      have HN := hide hno
      have hki : (k : Int) < (l.length : Int) := by omega
      obtain ⟨x, hx⟩ : ∃ x, l[k] = x := ⟨_, rfl⟩
      rw [hx] at hck
      clear hno hc
      cases he : (v.toList == x.toList)
      · go_wp2
        go_round
        case rel =>
          refine ⟨k + 1, by omega, by go_num, fun j hj hlt2 => ?_⟩
          rcases Nat.lt_or_ge j k with h | h
          · exact unhide HN j hj h
          · have e : j = k := by omega
            subst e
            show (v.toList == l[j].toList) = false
            rw [hx]
            exact he
        case measure => simp [intOf]; omega
      · go_wp2
        go_ret
        refine ⟨⟨(k : Int), rfl, ?_⟩, rfl⟩
        have : l.any (fun t => v.toList == t.toList) = true := List.any_eq_true.2 ⟨l[k], List.getElem_mem hlt, by rw [hx]; exact he⟩
        rw [this]
        simp
    · go_wp2
      go_ret
      refine ⟨⟨-1, rfl, ?_⟩, rfl⟩
      have : l.any (fun t => v.toList == t.toList) = false := by
        rw [List.any_eq_false]
        intro t ht
        obtain ⟨j, hj, rfl⟩ := List.getElem_of_mem ht
        have := hno j hj (by omega)
        rw [this]
        simp
      rw [this]
      decide
set_option maxHeartbeats 2000000 in
theorem scontains_any (w : World) (b off c : Nat) (l : List ByteArray) (v : ByteArray) (hc : ∀ j (hj : j < l.length), w.cell? ⟨b, off + j, none⟩ = some (Value.string l[j])) (hl : l.length ≤ 1000) :
    Calls Try.prog 100 #[.slice (some ⟨b, off, none⟩) l.length c, Value.string v] w fun e w' => e = .returned (.bool (l.any (fun t => v.toList == t.toList))) ∧ w' = w := by
  go_enter Try.func100, Try.ntmps100
  go_wp2_with fail
  refine (sindex_any w b off c l v hc hl).mono ?_
  rintro e w1 ⟨⟨n, rfl, hn⟩, hw⟩
  obtain rfl := hw.symm
  have HN := hide hn
  clear hn
  go_wp2
  go_ret
  exact ⟨ret_bool (unhide HN), rfl⟩

set_option maxHeartbeats 2000000 in
theorem rindex_any (w : World) (b off c : Nat) (l : List Int) (v : Int) (hc : ∀ j (hj : j < l.length), w.cell? ⟨b, off + j, none⟩ = some (Value.int .i32 l[j])) (hl : l.length ≤ 1000) :
    Calls Try.prog 140 #[.slice (some ⟨b, off, none⟩) l.length c, Value.int .i32 v] w fun e w' => (∃ n : Int, e = .returned (.int .i64 n) ∧ decide (0 ≤ n) = l.any (fun t => v == t)) ∧ w' = w := by
  go_enter Try.func140, Try.ntmps140
  go_wp2
  go_loop [8] (fun i => ∃ k : Nat, k ≤ l.length ∧ i = .int .i64 k ∧ ∀ j (hj : j < l.length), j < k → (fun t => v == t) l[j] = false) (fun i => l.length - (intOf i).toNat)
  case atStart => exact ⟨0, Nat.zero_le _, rfl, fun j hj h0 => absurd h0 (Nat.not_lt_zero _)⟩
  case round =>
    obtain ⟨k, hk, rfl, hno⟩ := hrel
    by_cases hlt : k < l.length
    · have hck := hc k hlt
      have HN := hide hno
      have hki : (k : Int) < (l.length : Int) := by omega
      obtain ⟨x, hx⟩ : ∃ x, l[k] = x := ⟨_, rfl⟩
      rw [hx] at hck
      clear hno hc
      cases he : (v == x)
      · go_wp2
        go_round
        case rel =>
          refine ⟨k + 1, by omega, by go_num, fun j hj hlt2 => ?_⟩
          rcases Nat.lt_or_ge j k with h | h
          · exact unhide HN j hj h
          · have e : j = k := by omega
            subst e
            show (v == l[j]) = false
            rw [hx]
            exact he
        case measure => simp [intOf]; omega
      · go_wp2
        go_ret
        refine ⟨⟨(k : Int), rfl, ?_⟩, rfl⟩
        have : l.any (fun t => v == t) = true := List.any_eq_true.2 ⟨l[k], List.getElem_mem hlt, by rw [hx]; exact he⟩
        rw [this]
        simp
    · go_wp2
      go_ret
      refine ⟨⟨-1, rfl, ?_⟩, rfl⟩
      have : l.any (fun t => v == t) = false := by
        rw [List.any_eq_false]
        intro t ht
        obtain ⟨j, hj, rfl⟩ := List.getElem_of_mem ht
        have := hno j hj (by omega)
        rw [this]
        simp
      rw [this]
      decide
set_option maxHeartbeats 2000000 in
theorem rcontains_any (w : World) (b off c : Nat) (l : List Int) (v : Int) (hc : ∀ j (hj : j < l.length), w.cell? ⟨b, off + j, none⟩ = some (Value.int .i32 l[j])) (hl : l.length ≤ 1000) :
    Calls Try.prog 127 #[.slice (some ⟨b, off, none⟩) l.length c, Value.int .i32 v] w fun e w' => e = .returned (.bool (l.any (fun t => v == t))) ∧ w' = w := by
  go_enter Try.func127, Try.ntmps127
  go_wp2_with fail
  refine (rindex_any w b off c l v hc hl).mono ?_
  rintro e w1 ⟨⟨n, rfl, hn⟩, hw⟩
  obtain rfl := hw.symm
  have HN := hide hn
  clear hn
  go_wp2
  go_ret
  exact ⟨ret_bool (unhide HN), rfl⟩

end Go.Proofs.Ythmmgiaobakilaa

/- The project's tokens: is it this word, this sign, a name? -/
set_option maxRecDepth 100000
namespace Go.Proofs.Ythmmgiaobakilaa
open Go.RowKit

/-- A token as a value. -/
def tkV (k p : Int) (wd : ByteArray) (n s : Int) : Value := .agg #[.int .i64 k, .int .i64 p, .string wd, .int .i32 n, .int .i32 s]
/-- A list of texts, of runes lies in a block. -/
def StrsIn (w : World) (b off : Nat) (l : List ByteArray) : Prop := ∀ j (hj : j < l.length), w.cell? ⟨b, off + j, none⟩ = some (.string l[j])
def RunesIn (w : World) (b off : Nat) (l : List Int) : Prop := ∀ j (hj : j < l.length), w.cell? ⟨b, off + j, none⟩ = some (.int .i32 l[j])

theorem StrsIn.grown {w w' : World} {b off : Nat} {l : List ByteArray} (h : StrsIn w b off l) (hs : ∀ k, k < w.heap.size → w'.heap[k]? = w.heap[k]?) : StrsIn w' b off l := by
  intro j hj
  have h0 := h j hj
  have hb := World.block_lt_of_cell? _ _ h0
  simp only [World.cell?] at h0 ⊢
  rw [hs b hb]
  exact h0
theorem RunesIn.grown {w w' : World} {b off : Nat} {l : List Int} (h : RunesIn w b off l) (hs : ∀ k, k < w.heap.size → w'.heap[k]? = w.heap[k]?) : RunesIn w' b off l := by
  intro j hj
  have h0 := h j hj
  have hb := World.block_lt_of_cell? _ _ h0
  simp only [World.cell?] at h0 ⊢
  rw [hs b hb]
  exact h0
set_option maxHeartbeats 1000000 in
theorem isWord_any (w : World) (k p n s : Int) (wd : ByteArray) (b off c : Nat) (l : List ByteArray) (hc : StrsIn w b off l) (hl : l.length ≤ 1000) :
    Calls Try.prog 74 #[tkV k p wd n s, .slice (some ⟨b, off, none⟩) l.length c] w fun e w' => e = .returned (.bool ((k == 2) && l.any (fun t => wd.toList == t.toList))) ∧ Below w.heap.size w w' := by
  unfold tkV
  cases hk : (k == 2)
  · go_enter Try.func74, Try.ntmps74
    go_wp2
    go_ret
    exact ⟨rfl, (Below.refl _ w).alloc (Nat.le_refl _) _⟩
  · go_enter Try.func74, Try.ntmps74
    go_wp2_with fail
    refine (scontains_any _ b off c l wd (hc.grown (fun k hk => Below.heap_alloc w _ k hk)) hl).mono ?_
    rintro e w1 ⟨rfl, hw⟩
    have hb : Below w.heap.size w w1 := by rw [hw]; exact (Below.refl _ w).alloc (Nat.le_refl _) _
    clear hw
    go_wp2
    go_ret
    exact ⟨ret_bool (by simp), hb⟩
set_option maxHeartbeats 1000000 in
theorem isSign_any (w : World) (k p n s : Int) (wd : ByteArray) (b off c : Nat) (l : List Int) (hc : RunesIn w b off l) (hl : l.length ≤ 1000) :
    Calls Try.prog 103 #[tkV k p wd n s, .slice (some ⟨b, off, none⟩) l.length c] w fun e w' => e = .returned (.bool ((k == 4) && l.any (fun t => s == t))) ∧ Below w.heap.size w w' := by
  unfold tkV
  cases hk : (k == 4)
  · go_enter Try.func103, Try.ntmps103
    go_wp2
    go_ret
    exact ⟨rfl, (Below.refl _ w).alloc (Nat.le_refl _) _⟩
  · go_enter Try.func103, Try.ntmps103
    go_wp2_with fail
    refine (rcontains_any _ b off c l s (hc.grown (fun k hk => Below.heap_alloc w _ k hk)) hl).mono ?_
    rintro e w1 ⟨rfl, hw⟩
    have hb : Below w.heap.size w w1 := by rw [hw]; exact (Below.refl _ w).alloc (Nat.le_refl _) _
    clear hw
    go_wp2
    go_ret
    exact ⟨ret_bool (by simp), hb⟩
theorem strs_new (w : World) (l : List ByteArray) : StrsIn (w.alloc (.cells (l.map Value.string).toArray 9)) w.heap.size 0 l := by
  intro j hj
  rw [World.cell?_alloc_at _ _ _ _ rfl, Nat.zero_add]
  simp [List.getElem?_eq_getElem hj]
theorem runes_new (w : World) (l : List Int) : RunesIn (w.alloc (.cells (l.map (Value.int .i32)).toArray 21)) w.heap.size 0 l := by
  intro j hj
  rw [World.cell?_alloc_at _ _ _ _ rfl, Nat.zero_add]
  simp [List.getElem?_eq_getElem hj]
/-- The keywords as the project lists them. -/
def kwsP : List ByteArray := [sOPEN, sHIDDEN, sIF, sELSE, sFOR, sOUT, sHIDE, sSEL, sMIN, sMAX, sPEEK, sSPY]
set_option maxHeartbeats 1000000 in
theorem isName_any (w : World) (k p n s : Int) (wd : ByteArray) :
    Calls Try.prog 105 #[tkV k p wd n s] w fun e w' => e = .returned (.bool ((k == 2) && !kwsP.any (fun t => wd.toList == t.toList))) ∧ Below w.heap.size w w' := by
  unfold tkV
  cases hk : (k == 2)
  · go_enter Try.func105, Try.ntmps105
    go_wp2
    go_ret
    exact ⟨rfl, (Below.refl _ w).alloc (Nat.le_refl _) _⟩
  · go_enter Try.func105, Try.ntmps105
    go_wp2_with fail
    have hsi : StrsIn ((w.alloc (.cells #[.int .i64 k, .int .i64 p, .string wd, .int .i32 n, .int .i32 s] 126)).alloc (.cells (kwsP.map Value.string).toArray 9)) (w.heap.size + 1) 0 kwsP := by
      have := strs_new (w.alloc (.cells #[.int .i64 k, .int .i64 p, .string wd, .int .i32 n, .int .i32 s] 126)) kwsP
      rw [World.size_alloc] at this
      exact this
    refine (isWord_any _ k p n s wd (w.heap.size + 1) 0 12 kwsP hsi (by decide)).mono ?_
    rintro e w1 ⟨rfl, hb1⟩
    have hb : Below w.heap.size w w1 := (((Below.refl _ w).alloc (Nat.le_refl _) _).alloc (by simp) _).trans (hb1.mono (by simp; omega))
    clear hb1 hsi
    rw [hk, Bool.true_and]
    go_wp2
    go_ret
    exact ⟨ret_bool (by simp), hb⟩

end Go.Proofs.Ythmmgiaobakilaa
