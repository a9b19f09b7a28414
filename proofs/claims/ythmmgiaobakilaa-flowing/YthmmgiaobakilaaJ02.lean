import Derived.Test.YthmmgiaobakilaaJ01
import Derived.Deep.Trees
/- The document's language on data: tokens, the grammar, by plain functions; no memory, no program. -/
set_option maxRecDepth 100000
namespace Go.Proofs.Ythmmgiaobakilaa
open Go.RowKit Go.Deep

/-- A list of strings lies at an address, in blocks below B. -/
def StrsAt (B : Nat) (w : World) (ao : Option Addr) (l : List ByteArray) : Prop :=
  ∃ b off, ao = some ⟨b, off, none⟩ ∧ b < B ∧ ∀ j, j < l.length → w.cell? ⟨b, off + j, none⟩ = some (.string (l.getD j ByteArray.empty))
theorem StrsAt.newAt (w : World) (l : List ByteArray) (B n : Nat) (hn : n = w.heap.size) (hB : n < B) : StrsAt B (w.alloc (.cells (l.map Value.string).toArray 9)) (some ⟨n, 0, none⟩) l := by
  refine ⟨n, 0, rfl, hB, fun j hj => ?_⟩
  rw [World.cell?_alloc_at _ _ _ _ hn, Nat.zero_add]
  simp [List.getD, List.getElem?_eq_getElem hj]

theorem StrsAt.new (w : World) (l : List ByteArray) (B : Nat) (hB : w.heap.size < B) : StrsAt B (w.alloc (.cells (l.map Value.string).toArray 9)) (some ⟨w.heap.size, 0, none⟩) l :=
  StrsAt.newAt w l B w.heap.size rfl hB

def memB (s : ByteArray) (l : List ByteArray) : Bool := l.any (fun t => t.toList == s.toList)
def signs : List ByteArray := [⟨#[226, 134, 144]⟩, ⟨#[226, 128, 166]⟩, ⟨#[195, 151]⟩, ⟨#[195, 183]⟩, ⟨#[226, 137, 164]⟩, ⟨#[226, 137, 160]⟩, ⟨#[43]⟩, ⟨#[45]⟩, ⟨#[61]⟩, ⟨#[60]⟩, ⟨#[40]⟩, ⟨#[41]⟩, ⟨#[123]⟩, ⟨#[125]⟩, ⟨#[91]⟩, ⟨#[93]⟩, ⟨#[44]⟩, ⟨#[59]⟩]
def okS (s : ByteArray) (a : Nat) (g : ByteArray) : Bool := decide (a + g.size ≤ s.size) && ((s.extract a (a + g.size)).toList == g.toList)
/-- The sign that begins at a place; empty: none. -/
def signF (s : ByteArray) (a : Nat) : ByteArray := (signs.find? (okS s a)).getD ⟨#[]⟩
theorem signs_small : ∀ k, k < signs.length → (signs.getD k ByteArray.empty).size ≤ 3 := by decide +kernel

structure Tok where
  kind : Int
  num : Int
  place : Int
  text : ByteArray
def kws : List ByteArray := [⟨#[111, 112, 101, 110]⟩, ⟨#[104, 105, 100, 100, 101, 110]⟩, ⟨#[105, 102]⟩, ⟨#[101, 108, 115, 101]⟩, ⟨#[102, 111, 114]⟩, ⟨#[111, 117, 116]⟩, ⟨#[104, 105, 100, 101]⟩, ⟨#[115, 101, 108]⟩, ⟨#[109, 105, 110]⟩, ⟨#[109, 97, 120]⟩, ⟨#[112, 101, 101, 107]⟩, ⟨#[115, 112, 121]⟩]

def wordAt (s : ByteArray) (a : Nat) : ByteArray := s.extract a (a + rowN false ((nums s).drop a))
def numAt (s : ByteArray) (a : Nat) : ByteArray := s.extract a (a + rowN true ((nums s).drop a))
def wordTok (s : ByteArray) (a : Nat) : Tok := ⟨if memB (wordAt s a) kws then 0 else 1, 0, a, wordAt s a⟩
def numTok (s : ByteArray) (a : Nat) : Tok := ⟨2, numV (nums (numAt s a)), a, numAt s a⟩
def signTok (s : ByteArray) (a : Nat) : Tok := ⟨3, 0, a, signF s a⟩
def blankAt (s : ByteArray) (a : Nat) : Bool := (nums s).getD a 0 == 32 || (nums s).getD a 0 == 10

/-- All tokens from a place on, behind those that are there; none: no token begins at that place. -/
def lex (s : ByteArray) : Nat → Nat → List Tok → Option (List Tok) × Nat
  | 0, a, acc => (some acc, a)
  | f + 1, a, acc =>
    if a < s.size then
      (if blankAt s a then lex s f (a + 1) acc
       else if 0 < (wordAt s a).size then lex s f (a + (wordAt s a).size) (acc ++ [wordTok s a])
       else if 0 < (numAt s a).size then (if 65535 < numV (nums (numAt s a)) then (none, a) else lex s f (a + (numAt s a).size) (acc ++ [numTok s a]))
       else if 0 < (signF s a).size then lex s f (a + (signF s a).size) (acc ++ [signTok s a])
       else (none, a))
    else (some acc, a)
def overTok (a : Nat) : Tok := ⟨4, 0, a, ⟨#[]⟩⟩

theorem rowN_le (d : Bool) (L : List Int) : rowN d L ≤ L.length := by unfold rowN; exact (List.takeWhile_prefix _).length_le
theorem word_size (s : ByteArray) (a : Nat) (ha : a ≤ s.size) : (wordAt s a).size = rowN false ((nums s).drop a) ∧ a + (wordAt s a).size ≤ s.size := by
  have := rowN_le false ((nums s).drop a)
  rw [List.length_drop, nums_length] at this
  rw [wordAt, ByteArray.size_extract]; omega
theorem num_size (s : ByteArray) (a : Nat) (ha : a ≤ s.size) : (numAt s a).size = rowN true ((nums s).drop a) ∧ a + (numAt s a).size ≤ s.size := by
  have := rowN_le true ((nums s).drop a)
  rw [List.length_drop, nums_length] at this
  rw [numAt, ByteArray.size_extract]; omega
theorem num_digits (s : ByteArray) (a : Nat) : ∀ x ∈ nums (numAt s a), digB x = true := by
  intro x hx
  rw [numAt, nums_extract, show a + rowN true ((nums s).drop a) - a = rowN true ((nums s).drop a) by omega] at hx
  have e : ((nums s).drop a).take (rowN true ((nums s).drop a)) = ((nums s).drop a).takeWhile (fun x => if true then digB x else letB x) := by
    unfold rowN
    exact (List.prefix_iff_eq_take.1 (List.takeWhile_prefix _)).symm
  rw [e] at hx
  have := List.all_eq_true.1 (List.all_takeWhile (l := (nums s).drop a) (p := fun x => if true then digB x else letB x)) x hx
  simpa using this
theorem sign_size (s : ByteArray) (a : Nat) : (signF s a).size ≤ 3 ∧ (0 < (signF s a).size → a + (signF s a).size ≤ s.size) := by
  unfold signF
  cases h : signs.find? (okS s a) with
  | none => exact ⟨by decide, fun h => absurd h (by decide)⟩
  | some g =>
    have hm := List.mem_of_find?_eq_some h
    have hp := List.find?_some h
    obtain ⟨j, hj, rfl⟩ := List.getElem_of_mem hm
    have := signs_small j hj
    simp only [List.getD, List.getElem?_eq_getElem hj, Option.getD_some] at this
    simp only [okS, Bool.and_eq_true, decide_eq_true_eq] at hp
    exact ⟨this, fun _ => hp.1⟩

def opsT : List ByteArray := [⟨#[195, 151]⟩, ⟨#[195, 183]⟩]
def opsS : List ByteArray := [⟨#[43]⟩, ⟨#[45]⟩]
def opsE : List ByteArray := [⟨#[61]⟩, ⟨#[226, 137, 160]⟩, ⟨#[60]⟩, ⟨#[226, 137, 164]⟩]

def sBO : ByteArray := ⟨#[91]⟩
def sBC : ByteArray := ⟨#[93]⟩
def sCM : ByteArray := ⟨#[44]⟩
def sPO : ByteArray := ⟨#[40]⟩
def sPC : ByteArray := ⟨#[41]⟩
def sAR : ByteArray := ⟨#[226, 134, 144]⟩
def sSC : ByteArray := ⟨#[59]⟩
def sDT : ByteArray := ⟨#[226, 128, 166]⟩
def sCO : ByteArray := ⟨#[123]⟩
def sCC : ByteArray := ⟨#[125]⟩
def sELSE : ByteArray := ⟨#[101, 108, 115, 101]⟩

def sIF : ByteArray := ⟨#[105, 102]⟩
def sFOR : ByteArray := ⟨#[102, 111, 114]⟩
def sOUT : ByteArray := ⟨#[111, 117, 116]⟩
def sHIDE : ByteArray := ⟨#[104, 105, 100, 101]⟩
def sOPEN : ByteArray := ⟨#[111, 112, 101, 110]⟩
def sHIDDEN : ByteArray := ⟨#[104, 105, 100, 100, 101, 110]⟩
/-- Expressions side by side: a head, its operands, what stands beside it. -/
abbrev Ex := BT Tok
def leafE (t : Tok) : Ex := .node 0 0 t .nil .nil
def besideE (a r : Ex) : Ex := match a with
  | .nil => .nil
  | .node b o t k _ => .node b o t k r
def node1 (t : Tok) (a : Ex) : Ex := .node 0 0 t (besideE a .nil) .nil
def node2 (t : Tok) (a b : Ex) : Ex := .node 0 0 t (besideE a (besideE b .nil)) .nil
def node3 (t : Tok) (a b c : Ex) : Ex := .node 0 0 t (besideE a (besideE b (besideE c .nil))) .nil

abbrev PR (α : Type) := Option (Except Nat (α × Nat))
def andThen {α β : Type} (r : PR α) (f : α → Nat → PR β) : PR β := match r with
  | none => none
  | some (.error k) => some (.error k)
  | some (.ok (a, j)) => f a j
def got {α : Type} (a : α) (j : Nat) : PR α := some (.ok (a, j))
def bad {α : Type} (k : Nat) : PR α := some (.error k)

def tkAt (T : List Tok) (i : Nat) : Tok := T.getD i ⟨4, 0, 0, ⟨#[]⟩⟩
def isT (T : List Tok) (i : Nat) (s : ByteArray) : Bool := (((tkAt T i).kind == 3) || ((tkAt T i).kind == 0)) && ((tkAt T i).text.toList == s.toList)
def pNeed (T : List Tok) (s : ByteArray) (i : Nat) : PR Unit := if isT T i s then got () (i + 1) else bad i
def pKind (T : List Tok) (k : Int) (i : Nat) : PR Tok := if (tkAt T i).kind == k then got (tkAt T i) (i + 1) else bad i

abbrev PE := List Tok → Nat → PR Ex
def pChain (M : PE) (ops : List ByteArray) (T : List Tok) : Nat → Ex → Nat → PR Ex
  | 0, _, _ => none
  | n + 1, e, i => if ops.any (isT T i) then andThen (M T (i + 1)) fun x j => pChain M ops T n (node2 (tkAt T i) e x) j else got e i
def pLevel (M : PE) (ops : List ByteArray) (n : Nat) : PE := fun T i => if n = 0 then none else andThen (M T i) (pChain M ops T n)
def pPair (M : PE) (T : List Tok) (e : Ex) (i : Nat) : PR Ex := if opsE.any (isT T i) then andThen (M T (i + 1)) fun x j => got (node2 (tkAt T i) e x) j else got e i
def pExpr (M : PE) : PE := fun T i => andThen (M T i) (pPair M T)

def sPEEK : ByteArray := ⟨#[112, 101, 101, 107]⟩
def sSPY : ByteArray := ⟨#[115, 112, 121]⟩
def sSEL : ByteArray := ⟨#[115, 101, 108]⟩
def sMIN : ByteArray := ⟨#[109, 105, 110]⟩
def sMAX : ByteArray := ⟨#[109, 97, 120]⟩
def sNEG : ByteArray := ⟨#[45]⟩
/-- Two expressions between brackets. -/
def pTwo (X : PE) (l r : ByteArray) (T : List Tok) (i : Nat) : PR Ex :=
  andThen (pNeed T l (i + 1)) fun _ j => andThen (X T j) fun a j => andThen (pNeed T sCM j) fun _ j => andThen (X T j) fun b j => andThen (pNeed T r j) fun _ j => got (node2 (tkAt T i) a b) j
def pThree (X : PE) (l r : ByteArray) (T : List Tok) (i : Nat) : PR Ex :=
  andThen (pNeed T l (i + 1)) fun _ j => andThen (X T j) fun a j => andThen (pNeed T sCM j) fun _ j => andThen (X T j) fun b j => andThen (pNeed T sCM j) fun _ j => andThen (X T j) fun c j => andThen (pNeed T r j) fun _ j => got (node3 (tkAt T i) a b c) j
def pFactor (X F : PE) : PE := fun T i =>
  if (tkAt T i).kind == 2 then got (leafE (tkAt T i)) (i + 1) else
  if (tkAt T i).kind == 1 then got (leafE (tkAt T i)) (i + 1) else
  if isT T i sPO then (andThen (X T (i + 1)) fun e j => andThen (pNeed T sPC j) fun _ j => got e j) else
  if isT T i sNEG then (andThen (F T (i + 1)) fun e j => got (node1 (tkAt T i) e) j) else
  if isT T i sPEEK then pTwo X sBO sBC T i else
  if isT T i sSPY then pTwo X sBO sBC T i else
  if isT T i sMIN then pTwo X sPO sPC T i else
  if isT T i sMAX then pTwo X sPO sPC T i else
  if isT T i sSEL then pThree X sPO sPC T i else
  bad i
def noP : PE := fun _ _ => none
def pXF : Nat → PE × PE
  | 0 => (noP, noP)
  | n + 1 => if n < 2 then (noP, noP) else (pExpr (pLevel (pLevel (pFactor (pXF n).1 (pXF n).2) opsT (n - 1)) opsS (n - 1)), pFactor (pXF n).1 (pXF n).2)

/-- A statement's own words: 0 a name and what it is to be; 1 if; 2 for, its name and numbers; 3 out; 4 hide; 5 the two blocks of an if. -/
structure SP where
  tag : Nat
  t : Tok
  a : Tok
  b : Tok
  e : Ex
abbrev Sx := BT SP
def noTok : Tok := ⟨4, 0, 0, ⟨#[]⟩⟩
def besideS (a r : Sx) : Sx := match a with
  | .nil => .nil
  | .node b o t k _ => .node b o t k r
abbrev PS := List Tok → Nat → PR Sx
def pAssign (X : PE) : PS := fun T i => andThen (pNeed T sAR (i + 1)) fun _ j => andThen (X T j) fun e j => andThen (pNeed T sSC j) fun _ j => got (.node 0 0 ⟨0, tkAt T i, noTok, noTok, e⟩ .nil .nil) j
def pPut (X : PE) (tag : Nat) : PS := fun T i => andThen (X T (i + 1)) fun e j => andThen (pNeed T sSC j) fun _ j => got (.node 0 0 ⟨tag, tkAt T i, noTok, noTok, e⟩ .nil .nil) j
def pElse (B : PS) (T : List Tok) (i : Nat) (e : Ex) (s : Sx) (j : Nat) : PR Sx :=
  if isT T j sELSE then andThen (B T (j + 1)) fun u k => got (.node 0 0 ⟨1, tkAt T i, noTok, noTok, e⟩ (.node 0 0 ⟨5, noTok, noTok, noTok, .nil⟩ s u) .nil) k
  else got (.node 0 0 ⟨1, tkAt T i, noTok, noTok, e⟩ (.node 0 0 ⟨5, noTok, noTok, noTok, .nil⟩ s .nil) .nil) j
def pIf (X : PE) (B : PS) : PS := fun T i => andThen (X T (i + 1)) fun e j => andThen (B T j) fun s j => pElse B T i e s j
def pFor (B : PS) : PS := fun T i => andThen (pKind T 1 (i + 1)) fun n j => andThen (pKind T 2 j) fun a j => andThen (pNeed T sDT j) fun _ j => andThen (pKind T 2 j) fun b j => andThen (B T j) fun s j => got (.node 0 0 ⟨2, n, a, b, .nil⟩ s .nil) j
def pStatement (X : PE) (B : PS) : PS := fun T i =>
  if (tkAt T i).kind == 1 then pAssign X T i else
  if isT T i sIF then pIf X B T i else
  if isT T i sFOR then pFor B T i else
  if isT T i sOUT then pPut X 3 T i else
  if isT T i sHIDE then pPut X 4 T i else
  bad i
/-- Statements as far as the brace. -/
def pItems (S : PS) (T : List Tok) : Nat → Nat → PR Sx
  | 0, _ => none
  | n + 1, i => if isT T i sCC then got .nil (i + 1) else andThen (S T i) fun s j => andThen (pItems S T n j) fun r k => got (besideS s r) k
def pBlock (S : PS) (n : Nat) : PS := fun T i => if n = 0 then none else andThen (pNeed T sCO i) fun _ j => pItems S T n j
def noS : PS := fun _ _ => none
def pSB : Nat → PS × PS
  | 0 => (noS, noS)
  | n + 1 => if n < 2 then (noS, noS) else (pStatement (pXF n).1 (pSB n).2, pBlock (pSB n).1 (n - 1))
/-- Statements as far as the end. -/
def pBody (S : PS) (T : List Tok) : Nat → Nat → PR Sx
  | 0, _ => none
  | n + 1, i => if (tkAt T i).kind == 4 then got .nil i else andThen (S T i) fun s j => andThen (pBody S T n j) fun r k => got (besideS s r) k
/-- Names with commas. -/
def pNames (T : List Tok) (hd : Bool) : Nat → Nat → PR (List (Tok × Bool))
  | 0, _ => none
  | n + 1, i => andThen (pKind T 1 i) fun t j => if isT T j sCM then andThen (pNames T hd n (j + 1)) fun l k => got ((t, hd) :: l) k else andThen (pNeed T sSC j) fun _ k => got [(t, hd)] k
def pDecls (T : List Tok) (f : Nat) : Nat → Nat → PR (List (Tok × Bool))
  | 0, _ => none
  | n + 1, i => if isT T i sOPEN || isT T i sHIDDEN then andThen (pNames T (isT T i sHIDDEN) f (i + 1)) fun l j => andThen (pDecls T f n j) fun m k => got (l ++ m) k else got [] i
/-- A source. -/
def pSource (n : Nat) (T : List Tok) : PR (List (Tok × Bool) × Sx) := andThen (pDecls T n (n - 1) 0) fun ds j => andThen (pBody (pSB n).1 T (n - 1) j) fun s k => got (ds, s) k

theorem lex_len (s : ByteArray) (f : Nat) : ∀ a acc l p, acc.length ≤ a → a ≤ s.size → lex s f a acc = (some l, p) → l.length ≤ s.size := by
  induction f with
  | zero =>
    intro a acc l p h1 h2 h
    simp only [lex, Prod.mk.injEq, Option.some.injEq] at h
    rw [← h.1]; omega
  | succ f ih =>
    intro a acc l p h1 h2 h
    rw [lex] at h
    split at h
    · rename_i hlt
      have w1 := (word_size s a h2).2
      have w2 := (num_size s a h2).2
      have w3 := (sign_size s a).2
      split at h
      · exact ih (a + 1) acc l p (by omega) (by omega) h
      split at h
      · exact ih _ _ l p (by simp; omega) w1 h
      split at h
      · split at h
        · cases h
        · exact ih _ _ l p (by simp; omega) w2 h
      split at h
      · rename_i h3
        exact ih _ _ l p (by simp; omega) (w3 h3) h
      · cases h
    · simp only [Prod.mk.injEq, Option.some.injEq] at h
      rw [← h.1]; omega


def LastOver (T : List Tok) : Prop := 0 < T.length ∧ (tkAt T (T.length - 1)).kind = 4
theorem next_lt {T : List Tok} (h : LastOver T) {i : Nat} (hi : i < T.length) (hk : (tkAt T i).kind ≠ 4) : i + 1 < T.length := by
  rcases Nat.lt_or_ge (i + 1) T.length with h1 | h1
  · exact h1
  · exfalso
    have e : i = T.length - 1 := by omega
    rw [e] at hk
    exact hk h.2
theorem isT_kind {T : List Tok} {i : Nat} {s : ByteArray} (h : isT T i s = true) : (tkAt T i).kind ≠ 4 := by
  intro e
  simp [isT, e] at h
theorem isT_next {T : List Tok} (h : LastOver T) {i : Nat} {s : ByteArray} (hi : i < T.length) (hs : isT T i s = true) : i + 1 < T.length := next_lt h hi (isT_kind hs)

/-- From a on if it is wrong, from b on if not; never beyond the last. -/
def Fwd {α : Type} (T : List Tok) (a b : Nat) : PR α → Prop
  | none => True
  | some (.error k) => a ≤ k ∧ k < T.length
  | some (.ok (_, j)) => b ≤ j ∧ j < T.length
theorem fwd_then {α β : Type} {T : List Tok} {a b c : Nat} {r : PR α} {f : α → Nat → PR β} (h : Fwd T a b r) (hf : ∀ x j, b ≤ j → j < T.length → Fwd T a c (f x j)) : Fwd T a c (andThen r f) := by
  match r, h with
  | none, _ => trivial
  | some (.error k), h => exact h
  | some (.ok (x, j)), h => exact hf x j h.1 h.2
theorem Fwd.mono {α : Type} {T : List Tok} {a a' b b' : Nat} {r : PR α} (h : Fwd T a b r) (ha : a' ≤ a) (hb : b' ≤ b) : Fwd T a' b' r := by
  match r, h with
  | none, _ => trivial
  | some (.error k), h => exact ⟨Nat.le_trans ha h.1, h.2⟩
  | some (.ok (x, j)), h => exact ⟨Nat.le_trans hb h.1, h.2⟩
theorem fwd_got {α : Type} {T : List Tok} {a b j : Nat} {x : α} (h1 : b ≤ j) (h2 : j < T.length) : Fwd T a b (got x j) := ⟨h1, h2⟩
theorem fwd_bad {α : Type} {T : List Tok} {a b k : Nat} (h1 : a ≤ k) (h2 : k < T.length) : Fwd T a b (bad k : PR α) := ⟨h1, h2⟩
theorem need_fwd {T : List Tok} (h : LastOver T) {i : Nat} {s : ByteArray} (hi : i < T.length) : Fwd T i (i + 1) (pNeed T s i) := by
  unfold pNeed
  split
  · rename_i hs; exact fwd_got (Nat.le_refl _) (isT_next h hi hs)
  · exact fwd_bad (Nat.le_refl _) hi
def FwdP {α : Type} (P : List Tok → Nat → PR α) : Prop := ∀ T i, LastOver T → i < T.length → Fwd T i (i + 1) (P T i)
theorem chain_fwd {M : PE} (hM : FwdP M) (ops : List ByteArray) {T : List Tok} (h : LastOver T) (n : Nat) : ∀ e i, i < T.length → Fwd T i i (pChain M ops T n e i) := by
  induction n with
  | zero => intro e i hi; trivial
  | succ n ih =>
    intro e i hi
    rw [pChain]
    split
    · rename_i ha
      obtain ⟨s, _, hs⟩ := List.any_eq_true.1 ha
      have h1 := isT_next h hi hs
      exact fwd_then ((hM T (i + 1) h h1).mono (by omega) (Nat.le_refl _)) (fun x j hj hl => (ih _ j hl).mono (by omega) (by omega))
    · exact fwd_got (Nat.le_refl _) hi
theorem level_fwd {M : PE} (hM : FwdP M) (ops : List ByteArray) (n : Nat) : FwdP (pLevel M ops n) := by
  intro T i h hi
  unfold pLevel
  split
  · trivial
  · exact fwd_then (hM T i h hi) (fun x j hj hl => (chain_fwd hM ops h n x j hl).mono (by omega) hj)
theorem expr_fwd {M : PE} (hM : FwdP M) : FwdP (pExpr M) := by
  intro T i h hi
  refine fwd_then (hM T i h hi) (fun x j hj hl => ?_)
  unfold pPair
  split
  · rename_i ha
    obtain ⟨s, _, hs⟩ := List.any_eq_true.1 ha
    have h1 := isT_next h hl hs
    exact fwd_then ((hM T (j + 1) h h1).mono (by omega) (Nat.le_refl _)) (fun x k hk hl => fwd_got (by omega) hl)
  · exact fwd_got hj hl
theorem two_fwd {X : PE} (hX : FwdP X) {l r : ByteArray} {T : List Tok} (h : LastOver T) {i : Nat} (hi : i + 1 < T.length) : Fwd T i (i + 1) (pTwo X l r T i) := by
  unfold pTwo
  refine fwd_then ((need_fwd h hi).mono (by omega) (Nat.le_refl _)) (fun _ j hj hl => ?_)
  refine fwd_then ((hX T j h hl).mono (by omega) (Nat.le_refl _)) (fun _ j2 hj2 hl2 => ?_)
  refine fwd_then ((need_fwd h hl2).mono (by omega) (Nat.le_refl _)) (fun _ j3 hj3 hl3 => ?_)
  refine fwd_then ((hX T j3 h hl3).mono (by omega) (Nat.le_refl _)) (fun _ j4 hj4 hl4 => ?_)
  refine fwd_then ((need_fwd h hl4).mono (by omega) (Nat.le_refl _)) (fun _ j5 hj5 hl5 => ?_)
  exact fwd_got (by omega) hl5
theorem three_fwd {X : PE} (hX : FwdP X) {l r : ByteArray} {T : List Tok} (h : LastOver T) {i : Nat} (hi : i + 1 < T.length) : Fwd T i (i + 1) (pThree X l r T i) := by
  unfold pThree
  refine fwd_then ((need_fwd h hi).mono (by omega) (Nat.le_refl _)) (fun _ j hj hl => ?_)
  refine fwd_then ((hX T j h hl).mono (by omega) (Nat.le_refl _)) (fun _ j2 hj2 hl2 => ?_)
  refine fwd_then ((need_fwd h hl2).mono (by omega) (Nat.le_refl _)) (fun _ j3 hj3 hl3 => ?_)
  refine fwd_then ((hX T j3 h hl3).mono (by omega) (Nat.le_refl _)) (fun _ j4 hj4 hl4 => ?_)
  refine fwd_then ((need_fwd h hl4).mono (by omega) (Nat.le_refl _)) (fun _ j5 hj5 hl5 => ?_)
  refine fwd_then ((hX T j5 h hl5).mono (by omega) (Nat.le_refl _)) (fun _ j6 hj6 hl6 => ?_)
  refine fwd_then ((need_fwd h hl6).mono (by omega) (Nat.le_refl _)) (fun _ j7 hj7 hl7 => ?_)
  exact fwd_got (by omega) hl7
theorem factor_fwd {X F : PE} (hX : FwdP X) (hF : FwdP F) : FwdP (pFactor X F) := by
  intro T i h hi
  unfold pFactor
  have leaf : ∀ k : Int, k ≠ 4 → ((tkAt T i).kind == k) = true → i + 1 < T.length := fun k hk hs => by
    have e : (tkAt T i).kind = k := by simpa using hs
    exact next_lt h hi (by rw [e]; exact hk)
  split
  · rename_i hs; exact fwd_got (Nat.le_refl _) (leaf 2 (by decide) hs)
  split
  · rename_i hs; exact fwd_got (Nat.le_refl _) (leaf 1 (by decide) hs)
  split
  · rename_i hs
    refine fwd_then ((hX T (i + 1) h (isT_next h hi hs)).mono (by omega) (Nat.le_refl _)) (fun _ j hj hl => ?_)
    exact fwd_then ((need_fwd h hl).mono (by omega) (Nat.le_refl _)) (fun _ k hk hl => fwd_got (by omega) hl)
  split
  · rename_i hs
    exact fwd_then ((hF T (i + 1) h (isT_next h hi hs)).mono (by omega) (Nat.le_refl _)) (fun _ j hj hl => fwd_got (by omega) hl)
  split
  · rename_i hs; exact two_fwd hX h (isT_next h hi hs)
  split
  · rename_i hs; exact two_fwd hX h (isT_next h hi hs)
  split
  · rename_i hs; exact two_fwd hX h (isT_next h hi hs)
  split
  · rename_i hs; exact two_fwd hX h (isT_next h hi hs)
  split
  · rename_i hs; exact three_fwd hX h (isT_next h hi hs)
  · exact fwd_bad (Nat.le_refl _) hi
theorem pXF_fwd (n : Nat) : FwdP (pXF n).1 ∧ FwdP (pXF n).2 := by
  induction n with
  | zero => exact ⟨fun _ _ _ _ => trivial, fun _ _ _ _ => trivial⟩
  | succ n ih =>
    rw [pXF]
    split
    · exact ⟨fun _ _ _ _ => trivial, fun _ _ _ _ => trivial⟩
    have f := factor_fwd ih.1 ih.2
    exact ⟨expr_fwd (level_fwd (level_fwd f opsT _) opsS _), f⟩

theorem need_some (T : List Tok) (s : ByteArray) (i : Nat) : ∃ r, pNeed T s i = some r := by unfold pNeed; split <;> exact ⟨_, rfl⟩
theorem then_ok {α β : Type} {r : PR α} {f : α → Nat → PR β} {y : β × Nat} (h : andThen r f = some (.ok y)) : ∃ x j, r = some (.ok (x, j)) ∧ f x j = some (.ok y) := by
  match r, h with
  | none, h => cases h
  | some (.error k), h => cases h
  | some (.ok (x, j)), h => exact ⟨x, j, rfl, h⟩
theorem bytes_eq {a b : ByteArray} (h : a.toList = b.toList) : a = b := by
  rw [ByteArray.toList_eq, ByteArray.toList_eq] at h
  have := Array.toList_inj.1 h
  cases a; cases b; simp at this; rw [this]
theorem isT_text {T : List Tok} {i : Nat} {s : ByteArray} (h : isT T i s = true) : (tkAt T i).text = s := by
  simp only [isT, Bool.and_eq_true] at h
  exact bytes_eq (by simpa using h.2)
theorem isT_leaf {T : List Tok} {i : Nat} {s : ByteArray} (h : isT T i s = true) : (((tkAt T i).kind == 2) || ((tkAt T i).kind == 1)) = false := by
  simp only [isT, Bool.and_eq_true, Bool.or_eq_true] at h
  rcases h.1 with e | e
  · have e' : (tkAt T i).kind = 3 := by simpa using e
    rw [e']; rfl
  · have e' : (tkAt T i).kind = 0 := by simpa using e
    rw [e']; rfl
/-- Trees as the grammar makes them. -/
def lenE : Ex → Nat
  | .nil => 0
  | .node _ _ _ _ r => lenE r + 1
theorem lex_nums (s : ByteArray) (f : Nat) : ∀ a acc l p, (∀ t ∈ acc, 0 ≤ t.num ∧ t.num ≤ 65536) → lex s f a acc = (some l, p) → ∀ t ∈ l, 0 ≤ t.num ∧ t.num ≤ 65536 := by
  induction f with
  | zero =>
    intro a acc l p h1 h
    simp only [lex, Prod.mk.injEq, Option.some.injEq] at h
    rw [← h.1]; exact h1
  | succ f ih =>
    intro a acc l p h1 h
    rw [lex] at h
    have sn : ∀ t : Tok, 0 ≤ t.num ∧ t.num ≤ 65536 → ∀ u ∈ acc ++ [t], 0 ≤ u.num ∧ u.num ≤ 65536 := fun t ht u hu => by
      rcases List.mem_append.1 hu with hu | hu
      · exact h1 u hu
      · simp at hu; rw [hu]; exact ht
    split at h
    · split at h
      · exact ih _ _ l p h1 h
      split at h
      · exact ih _ _ l p (sn _ ⟨by simp [wordTok], by simp [wordTok]⟩) h
      split at h
      · split at h
        · cases h
        · exact ih _ _ l p (sn _ (numV_bounds _ (num_digits s a))) h
      split at h
      · exact ih _ _ l p (sn _ ⟨by simp [signTok], by simp [signTok]⟩) h
      · cases h
    · simp only [Prod.mk.injEq, Option.some.injEq] at h
      rw [← h.1]; exact h1
theorem toks_ok {s : ByteArray} {l : List Tok} {p : Nat} (hs : s.size ≤ 300) (h : lex s s.size 0 [] = (some l, p)) : LastOver (l ++ [overTok p]) ∧ (∀ i, 0 ≤ (tkAt (l ++ [overTok p]) i).num ∧ (tkAt (l ++ [overTok p]) i).num ≤ 65536) ∧ (l ++ [overTok p]).length ≤ 900 := by
  have hl := lex_len s s.size 0 [] l p (by simp) (by omega) h
  have hn := lex_nums s s.size 0 [] l p (by intro t ht; cases ht) h
  refine ⟨⟨by simp, ?_⟩, fun i => ?_, by simp; omega⟩
  · simp [tkAt, overTok]
  · unfold tkAt
    rcases Nat.lt_or_ge i (l ++ [overTok p]).length with hi | hi
    · have hm : (l ++ [overTok p]).getD i ⟨4, 0, 0, ⟨#[]⟩⟩ ∈ l ++ [overTok p] := by
        rw [List.getD, List.getElem?_eq_getElem hi, Option.getD_some]
        exact List.getElem_mem hi
      rcases List.mem_append.1 hm with hm | hm
      · exact hn _ hm
      · simp only [List.mem_singleton] at hm
        rw [hm]
        exact ⟨Int.le_refl 0, by show (0 : Int) ≤ 65536; decide⟩
    · rw [List.getD, List.getElem?_eq_none hi, Option.getD_none]
      exact ⟨by decide, by decide⟩
end Go.Proofs.Ythmmgiaobakilaa

/- Tokens by lists: a lexer over a text's numbers, the same as lex. -/
set_option maxRecDepth 100000
namespace Go.Proofs.Ythmmgiaobakilaa
open Go.RowKit Go.Deep

def preB : List Int → List Int → Bool
  | [], _ => true
  | _ :: _, [] => false
  | x :: g, y :: L => x == y && preB g L
def consT (t : Tok) (r : Option (List Tok) × Nat) : Option (List Tok) × Nat := (r.1.map (t :: ·), r.2)
def wordTokL (l : List Int) (a : Nat) : Tok := ⟨if memB (strOfNums l) kws then 0 else 1, 0, a, strOfNums l⟩
def numTokL (l : List Int) (a : Nat) : Tok := ⟨2, numV l, a, strOfNums l⟩
def signL (L : List Int) : ByteArray := (signs.find? (fun g => preB (nums g) L)).getD ⟨#[]⟩
def lexL : Nat → List Int → Nat → Option (List Tok) × Nat
  | 0, _, a => (some [], a)
  | f + 1, L, a =>
    if 0 < L.length then
      (if L.headD 0 == 32 || L.headD 0 == 10 then lexL f (L.drop 1) (a + 1)
       else if 0 < rowN false L then consT (wordTokL (L.take (rowN false L)) a) (lexL f (L.drop (rowN false L)) (a + rowN false L))
       else if 0 < rowN true L then (if 65535 < numV (L.take (rowN true L)) then (none, a) else consT (numTokL (L.take (rowN true L)) a) (lexL f (L.drop (rowN true L)) (a + rowN true L)))
       else if 0 < (signL L).size then consT ⟨3, 0, a, signL L⟩ (lexL f (L.drop (signL L).size) (a + (signL L).size))
       else (none, a))
    else (some [], a)
def appT (acc : List Tok) (r : Option (List Tok) × Nat) : Option (List Tok) × Nat := (r.1.map (acc ++ ·), r.2)
theorem appT_snoc (acc : List Tok) (t : Tok) (r : Option (List Tok) × Nat) : appT (acc ++ [t]) r = appT acc (consT t r) := by
  obtain ⟨o, p⟩ := r
  cases o with
  | none => rfl
  | some l => simp [appT, consT]
theorem ext_str (s : ByteArray) (a n : Nat) : s.extract a (a + n) = strOfNums (((nums s).drop a).take n) := by
  rw [← nums_back (s.extract a (a + n)), nums_extract, Nat.add_sub_cancel_left]
theorem pre_take : ∀ (g L : List Int), preB g L = (decide (g.length ≤ L.length) && (L.take g.length == g))
  | [], L => by simp [preB]
  | x :: g, [] => by simp [preB]
  | x :: g, y :: L => by
    rw [preB, pre_take g L]
    by_cases h : x = y
    · subst h; simp
    · have h2 : ¬ y = x := fun e => h e.symm
      rw [show (x == y) = false from beq_false_of_ne h, List.length_cons, List.length_cons, List.take_succ_cons]
      show false = _
      rw [show ((y :: L.take g.length) == (x :: g)) = false from beq_false_of_ne (fun e => h2 (List.cons.inj e).1), Bool.and_false]
theorem nums_inj {a b : ByteArray} (h : nums a = nums b) : a = b := by rw [← nums_back a, ← nums_back b, h]
theorem okS_pre (s : ByteArray) (a : Nat) (ha : a ≤ s.size) (g : ByteArray) : okS s a g = preB (nums g) ((nums s).drop a) := by
  rw [pre_take, okS, nums_length, List.length_drop, nums_length]
  have e1 : decide (a + g.size ≤ s.size) = decide (g.size ≤ s.size - a) := by
    apply decide_eq_decide.2; omega
  rw [e1]
  congr 1
  have e2 : nums (s.extract a (a + g.size)) = ((nums s).drop a).take g.size := by rw [nums_extract, Nat.add_sub_cancel_left]
  rw [← e2]
  rw [Bool.eq_iff_iff, beq_iff_eq, beq_iff_eq]
  exact ⟨fun h => by rw [show s.extract a (a + g.size) = g from by
    rw [ByteArray.toList_eq, ByteArray.toList_eq] at h
    have := Array.toList_inj.1 h
    generalize s.extract a (a + g.size) = u at this
    cases u; cases g; simp at this; rw [this]], fun h => by rw [nums_inj h]⟩
theorem sign_list (s : ByteArray) (a : Nat) (ha : a ≤ s.size) : signF s a = signL ((nums s).drop a) := by
  unfold signF signL
  congr 2
  funext g
  exact okS_pre s a ha g
theorem sign_in {s : ByteArray} {a : Nat} (h : 0 < (signF s a).size) : a + (signF s a).size ≤ s.size := by
  unfold signF at h ⊢
  cases hf : signs.find? (okS s a) with
  | none => rw [hf] at h; exact absurd h (by decide)
  | some g =>
    have := List.find?_some hf
    unfold okS at this
    simp only [Bool.and_eq_true, decide_eq_true_eq] at this
    exact this.1
theorem lex_list (s : ByteArray) : ∀ (f a : Nat) (acc : List Tok), a ≤ s.size → lex s f a acc = appT acc (lexL f ((nums s).drop a) a)
  | 0, a, acc, _ => by simp [lex, lexL, appT]
  | f + 1, a, acc, ha => by
    have hL : ((nums s).drop a).length = s.size - a := by rw [List.length_drop, nums_length]
    have hdrop : ∀ n, ((nums s).drop a).drop n = (nums s).drop (a + n) := fun n => List.drop_drop
    unfold lex lexL
    by_cases hlt : a < s.size
    · have hl0 : 0 < ((nums s).drop a).length := by omega
      rw [if_pos hlt, if_pos hl0]
      have hh : ((nums s).drop a).headD 0 = (nums s).getD a 0 := by simp [List.getD, List.headD_eq_head?_getD, List.head?_drop]
      rw [hh]
      by_cases hb : blankAt s a = true
      · have hb' : ((nums s).getD a 0 == 32 || (nums s).getD a 0 == 10) = true := hb
        rw [if_pos hb, if_pos hb', hdrop]
        exact lex_list s f (a + 1) acc (by omega)
      · have hb' : ¬ ((nums s).getD a 0 == 32 || (nums s).getD a 0 == 10) = true := hb
        rw [if_neg hb, if_neg hb']
        obtain ⟨w1, w2⟩ := word_size s a ha
        rw [w1]
        by_cases hw : 0 < rowN false ((nums s).drop a)
        · rw [if_pos hw, if_pos hw, lex_list s f _ _ (by omega), hdrop, appT_snoc]
          congr 2
          unfold wordTok wordTokL wordAt
          rw [ext_str]
        · rw [if_neg hw, if_neg hw]
          obtain ⟨n1, n2⟩ := num_size s a ha
          rw [n1]
          by_cases hn : 0 < rowN true ((nums s).drop a)
          · rw [if_pos hn, if_pos hn]
            have e : nums (numAt s a) = ((nums s).drop a).take (rowN true ((nums s).drop a)) := by
              unfold numAt; rw [nums_extract, Nat.add_sub_cancel_left]
            rw [e]
            by_cases hv : 65535 < numV (((nums s).drop a).take (rowN true ((nums s).drop a)))
            · rw [if_pos hv, if_pos hv]; rfl
            · rw [if_neg hv, if_neg hv, lex_list s f _ _ (by omega), hdrop, appT_snoc]
              congr 2
              unfold numTok numTokL
              rw [e]; unfold numAt; rw [ext_str]
          · rw [if_neg hn, if_neg hn]
            by_cases hs : 0 < (signF s a).size
            · have hin := sign_in hs
              have hs' := hs
              rw [sign_list s a ha] at hs'
              rw [if_pos hs, if_pos hs', lex_list s f _ _ (by omega), appT_snoc, hdrop]
              unfold signTok
              rw [sign_list s a ha]
            · have hs' := hs
              rw [sign_list s a ha] at hs'
              rw [if_neg hs, if_neg hs']; rfl
    · have hl0 : ¬ 0 < ((nums s).drop a).length := by omega
      rw [if_neg hlt, if_neg hl0]; simp [appT]
end Go.Proofs.Ythmmgiaobakilaa

/- Tokens of joined texts: where two parts meet at a token's end, the tokens are those of the parts. -/
set_option maxRecDepth 100000
namespace Go.Proofs.Ythmmgiaobakilaa
open Go.RowKit Go.Deep

theorem rowN_le' (d : Bool) (L : List Int) : rowN d L ≤ L.length := rowN_le d L
theorem lexL_fuel : ∀ (f f' : Nat) (L : List Int) (a : Nat), L.length ≤ f → L.length ≤ f' → lexL f L a = lexL f' L a
  | 0, f', L, a, h, _ => by
    have e : L = [] := List.eq_nil_of_length_eq_zero (by omega)
    subst e
    cases f' <;> rfl
  | f + 1, 0, L, a, _, h => by
    have e : L = [] := List.eq_nil_of_length_eq_zero (by omega)
    subst e
    rfl
  | f + 1, f' + 1, L, a, h, h' => by
    unfold lexL
    have R : ∀ n, 0 < n → ∀ b, lexL f (L.drop n) b = lexL f' (L.drop n) b := fun n hn b => lexL_fuel f f' _ b (by rw [List.length_drop]; omega) (by rw [List.length_drop]; omega)
    rw [R 1 (by omega)]
    split
    · split
      · rfl
      · split
        · rename_i hw; rw [R _ hw]
        · split
          · rename_i hn; split
            · rfl
            · rw [R _ hn]
          · split
            · rename_i hs; rw [R _ hs]
            · rfl
    · rfl
def lx (L : List Int) (a : Nat) : Option (List Tok) × Nat := lexL L.length L a
/-- Where two parts may meet. -/
def BD (L R : List Int) : Prop := ∀ h R', R = h :: R' → h < 128 ∧ (letB h = true → ∀ z, L.getLast? = some z → letB z = false) ∧ (digB h = true → ∀ z, L.getLast? = some z → digB z = false)
theorem BD.drop {L R : List Int} (h : BD L R) (n : Nat) : BD (L.drop n) R := by
  have e : ∀ z, (L.drop n).getLast? = some z → L.getLast? = some z := fun z hz => by
    rw [List.getLast?_drop] at hz
    split at hz
    · cases hz
    · exact hz
  intro x R' hR
  obtain ⟨h1, h2, h3⟩ := h x R' hR
  exact ⟨h1, fun hx z hz => h2 hx z (e z hz), fun hx z hz => h3 hx z (e z hz)⟩
theorem row_join {L R : List Int} (h : BD L R) (hL : L ≠ []) (d : Bool) : rowN d (L ++ R) = rowN d L := by
  unfold rowN
  rw [List.takeWhile_append]
  by_cases he : (L.takeWhile (fun x => if d then digB x else letB x)).length = L.length
  · rw [if_pos he, List.length_append, he]
    have hall : L.takeWhile (fun x => if d then digB x else letB x) = L := (List.takeWhile_prefix _).eq_of_length he
    have hz : ∃ z, L.getLast? = some z := ⟨L.getLast hL, List.getLast?_eq_some_getLast hL⟩
    obtain ⟨z, hz⟩ := hz
    have hzm : z ∈ L := List.mem_of_getLast? hz
    have hpz : (if d then digB z else letB z) = true := by
      rw [← hall] at hzm
      exact List.all_eq_true.1 (List.all_takeWhile) z hzm
    cases R with
    | nil => rfl
    | cons x R' =>
      obtain ⟨_, h2, h3⟩ := h x R' rfl
      have hx : (if d then digB x else letB x) = false := by
        cases d with
        | true =>
          cases hd : digB x with
          | true => have := h3 hd z hz; simp [this] at hpz
          | false => simp
        | false =>
          cases hd : letB x with
          | true => have := h2 hd z hz; simp [this] at hpz
          | false => simp
      rw [List.takeWhile_cons, hx]
      rfl
  · rw [if_neg he]
theorem pre_high {R : List Int} (hR : ∀ h R', R = h :: R' → h < 128) : ∀ (g L : List Int), (∀ x ∈ g, 128 ≤ x) → preB g (L ++ R) = preB g L
  | [], _, _ => by simp [preB]
  | x :: g, [], hg => by
    cases R with
    | nil => rfl
    | cons y R' =>
      have h1 := hR y R' rfl
      have h2 := hg x (List.mem_cons_self ..)
      show (x == y && _) = false
      rw [show (x == y) = false from beq_false_of_ne (by omega)]
      rfl
  | x :: g, y :: L, hg => by
    show (x == y && preB g (L ++ R)) = (x == y && preB g L)
    rw [pre_high hR g L (fun z hz => hg z (List.mem_cons_of_mem _ hz))]
theorem signs_high : ∀ g ∈ signs, ∀ x ∈ (nums g).tail, 128 ≤ x := by decide +kernel
theorem find_same {p q : ByteArray → Bool} : ∀ (l : List ByteArray), (∀ g ∈ l, p g = q g) → l.find? p = l.find? q
  | [], _ => rfl
  | g :: l, h => by
    rw [List.find?_cons, List.find?_cons, h g (List.mem_cons_self ..), find_same l (fun x hx => h x (List.mem_cons_of_mem _ hx))]
theorem sign_join {L R : List Int} (h : BD L R) (hL : L ≠ []) : signL (L ++ R) = signL L := by
  unfold signL
  congr 1
  apply find_same
  intro g hg
  have hh := signs_high g hg
  cases L with
  | nil => exact absurd rfl hL
  | cons y L =>
    cases hn : nums g with
    | nil => rfl
    | cons x g' =>
      rw [hn] at hh
      show (x == y && preB g' (L ++ R)) = (x == y && preB g' L)
      rw [pre_high (fun a b e => (h a b e).1) g' L hh]
theorem app_cons (t : Tok) (T : List Tok) (r : Option (List Tok) × Nat) : consT t (appT T r) = appT (t :: T) r := by
  obtain ⟨o, p⟩ := r
  cases o <;> simp [appT, consT]
theorem sign_len {L : List Int} (h : 0 < (signL L).size) : (signL L).size ≤ L.length := by
  unfold signL at h ⊢
  cases hf : signs.find? (fun g => preB (nums g) L) with
  | none => rw [hf] at h; exact absurd h (by decide)
  | some g =>
    have := List.find?_some hf
    rw [pre_take] at this
    simp only [Bool.and_eq_true, decide_eq_true_eq, nums_length] at this
    exact this.1
theorem lx_join : ∀ (n : Nat) (L : List Int), L.length ≤ n → ∀ (a p : Nat) (T : List Tok) (R : List Int), BD L R → lx L a = (some T, p) → lx (L ++ R) a = appT T (lx R (a + L.length))
  | _, [], _, a, p, T, R, _, hT => by
    have e : T = [] := by
      have h1 : lx [] a = (some [], a) := rfl
      rw [h1] at hT
      cases hT; rfl
    subst e
    show lx R a = appT [] (lx R (a + 0))
    generalize lx R a = r
    obtain ⟨o, q⟩ := r
    cases o <;> simp [appT]
  | 0, x :: L, h, _, _, _, _, _, _ => by simp at h
  | n + 1, x :: L0, h, a, p, T, R, hB, hT => by
    obtain ⟨L, hL⟩ : ∃ L, x :: L0 = L := ⟨_, rfl⟩
    have hne : L ≠ [] := by rw [← hL]; exact List.cons_ne_nil _ _
    have hpos : 0 < L.length := by rw [← hL]; simp
    have hhd : (L ++ R).headD 0 = L.headD 0 := by rw [← hL]; rfl
    rw [hL] at h hB hT ⊢
    clear hL
    have hd : ∀ k, k ≤ L.length → (L ++ R).drop k = L.drop k ++ R := fun k hk => List.drop_append_of_le_length hk
    have ht : ∀ k, k ≤ L.length → (L ++ R).take k = L.take k := fun k hk => List.take_append_of_le_length hk
    obtain ⟨m, hm⟩ : ∃ m, L.length = m + 1 := ⟨L.length - 1, by omega⟩
    have F1 : lx L a = lexL (m + 1) L a := by unfold lx; rw [hm]
    have F2 : lx (L ++ R) a = lexL (m + R.length + 1) (L ++ R) a := by
      unfold lx; rw [List.length_append, hm]; congr 1; omega
    -- what a part leaves
    have ST : ∀ (k : Nat) (T' : List Tok) (p' : Nat), 0 < k → k ≤ L.length → lexL m (L.drop k) (a + k) = (some T', p') → lexL (m + R.length) (L.drop k ++ R) (a + k) = appT T' (lx R (a + L.length)) := by
      intro k T' p' k0 k1 hk
      have hl : (L.drop k).length = L.length - k := List.length_drop
      have h1 : lx (L.drop k) (a + k) = (some T', p') := by
        rw [← hk]; unfold lx; exact lexL_fuel _ _ _ _ (Nat.le_refl _) (by omega)
      have h2 := lx_join n (L.drop k) (by omega) (a + k) p' T' R (hB.drop k) h1
      rw [hl, show a + k + (L.length - k) = a + L.length by omega] at h2
      rw [← h2]; unfold lx
      exact lexL_fuel _ _ _ _ (by rw [List.length_append]; omega) (Nat.le_refl _)
    rw [F2]
    rw [F1] at hT
    unfold lexL at hT ⊢
    have hl0 : 0 < (L ++ R).length := by rw [List.length_append]; omega
    rw [if_pos hpos] at hT
    rw [if_pos hl0, hhd]
    by_cases hb : (L.headD 0 == 32 || L.headD 0 == 10) = true
    · rw [if_pos hb] at hT ⊢
      rw [hd 1 (by omega)]
      exact ST 1 T p (by omega) (by omega) hT
    · rw [if_neg hb] at hT ⊢
      rw [row_join hB hne false, row_join hB hne true, sign_join hB hne]
      have r1 := rowN_le' false L
      have r2 := rowN_le' true L
      by_cases hw : 0 < rowN false L
      · rw [if_pos hw] at hT ⊢
        rw [hd _ r1, ht _ r1]
        cases hr : lexL m (L.drop (rowN false L)) (a + rowN false L) with
        | mk o q =>
          rw [hr] at hT
          cases o with
          | none => simp [consT] at hT
          | some T' =>
            rw [ST _ T' q hw r1 hr, app_cons]
            simp only [consT, Option.map_some, Prod.mk.injEq, Option.some.injEq] at hT
            rw [hT.1]
      · rw [if_neg hw] at hT ⊢
        by_cases hn : 0 < rowN true L
        · rw [if_pos hn] at hT ⊢
          rw [hd _ r2, ht _ r2]
          by_cases hv : 65535 < numV (L.take (rowN true L))
          · rw [if_pos hv] at hT; cases hT
          · rw [if_neg hv] at hT ⊢
            cases hr : lexL m (L.drop (rowN true L)) (a + rowN true L) with
            | mk o q =>
              rw [hr] at hT
              cases o with
              | none => simp [consT] at hT
              | some T' =>
                rw [ST _ T' q hn r2 hr, app_cons]
                simp only [consT, Option.map_some, Prod.mk.injEq, Option.some.injEq] at hT
                rw [hT.1]
        · rw [if_neg hn] at hT ⊢
          by_cases hs : 0 < (signL L).size
          · rw [if_pos hs] at hT ⊢
            have r3 := sign_len hs
            rw [hd _ r3]
            cases hr : lexL m (L.drop (signL L).size) (a + (signL L).size) with
            | mk o q =>
              rw [hr] at hT
              cases o with
              | none => simp [consT] at hT
              | some T' =>
                rw [ST _ T' q hs r3 hr, app_cons]
                simp only [consT, Option.map_some, Prod.mk.injEq, Option.some.injEq] at hT
                rw [hT.1]
          · rw [if_neg hs] at hT; cases hT
/-- A token, moved. -/
def shT (d : Nat) (t : Tok) : Tok := { t with place := t.place + d }
def shR (d : Nat) (r : Option (List Tok) × Nat) : Option (List Tok) × Nat := (r.1.map (List.map (shT d)), r.2 + d)
theorem sh_cons (d : Nat) (t : Tok) (r : Option (List Tok) × Nat) : shR d (consT t r) = consT (shT d t) (shR d r) := by
  obtain ⟨o, p⟩ := r
  cases o <;> simp [shR, consT]
theorem lexL_move (d : Nat) : ∀ (f : Nat) (L : List Int) (a : Nat), lexL f L (a + d) = shR d (lexL f L a)
  | 0, _, _ => rfl
  | f + 1, L, a => by
    unfold lexL
    have R : ∀ n, lexL f (L.drop n) (a + d + n) = shR d (lexL f (L.drop n) (a + n)) := fun n => by
      rw [show a + d + n = a + n + d by omega]; exact lexL_move d f _ _
    split
    · split
      · exact R 1
      · split
        · rw [R, sh_cons]; unfold wordTokL shT; simp
        · split
          · split
            · rfl
            · rw [R, sh_cons]; unfold numTokL shT; simp
          · split
            · rw [R, sh_cons]; unfold shT; simp
            · rfl
    · rfl
theorem lx_move (d : Nat) (L : List Int) : lx L d = shR d (lx L 0) := by
  have := lexL_move d L.length L 0
  rw [Nat.zero_add] at this
  exact this
/-- Two parts: the first one's tokens as they are, the second one's moved. -/
theorem lx_two {L R : List Int} {T U : List Tok} {p q : Nat} (hB : BD L R) (h1 : lx L 0 = (some T, p)) (h2 : lx R 0 = (some U, q)) : lx (L ++ R) 0 = (some (T ++ U.map (shT L.length)), q + L.length) := by
  rw [lx_join L.length L (Nat.le_refl _) 0 p T R hB h1, Nat.zero_add, lx_move, h2]
  rfl
theorem lex_lx (s : ByteArray) : lex s s.size 0 [] = lx (nums s) 0 := by
  rw [lex_list s s.size 0 [] (Nat.zero_le _)]
  unfold lx
  rw [nums_length, List.drop_zero]
  generalize lexL s.size (nums s) 0 = r
  obtain ⟨o, p⟩ := r
  cases o <;> simp [appT]
end Go.Proofs.Ythmmgiaobakilaa

/- Tokens by their kinds. -/
namespace Go.Proofs.Ythmmgiaobakilaa
def kT (t : ByteArray) (p : Int) : Tok := ⟨0, 0, p, t⟩
def nT (t : ByteArray) (p : Int) : Tok := ⟨1, 0, p, t⟩
def sT (t : ByteArray) (p : Int) : Tok := ⟨3, 0, p, t⟩
def uT (n : Int) (t : ByteArray) (p : Int) : Tok := ⟨2, n, p, t⟩
end Go.Proofs.Ythmmgiaobakilaa

/- Rows of tokens that are one factor, wherever they stand; how they are joined. -/
set_option maxRecDepth 100000
namespace Go.Proofs.Ythmmgiaobakilaa
open Go.RowKit Go.Deep

theorem nk {b : Bool} (h : b = false) : ¬ b = true := by rw [h]; exact Bool.false_ne_true
/-- A row of tokens is one factor. -/
def Fac (d : Nat) (L : List Tok) (e : Ex) : Prop := ∀ (A R : List Tok) (n : Nat), d + 3 ≤ n → (pXF n).2 (A ++ (L ++ R)) A.length = got e (A.length + L.length)
theorem Fac.mono {d d' : Nat} {L : List Tok} {e : Ex} (h : Fac d L e) (hd : d ≤ d') : Fac d' L e := fun A R n hn => h A R n (by omega)
def isTk (t : Tok) (s : ByteArray) : Bool := ((t.kind == 3) || (t.kind == 0)) && (t.text.toList == s.toList)
theorem isT_tk {T : List Tok} {i : Nat} {t : Tok} (h : tkAt T i = t) (s : ByteArray) : isT T i s = isTk t s := by unfold isT; rw [h]; rfl
theorem any_tk {T : List Tok} {i : Nat} {t : Tok} (h : tkAt T i = t) (l : List ByteArray) : l.any (isT T i) = l.any (isTk t) := by
  congr 1; funext s; exact isT_tk h s
theorem tk_at {A R : List Tok} {t : Tok} {i : Nat} (hi : i = A.length) : tkAt (A ++ t :: R) i = t := by
  subst hi
  unfold tkAt
  rw [List.getD, List.getElem?_append_right (Nat.le_refl _), Nat.sub_self]
  rfl
theorem xf_eq {n : Nat} (hn : 3 ≤ n) : ∃ m, n = m + 3 ∧ (pXF n).2 = pFactor (pXF (n - 1)).1 (pXF (n - 1)).2 ∧ (pXF n).1 = pExpr (pLevel (pLevel (pXF n).2 opsT (m + 1)) opsS (m + 1)) := by
  obtain ⟨m, rfl⟩ : ∃ m, n = m + 3 := ⟨n - 3, by omega⟩
  refine ⟨m, rfl, ?_, ?_⟩
  · rw [pXF, if_neg (by omega)]; rfl
  · rw [pXF, if_neg (by omega)]; rfl
/-- No sign that goes on. -/
def NoOp (t : Tok) : Prop := opsT.any (isTk t) = false ∧ opsS.any (isTk t) = false ∧ opsE.any (isTk t) = false
theorem expr_one {n : Nat} (hn : 3 ≤ n) {T : List Tok} {i j : Nat} {e : Ex} (h : (pXF n).2 T i = got e j) {t : Tok} (ht : tkAt T j = t) (no : NoOp t) : (pXF n).1 T i = got e j := by
  obtain ⟨m, rfl, _, h1⟩ := xf_eq hn
  obtain ⟨n1, n2, n3⟩ := no
  have c : ∀ ops M k, ops.any (isTk t) = false → pChain M ops T (k + 1) e j = got e j := fun ops M k hk => by
    rw [pChain, any_tk ht, hk]; rfl
  have l1 : pLevel (pXF (m + 3)).2 opsT (m + 1) T i = got e j := by
    unfold pLevel
    rw [if_neg (by omega), h]
    exact c _ _ _ n1
  have l2 : pLevel (pLevel (pXF (m + 3)).2 opsT (m + 1)) opsS (m + 1) T i = got e j := by
    rw [pLevel, if_neg (by omega), l1]
    exact c _ _ _ n2
  rw [h1]
  unfold pExpr
  rw [l2]
  show pPair _ T e j = _
  unfold pPair
  rw [any_tk ht, n3]
  rfl
theorem expr_two {n : Nat} (hn : 4 ≤ n) {T : List Tok} {i j k : Nat} {a b : Ex} (ha : (pXF n).2 T i = got a j) (hb : (pXF n).2 T (j + 1) = got b k) {t u : Tok} (ht : tkAt T j = t) (hu : tkAt T k = u) (no : NoOp u) (op : (opsT.any (isTk t) = true) ∨ (opsT.any (isTk t) = false ∧ opsS.any (isTk t) = true) ∨ (opsT.any (isTk t) = false ∧ opsS.any (isTk t) = false ∧ opsE.any (isTk t) = true)) : (pXF n).1 T i = got (node2 t a b) k := by
  obtain ⟨m, rfl, _, h1⟩ := xf_eq (n := n) (by omega)
  obtain ⟨m, rfl⟩ : ∃ q, m = q + 1 := ⟨m - 1, by omega⟩
  obtain ⟨n1, n2, n3⟩ := no
  have c : ∀ ops M q e, ops.any (isTk u) = false → pChain M ops T (q + 1) e k = got e k := fun ops M q e hk => by
    rw [pChain, any_tk hu, hk]; rfl
  have c0 : ∀ ops M q e, ops.any (isTk t) = false → pChain M ops T (q + 1) e j = got e j := fun ops M q e hk => by
    rw [pChain, any_tk ht, hk]; rfl
  have fin : ∀ e, (pLevel (pLevel (pXF (m + 1 + 3)).2 opsT (m + 1 + 1)) opsS (m + 1 + 1)) T i = got e k → (pXF (m + 1 + 3)).1 T i = got e k := fun e he => by
    rw [h1]
    unfold pExpr
    rw [he]
    show pPair _ T e k = _
    unfold pPair
    rw [any_tk hu, n3]
    rfl
  rcases op with op | ⟨o1, op⟩ | ⟨o1, o2, op⟩
  · refine fin _ ?_
    have l1 : pLevel (pXF (m + 1 + 3)).2 opsT (m + 1 + 1) T i = got (node2 t a b) k := by
      unfold pLevel
      rw [if_neg (by omega), ha]
      show pChain _ opsT T (m + 1 + 1) a j = _
      rw [pChain, any_tk ht, op, if_pos rfl, hb, ht]
      exact c _ _ _ _ n1
    rw [pLevel, if_neg (by omega), l1]
    exact c _ _ _ _ n2
  · refine fin _ ?_
    have l1 : pLevel (pXF (m + 1 + 3)).2 opsT (m + 1 + 1) T i = got a j := by
      unfold pLevel
      rw [if_neg (by omega), ha]
      exact c0 _ _ _ _ o1
    have l2 : pLevel (pXF (m + 1 + 3)).2 opsT (m + 1 + 1) T (j + 1) = got b k := by
      unfold pLevel
      rw [if_neg (by omega), hb]
      exact c _ _ _ _ n1
    rw [pLevel, if_neg (by omega), l1]
    show pChain _ opsS T (m + 1 + 1) a j = _
    rw [pChain, any_tk ht, op, if_pos rfl, l2, ht]
    exact c _ _ _ _ n2
  · have l1 : pLevel (pXF (m + 1 + 3)).2 opsT (m + 1 + 1) T i = got a j := by
      unfold pLevel
      rw [if_neg (by omega), ha]
      exact c0 _ _ _ _ o1
    have l2 : pLevel (pXF (m + 1 + 3)).2 opsT (m + 1 + 1) T (j + 1) = got b k := by
      unfold pLevel
      rw [if_neg (by omega), hb]
      exact c _ _ _ _ n1
    have l3 : pLevel (pLevel (pXF (m + 1 + 3)).2 opsT (m + 1 + 1)) opsS (m + 1 + 1) T i = got a j := by
      rw [pLevel, if_neg (by omega), l1]
      exact c0 _ _ _ _ o2
    have l4 : pLevel (pLevel (pXF (m + 1 + 3)).2 opsT (m + 1 + 1)) opsS (m + 1 + 1) T (j + 1) = got b k := by
      rw [pLevel, if_neg (by omega), l2]
      exact c _ _ _ _ n2
    rw [h1]
    unfold pExpr
    rw [l3]
    show pPair _ T a j = _
    unfold pPair
    rw [any_tk ht, op, if_pos rfl, l4, ht]
    rfl
theorem need_tk {T : List Tok} {i : Nat} {t : Tok} {s : ByteArray} (h : tkAt T i = t) (hs : isTk t s = true) : pNeed T s i = got () (i + 1) := by
  unfold pNeed; rw [isT_tk h, hs]; rfl
theorem fac_num (v : Int) (x : ByteArray) (p : Int) : Fac 0 [uT v x p] (leafE (uT v x p)) := by
  intro A R n hn
  obtain ⟨m, rfl, h, _⟩ := xf_eq (n := n) (by omega)
  have ht : tkAt (A ++ ([uT v x p] ++ R)) A.length = uT v x p := tk_at rfl
  rw [h]; unfold pFactor; rw [ht]; rfl
theorem fac_name (s : ByteArray) (p : Int) : Fac 0 [nT s p] (leafE (nT s p)) := by
  intro A R n hn
  obtain ⟨m, rfl, h, _⟩ := xf_eq (n := n) (by omega)
  have ht : tkAt (A ++ ([nT s p] ++ R)) A.length = nT s p := tk_at rfl
  rw [h]; unfold pFactor; rw [ht]; rfl
theorem fac_neg {d : Nat} {L : List Tok} {e : Ex} (p : Int) (hf : Fac d L e) : Fac (d + 1) ([sT sNEG p] ++ L) (node1 (sT sNEG p) e) := by
  intro A R n hn
  obtain ⟨m, rfl, h, _⟩ := xf_eq (n := n) (by omega)
  have ht : tkAt (A ++ ([sT sNEG p] ++ L ++ R)) A.length = sT sNEG p := tk_at rfl
  have g := hf (A ++ [sT sNEG p]) R (m + 3 - 1) (by omega)
  rw [List.length_append, List.length_singleton, List.append_assoc, ← List.append_assoc [sT sNEG p]] at g
  rw [h]; unfold pFactor
  rw [ht, if_neg (by exact nk rfl), if_neg (by exact nk rfl), isT_tk ht, isT_tk ht, show isTk (sT sNEG p) sPO = false from by kernel_rfl, show isTk (sT sNEG p) sNEG = true from by kernel_rfl, if_neg (by decide), if_pos rfl, g]
  show got _ _ = got _ _
  congr 1
  simp; omega
/-- A sign between two expressions. -/
def IsOp (t : Tok) : Prop := (opsT.any (isTk t) = true) ∨ (opsT.any (isTk t) = false ∧ opsS.any (isTk t) = true) ∨ (opsT.any (isTk t) = false ∧ opsS.any (isTk t) = false ∧ opsE.any (isTk t) = true)
theorem fac_op {d : Nat} {L M : List Tok} {a b : Ex} (p q : Int) {t : Tok} (op : IsOp t) (ha : Fac d L a) (hb : Fac d M b) : Fac (d + 2) ([sT sPO p] ++ (L ++ ([t] ++ (M ++ [sT sPC q])))) (node2 t a b) := by
  intro A R n hn
  obtain ⟨m, rfl, h, _⟩ := xf_eq (n := n) (by omega)
  obtain ⟨T, hT⟩ : ∃ T, A ++ (([sT sPO p] ++ (L ++ ([t] ++ (M ++ [sT sPC q])))) ++ R) = T := ⟨_, rfl⟩
  have ht : tkAt T A.length = sT sPO p := by rw [← hT]; exact tk_at rfl
  have g1 := ha (A ++ [sT sPO p]) ([t] ++ (M ++ [sT sPC q]) ++ R) (m + 3 - 1) (by omega)
  have e1 : A ++ [sT sPO p] ++ (L ++ ([t] ++ (M ++ [sT sPC q]) ++ R)) = T := by rw [← hT]; simp
  have g2 := hb (A ++ [sT sPO p] ++ L ++ [t]) ([sT sPC q] ++ R) (m + 3 - 1) (by omega)
  have e2 : A ++ [sT sPO p] ++ L ++ [t] ++ (M ++ ([sT sPC q] ++ R)) = T := by rw [← hT]; simp
  have k1 : tkAt T (A.length + 1 + L.length) = t := by
    rw [← hT, show A ++ (([sT sPO p] ++ (L ++ ([t] ++ (M ++ [sT sPC q])))) ++ R) = (A ++ [sT sPO p] ++ L) ++ t :: (M ++ [sT sPC q] ++ R) by simp]
    exact tk_at (by simp; omega)
  have k2 : tkAt T (A.length + 1 + L.length + 1 + M.length) = sT sPC q := by
    rw [← hT, show A ++ (([sT sPO p] ++ (L ++ ([t] ++ (M ++ [sT sPC q])))) ++ R) = (A ++ [sT sPO p] ++ L ++ [t] ++ M) ++ sT sPC q :: R by simp]
    exact tk_at (by simp; omega)
  rw [e1] at g1
  rw [e2] at g2
  simp only [List.length_append, List.length_singleton] at g1 g2
  have g3 := expr_two (n := m + 3 - 1) (by omega) g1 g2 k1 k2 ⟨by kernel_rfl, by kernel_rfl, by kernel_rfl⟩ op
  rw [hT, h]; unfold pFactor
  rw [ht, if_neg (by exact nk rfl), if_neg (by exact nk rfl), isT_tk ht, show isTk (sT sPO p) sPO = true from by kernel_rfl, if_pos rfl, g3]
  show andThen (pNeed T sPC _) _ = _
  rw [need_tk k2 (by kernel_rfl)]
  show got _ _ = got _ _
  congr 1
  simp; omega
theorem two_run {d n : Nat} (hn : d + 3 ≤ n) {L M : List Tok} {a b : Ex} {t : Tok} {l r : ByteArray} (p q u : Int) (hl : isTk (sT l p) l = true) (hr : isTk (sT r u) r = true) (no : NoOp (sT r u)) (ha : Fac d L a) (hb : Fac d M b) (A R : List Tok) :
    pTwo (pXF n).1 l r (A ++ (([t] ++ ([sT l p] ++ (L ++ ([sT sCM q] ++ (M ++ [sT r u]))))) ++ R)) A.length = got (node2 t a b) (A.length + ([t] ++ ([sT l p] ++ (L ++ ([sT sCM q] ++ (M ++ [sT r u]))))).length) := by
  obtain ⟨T, hT⟩ : ∃ T, A ++ (([t] ++ ([sT l p] ++ (L ++ ([sT sCM q] ++ (M ++ [sT r u]))))) ++ R) = T := ⟨_, rfl⟩
  have ht : tkAt T A.length = t := by rw [← hT]; exact tk_at rfl
  have k0 : tkAt T (A.length + 1) = sT l p := by
    rw [← hT, show A ++ (([t] ++ ([sT l p] ++ (L ++ ([sT sCM q] ++ (M ++ [sT r u]))))) ++ R) = (A ++ [t]) ++ sT l p :: (L ++ ([sT sCM q] ++ (M ++ [sT r u])) ++ R) by simp]
    exact tk_at (by simp)
  have g1 := ha (A ++ [t] ++ [sT l p]) ([sT sCM q] ++ (M ++ [sT r u]) ++ R) n hn
  have e1 : A ++ [t] ++ [sT l p] ++ (L ++ ([sT sCM q] ++ (M ++ [sT r u]) ++ R)) = T := by rw [← hT]; simp
  have g2 := hb (A ++ [t] ++ [sT l p] ++ L ++ [sT sCM q]) ([sT r u] ++ R) n hn
  have e2 : A ++ [t] ++ [sT l p] ++ L ++ [sT sCM q] ++ (M ++ ([sT r u] ++ R)) = T := by rw [← hT]; simp
  have k1 : tkAt T (A.length + 1 + 1 + L.length) = sT sCM q := by
    rw [← hT, show A ++ (([t] ++ ([sT l p] ++ (L ++ ([sT sCM q] ++ (M ++ [sT r u]))))) ++ R) = (A ++ [t] ++ [sT l p] ++ L) ++ sT sCM q :: (M ++ [sT r u] ++ R) by simp]
    exact tk_at (by simp; omega)
  have k2 : tkAt T (A.length + 1 + 1 + L.length + 1 + M.length) = sT r u := by
    rw [← hT, show A ++ (([t] ++ ([sT l p] ++ (L ++ ([sT sCM q] ++ (M ++ [sT r u]))))) ++ R) = (A ++ [t] ++ [sT l p] ++ L ++ [sT sCM q] ++ M) ++ sT r u :: R by simp]
    exact tk_at (by simp; omega)
  rw [e1] at g1
  rw [e2] at g2
  simp only [List.length_append, List.length_singleton] at g1 g2
  have f1 := expr_one (by omega) g1 k1 ⟨by kernel_rfl, by kernel_rfl, by kernel_rfl⟩
  have f2 := expr_one (by omega) g2 k2 no
  rw [hT]
  unfold pTwo
  rw [need_tk k0 hl]
  show andThen ((pXF n).1 T (A.length + 1 + 1)) _ = _
  rw [f1]
  show andThen (pNeed T sCM _) _ = _
  rw [need_tk k1 (by kernel_rfl)]
  show andThen ((pXF n).1 T _) _ = _
  rw [f2]
  show andThen (pNeed T r _) _ = _
  rw [need_tk k2 hr, ht]
  show got _ _ = got _ _
  congr 1
  simp; omega
theorem fac_peek {d : Nat} {L M : List Tok} {a b : Ex} (o p q u : Int) (ha : Fac d L a) (hb : Fac d M b) : Fac (d + 1) ([kT sPEEK o] ++ ([sT sBO p] ++ (L ++ ([sT sCM q] ++ (M ++ [sT sBC u]))))) (node2 (kT sPEEK o) a b) := by
  intro A R n hn
  obtain ⟨m, rfl, h, _⟩ := xf_eq (n := n) (by omega)
  have g := two_run (n := m + 3 - 1) (by omega) (t := kT sPEEK o) (l := sBO) (r := sBC) p q u (by kernel_rfl) (by kernel_rfl) ⟨by kernel_rfl, by kernel_rfl, by kernel_rfl⟩ ha hb A R
  have ht : tkAt (A ++ (([kT sPEEK o] ++ ([sT sBO p] ++ (L ++ ([sT sCM q] ++ (M ++ [sT sBC u]))))) ++ R)) A.length = kT sPEEK o := tk_at rfl
  rw [h]; unfold pFactor
  rw [ht, if_neg (by exact nk rfl), if_neg (by exact nk rfl)]
  simp only [isT_tk ht]
  rw [show isTk (kT sPEEK o) sPO = false from by kernel_rfl, show isTk (kT sPEEK o) sNEG = false from by kernel_rfl, show isTk (kT sPEEK o) sPEEK = true from by kernel_rfl, if_neg (by decide), if_neg (by decide), if_pos rfl]
  exact g
theorem fac_spy {d : Nat} {L M : List Tok} {a b : Ex} (o p q u : Int) (ha : Fac d L a) (hb : Fac d M b) : Fac (d + 1) ([kT sSPY o] ++ ([sT sBO p] ++ (L ++ ([sT sCM q] ++ (M ++ [sT sBC u]))))) (node2 (kT sSPY o) a b) := by
  intro A R n hn
  obtain ⟨m, rfl, h, _⟩ := xf_eq (n := n) (by omega)
  have g := two_run (n := m + 3 - 1) (by omega) (t := kT sSPY o) (l := sBO) (r := sBC) p q u (by kernel_rfl) (by kernel_rfl) ⟨by kernel_rfl, by kernel_rfl, by kernel_rfl⟩ ha hb A R
  have ht : tkAt (A ++ (([kT sSPY o] ++ ([sT sBO p] ++ (L ++ ([sT sCM q] ++ (M ++ [sT sBC u]))))) ++ R)) A.length = kT sSPY o := tk_at rfl
  rw [h]; unfold pFactor
  rw [ht, if_neg (by exact nk rfl), if_neg (by exact nk rfl)]
  simp only [isT_tk ht]
  rw [show isTk (kT sSPY o) sPO = false from by kernel_rfl, show isTk (kT sSPY o) sNEG = false from by kernel_rfl, show isTk (kT sSPY o) sPEEK = false from by kernel_rfl, show isTk (kT sSPY o) sSPY = true from by kernel_rfl, if_neg (by decide), if_neg (by decide), if_neg (by decide), if_pos rfl]
  exact g
theorem fac_min {d : Nat} {L M : List Tok} {a b : Ex} (o p q u : Int) (ha : Fac d L a) (hb : Fac d M b) : Fac (d + 1) ([kT sMIN o] ++ ([sT sPO p] ++ (L ++ ([sT sCM q] ++ (M ++ [sT sPC u]))))) (node2 (kT sMIN o) a b) := by
  intro A R n hn
  obtain ⟨m, rfl, h, _⟩ := xf_eq (n := n) (by omega)
  have g := two_run (n := m + 3 - 1) (by omega) (t := kT sMIN o) (l := sPO) (r := sPC) p q u (by kernel_rfl) (by kernel_rfl) ⟨by kernel_rfl, by kernel_rfl, by kernel_rfl⟩ ha hb A R
  have ht : tkAt (A ++ (([kT sMIN o] ++ ([sT sPO p] ++ (L ++ ([sT sCM q] ++ (M ++ [sT sPC u]))))) ++ R)) A.length = kT sMIN o := tk_at rfl
  rw [h]; unfold pFactor
  rw [ht, if_neg (by exact nk rfl), if_neg (by exact nk rfl)]
  simp only [isT_tk ht]
  rw [show isTk (kT sMIN o) sPO = false from by kernel_rfl, show isTk (kT sMIN o) sNEG = false from by kernel_rfl, show isTk (kT sMIN o) sPEEK = false from by kernel_rfl, show isTk (kT sMIN o) sSPY = false from by kernel_rfl, show isTk (kT sMIN o) sMIN = true from by kernel_rfl, if_neg (by decide), if_neg (by decide), if_neg (by decide), if_neg (by decide), if_pos rfl]
  exact g
theorem fac_sel {d : Nat} {L M N : List Tok} {a b c : Ex} (o p q r u : Int) (ha : Fac d L a) (hb : Fac d M b) (hc : Fac d N c) : Fac (d + 1) ([kT sSEL o] ++ ([sT sPO p] ++ (L ++ ([sT sCM q] ++ (M ++ ([sT sCM r] ++ (N ++ [sT sPC u]))))))) (node3 (kT sSEL o) a b c) := by
  intro A R n hn
  obtain ⟨m, rfl, h, _⟩ := xf_eq (n := n) (by omega)
  obtain ⟨T, hT⟩ : ∃ T, A ++ (([kT sSEL o] ++ ([sT sPO p] ++ (L ++ ([sT sCM q] ++ (M ++ ([sT sCM r] ++ (N ++ [sT sPC u]))))))) ++ R) = T := ⟨_, rfl⟩
  have ht : tkAt T A.length = kT sSEL o := by rw [← hT]; exact tk_at rfl
  have k0 : tkAt T (A.length + 1) = sT sPO p := by
    have e : (A ++ [kT sSEL o]) ++ sT sPO p :: (L ++ ([sT sCM q] ++ (M ++ ([sT sCM r] ++ (N ++ [sT sPC u])))) ++ R) = T := by rw [← hT]; simp
    rw [← e]; exact tk_at (by simp)
  have g1 := ha (A ++ [kT sSEL o] ++ [sT sPO p]) ([sT sCM q] ++ (M ++ ([sT sCM r] ++ (N ++ [sT sPC u]))) ++ R) (m + 3 - 1) (by omega)
  have e1 : A ++ [kT sSEL o] ++ [sT sPO p] ++ (L ++ ([sT sCM q] ++ (M ++ ([sT sCM r] ++ (N ++ [sT sPC u]))) ++ R)) = T := by rw [← hT]; simp
  have g2 := hb (A ++ [kT sSEL o] ++ [sT sPO p] ++ L ++ [sT sCM q]) ([sT sCM r] ++ (N ++ [sT sPC u]) ++ R) (m + 3 - 1) (by omega)
  have e2 : A ++ [kT sSEL o] ++ [sT sPO p] ++ L ++ [sT sCM q] ++ (M ++ ([sT sCM r] ++ (N ++ [sT sPC u]) ++ R)) = T := by rw [← hT]; simp
  have g3 := hc (A ++ [kT sSEL o] ++ [sT sPO p] ++ L ++ [sT sCM q] ++ M ++ [sT sCM r]) ([sT sPC u] ++ R) (m + 3 - 1) (by omega)
  have e3 : A ++ [kT sSEL o] ++ [sT sPO p] ++ L ++ [sT sCM q] ++ M ++ [sT sCM r] ++ (N ++ ([sT sPC u] ++ R)) = T := by rw [← hT]; simp
  have k1 : tkAt T (A.length + 1 + 1 + L.length) = sT sCM q := by
    have e : (A ++ [kT sSEL o] ++ [sT sPO p] ++ L) ++ sT sCM q :: (M ++ ([sT sCM r] ++ (N ++ [sT sPC u])) ++ R) = T := by rw [← hT]; simp
    rw [← e]; exact tk_at (by simp; omega)
  have k2 : tkAt T (A.length + 1 + 1 + L.length + 1 + M.length) = sT sCM r := by
    have e : (A ++ [kT sSEL o] ++ [sT sPO p] ++ L ++ [sT sCM q] ++ M) ++ sT sCM r :: (N ++ [sT sPC u] ++ R) = T := by rw [← hT]; simp
    rw [← e]; exact tk_at (by simp; omega)
  have k3 : tkAt T (A.length + 1 + 1 + L.length + 1 + M.length + 1 + N.length) = sT sPC u := by
    have e : (A ++ [kT sSEL o] ++ [sT sPO p] ++ L ++ [sT sCM q] ++ M ++ [sT sCM r] ++ N) ++ sT sPC u :: R = T := by rw [← hT]; simp
    rw [← e]; exact tk_at (by simp; omega)
  rw [e1] at g1
  rw [e2] at g2
  rw [e3] at g3
  simp only [List.length_append, List.length_singleton] at g1 g2 g3
  have f1 := expr_one (by omega) g1 k1 ⟨by kernel_rfl, by kernel_rfl, by kernel_rfl⟩
  have f2 := expr_one (by omega) g2 k2 ⟨by kernel_rfl, by kernel_rfl, by kernel_rfl⟩
  have f3 := expr_one (by omega) g3 k3 ⟨by kernel_rfl, by kernel_rfl, by kernel_rfl⟩
  rw [hT, h]; unfold pFactor
  rw [ht, if_neg (by exact nk rfl), if_neg (by exact nk rfl)]
  simp only [isT_tk ht]
  rw [show isTk (kT sSEL o) sPO = false from by kernel_rfl, show isTk (kT sSEL o) sNEG = false from by kernel_rfl, show isTk (kT sSEL o) sPEEK = false from by kernel_rfl, show isTk (kT sSEL o) sSPY = false from by kernel_rfl, show isTk (kT sSEL o) sMIN = false from by kernel_rfl, show isTk (kT sSEL o) sMAX = false from by kernel_rfl, show isTk (kT sSEL o) sSEL = true from by kernel_rfl, if_neg (by decide), if_neg (by decide), if_neg (by decide), if_neg (by decide), if_neg (by decide), if_neg (by decide), if_pos rfl]
  unfold pThree
  rw [need_tk k0 (by kernel_rfl)]
  show andThen ((pXF (m + 3 - 1)).1 T (A.length + 1 + 1)) _ = _
  rw [f1]
  show andThen (pNeed T sCM _) _ = _
  rw [need_tk k1 (by kernel_rfl)]
  show andThen ((pXF (m + 3 - 1)).1 T _) _ = _
  rw [f2]
  show andThen (pNeed T sCM _) _ = _
  rw [need_tk k2 (by kernel_rfl)]
  show andThen ((pXF (m + 3 - 1)).1 T _) _ = _
  rw [f3]
  show andThen (pNeed T sPC _) _ = _
  rw [need_tk k3 (by kernel_rfl), ht]
  show got _ _ = got _ _
  congr 1
  simp; omega
end Go.Proofs.Ythmmgiaobakilaa

/- The project's small words: is a text, a sign in a list? -/
set_option maxRecDepth 100000
namespace Go.Proofs.Ythmmgiaobakilaa
open Go.RowKit

set_option maxHeartbeats 2000000 in
theorem sindex_any (w : World) (b off c : Nat) (l : List ByteArray) (v : ByteArray) (hc : ∀ j (hj : j < l.length), w.cell? ⟨b, off + j, none⟩ = some (Value.string l[j])) (hl : l.length ≤ 1000) :
    Calls Try.prog 126 #[.slice (some ⟨b, off, none⟩) l.length c, Value.string v] w fun e w' => (∃ n : Int, e = .returned (.int .i64 n) ∧ decide (0 ≤ n) = l.any (fun t => v.toList == t.toList)) ∧ w' = w := by
  go_enter Try.func126, Try.ntmps126
  go_wp2
  go_loop [8] (fun i => ∃ k : Nat, k ≤ l.length ∧ i = .int .i64 k ∧ ∀ j (hj : j < l.length), j < k → (fun t => v.toList == t.toList) l[j] = false) (fun i => l.length - (intOf i).toNat)
  case atStart => exact ⟨0, Nat.zero_le _, rfl, fun j hj h0 => absurd h0 (Nat.not_lt_zero _)⟩
  case round =>
    obtain ⟨k, hk, rfl, hno⟩ := hrel
    by_cases hlt : k < l.length
    · have hck := hc k hlt
      have HN := hide hno
      have hki : (k : Int) < (l.length : Int) := by omega
      obtain ⟨x, hx⟩ : ∃ x, l[k] = x := ⟨_, rfl⟩
      rw [hx] at hck
      clear hno hc
      cases he : (v.toList == x.toList)
      · go_wp2
        go_round
        case rel =>
          refine ⟨k + 1, by omega, by go_num, fun j hj hlt2 => ?_⟩
          rcases Nat.lt_or_ge j k with h | h
          · exact unhide HN j hj h
          · have e : j = k := by omega
            subst e
            show (v.toList == l[j].toList) = false
            rw [hx]
            exact he
        case measure => simp [intOf]; omega
      · go_wp2
        go_ret
        refine ⟨⟨(k : Int), rfl, ?_⟩, rfl⟩
        have : l.any (fun t => v.toList == t.toList) = true := List.any_eq_true.2 ⟨l[k], List.getElem_mem hlt, by rw [hx]; exact he⟩
        rw [this]
        simp
    · go_wp2
      go_ret
      refine ⟨⟨-1, rfl, ?_⟩, rfl⟩
      have : l.any (fun t => v.toList == t.toList) = false := by
        rw [List.any_eq_false]
        intro t ht
        obtain ⟨j, hj, rfl⟩ := List.getElem_of_mem ht
        have := hno j hj (by omega)
        rw [this]
        simp
      rw [this]
      decide
set_option maxHeartbeats 2000000 in
theorem scontains_any (w : World) (b off c : Nat) (l : List ByteArray) (v : ByteArray) (hc : ∀ j (hj : j < l.length), w.cell? ⟨b, off + j, none⟩ = some (Value.string l[j])) (hl : l.length ≤ 1000) :
    Calls Try.prog 100 #[.slice (some ⟨b, off, none⟩) l.length c, Value.string v] w fun e w' => e = .returned (.bool (l.any (fun t => v.toList == t.toList))) ∧ w' = w := by
  go_enter Try.func100, Try.ntmps100
  go_wp2_with fail
  refine (sindex_any w b off c l v hc hl).mono ?_
  rintro e w1 ⟨⟨n, rfl, hn⟩, hw⟩
  obtain rfl := hw.symm
  have HN := hide hn
  clear hn
  go_wp2
  go_ret
  exact ⟨ret_bool (unhide HN), rfl⟩

set_option maxHeartbeats 2000000 in
theorem rindex_any (w : World) (b off c : Nat) (l : List Int) (v : Int) (hc : ∀ j (hj : j < l.length), w.cell? ⟨b, off + j, none⟩ = some (Value.int .i32 l[j])) (hl : l.length ≤ 1000) :
    Calls Try.prog 140 #[.slice (some ⟨b, off, none⟩) l.length c, Value.int .i32 v] w fun e w' => (∃ n : Int, e = .returned (.int .i64 n) ∧ decide (0 ≤ n) = l.any (fun t => v == t)) ∧ w' = w := by
  go_enter Try.func140, Try.ntmps140
  go_wp2
  go_loop [8] (fun i => ∃ k : Nat, k ≤ l.length ∧ i = .int .i64 k ∧ ∀ j (hj : j < l.length), j < k → (fun t => v == t) l[j] = false) (fun i => l.length - (intOf i).toNat)
  case atStart => exact ⟨0, Nat.zero_le _, rfl, fun j hj h0 => absurd h0 (Nat.not_lt_zero _)⟩
  case round =>
    obtain ⟨k, hk, rfl, hno⟩ := hrel
    by_cases hlt : k < l.length
    · have hck := hc k hlt
      have HN := hide hno
      have hki : (k : Int) < (l.length : Int) := by omega
      obtain ⟨x, hx⟩ : ∃ x, l[k] = x := ⟨_, rfl⟩
      rw [hx] at hck
      clear hno hc
      cases he : (v == x)
      · go_wp2
        go_round
        case rel =>
          refine ⟨k + 1, by omega, by go_num, fun j hj hlt2 => ?_⟩
          rcases Nat.lt_or_ge j k with h | h
          · exact unhide HN j hj h
          · have e : j = k := by omega
            subst e
            show (v == l[j]) = false
            rw [hx]
            exact he
        case measure => simp [intOf]; omega
      · go_wp2
        go_ret
        refine ⟨⟨(k : Int), rfl, ?_⟩, rfl⟩
        have : l.any (fun t => v == t) = true := List.any_eq_true.2 ⟨l[k], List.getElem_mem hlt, by rw [hx]; exact he⟩
        rw [this]
        simp
    · go_wp2
      go_ret
      refine ⟨⟨-1, rfl, ?_⟩, rfl⟩
      have : l.any (fun t => v == t) = false := by
        rw [List.any_eq_false]
        intro t ht
        obtain ⟨j, hj, rfl⟩ := List.getElem_of_mem ht
        have := hno j hj (by omega)
        rw [this]
        simp
      rw [this]
      decide
set_option maxHeartbeats 2000000 in
theorem rcontains_any (w : World) (b off c : Nat) (l : List Int) (v : Int) (hc : ∀ j (hj : j < l.length), w.cell? ⟨b, off + j, none⟩ = some (Value.int .i32 l[j])) (hl : l.length ≤ 1000) :
    Calls Try.prog 127 #[.slice (some ⟨b, off, none⟩) l.length c, Value.int .i32 v] w fun e w' => e = .returned (.bool (l.any (fun t => v == t))) ∧ w' = w := by
  go_enter Try.func127, Try.ntmps127
  go_wp2_with fail
  refine (rindex_any w b off c l v hc hl).mono ?_
  rintro e w1 ⟨⟨n, rfl, hn⟩, hw⟩
  obtain rfl := hw.symm
  have HN := hide hn
  clear hn
  go_wp2
  go_ret
  exact ⟨ret_bool (unhide HN), rfl⟩

end Go.Proofs.Ythmmgiaobakilaa
