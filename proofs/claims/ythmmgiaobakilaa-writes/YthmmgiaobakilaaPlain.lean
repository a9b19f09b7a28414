/- Plain facts and words for the texts of this seat: what a scene's lists are, the bytes of a scene. No condition. -/
import Derived.Test.YthmmgiaobakilaaRows
import Derived.WalkKit
import Derived.WalkSpells
import Derived.WalkLawsBesides
import Derived.Lib.AppendStr
import Derived.Lib.SlBytesRow
set_option maxRecDepth 100000
namespace Go.Proofs.Ythmmgiaobakilaa
open Go.RowKit

theorem hide {p : Prop} (h : p) : Hid p := h
theorem unhide {p : Prop} (h : Hid p) : p := h

/-- A list of ints lies at an address, in blocks below B. -/
def IntsAt (B : Nat) (w : World) (ao : Option Addr) (xs : List Int) : Prop :=
  xs = [] ∨ ∃ b off, ao = some ⟨b, off, none⟩ ∧ b < B ∧ ∀ j, j < xs.length → w.cell? ⟨b, off + j, none⟩ = some (.int .i64 (xs.getD j 0))

theorem IntsAt.later {B B' : Nat} {w w' : World} {ao : Option Addr} {xs : List Int} (h : IntsAt B w ao xs) (hb : Below B' w w') (hB : B ≤ B') : IntsAt B w' ao xs := by
  rcases h with h | ⟨b, off, h1, h2, h3⟩
  · exact .inl h
  · exact .inr ⟨b, off, h1, h2, fun j hj => (hb.cell (p := ⟨b, off + j, none⟩) (by show b < B'; omega)).trans (h3 j hj)⟩

theorem IntsAt.mono {B B' : Nat} {w : World} {ao : Option Addr} {xs : List Int} (h : IntsAt B w ao xs) (hB : B ≤ B') : IntsAt B' w ao xs := by
  rcases h with h | ⟨b, off, h1, h2, h3⟩
  · exact .inl h
  · exact .inr ⟨b, off, h1, by omega, h3⟩

def sideB (n : Int) : Bool := decide (1 ≤ n) && decide (n ≤ 6)
def texelB (x : Int) : Bool := decide (0 ≤ x) && decide (x ≤ 255)
def texelsB (xs : List Int) (c : Int) : Bool := decide ((xs.length : Int) = c) && xs.all texelB
/-- What is wrong with a scene's sides or texels: its number. -/
def shapeE (W H : Int) (xs ys : List Int) : Int :=
  if sideB W && sideB H then (if texelsB xs (W * H) && texelsB ys (W * H) then 0 else 6) else 3

theorem side_mul {W H : Int} (hW : sideB W = true) (hH : sideB H = true) : 1 ≤ W ∧ W ≤ 6 ∧ 1 ≤ H ∧ H ≤ 6 ∧ 1 ≤ W * H ∧ W * H ≤ 36 := by
  simp [sideB] at hW hH
  obtain ⟨a, b⟩ := hW
  obtain ⟨c, d⟩ := hH
  have h1 : (W = 1 ∨ W = 2 ∨ W = 3 ∨ W = 4 ∨ W = 5 ∨ W = 6) := by omega
  refine ⟨a, b, c, d, ?_⟩
  rcases h1 with rfl | rfl | rfl | rfl | rfl | rfl <;> omega

theorem shape_zero {W H : Int} {xs ys : List Int} (h : shapeE W H xs ys = 0) :
    sideB W = true ∧ sideB H = true ∧ (xs.length : Int) = W * H ∧ (ys.length : Int) = W * H ∧ xs.all texelB = true ∧ ys.all texelB = true := by
  unfold shapeE at h
  split at h
  · rename_i h1
    split at h
    · rename_i h2
      simp only [texelsB, Bool.and_eq_true, decide_eq_true_eq] at h1 h2
      exact ⟨h1.1, h1.2, h2.1.1, h2.2.1, h2.1.2, h2.2.2⟩
    · simp at h
  · simp at h

theorem shape_ge {W H : Int} {xs ys : List Int} : 0 ≤ shapeE W H xs ys ∧ shapeE W H xs ys ≤ 6 := by
  unfold shapeE
  split <;> (try split) <;> simp

/-- A string's bytes as numbers. -/
def nums (s : ByteArray) : List Int := s.data.toList.map fun b => (b.toNat : Int)
theorem nums_length (s : ByteArray) : (nums s).length = s.size := by simp [nums]
theorem strCells_nums (s : ByteArray) : Lib.strCells s = (nums s).map (Value.int .u8) := by simp [Lib.strCells, nums]
theorem nums_back (s : ByteArray) : strOfNums (nums s) = s := by
  cases s with
  | mk d =>
    simp only [strOfNums, nums, List.map_map]
    congr 1
    apply Array.ext'
    simp [Function.comp_def]

/-- The bytes of a scene, as numbers. -/
def encN (W H : Int) (xs ys : List Int) (src : ByteArray) : List Int := [85, W, H] ++ xs ++ ys ++ [(src.size : Int) / 256, (src.size : Int) % 256] ++ nums src
/-- What Encode answers: the bytes, the error. -/
def encE (W H : Int) (xs ys : List Int) (src : ByteArray) : Int := if shapeE W H xs ys = 0 then (if 300 < src.size then 7 else 0) else shapeE W H xs ys
def encS (W H : Int) (xs ys : List Int) (src : ByteArray) : ByteArray := if encE W H xs ys src = 0 then strOfNums (encN W H xs ys src) else ByteArray.empty

theorem ret_int {k : IntKind} {a b : Int} (h : a = b) : Ending.returned (.int k a) = .returned (.int k b) := by rw [h]
theorem ret_bool {a b : Bool} (h : a = b) : Ending.returned (.bool a) = .returned (.bool b) := by rw [h]

theorem all_take_succ (p : Int → Bool) (xs : List Int) (k : Nat) (h : k < xs.length) : (xs.take (k + 1)).all p = ((xs.take k).all p && p (xs.getD k 0)) := by
  rw [List.take_succ_eq_append_getElem h, List.all_append]
  simp only [List.all_cons, List.all_nil, Bool.and_true, List.getD, List.getElem?_eq_getElem h, Option.getD_some]
theorem all_false_of (p : Int → Bool) (xs : List Int) (k : Nat) (h : k < xs.length) (hp : p (xs.getD k 0) = false) : xs.all p = false := by
  rw [Bool.eq_false_iff]
  intro hall
  have := List.all_eq_true.1 hall (xs[k]) (List.getElem_mem h)
  simp [List.getD, List.getElem?_eq_getElem h] at hp
  simp [hp] at this

/-- A box of five cells that the caller has laid, behind a call that turns nothing old. -/
theorem box5 {w w' : World} {c0 c1 c2 c3 c4 : Value} {T : TypeId} (h : Below (w.alloc (.cells #[c0, c1, c2, c3, c4] T)).heap.size (w.alloc (.cells #[c0, c1, c2, c3, c4] T)) w') :
    w'.cell? ⟨w.heap.size, 0, none⟩ = some c0 ∧ w'.cell? ⟨w.heap.size, 1, none⟩ = some c1 ∧ w'.cell? ⟨w.heap.size, 2, none⟩ = some c2 ∧ w'.cell? ⟨w.heap.size, 3, none⟩ = some c3 ∧ w'.cell? ⟨w.heap.size, 4, none⟩ = some c4 ∧ w.heap.size < w'.heap.size := by
  have hc : ∀ i, w'.cell? ⟨w.heap.size, i, none⟩ = #[c0, c1, c2, c3, c4][i]? := fun i =>
    (h.cell (p := ⟨w.heap.size, i, none⟩) (by simp)).trans (World.cell?_alloc_at _ _ _ _ rfl)
  exact ⟨hc 0, hc 1, hc 2, hc 3, hc 4, by have := h.size; simp at this; omega⟩

theorem ret_str {a b : ByteArray} {e : Int} (h : a = b) : Ending.returned (.tuple #[.string a, .int .i64 e]) = .returned (.tuple #[.string b, .int .i64 e]) := by rw [h]
theorem strOfNums_append (a b : List Int) : strOfNums (a ++ b) = strOfNums a ++ strOfNums b := by
  apply ByteArray.ext
  simp [strOfNums, ByteArray.data_append]
theorem encN_parts (W H : Int) (xs ys : List Int) (src : ByteArray) (s1 s2 : List Int) (h1 : s1 = [85, W, H] ++ xs ++ ys) (h2 : s2 = [(src.size : Int) / 256, (src.size : Int) % 256]) :
    strOfNums s1 ++ strOfNums s2 ++ src = strOfNums (encN W H xs ys src) := by
  subst h1 h2
  conv => lhs; rw [← nums_back src]
  rw [← strOfNums_append, ← strOfNums_append]
  simp only [encN, nums_back]

theorem keep_cell {w w' : World} {n i : Nat} {v : Value} (k : w.cell? ⟨n, i, none⟩ = some v) (h : Below (n + 1) w w') : w'.cell? ⟨n, i, none⟩ = some v :=
  (h.cell (p := ⟨n, i, none⟩) (by simp)).trans k

theorem cell_new (w : World) (cs : List Value) (T : TypeId) : ∀ j u, cs[j]? = some u → (w.alloc (.cells cs.toArray T)).cell? ((⟨w.heap.size, 0, none⟩ : Addr).add j) = some u := by
  intro j u h
  have hadd : (⟨w.heap.size, 0, none⟩ : Addr).add j = ⟨w.heap.size, j, none⟩ := by unfold Addr.add; split <;> simp_all
  rw [hadd, World.cell?_alloc_at _ _ _ _ rfl]
  simpa using h

/-- 'string(b)' of a row of bytes that the call owns. -/
theorem conv_own {w : World} {base : Nat} {v : Value} {n : Nat} {ns : List Int} (h : w.ownsRow base 5 1 v n (ns.map (Value.int .u8))) :
    (convert 58 9 v).run Try.prog w = .ok (.string (strOfNums ns)) w := by
  have hl : ns.length = n := by simpa using h.1
  rcases h.2 with ⟨rfl, rfl⟩ | ⟨g, cap, cur, rfl, _⟩
  · have : ns = [] := List.eq_nil_of_length_eq_zero hl
    subst this
    rw [run_convert_bytes_nil w 58 5 Try.underlying58 Try.underlying5 0 0 9 Try.underlying9]
    rfl
  · refine run_convert_bytes_arg w 58 5 Try.underlying58 Try.underlying5 g 0 n cap ns hl (fun i hi => ?_) 9 Try.underlying9
    have hc := h.cellAt i (by omega)
    rw [Nat.zero_add, hc, List.getElem?_map, List.getElem?_eq_getElem (by omega)]
    simp [List.getD, List.getElem?_eq_getElem (show i < ns.length by omega)]

theorem index_at (b : ByteArray) (i : Nat) (c : Int) (hc : c = (i : Int)) (h : i < b.size) (u : World) : (Instr.index 9 (.string b) (.int .i64 c)).run Try.prog u = .ok (.int .u8 (b[i].toNat : Int)) u := by
  subst hc
  rw [run_index_string (P := Try.prog) u 9 b .i64 (i : Int) Try.underlying9, dif_pos ⟨by omega, by omega⟩]
  simp
theorem slice_at (b : ByteArray) (i j : Nat) (c d : Int) (hc : c = (i : Int)) (hd : d = (j : Int)) (h1 : i ≤ j) (h2 : j ≤ b.size) (u : World) : (Instr.slice 9 (.string b) (some (.int .i64 c)) (some (.int .i64 d)) none).run Try.prog u = .ok (.string (b.extract i j)) u := by
  subst hc hd
  rw [run_slice_string (P := Try.prog) u 9 b .i64 .i64 (i : Int) (j : Int) Try.underlying9 (by omega) (by omega) (by omega)]
  simp
theorem slice_from (b : ByteArray) (i : Nat) (c : Int) (hc : c = (i : Int)) (h2 : i ≤ b.size) (u : World) : (Instr.slice 9 (.string b) (some (.int .i64 c)) none none).run Try.prog u = .ok (.string (b.extract i b.size)) u := by
  subst hc
  have h := run_slice_string_l (P := Try.prog) (w := u) (t := 9) (s := b) (ht := Try.underlying9) .i64 (i : Int) (by omega) (by omega)
  simpa using h
theorem bcell {W w1 : World} (hb : Below W.heap.size W w1) : (∀ b o, b < W.heap.size → w1.cell? ⟨b, o, none⟩ = W.cell? ⟨b, o, none⟩) ∧ (∀ b o, b < W.heap.size → w1.frozen? ⟨b, o, none⟩ = W.frozen? ⟨b, o, none⟩) :=
  ⟨fun b o h => hb.cell (p := ⟨b, o, none⟩) h, fun b o h => hb.frozen (p := ⟨b, o, none⟩) h⟩
theorem wrap_small (x : Int) (h0 : 0 ≤ x) (h1 : x ≤ 1000) : IntKind.i64.wrap x = x ∧ wrap64 x = x := by
  have e : wrap64 x = x := IntWalk.wrap64_in x ⟨by omega, by omega⟩
  refine ⟨?_, e⟩
  rw [IntKind.wrap_i64]
  unfold wrap64 at e
  exact e
theorem grown_of_below {w w' : World} (h : Below w.heap.size w w') (r : Option Nat) : w.grownBy w' r := ⟨h.os, h.tape, h.output, h.size, fun k hk _ => h.block k hk⟩
theorem below_two (w : World) (o1 o2 : Obj) : Below w.heap.size w ((w.alloc o1).alloc o2) := ((Below.refl _ _).alloc (Nat.le_refl _) o1).alloc (by simp) o2

theorem nums_extract (s : ByteArray) (a b : Nat) : nums (s.extract a b) = ((nums s).drop a).take (b - a) := by
  simp only [nums]
  rw [Lib.extract_data, List.map_take, List.map_drop]

end Go.Proofs.Ythmmgiaobakilaa
