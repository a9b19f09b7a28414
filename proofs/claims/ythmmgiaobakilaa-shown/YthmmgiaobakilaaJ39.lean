import Derived.Test.YthmmgiaobakilaaJ38
/- The document's examples: checking and painting. -/
set_option maxRecDepth 100000
namespace Go.Proofs.Ythmmgiaobakilaa
open Go.RowKit Go.Deep

def kx1 : ByteArray := ⟨#[111, 117, 116, 32, 115, 112, 121, 91, 120, 44, 32, 121, 93, 59]⟩
def kx2 : ByteArray := ⟨#[111, 112, 101, 110, 32, 97, 59, 32, 97, 32, 226, 134, 144, 32, 115, 112, 121, 91, 48, 44, 32, 48, 93, 59]⟩
def kx3 : ByteArray := ⟨#[104, 105, 100, 100, 101, 110, 32, 104, 59, 32, 104, 32, 226, 134, 144, 32, 115, 112, 121, 91, 120, 44, 32, 121, 93, 59, 32, 104, 105, 100, 101, 32, 115, 101, 108, 40, 104, 32, 60, 32, 57, 44, 32, 49, 44, 32, 104, 32, 195, 183, 32, 48, 41, 59]⟩
def kx4 : ByteArray := ⟨#[111, 117, 116, 32, 112, 101, 101, 107, 91, 120, 44, 32, 121, 93, 59, 32, 104, 105, 100, 101, 32, 115, 112, 121, 91, 49, 32, 45, 32, 120, 44, 32, 121, 93, 59]⟩
theorem kx_1 : readF kx1 = (11, 0) := by decide +kernel
theorem kx_2 : readF kx2 = (11, 8) := by decide +kernel
theorem kx_3 : readF kx3 = (0, 0) := by decide +kernel
theorem kx_4 : readF kx4 = (0, 0) := by decide +kernel
/-- The tree of a source. -/
def treeOf (s : ByteArray) : Sx := match lex s s.size 0 [] with
  | (none, _) => .nil
  | (some l, p) => match pSource 1000 (l ++ [overTok p]) with
    | some (.ok ((_, t), _)) => t
    | _ => .nil
theorem treeOf_is {s : ByteArray} {ds : List (Tok × Bool)} {t : Sx} (h : IsTree s ds t) : treeOf s = t := by
  obtain ⟨_, l, p, j, hl, hr, _⟩ := h
  unfold treeOf
  rw [hl]
  show (match pSource 1000 (l ++ [overTok p]) with | some (.ok ((_, t), _)) => t | _ => .nil) = t
  rw [hr]
theorem ans_run {sw sh : Int} {xs ys : List Int} {src : ByteArray} {E P : Int} {r : Option PSt} (h : Ans sw sh xs ys src E P r) (hs : shapeE sw sh xs ys = 0) (hr : readF src = (0, 0)) : P = 0 ∧ r = goP (pdOf sw sh xs ys) (treeOf src) (ptsOf sw.toNat sh.toNat) (startP (sw.toNat * sh.toNat)) ∧ E = if r.isSome then 0 else 12 := by
  rcases h with ⟨h1, _⟩ | ⟨_, h1, _⟩ | ⟨_, _, h1, ds, t, hT, h2, h3⟩
  · exact absurd hs h1
  · rw [hr] at h1; exact absurd rfl h1
  · rw [treeOf_is hT]; exact ⟨h1, h2, h3⟩
def exR : Option PSt := goP (pdOf 2 1 [10, 20] [30, 40]) (treeOf kx4) (ptsOf 2 1) (startP 2)
def hidO : Option PSt → List Int
  | none => []
  | some S => S.hid
theorem exR_some : exR.isSome = true := by decide +kernel
theorem exR_opn : opnO exR = [50, 71] := by decide +kernel
theorem exR_hid : hidO exR = [101, 87] := by decide +kernel
theorem exR_st : stO exR = 20 := by decide +kernel
theorem exR_tt : ttO exR = 8 := by decide +kernel
theorem exR_tr : (trO exR).length = 8 ∧ (trO exR).getD 2 (0, 0) = (1, 1) := by decide +kernel
set_option maxHeartbeats 1000000 in
theorem checking_any (w : World) : Calls Try.prog 21 #[] w fun e w' => e = .returned (.bool true) ∧ Below w.heap.size w w' := by
  have c1 := fun w => check_any kx1 (by unfold maxLen; decide) w
  have c2 := fun w => check_any kx2 (by unfold maxLen; decide) w
  have c3 := fun w => check_any kx3 (by unfold maxLen; decide) w
  rw [kx_1] at c1
  rw [kx_2] at c2
  rw [kx_3] at c3
  go_enter Try.func21, Try.ntmps21
  go_wp2_with fail
  refine (c1 _).mono ?_
  rintro e w1 ⟨hb1, rfl⟩
  go_wp2_with fail
  refine (c2 _).mono ?_
  rintro e w2 ⟨hb2, rfl⟩
  go_wp2_with fail
  refine (c3 _).mono ?_
  rintro e w3 ⟨hb3, rfl⟩
  have hb := (hb1.trans (hb2.mono hb1.size)).trans (hb3.mono (Nat.le_trans hb1.size hb2.size))
  clear c1 c2 c3 hb1 hb2 hb3
  go_wp2
  go_ret
  exact ⟨rfl, hb⟩
end Go.Proofs.Ythmmgiaobakilaa
