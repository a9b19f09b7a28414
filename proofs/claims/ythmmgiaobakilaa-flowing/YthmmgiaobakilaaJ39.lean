import Derived.Test.YthmmgiaobakilaaJ37
/- The source of Shown: its tokens. -/
set_option maxRecDepth 100000
namespace Go.Proofs.Ythmmgiaobakilaa
open Go.RowKit Go.Deep

theorem lx_dg0 {n : Nat} (hn : n < 400) : ∃ p, lx (dgL n) 0 = (some [⟨2, (n : Int), 0, dgS n⟩], p) := by
  have h := dg_table n (List.mem_range.2 hn)
  unfold dgT at h
  cases hl : dgL n with
  | nil => rw [hl] at h; cases h
  | cons x L =>
    rw [hl] at h
    simp only [Bool.and_eq_true, decide_eq_true_eq] at h
    have h1 := lx_num (List.all_eq_true.1 h.1.1) (by omega) 0
    refine ⟨0 + (L.length + 1), ?_⟩
    rw [h1]
    unfold numTokL dgS
    rw [hl, h.1.2]
    rfl
theorem dg_head {n : Nat} (hn : n < 400) : ∃ x L, dgL n = x :: L ∧ x < 128 := by
  have h := dg_table n (List.mem_range.2 hn)
  unfold dgT at h
  cases hl : dgL n with
  | nil => rw [hl] at h; cases h
  | cons x L =>
    rw [hl] at h
    simp only [Bool.and_eq_true, decide_eq_true_eq] at h
    have := List.all_eq_true.1 h.1.1 x (List.mem_cons_self ..)
    unfold digB at this
    simp only [Bool.and_eq_true, decide_eq_true_eq] at this
    exact ⟨x, L, rfl, by omega⟩
/-- Behind a part whose last byte is neither a letter nor a digit. -/
theorem bd_end {L R : List Int} (hL : ∀ z, L.getLast? = some z → letB z = false ∧ digB z = false) (hR : ∀ h R', R = h :: R' → h < 128) : BD L R :=
  fun h R' e => ⟨hR h R' e, fun _ z hz => (hL z hz).1, fun _ z hz => (hL z hz).2⟩
/-- Ahead of a byte that is neither. -/
theorem bd_sign {L R : List Int} {x : Int} (h : x < 128) (h1 : letB x = false) (h2 : digB x = false) : BD L (x :: R) := by
  intro y R' e
  cases e
  exact ⟨h, (fun h => by rw [h1] at h; cases h), (fun h => by rw [h2] at h; cases h)⟩
theorem bd_dg {L : List Int} {z : Int} (hz : L.getLast? = some z) (h1 : letB z = false) (h2 : digB z = false) {n : Nat} (hn : n < 400) (R : List Int) : BD L (dgL n ++ R) := by
  obtain ⟨x, M, e, hx⟩ := dg_head hn
  refine bd_end (fun y hy => by rw [hz] at hy; cases hy; exact ⟨h1, h2⟩) (fun y R' h => ?_)
  rw [e] at h
  cases h
  exact hx

def sh1 : ByteArray := ⟨#[111, 117, 116, 32, 112, 101, 101, 107, 91]⟩
def sh2 : ByteArray := ⟨#[32, 45, 32, 120, 44, 32]⟩
def sh3 : ByteArray := ⟨#[32, 45, 32, 121, 93, 32, 43, 32]⟩
def sh4 : ByteArray := ⟨#[59, 32, 104, 105, 100, 101, 32, 115, 112, 121, 91, 120, 44, 32, 121, 93, 32, 45, 32]⟩
def sh5 : ByteArray := ⟨#[59]⟩
def shL (a b c : Nat) : List Int := nums sh1 ++ (dgL a ++ (nums sh2 ++ (dgL b ++ (nums sh3 ++ (dgL c ++ (nums sh4 ++ (dgL c ++ nums sh5)))))))
theorem sh_1 : lx (nums sh1) 0 = (some [kT ⟨#[111, 117, 116]⟩ 0, kT ⟨#[112, 101, 101, 107]⟩ 4, sT ⟨#[91]⟩ 8], 9) := by kernel_rfl
theorem sh_2 : lx (nums sh2) 0 = (some [sT ⟨#[45]⟩ 1, nT ⟨#[120]⟩ 3, sT ⟨#[44]⟩ 4], 6) := by kernel_rfl
theorem sh_3 : lx (nums sh3) 0 = (some [sT ⟨#[45]⟩ 1, nT ⟨#[121]⟩ 3, sT ⟨#[93]⟩ 4, sT ⟨#[43]⟩ 6], 8) := by kernel_rfl
theorem sh_4 : lx (nums sh4) 0 = (some [sT ⟨#[59]⟩ 0, kT ⟨#[104, 105, 100, 101]⟩ 2, kT ⟨#[115, 112, 121]⟩ 7, sT ⟨#[91]⟩ 10, nT ⟨#[120]⟩ 11, sT ⟨#[44]⟩ 12, nT ⟨#[121]⟩ 14, sT ⟨#[93]⟩ 15, sT ⟨#[45]⟩ 17], 19) := by kernel_rfl
theorem sh_5 : lx (nums sh5) 0 = (some [sT ⟨#[59]⟩ 0], 1) := by kernel_rfl
theorem sh_lex {a b c : Nat} (ha : a < 400) (hb : b < 400) (hc : c < 400) : ∃ q T, lx (shL a b c) 0 = (some T, q) ∧ ∃ p0 p1 p2 p3 p4 p5 p6 p7 p8 p9 p10 p11 p12 p13 p14 p15 p16 p17 p18 p19 p20 p21 p22 p23, T = [kT ⟨#[111, 117, 116]⟩ p0, kT ⟨#[112, 101, 101, 107]⟩ p1, sT ⟨#[91]⟩ p2, uT a (dgS a) p3, sT ⟨#[45]⟩ p4, nT ⟨#[120]⟩ p5, sT ⟨#[44]⟩ p6, uT b (dgS b) p7, sT ⟨#[45]⟩ p8, nT ⟨#[121]⟩ p9, sT ⟨#[93]⟩ p10, sT ⟨#[43]⟩ p11, uT c (dgS c) p12, sT ⟨#[59]⟩ p13, kT ⟨#[104, 105, 100, 101]⟩ p14, kT ⟨#[115, 112, 121]⟩ p15, sT ⟨#[91]⟩ p16, nT ⟨#[120]⟩ p17, sT ⟨#[44]⟩ p18, nT ⟨#[121]⟩ p19, sT ⟨#[93]⟩ p20, sT ⟨#[45]⟩ p21, uT c (dgS c) p22, sT ⟨#[59]⟩ p23] := by
  obtain ⟨q1, d1⟩ := lx_dg0 ha
  obtain ⟨q2, d2⟩ := lx_dg0 hb
  obtain ⟨q3, d3⟩ := lx_dg0 hc
  have x8 := lx_two (bd_sign (x := 59) (R := []) (by decide) (by decide) (by decide)) d3 sh_5
  have x7 := lx_two (bd_dg (z := 32) rfl (by decide) (by decide) hc _) sh_4 x8
  have x6 := lx_two (bd_sign (x := 59) (by decide) (by decide) (by decide)) d3 x7
  have x5 := lx_two (bd_dg (z := 32) rfl (by decide) (by decide) hc _) sh_3 x6
  have x4 := lx_two (bd_blank _ _) d2 x5
  have x3 := lx_two (bd_dg (z := 32) rfl (by decide) (by decide) hb _) sh_2 x4
  have x2 := lx_two (bd_blank _ _) d1 x3
  have x1 := lx_two (bd_dg (z := 91) rfl (by decide) (by decide) ha _) sh_1 x2
  exact ⟨_, _, x1, _, _, _, _, _, _, _, _, _, _, _, _, _, _, _, _, _, _, _, _, _, _, _, _, rfl⟩
end Go.Proofs.Ythmmgiaobakilaa
