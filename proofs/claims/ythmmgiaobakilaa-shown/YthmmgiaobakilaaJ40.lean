import Derived.Test.YthmmgiaobakilaaJ36
import Derived.Test.YthmmgiaobakilaaJ39
/- Looped's source: nothing is wrong with it, and its tree. -/
set_option maxRecDepth 100000
namespace Go.Proofs.Ythmmgiaobakilaa
open Go.RowKit Go.Deep

theorem nxN_ok {a b : Tok} {σ : NSt} (h1 : nP a ≤ nP b) (h2 : nP b ≤ 20) : nxN a b σ = σ := by
  unfold nxN
  rw [if_neg (by rw [Bool.or_eq_true, decide_eq_true_iff, decide_eq_true_iff]; omega)]
section
variable {n1 n2 n3 : Int} (x1 x2 x3 : ByteArray) (p1 p4 p5 p7 p10 p11 p13 p15 p17 p18 p19 p23 p24 : Int)
theorem lp_names (h1 : n1 ≤ n2) (h2 : n2 ≤ 20) (h3 : 0 ≤ n3) (h4 : n3 ≤ 20) : namesF [(nT ⟨#[110]⟩ p1, false)] (lpTree n1 n2 n3 x1 x2 x3 p4 p5 p7 p10 p11 p13 p15 p17 p18 p19 p23 p24) = (0, 0) := by
  unfold namesF lpTree
  rw [nxS_2 rfl, nxN_ok (a := uT n1 x1 p5) (b := uT n2 x2 p7) h1 h2, nxS_2 (p := ⟨2, nT ⟨#[106]⟩ p10, uT 0 ⟨#[48]⟩ p11, uT n3 x3 p13, .nil⟩) rfl, nxN_ok (a := uT 0 ⟨#[48]⟩ p11) (b := uT n3 x3 p13) h3 h4]
  kernel_rfl
theorem lp_flow : flowF [(nT ⟨#[110]⟩ p1, false)] (lpTree n1 n2 n3 x1 x2 x3 p4 p5 p7 p10 p11 p13 p15 p17 p18 p19 p23 p24) = (0, 0) := by
  kernel_rfl
theorem lp_tree (h1 : n1 ≤ n2) (h2 : n2 ≤ 20) (h3 : 0 ≤ n3) (h4 : n3 ≤ 20) : treeF [(nT ⟨#[110]⟩ p1, false)] (lpTree n1 n2 n3 x1 x2 x3 p4 p5 p7 p10 p11 p13 p15 p17 p18 p19 p23 p24) = (0, 0) := by
  unfold treeF
  rw [lp_names x1 x2 x3 p1 p4 p5 p7 p10 p11 p13 p15 p17 p18 p19 p23 p24 h1 h2 h3 h4, lp_flow]
  rfl
end
def lpS (a b c : Nat) : ByteArray := lp1 ++ ⟨#[32]⟩ ++ dgS a ++ (lp2 ++ ⟨#[32]⟩) ++ dgS b ++ (lp3 ++ ⟨#[32]⟩) ++ dgS c ++ lp4
theorem num_append (a b : ByteArray) : nums (a ++ b) = nums a ++ nums b := by simp [nums, ByteArray.data_append]
theorem dg_back : ∀ n ∈ List.range 400, nums (dgS n) = dgL n := by decide +kernel
theorem lp_nums {a b c : Nat} (ha : a < 400) (hb : b < 400) (hc : c < 400) : nums (lpS a b c) = lpL a b c := by
  unfold lpS lpL
  simp only [num_append]
  rw [dg_back a (List.mem_range.2 ha), dg_back b (List.mem_range.2 hb), dg_back c (List.mem_range.2 hc)]
  rw [show nums ⟨#[32]⟩ = [32] from rfl]
  simp
theorem dg_len : ∀ n ∈ List.range 400, (dgL n).length ≤ 3 := by decide +kernel
theorem lp_size {a b c : Nat} (ha : a < 400) (hb : b < 400) (hc : c < 400) : (lpS a b c).size ≤ 300 := by
  rw [← nums_length, lp_nums ha hb hc]
  have h1 := dg_len a (List.mem_range.2 ha)
  have h2 := dg_len b (List.mem_range.2 hb)
  have h3 := dg_len c (List.mem_range.2 hc)
  have e1 : (nums lp1).length = 13 := rfl
  have e2 : (nums lp2).length = 4 := rfl
  have e3 : (nums lp3).length = 14 := rfl
  have e4 : (nums lp4).length = 26 := rfl
  unfold lpL
  simp only [List.length_append, List.length_cons, e1, e2, e3, e4]
  omega
/-- The source of Looped is right, and its tree. -/
theorem lp_read {a b c : Nat} (hab : a ≤ b) (hb : b ≤ 20) (hc : c ≤ 20) : readF (lpS a b c) = (0, 0) ∧ ∃ x1 x2 x3 p4 p5 p7 p10 p11 p13 p15 p17 p18 p19 p23 p24, treeOf (lpS a b c) = lpTree a b c x1 x2 x3 p4 p5 p7 p10 p11 p13 p15 p17 p18 p19 p23 p24 := by
  obtain ⟨q, T, hT, p0, p1, p2, p3, p4, p5, p6, p7, p8, p9, p10, p11, p12, p13, p14, p15, p16, p17, p18, p19, p20, p21, p22, p23, p24, p25, rfl⟩ := lp_lex (a := a) (b := b) (c := c) (by omega) (by omega) (by omega)
  have hlex := lex_lx (lpS a b c)
  rw [lp_nums (by omega) (by omega) (by omega), hT] at hlex
  have hp := lp_parse a b c (dgS a) (dgS b) (dgS c) p0 p1 p2 p3 p4 p5 p6 p7 p8 p9 p10 p11 p12 p13 p14 p15 p16 p17 p18 p19 p20 p21 p22 p23 p24 p25 q
  unfold lpToks at hp
  refine ⟨?_, dgS a, dgS b, dgS c, p4, p5, p7, p10, p11, p13, p15, p17, p18, p19, p23, p24, ?_⟩
  · have hsz := lp_size (a := a) (b := b) (c := c) (by omega) (by omega) (by omega)
    unfold readF
    rw [if_neg (by omega), hlex]
    show toksF _ = _
    unfold toksF
    rw [hp]
    exact lp_tree _ _ _ _ _ _ _ _ _ _ _ _ _ _ _ _ (by omega) (by omega) (by omega) (by omega)
  · unfold treeOf
    rw [hlex]
    show (match pSource 1000 _ with | some (.ok ((_, t), _)) => t | _ => .nil) = _
    rw [hp]
end Go.Proofs.Ythmmgiaobakilaa
