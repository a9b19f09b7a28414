import Derived.Test.YthmmgiaobakilaaJ36
import Derived.Test.YthmmgiaobakilaaJ40
/- The source of Shown: its tree. -/
set_option maxRecDepth 100000
namespace Go.Proofs.Ythmmgiaobakilaa
open Go.RowKit Go.Deep

def shToks (n1 n2 n3 : Int) (x1 x2 x3 : ByteArray) (P : Nat → Int) : List Tok := [kT ⟨#[111, 117, 116]⟩ (P 0), kT ⟨#[112, 101, 101, 107]⟩ (P 1), sT ⟨#[91]⟩ (P 2), uT n1 x1 (P 3), sT ⟨#[45]⟩ (P 4), nT ⟨#[120]⟩ (P 5), sT ⟨#[44]⟩ (P 6), uT n2 x2 (P 7), sT ⟨#[45]⟩ (P 8), nT ⟨#[121]⟩ (P 9), sT ⟨#[93]⟩ (P 10), sT ⟨#[43]⟩ (P 11), uT n3 x3 (P 12), sT ⟨#[59]⟩ (P 13), kT ⟨#[104, 105, 100, 101]⟩ (P 14), kT ⟨#[115, 112, 121]⟩ (P 15), sT ⟨#[91]⟩ (P 16), nT ⟨#[120]⟩ (P 17), sT ⟨#[44]⟩ (P 18), nT ⟨#[121]⟩ (P 19), sT ⟨#[93]⟩ (P 20), sT ⟨#[45]⟩ (P 21), uT n3 x3 (P 22), sT ⟨#[59]⟩ (P 23)]
def shE1 (n1 n2 n3 : Int) (x1 x2 x3 : ByteArray) (P : Nat → Int) : Ex := (.node 0 0 (sT ⟨#[43]⟩ (P 11)) (.node 0 0 (kT ⟨#[112, 101, 101, 107]⟩ (P 1)) (.node 0 0 (sT ⟨#[45]⟩ (P 4)) (.node 0 0 (uT n1 x1 (P 3)) .nil (.node 0 0 (nT ⟨#[120]⟩ (P 5)) .nil .nil)) (.node 0 0 (sT ⟨#[45]⟩ (P 8)) (.node 0 0 (uT n2 x2 (P 7)) .nil (.node 0 0 (nT ⟨#[121]⟩ (P 9)) .nil .nil)) .nil)) (.node 0 0 (uT n3 x3 (P 12)) .nil .nil)) .nil)
def shE2 (n3 : Int) (x3 : ByteArray) (P : Nat → Int) : Ex := (.node 0 0 (sT ⟨#[45]⟩ (P 21)) (.node 0 0 (kT ⟨#[115, 112, 121]⟩ (P 15)) (.node 0 0 (nT ⟨#[120]⟩ (P 17)) .nil (.node 0 0 (nT ⟨#[121]⟩ (P 19)) .nil .nil)) (.node 0 0 (uT n3 x3 (P 22)) .nil .nil)) .nil)
def shTree (n1 n2 n3 : Int) (x1 x2 x3 : ByteArray) (P : Nat → Int) : Sx :=
  .node 0 0 ⟨3, (kT ⟨#[111, 117, 116]⟩ (P 0)), noTok, noTok, shE1 n1 n2 n3 x1 x2 x3 P⟩ .nil (.node 0 0 ⟨4, (kT ⟨#[104, 105, 100, 101]⟩ (P 14)), noTok, noTok, shE2 n3 x3 P⟩ .nil .nil)
section
variable (n1 n2 n3 : Int) (x1 x2 x3 : ByteArray) (P : Nat → Int)
theorem sh_parse (q : Nat) : pSource 1000 (shToks n1 n2 n3 x1 x2 x3 P ++ [overTok q]) = some (.ok (([], shTree n1 n2 n3 x1 x2 x3 P), 24)) := by
  kernel_rfl
theorem sh_tree : treeF [] (shTree n1 n2 n3 x1 x2 x3 P) = (0, 0) := by
  kernel_rfl
end
def shS (a b c : Nat) : ByteArray := sh1 ++ dgS a ++ sh2 ++ dgS b ++ sh3 ++ dgS c ++ sh4 ++ dgS c ++ sh5
theorem sh_nums {a b c : Nat} (ha : a < 400) (hb : b < 400) (hc : c < 400) : nums (shS a b c) = shL a b c := by
  unfold shS shL
  simp only [num_append]
  rw [dg_back a (List.mem_range.2 ha), dg_back b (List.mem_range.2 hb), dg_back c (List.mem_range.2 hc)]
  simp
theorem sh_size {a b c : Nat} (ha : a < 400) (hb : b < 400) (hc : c < 400) : (shS a b c).size ≤ 300 := by
  rw [← nums_length, sh_nums ha hb hc]
  have h1 := dg_len a (List.mem_range.2 ha)
  have h2 := dg_len b (List.mem_range.2 hb)
  have h3 := dg_len c (List.mem_range.2 hc)
  have e1 : (nums sh1).length = 9 := rfl
  have e2 : (nums sh2).length = 6 := rfl
  have e3 : (nums sh3).length = 8 := rfl
  have e4 : (nums sh4).length = 19 := rfl
  have e5 : (nums sh5).length = 1 := rfl
  unfold shL
  simp only [List.length_append, e1, e2, e3, e4, e5]
  omega
/-- The source of Shown is right, and its tree. -/
theorem sh_read {a b c : Nat} (ha : a < 400) (hb : b < 400) (hc : c < 400) : readF (shS a b c) = (0, 0) ∧ ∃ x1 x2 x3 P, treeOf (shS a b c) = shTree a b c x1 x2 x3 P := by
  obtain ⟨q, T, hT, p0, p1, p2, p3, p4, p5, p6, p7, p8, p9, p10, p11, p12, p13, p14, p15, p16, p17, p18, p19, p20, p21, p22, p23, rfl⟩ := sh_lex ha hb hc
  have hlex := lex_lx (shS a b c)
  rw [sh_nums ha hb hc, hT] at hlex
  obtain ⟨P, hP⟩ : ∃ P : Nat → Int, P = (fun i => ([p0, p1, p2, p3, p4, p5, p6, p7, p8, p9, p10, p11, p12, p13, p14, p15, p16, p17, p18, p19, p20, p21, p22, p23] : List Int).getD i 0) := ⟨_, rfl⟩
  have hp : pSource 1000 ([kT ⟨#[111, 117, 116]⟩ p0, kT ⟨#[112, 101, 101, 107]⟩ p1, sT ⟨#[91]⟩ p2, uT a (dgS a) p3, sT ⟨#[45]⟩ p4, nT ⟨#[120]⟩ p5, sT ⟨#[44]⟩ p6, uT b (dgS b) p7, sT ⟨#[45]⟩ p8, nT ⟨#[121]⟩ p9, sT ⟨#[93]⟩ p10, sT ⟨#[43]⟩ p11, uT c (dgS c) p12, sT ⟨#[59]⟩ p13, kT ⟨#[104, 105, 100, 101]⟩ p14, kT ⟨#[115, 112, 121]⟩ p15, sT ⟨#[91]⟩ p16, nT ⟨#[120]⟩ p17, sT ⟨#[44]⟩ p18, nT ⟨#[121]⟩ p19, sT ⟨#[93]⟩ p20, sT ⟨#[45]⟩ p21, uT c (dgS c) p22, sT ⟨#[59]⟩ p23] ++ [overTok q]) = some (.ok (([], shTree a b c (dgS a) (dgS b) (dgS c) P), 24)) := by
    have e : [kT ⟨#[111, 117, 116]⟩ p0, kT ⟨#[112, 101, 101, 107]⟩ p1, sT ⟨#[91]⟩ p2, uT a (dgS a) p3, sT ⟨#[45]⟩ p4, nT ⟨#[120]⟩ p5, sT ⟨#[44]⟩ p6, uT b (dgS b) p7, sT ⟨#[45]⟩ p8, nT ⟨#[121]⟩ p9, sT ⟨#[93]⟩ p10, sT ⟨#[43]⟩ p11, uT c (dgS c) p12, sT ⟨#[59]⟩ p13, kT ⟨#[104, 105, 100, 101]⟩ p14, kT ⟨#[115, 112, 121]⟩ p15, sT ⟨#[91]⟩ p16, nT ⟨#[120]⟩ p17, sT ⟨#[44]⟩ p18, nT ⟨#[121]⟩ p19, sT ⟨#[93]⟩ p20, sT ⟨#[45]⟩ p21, uT c (dgS c) p22, sT ⟨#[59]⟩ p23] = shToks a b c (dgS a) (dgS b) (dgS c) P := by rw [hP]; rfl
    rw [e]; exact sh_parse a b c (dgS a) (dgS b) (dgS c) P q
  clear hP
  refine ⟨?_, dgS a, dgS b, dgS c, P, ?_⟩
  · have hsz := sh_size ha hb hc
    unfold readF
    rw [if_neg (by omega), hlex]
    show toksF _ = _
    unfold toksF
    rw [hp]
    exact sh_tree _ _ _ _ _ _ _
  · unfold treeOf
    rw [hlex]
    show (match pSource 1000 _ with | some (.ok ((_, t), _)) => t | _ => .nil) = _
    rw [hp]
end Go.Proofs.Ythmmgiaobakilaa
