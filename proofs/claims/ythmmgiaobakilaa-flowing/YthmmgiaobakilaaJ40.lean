import Derived.Test.YthmmgiaobakilaaJ02
import Derived.Test.YthmmgiaobakilaaJ16
import Derived.Test.YthmmgiaobakilaaJ26
import Derived.Test.YthmmgiaobakilaaJ27
import Derived.Test.YthmmgiaobakilaaJ37
import Derived.Test.YthmmgiaobakilaaJ38
import Derived.Test.YthmmgiaobakilaaJ39
/- Texts that are one factor, of the names x, y, a and h: their tokens; is it hidden? -/
set_option maxRecDepth 100000
namespace Go.Proofs.Ythmmgiaobakilaa
open Go.RowKit Go.Deep

def fwA : ByteArray := ⟨#[97]⟩
def fwH : ByteArray := ⟨#[104]⟩
def roleF : ByteArray → Int := updR (updR roles0 fwA 1) fwH 1
def hidF : List ByteArray := [fwH]
/-- Nothing is wrong with an expression; is it hidden? -/
structure Good (e : Ex) (h : Bool) : Prop where
  one : ∃ t k, e = .node 0 0 t k .nil
  nx : ∀ F, nxE roleF e F = F
  hd : hidE hidF e = h
  tc : ∀ F, tcE hidF e F = F
theorem beside_nx {e : Ex} (h : ∃ t k, e = .node 0 0 t k .nil) (R : ByteArray → Int) (r : Ex) (F : Flt) : nxE R (besideE e r) F = nxE R r (nxE R e F) := by
  obtain ⟨t, k, rfl⟩ := h; rfl
theorem beside_hd {e : Ex} (h : ∃ t k, e = .node 0 0 t k .nil) (H : List ByteArray) (r : Ex) : hidE H (besideE e r) = (hidE H e || hidE H r) := by
  obtain ⟨t, k, rfl⟩ := h
  show ((hidH H t || hidE H k) || hidE H r) = (((hidH H t || hidE H k) || false) || hidE H r)
  rw [Bool.or_false]
theorem beside_tc {e : Ex} (h : ∃ t k, e = .node 0 0 t k .nil) (H : List ByteArray) (r : Ex) (F : Flt) : tcE H (besideE e r) F = tcE H r (tcE H e F) := by
  obtain ⟨t, k, rfl⟩ := h; rfl
theorem good_head {t : Tok} {k : Ex} {h : Bool} (g1 : ∀ F, nxH roleF t F = F) (g2 : ∀ F, nxE roleF k F = F) (g3 : (hidH hidF t || hidE hidF k) = h) (g4 : ∀ F, tcH hidF t k F = F) (g5 : ∀ F, tcE hidF k F = F) : Good (.node 0 0 t k .nil) h :=
  ⟨⟨t, k, rfl⟩, fun F => by show nxE roleF k (nxH roleF t F) = F; rw [g1, g2], by show ((hidH hidF t || hidE hidF k) || false) = h; rw [Bool.or_false]; exact g3, fun F => by show tcE hidF k (tcH hidF t k F) = F; rw [g4, g5]⟩
theorem good_leaf {t : Tok} {h : Bool} (g1 : ∀ F, nxH roleF t F = F) (g3 : hidH hidF t = h) : Good (leafE t) h :=
  good_head g1 (fun _ => rfl) (by show (hidH hidF t || false) = h; rw [Bool.or_false]; exact g3) (fun F => by
    unfold tcH
    rw [show hidE hidF .nil = false from rfl, Bool.and_false]; rfl) (fun _ => rfl)
theorem good_1 {t : Tok} {a : Ex} {h : Bool} (ga : Good a h) (g1 : ∀ F, nxH roleF t F = F) (g3 : hidH hidF t = false) (g4 : wdT t [sPEEK, sSPY] = false) : Good (node1 t a) h := by
  refine good_head g1 (fun F => ?_) ?_ (fun F => ?_) (fun F => ?_)
  · rw [beside_nx ga.one, ga.nx]; rfl
  · rw [beside_hd ga.one, ga.hd, g3]; show (false || (h || false)) = h; rw [Bool.or_false, Bool.false_or]
  · unfold tcH; rw [g4]; rfl
  · rw [beside_tc ga.one, ga.tc]; rfl
theorem good_2 {t : Tok} {a b : Ex} {h k : Bool} (ga : Good a h) (gb : Good b k) (g1 : ∀ F, nxH roleF t F = F) (g3 : hidH hidF t = false) (g4 : wdT t [sPEEK, sSPY] = false) : Good (node2 t a b) (h || k) := by
  refine good_head g1 (fun F => ?_) ?_ (fun F => ?_) (fun F => ?_)
  · rw [beside_nx ga.one, ga.nx, beside_nx gb.one, gb.nx]; rfl
  · rw [beside_hd ga.one, ga.hd, beside_hd gb.one, gb.hd, g3]; show (false || (h || (k || false))) = _; rw [Bool.or_false, Bool.false_or]
  · unfold tcH; rw [g4]; rfl
  · rw [beside_tc ga.one, ga.tc, beside_tc gb.one, gb.tc]; rfl
theorem good_3 {t : Tok} {a b c : Ex} {h k l : Bool} (ga : Good a h) (gb : Good b k) (gc : Good c l) (g1 : ∀ F, nxH roleF t F = F) (g3 : hidH hidF t = false) (g4 : wdT t [sPEEK, sSPY] = false) : Good (node3 t a b c) (h || (k || l)) := by
  refine good_head g1 (fun F => ?_) ?_ (fun F => ?_) (fun F => ?_)
  · rw [beside_nx ga.one, ga.nx, beside_nx gb.one, gb.nx, beside_nx gc.one, gc.nx]; rfl
  · rw [beside_hd ga.one, ga.hd, beside_hd gb.one, gb.hd, beside_hd gc.one, gc.hd, g3]; show (false || (h || (k || (l || false)))) = _; rw [Bool.or_false, Bool.false_or]
  · unfold tcH; rw [g4]; rfl
  · rw [beside_tc ga.one, ga.tc, beside_tc gb.one, gb.tc, beside_tc gc.one, gc.tc]; rfl
/-- peek, spy: nothing hidden is asked for. -/
theorem good_at {t : Tok} {a b : Ex} {h : Bool} (ga : Good a false) (gb : Good b false) (g1 : ∀ F, nxH roleF t F = F) (g3 : hidH hidF t = h) : Good (node2 t a b) h := by
  have hk : hidE hidF (besideE a (besideE b .nil)) = false := by rw [beside_hd ga.one, ga.hd, beside_hd gb.one, gb.hd]; rfl
  refine good_head g1 (fun F => ?_) ?_ (fun F => ?_) (fun F => ?_)
  · rw [beside_nx ga.one, ga.nx, beside_nx gb.one, gb.nx]; rfl
  · rw [hk, g3, Bool.or_false]
  · unfold tcH; rw [hk, Bool.and_false]; rfl
  · rw [beside_tc ga.one, ga.tc, beside_tc gb.one, gb.tc]; rfl
/-- A text is one factor, wherever it stands. -/
structure TX (t : ByteArray) (h : Bool) : Prop where
  hd : ∃ x M, nums t = x :: M ∧ x < 128
  ok : ∀ a, ∃ L q e, lx (nums t) a = (some L, q) ∧ Fac t.size L e ∧ Good e h
/-- What stands behind a text. -/
theorem appT_some (T U : List Tok) (q : Nat) : appT T (some U, q) = (some (T ++ U), q) := by simp [appT]
theorem lx_at {L : List Int} {T : List Tok} {p : Nat} (h1 : lx L 0 = (some T, p)) (a : Nat) : lx L a = (some (T.map (shT a)), p + a) := by
  rw [lx_move, h1]; rfl
/-- A fixed part, then the rest. -/
theorem lx_lit {L R : List Int} {T U : List Tok} {p q : Nat} (h1 : lx L 0 = (some T, p)) (hB : BD L R) (a : Nat) (h2 : lx R (a + L.length) = (some U, q)) : lx (L ++ R) a = (some (T.map (shT a) ++ U), q) := by
  rw [lx_join L.length L (Nat.le_refl _) a (p + a) (T.map (shT a)) R hB (lx_at h1 a), h2, appT_some]
theorem lx_txt {L R : List Int} {T U : List Tok} {p q : Nat} {a : Nat} (h1 : lx L a = (some T, p)) (hB : BD L R) (h2 : lx R (a + L.length) = (some U, q)) : lx (L ++ R) a = (some (T ++ U), q) := by
  rw [lx_join L.length L (Nat.le_refl _) a p T R hB h1, h2, appT_some]
theorem TX.bd {t : ByteArray} {h : Bool} (g : TX t h) {L : List Int} {z : Int} (hz : L.getLast? = some z) (h1 : letB z = false) (h2 : digB z = false) (R : List Int) : BD L (nums t ++ R) := by
  obtain ⟨x, M, e, hx⟩ := g.hd
  refine bd_end (fun y hy => by rw [hz] at hy; cases hy; exact ⟨h1, h2⟩) (fun y R' hy => ?_)
  rw [e] at hy
  cases hy
  exact hx
theorem tx_name {s : ByteArray} {x : Int} {h : Bool} (e : nums s = [x]) (hx : x < 128) (hl : lx [x] 0 = (some [nT s 0], 1)) (hsz : s.size = 1) (g1 : ∀ p F, nxH roleF (nT s p) F = F) (g3 : ∀ p, hidH hidF (nT s p) = h) : TX s h := by
  refine ⟨⟨x, [], e, hx⟩, fun a => ⟨[nT s ((0 : Int) + (a : Int))], 1 + a, leafE (nT s ((0 : Int) + (a : Int))), ?_, (fac_name s _).mono (by omega), good_leaf (g1 _) (g3 _)⟩⟩
  rw [e, lx_at hl a]
  rfl
theorem tx_x : TX ⟨#[120]⟩ false := tx_name (x := 120) rfl (by decide) (by kernel_rfl) rfl (fun p F => by kernel_rfl) (fun p => by kernel_rfl)
theorem tx_y : TX ⟨#[121]⟩ false := tx_name (x := 121) rfl (by decide) (by kernel_rfl) rfl (fun p F => by kernel_rfl) (fun p => by kernel_rfl)
theorem tx_a : TX ⟨#[97]⟩ false := tx_name (x := 97) rfl (by decide) (by kernel_rfl) rfl (fun p F => by kernel_rfl) (fun p => by kernel_rfl)
theorem tx_h : TX ⟨#[104]⟩ true := tx_name (x := 104) rfl (by decide) (by kernel_rfl) rfl (fun p F => by kernel_rfl) (fun p => by kernel_rfl)
theorem tx_dg {n : Nat} (hn : n < 400) : TX (dgS n) false := by
  obtain ⟨x, M, e, hx⟩ := dg_head hn
  obtain ⟨q, hq⟩ := lx_dg0 hn
  have eb := dg_back n (List.mem_range.2 hn)
  refine ⟨⟨x, M, eb.trans e, hx⟩, fun a => ⟨[uT n (dgS n) ((0 : Int) + (a : Int))], q + a, leafE (uT n (dgS n) ((0 : Int) + (a : Int))), ?_, (fac_num _ _ _).mono (by omega), good_leaf (fun F => by kernel_rfl) (by kernel_rfl)⟩⟩
  rw [eb, lx_at hq a]
  rfl
theorem nums_len (s : ByteArray) : (nums s).length = s.size := nums_length s
theorem tx_neg {x : ByteArray} {h : Bool} (g : TX x h) : TX (⟨#[45, 32]⟩ ++ x) h := by
  refine ⟨⟨45, 32 :: nums x, by rw [num_append]; rfl, by decide⟩, fun a => ?_⟩
  obtain ⟨L, q, e, h1, h2, h3⟩ := g.ok (a + 2)
  have b1 := g.bd (L := nums ⟨#[45, 32]⟩) (z := 32) rfl (by decide) (by decide) []
  rw [List.append_nil] at b1
  have := lx_lit (L := nums ⟨#[45, 32]⟩) (T := [sT sNEG 0]) (p := 2) (by kernel_rfl) b1 a h1
  refine ⟨_, q, node1 (sT sNEG ((0 : Int) + (a : Int))) e, by rw [num_append]; exact this, ?_, good_1 h3 (fun F => by kernel_rfl) (by kernel_rfl) (by kernel_rfl)⟩
  exact (fac_neg ((0 : Int) + (a : Int)) h2).mono (by rw [ByteArray.size_append]; show x.size + 1 ≤ 2 + x.size; omega)
theorem tx_op {x y s g : ByteArray} {h k : Bool} (gx : TX x h) (gy : TX y k) (n : Nat) (hs : nums s = 32 :: (nums g ++ [32])) (hl : lx (nums s) 0 = (some [sT g 1], n)) (op : ∀ p, IsOp (sT g p)) : TX ((((⟨#[40]⟩ ++ y) ++ s) ++ x) ++ ⟨#[41]⟩) (h || k) := by
  have en : nums ((((⟨#[40]⟩ ++ y) ++ s) ++ x) ++ ⟨#[41]⟩) = [40] ++ (nums y ++ (nums s ++ (nums x ++ [41]))) := by
    simp only [num_append]; rw [show nums ⟨#[40]⟩ = [40] from rfl, show nums ⟨#[41]⟩ = [41] from rfl]; simp
  refine ⟨⟨40, _, by rw [en]; rfl, by decide⟩, fun a => ?_⟩
  obtain ⟨Ly, qy, ey, y1, y2, y3⟩ := gy.ok (a + 1)
  obtain ⟨Lx, qx, ex, x1, x2, x3⟩ := gx.ok (a + 1 + (nums y).length + (nums s).length)
  have hlast : (nums s).getLast? = some 32 := by rw [hs, ← List.cons_append]; exact List.getLast?_concat
  have t1 := lx_txt x1 (bd_sign (x := 41) (R := []) (by decide) (by decide) (by decide)) (lx_at (T := [sT sPC 0]) (p := 1) (by kernel_rfl) _)
  have t2 := lx_lit hl (gx.bd hlast (by decide) (by decide) [41]) _ t1
  have t3 := lx_txt y1 (by rw [hs]; exact bd_blank _ _) t2
  have t4 := lx_lit (L := [40]) (T := [sT sPO 0]) (p := 1) (by kernel_rfl) (gy.bd (z := 40) rfl (by decide) (by decide) _) a t3
  refine ⟨_, _, node2 (sT g ((1 : Int) + ((a + 1 + (nums y).length : Nat) : Int))) ey ex, by rw [en]; exact t4, ?_, ?_⟩
  · refine (fac_op (d := x.size + y.size) _ _ (op _) (y2.mono (by omega)) (x2.mono (by omega))).mono ?_
    have hz := congrArg List.length en
    simp only [List.length_append, nums_len, List.length_cons, List.length_nil] at hz
    omega
  · have := good_2 (t := sT g ((1 : Int) + ((a + 1 + (nums y).length : Nat) : Int))) y3 x3 (fun F => by kernel_rfl) (by kernel_rfl) (by kernel_rfl)
    rw [Bool.or_comm] at this
    exact this
theorem tx_peek {x y : ByteArray} (gx : TX x false) (gy : TX y false) : TX ((((⟨#[112, 101, 101, 107, 91]⟩ ++ x) ++ ⟨#[44, 32]⟩) ++ y) ++ ⟨#[93]⟩) false := by
  have en : nums ((((⟨#[112, 101, 101, 107, 91]⟩ ++ x) ++ ⟨#[44, 32]⟩) ++ y) ++ ⟨#[93]⟩) = [112, 101, 101, 107, 91] ++ (nums x ++ ([44, 32] ++ (nums y ++ [93]))) := by
    simp only [num_append]; rw [show nums ⟨#[112, 101, 101, 107, 91]⟩ = [112, 101, 101, 107, 91] from rfl, show nums ⟨#[44, 32]⟩ = [44, 32] from rfl, show nums ⟨#[93]⟩ = [93] from rfl]; simp
  refine ⟨⟨112, _, by rw [en]; rfl, by decide⟩, fun a => ?_⟩
  obtain ⟨Lx, qx, ex, x1, x2, x3⟩ := gx.ok (a + 5)
  obtain ⟨Ly, qy, ey, y1, y2, y3⟩ := gy.ok (a + 5 + (nums x).length + 2)
  have t1 := lx_txt y1 (bd_sign (x := 93) (R := []) (by decide) (by decide) (by decide)) (lx_at (T := [sT sBC 0]) (p := 1) (by kernel_rfl) _)
  have t2 := lx_lit (L := [44, 32]) (T := [sT sCM 0]) (p := 2) (by kernel_rfl) (gy.bd (z := 32) rfl (by decide) (by decide) _) _ t1
  have t3 := lx_txt x1 (bd_sign (x := 44) (by decide) (by decide) (by decide)) t2
  have t4 := lx_lit (L := [112, 101, 101, 107, 91]) (T := [kT sPEEK 0, sT sBO 4]) (p := 5) (by kernel_rfl) (gx.bd (z := 91) rfl (by decide) (by decide) _) a t3
  refine ⟨_, _, node2 (kT sPEEK ((0 : Int) + (a : Int))) ex ey, by rw [en]; exact t4, ?_, good_at x3 y3 (fun F => by kernel_rfl) (by kernel_rfl)⟩
  refine (fac_peek (d := x.size + y.size) _ _ _ _ (x2.mono (by omega)) (y2.mono (by omega))).mono ?_
  have hz := congrArg List.length en
  simp only [List.length_append, nums_len, List.length_cons, List.length_nil] at hz
  omega
theorem tx_spy {x y : ByteArray} (gx : TX x false) (gy : TX y false) : TX ((((⟨#[115, 112, 121, 91]⟩ ++ x) ++ ⟨#[44, 32]⟩) ++ y) ++ ⟨#[93]⟩) true := by
  have en : nums ((((⟨#[115, 112, 121, 91]⟩ ++ x) ++ ⟨#[44, 32]⟩) ++ y) ++ ⟨#[93]⟩) = [115, 112, 121, 91] ++ (nums x ++ ([44, 32] ++ (nums y ++ [93]))) := by
    simp only [num_append]; rw [show nums ⟨#[115, 112, 121, 91]⟩ = [115, 112, 121, 91] from rfl, show nums ⟨#[44, 32]⟩ = [44, 32] from rfl, show nums ⟨#[93]⟩ = [93] from rfl]; simp
  refine ⟨⟨115, _, by rw [en]; rfl, by decide⟩, fun a => ?_⟩
  obtain ⟨Lx, qx, ex, x1, x2, x3⟩ := gx.ok (a + 4)
  obtain ⟨Ly, qy, ey, y1, y2, y3⟩ := gy.ok (a + 4 + (nums x).length + 2)
  have t1 := lx_txt y1 (bd_sign (x := 93) (R := []) (by decide) (by decide) (by decide)) (lx_at (T := [sT sBC 0]) (p := 1) (by kernel_rfl) _)
  have t2 := lx_lit (L := [44, 32]) (T := [sT sCM 0]) (p := 2) (by kernel_rfl) (gy.bd (z := 32) rfl (by decide) (by decide) _) _ t1
  have t3 := lx_txt x1 (bd_sign (x := 44) (by decide) (by decide) (by decide)) t2
  have t4 := lx_lit (L := [115, 112, 121, 91]) (T := [kT sSPY 0, sT sBO 3]) (p := 4) (by kernel_rfl) (gx.bd (z := 91) rfl (by decide) (by decide) _) a t3
  refine ⟨_, _, node2 (kT sSPY ((0 : Int) + (a : Int))) ex ey, by rw [en]; exact t4, ?_, good_at x3 y3 (fun F => by kernel_rfl) (by kernel_rfl)⟩
  refine (fac_spy (d := x.size + y.size) _ _ _ _ (x2.mono (by omega)) (y2.mono (by omega))).mono ?_
  have hz := congrArg List.length en
  simp only [List.length_append, nums_len, List.length_cons, List.length_nil] at hz
  omega
theorem tx_min {x y : ByteArray} {h k : Bool} (gx : TX x h) (gy : TX y k) : TX ((((⟨#[109, 105, 110, 40]⟩ ++ x) ++ ⟨#[44, 32]⟩) ++ y) ++ ⟨#[41]⟩) (h || k) := by
  have en : nums ((((⟨#[109, 105, 110, 40]⟩ ++ x) ++ ⟨#[44, 32]⟩) ++ y) ++ ⟨#[41]⟩) = [109, 105, 110, 40] ++ (nums x ++ ([44, 32] ++ (nums y ++ [41]))) := by
    simp only [num_append]; rw [show nums ⟨#[109, 105, 110, 40]⟩ = [109, 105, 110, 40] from rfl, show nums ⟨#[44, 32]⟩ = [44, 32] from rfl, show nums ⟨#[41]⟩ = [41] from rfl]; simp
  refine ⟨⟨109, _, by rw [en]; rfl, by decide⟩, fun a => ?_⟩
  obtain ⟨Lx, qx, ex, x1, x2, x3⟩ := gx.ok (a + 4)
  obtain ⟨Ly, qy, ey, y1, y2, y3⟩ := gy.ok (a + 4 + (nums x).length + 2)
  have t1 := lx_txt y1 (bd_sign (x := 41) (R := []) (by decide) (by decide) (by decide)) (lx_at (T := [sT sPC 0]) (p := 1) (by kernel_rfl) _)
  have t2 := lx_lit (L := [44, 32]) (T := [sT sCM 0]) (p := 2) (by kernel_rfl) (gy.bd (z := 32) rfl (by decide) (by decide) _) _ t1
  have t3 := lx_txt x1 (bd_sign (x := 44) (by decide) (by decide) (by decide)) t2
  have t4 := lx_lit (L := [109, 105, 110, 40]) (T := [kT sMIN 0, sT sPO 3]) (p := 4) (by kernel_rfl) (gx.bd (z := 40) rfl (by decide) (by decide) _) a t3
  refine ⟨_, _, node2 (kT sMIN ((0 : Int) + (a : Int))) ex ey, by rw [en]; exact t4, ?_, good_2 x3 y3 (fun F => by kernel_rfl) (by kernel_rfl) (by kernel_rfl)⟩
  refine (fac_min (d := x.size + y.size) _ _ _ _ (x2.mono (by omega)) (y2.mono (by omega))).mono ?_
  have hz := congrArg List.length en
  simp only [List.length_append, nums_len, List.length_cons, List.length_nil] at hz
  omega
theorem tx_sel {x y : ByteArray} {h k : Bool} (gx : TX x h) (gy : TX y k) : TX ((((⟨#[115, 101, 108, 40]⟩ ++ x) ++ ⟨#[44, 32]⟩) ++ y) ++ ⟨#[44, 32, 97, 41]⟩) (h || k) := by
  have en : nums ((((⟨#[115, 101, 108, 40]⟩ ++ x) ++ ⟨#[44, 32]⟩) ++ y) ++ ⟨#[44, 32, 97, 41]⟩) = [115, 101, 108, 40] ++ (nums x ++ ([44, 32] ++ (nums y ++ [44, 32, 97, 41]))) := by
    simp only [num_append]; rw [show nums ⟨#[115, 101, 108, 40]⟩ = [115, 101, 108, 40] from rfl, show nums ⟨#[44, 32]⟩ = [44, 32] from rfl, show nums ⟨#[44, 32, 97, 41]⟩ = [44, 32, 97, 41] from rfl]; simp
  refine ⟨⟨115, _, by rw [en]; rfl, by decide⟩, fun a => ?_⟩
  obtain ⟨Lx, qx, ex, x1, x2, x3⟩ := gx.ok (a + 4)
  obtain ⟨Ly, qy, ey, y1, y2, y3⟩ := gy.ok (a + 4 + (nums x).length + 2)
  have t1 := lx_txt y1 (bd_sign (x := 44) (R := [32, 97, 41]) (by decide) (by decide) (by decide)) (lx_at (T := [sT sCM 0, nT fwA 2, sT sPC 3]) (p := 4) (by kernel_rfl) _)
  have t2 := lx_lit (L := [44, 32]) (T := [sT sCM 0]) (p := 2) (by kernel_rfl) (gy.bd (z := 32) rfl (by decide) (by decide) _) _ t1
  have t3 := lx_txt x1 (bd_sign (x := 44) (by decide) (by decide) (by decide)) t2
  have t4 := lx_lit (L := [115, 101, 108, 40]) (T := [kT sSEL 0, sT sPO 3]) (p := 4) (by kernel_rfl) (gx.bd (z := 40) rfl (by decide) (by decide) _) a t3
  refine ⟨_, _, node3 (kT sSEL ((0 : Int) + (a : Int))) ex ey (leafE (nT fwA ((2 : Int) + ((a + 4 + (nums x).length + 2 + (nums y).length : Nat) : Int)))), by rw [en]; exact t4, ?_, ?_⟩
  · refine (fac_sel (d := x.size + y.size) (N := [nT fwA ((2 : Int) + ((a + 4 + (nums x).length + 2 + (nums y).length : Nat) : Int))]) _ _ _ _ _ (x2.mono (by omega)) (y2.mono (by omega)) ((fac_name _ _).mono (by omega))).mono ?_
    have hz := congrArg List.length en
    simp only [List.length_append, nums_len, List.length_cons, List.length_nil] at hz
    omega
  · have := good_3 (t := kT sSEL ((0 : Int) + (a : Int))) x3 y3 (good_leaf (t := nT fwA ((2 : Int) + ((a + 4 + (nums x).length + 2 + (nums y).length : Nat) : Int))) (h := false) (fun F => by kernel_rfl) (by kernel_rfl)) (fun F => by kernel_rfl) (by kernel_rfl) (by kernel_rfl)
    rw [Bool.or_false] at this
    exact this
end Go.Proofs.Ythmmgiaobakilaa

/- Flowing's function sum: the heap of texts in memory. -/
set_option maxRecDepth 100000
namespace Go.Proofs.Ythmmgiaobakilaa
open Go.RowKit Go.Deep

abbrev SM := ByteArray × Bool
def smC (t : SM) : List Value := [.string t.1, .bool t.2]
def smsC (l : List SM) : List Value := l.flatMap smC
theorem smsC_snoc (l : List SM) (c : SM) : smsC (l ++ [c]) = smsC l ++ smC c := by simp [smsC]
theorem smsC_len : ∀ l : List SM, (smsC l).length = l.length * 2
  | [] => rfl
  | t :: l => by
    have e : smsC (t :: l) = smC t ++ smsC l := rfl
    rw [e, List.length_append, smsC_len l, List.length_cons]
    show 2 + _ = _; omega
theorem sm_one (t : SM) : ∀ u ∈ smC t, u.oneCell' = true := by
  intro u hu
  simp only [smC, List.mem_cons, List.not_mem_nil, or_false] at hu
  rcases hu with rfl | rfl <;> rfl
theorem infoSm : (Try.prog.info? 43).map (fun i => (i.zero, i.size, i.bytes)) = some (some (.agg #[.string ⟨#[]⟩, .bool false]), 2, 24) := by kernel_rfl
/-- A cell of the last text is written. -/
theorem sm_set {w : World} {base g c m : Nat} {l : List SM} {t t' : SM} {j : Nat} {v : Value} (h : w.ownsRow base 43 2 (.slice (some ⟨g, 0, none⟩) m c) m (smsC (l ++ [t]))) (hm : m = l.length + 1) (hj : j < 2) (ht : (smC t).set j v = smC t') :
    (w.setCell ⟨g, l.length * 2 + j, none⟩ v).ownsRow base 43 2 (.slice (some ⟨g, 0, none⟩) m c) m (smsC (l ++ [t'])) := by
  refine ⟨by rw [smsC_len]; simp; omega, .inr ?_⟩
  rcases h.2 with ⟨e, _⟩ | ⟨g', cap, cur, e, hb, hg, hn, hc, hs, htk⟩
  · cases e
  · cases e
    refine ⟨g, c, cur.setIfInBounds (l.length * 2 + j) v, rfl, hb, ?_, hn, hc, by simpa using hs, ?_⟩
    · have := heap_setCell_same w g (l.length * 2 + j) cur 43 v hg
      exact this
    · rw [Array.toList_setIfInBounds, List.take_set, htk, smsC_snoc, smsC_snoc, ← ht, List.set_append_right _ _ (by rw [smsC_len]; omega), smsC_len]
      rw [show l.length * 2 + j - l.length * 2 = j by omega]
/-- Between two rounds. -/
structure SumR (w : World) (r : Nat) (v i : Value) (wr : World) (j : Nat) (L : List SM) (y x : SM) (g cap : Nat) : Prop where
  ei : i = .int .i64 (j : Int)
  ev : v = .slice (some ⟨g, 0, none⟩) (L.length + 2) cap
  row : wr.ownsRow (w.heap.size + 1) 43 2 (.slice (some ⟨g, 0, none⟩) (L.length + 2) cap) (L.length + 2) (smsC ((L ++ [y]) ++ [x]))
  lj : L.length ≤ j
  jr : j ≤ r
  j14 : j ≤ 14
  tx : ∀ p ∈ (L ++ [y]) ++ [x], TX p.1 p.2 ∧ p.1.size ≤ 80
  res : wr.heap[w.heap.size]? = some (.cells #[.string ⟨#[]⟩, .bool false] 43 (0, 0))
  bel : Below w.heap.size w wr
section
variable {w : World} {r : Nat} {v i : Value} {wr : World} {j : Nat} {L : List SM} {y x : SM} {g cap : Nat}
theorem SumR.lt (h : SumR w r v i wr j L y x g cap) : w.heap.size + 1 ≤ g ∧ g < wr.heap.size := h.row.lt g rfl
theorem SumR.later {wr' : World} (h : SumR w r v i wr j L y x g cap) (hb : Below wr.heap.size wr wr') : SumR w r v i wr' j L y x g cap :=
  ⟨h.ei, h.ev, own_sameP h.row (fun k e => hb.block k (h.row.lt k e).2), h.lj, h.jr, h.j14, h.tx, (hb.block _ (by have := h.lt; omega)).trans h.res, h.bel.trans (hb.mono h.bel.size)⟩
theorem SumR.cells (h : SumR w r v i wr j L y x g cap) : (wr.cell? ⟨g, L.length * 2, none⟩ = some (.string y.1) ∧ wr.cell? ⟨g, L.length * 2 + 1, none⟩ = some (.bool y.2)) ∧ (wr.cell? ⟨g, (L.length + 1) * 2, none⟩ = some (.string x.1) ∧ wr.cell? ⟨g, (L.length + 1) * 2 + 1, none⟩ = some (.bool x.2)) ∧ ∀ o, wr.frozen? ⟨g, o, none⟩ = false := by
  have e : smsC ((L ++ [y]) ++ [x]) = smsC L ++ [.string y.1, .bool y.2, .string x.1, .bool x.2] := by
    rw [smsC_snoc, smsC_snoc, List.append_assoc]; rfl
  have hl := smsC_len L
  have c : ∀ q u, q < 4 → [Value.string y.1, .bool y.2, .string x.1, .bool x.2][q]? = some u → wr.cell? ⟨g, L.length * 2 + q, none⟩ = some u := fun q u hq hu => by
    rw [h.row.cellAt (L.length * 2 + q) (by omega), e, List.getElem?_append_right (by omega), hl, show L.length * 2 + q - L.length * 2 = q by omega]
    exact hu
  refine ⟨⟨c 0 _ (by omega) rfl, c 1 _ (by omega) rfl⟩, ⟨?_, ?_⟩, fun o => ?_⟩
  · have := c 2 _ (by omega) rfl
    rw [show (L.length + 1) * 2 = L.length * 2 + 2 by omega]; exact this
  · have := c 3 _ (by omega) rfl
    rw [show (L.length + 1) * 2 + 1 = L.length * 2 + 3 by omega]; exact this
  · rcases h.row.2 with ⟨e, _⟩ | ⟨g', cap, cur, e, hb, hg, _⟩
    · cases e
    · cases e
      simp [World.frozen?, hg]
theorem SumR.top (h : SumR w r v i wr j L y x g cap) : (TX x.1 x.2 ∧ x.1.size ≤ 80) ∧ (TX y.1 y.2 ∧ y.1.size ≤ 80) := ⟨h.tx x (by simp), h.tx y (by simp)⟩
/-- One more is laid on the heap. -/
theorem SumR.push {w3 : World} {v' : Value} {U : Obj} {t : SM} {m : Nat} (h : SumR w r v i wr j L y x g cap) (hm : L.length + 2 = m) (hown : w3.ownsRow (w.heap.size + 1) 43 2 v' (m + 1) (smsC ((L ++ [y]) ++ [x]) ++ smC t)) (hg : (wr.alloc U).grownBy w3 (some g)) (ht : TX t.1 t.2 ∧ t.1.size ≤ 80) (hj : j < r) (hj2 : j < 14) :
    ∃ L' y' x' g' cap', SumR w r v' (.int .i64 ((j : Int) + 1)) w3 (j + 1) L' y' x' g' cap' := by
  subst hm
  obtain ⟨g', cap', rfl⟩ := own_succP (k := L.length + 2) hown
  have hl := h.lt
  rw [← smsC_snoc] at hown
  refine ⟨L ++ [y], x, t, g', cap', ⟨by rw [Int.natCast_add]; rfl, by simp, by simpa using hown, ?_, hj, hj2, ?_, ?_, ?_⟩⟩
  · have := h.lj; simp; omega
  · intro p hp
    rcases List.mem_append.1 hp with hp | hp
    · exact h.tx p hp
    · simp at hp; rw [hp]; exact ht
  · refine (hg.block _ (by simp; omega) (fun e => by cases e; omega)).trans ((Below.heap_alloc wr U _ (by omega)).trans h.res)
  · have hz := h.bel.size
    exact (h.bel.alloc hz U).grown hg (by simp; omega) (fun q hq => by cases hq; omega)
/-- What lies on top is another. -/
theorem SumR.put (h : SumR w r v i wr j L y x g cap) (t : SM) (ht : TX t.1 t.2 ∧ t.1.size ≤ 80) (hj : j < r) (hj2 : j < 14) :
    SumR w r v (.int .i64 ((j : Int) + 1)) ((wr.setCell ⟨g, (L.length + 1) * 2, none⟩ (.string t.1)).setCell ⟨g, (L.length + 1) * 2 + 1, none⟩ (.bool t.2)) (j + 1) L y t g cap := by
  have hl := h.lt
  have r1 := sm_set (l := L ++ [y]) (t := x) (t' := (t.1, x.2)) (j := 0) (v := .string t.1) h.row (by simp) (by omega) rfl
  have r2 := sm_set (l := L ++ [y]) (t := (t.1, x.2)) (t' := t) (j := 1) (v := .bool t.2) r1 (by simp) (by omega) rfl
  rw [show (L ++ [y]).length = L.length + 1 by simp, Nat.add_zero] at r2
  refine ⟨by rw [Int.natCast_add]; rfl, h.ev, r2, by have := h.lj; omega, hj, hj2, ?_, ?_, ?_⟩
  · intro p hp
    rcases List.mem_append.1 hp with hp | hp
    · exact h.tx p (List.mem_append_left _ hp)
    · simp at hp; rw [hp]; exact ht
  · refine (Below.heap_setCell _ _ _ _ (by show w.heap.size ≠ g; omega)).trans ((Below.heap_setCell _ _ _ _ (by show w.heap.size ≠ g; omega)).trans h.res)
  · exact (h.bel.setCell (p := ⟨g, (L.length + 1) * 2, none⟩) (by show w.heap.size ≤ g; omega) _).setCell (p := ⟨g, (L.length + 1) * 2 + 1, none⟩) (by show w.heap.size ≤ g; omega) _
/-- Nothing is done. -/
theorem SumR.next (h : SumR w r v i wr j L y x g cap) (hj : j < r) (hj2 : j < 14) : SumR w r v (.int .i64 ((j : Int) + 1)) wr (j + 1) L y x g cap :=
  ⟨by rw [Int.natCast_add]; rfl, h.ev, h.row, by have := h.lj; omega, hj, hj2, h.tx, h.res, h.bel⟩
end
/-- The signs that sum lays between two texts. -/
def opL : List ByteArray := [⟨#[32, 43, 32]⟩, ⟨#[32, 45, 32]⟩, ⟨#[32, 195, 151, 32]⟩, ⟨#[32, 195, 183, 32]⟩, ⟨#[32, 60, 32]⟩, ⟨#[32, 226, 137, 160, 32]⟩]
theorem op_six {kk : Nat} (hk : 5 ≤ kk ∧ kk ≤ 10) {x y : ByteArray} {h k : Bool} (gx : TX x h) (gy : TX y k) : ∃ (ix : Nat) (su : ByteArray), (kk : Int) - 5 = (ix : Int) ∧ (ix : Int) < 6 ∧ opL.getD ix ByteArray.empty = su ∧ su.size ≤ 5 ∧ TX ((((⟨#[40]⟩ ++ y) ++ su) ++ x) ++ ⟨#[41]⟩) (h || k) := by
  rcases (show kk = 5 ∨ kk = 6 ∨ kk = 7 ∨ kk = 8 ∨ kk = 9 ∨ kk = 10 by omega) with rfl | rfl | rfl | rfl | rfl | rfl
  · exact ⟨0, ⟨#[32, 43, 32]⟩, rfl, by decide, rfl, by decide, tx_op (s := ⟨#[32, 43, 32]⟩) (g := ⟨#[43]⟩) gx gy 3 rfl (by kernel_rfl) (fun p => .inr (.inl ⟨by kernel_rfl, by kernel_rfl⟩))⟩
  · exact ⟨1, ⟨#[32, 45, 32]⟩, rfl, by decide, rfl, by decide, tx_op (s := ⟨#[32, 45, 32]⟩) (g := ⟨#[45]⟩) gx gy 3 rfl (by kernel_rfl) (fun p => .inr (.inl ⟨by kernel_rfl, by kernel_rfl⟩))⟩
  · exact ⟨2, ⟨#[32, 195, 151, 32]⟩, rfl, by decide, rfl, by decide, tx_op (s := ⟨#[32, 195, 151, 32]⟩) (g := ⟨#[195, 151]⟩) gx gy 4 rfl (by kernel_rfl) (fun p => .inl (by kernel_rfl))⟩
  · exact ⟨3, ⟨#[32, 195, 183, 32]⟩, rfl, by decide, rfl, by decide, tx_op (s := ⟨#[32, 195, 183, 32]⟩) (g := ⟨#[195, 183]⟩) gx gy 4 rfl (by kernel_rfl) (fun p => .inl (by kernel_rfl))⟩
  · exact ⟨4, ⟨#[32, 60, 32]⟩, rfl, by decide, rfl, by decide, tx_op (s := ⟨#[32, 60, 32]⟩) (g := ⟨#[60]⟩) gx gy 3 rfl (by kernel_rfl) (fun p => .inr (.inr ⟨by kernel_rfl, by kernel_rfl, by kernel_rfl⟩))⟩
  · exact ⟨5, ⟨#[32, 226, 137, 160, 32]⟩, rfl, by decide, rfl, by decide, tx_op (s := ⟨#[32, 226, 137, 160, 32]⟩) (g := ⟨#[226, 137, 160]⟩) gx gy 5 rfl (by kernel_rfl) (fun p => .inr (.inr ⟨by kernel_rfl, by kernel_rfl, by kernel_rfl⟩))⟩
theorem op_cell (w : World) {ix : Nat} (h : (ix : Int) < 6) : (w.alloc (.cells #[.string ⟨#[32, 43, 32]⟩, .string ⟨#[32, 45, 32]⟩, .string ⟨#[32, 195, 151, 32]⟩, .string ⟨#[32, 195, 183, 32]⟩, .string ⟨#[32, 60, 32]⟩, .string ⟨#[32, 226, 137, 160, 32]⟩] 9)).cell? ⟨w.heap.size, ix, none⟩ = some (.string (opL.getD ix ByteArray.empty)) := by
  obtain ⟨b, off, e, _, hc⟩ := StrsAt.new w opL (w.heap.size + 1) (by omega)
  cases e
  have := hc ix (by show ix < 6; omega)
  rw [Nat.zero_add] at this
  exact this
/-- What sum answers. -/
def SumOut (w : World) (e : Ending) (w' : World) : Prop := ∃ t h, e = .returned (.agg #[.string t, .bool h]) ∧ TX t h ∧ t.size ≤ 80 ∧ Below w.heap.size w w'
theorem in64_wrap (x : Int) : In64 (wrap64 x) := by unfold In64 wrap64; omega
theorem in64_tdiv {r : Int} (h : In64 r) : In64 (r.tdiv 32) := by
  unfold In64 at *
  by_cases h0 : 0 ≤ r
  · rw [Int.tdiv_eq_ediv_of_nonneg h0]; omega
  · obtain ⟨m, hm⟩ : ∃ m, -r = m := ⟨_, rfl⟩
    have e : r = -m := by omega
    subst e
    rw [Int.neg_tdiv, Int.tdiv_eq_ediv_of_nonneg (by omega)]; omega
end Go.Proofs.Ythmmgiaobakilaa

/- Flowing's sources: their trees. -/
set_option maxRecDepth 100000
namespace Go.Proofs.Ythmmgiaobakilaa
open Go.RowKit Go.Deep

/-- A row of tokens is one expression, where no sign goes on. -/
def Exq (d : Nat) (L : List Tok) (e : Ex) : Prop := ∀ (A R : List Tok) (n : Nat) (t : Tok), d + 4 ≤ n → NoOp t → (pXF n).1 (A ++ (L ++ (t :: R))) A.length = got e (A.length + L.length)
theorem exq_fac {d : Nat} {L : List Tok} {e : Ex} (h : Fac d L e) : Exq d L e := fun A R n t hn no => by
  refine expr_one (by omega) (h A (t :: R) n (by omega)) (t := t) ?_ no
  rw [← List.append_assoc]
  exact tk_at (by first | (simp; done) | (simp; omega))
theorem exq_op {d : Nat} {L M : List Tok} {a b : Ex} {o : Tok} (op : IsOp o) (ha : Fac d L a) (hb : Fac d M b) : Exq d (L ++ ([o] ++ M)) (node2 o a b) := fun A R n t hn no => by
  obtain ⟨T, hT⟩ : ∃ T, A ++ ((L ++ ([o] ++ M)) ++ (t :: R)) = T := ⟨_, rfl⟩
  have g1 := ha A ([o] ++ M ++ (t :: R)) n (by omega)
  have e1 : A ++ (L ++ ([o] ++ M ++ (t :: R))) = T := by rw [← hT]; simp
  have g2 := hb (A ++ L ++ [o]) (t :: R) n (by omega)
  have e2 : A ++ L ++ [o] ++ (M ++ (t :: R)) = T := by rw [← hT]; simp
  have k1 : tkAt T (A.length + L.length) = o := by
    have e : (A ++ L) ++ o :: (M ++ (t :: R)) = T := by rw [← hT]; simp
    rw [← e]; exact tk_at (by first | (simp; done) | (simp; omega))
  have k2 : tkAt T (A.length + L.length + 1 + M.length) = t := by
    have e : (A ++ L ++ [o] ++ M) ++ t :: R = T := by rw [← hT]; simp
    rw [← e]; exact tk_at (by first | (simp; done) | (simp; omega))
  rw [e1] at g1
  rw [e2] at g2
  simp only [List.length_append, List.length_singleton] at g2
  rw [hT, expr_two (by omega) g1 g2 k1 k2 no op]
  show got _ _ = got _ _
  congr 1
  simp; omega
theorem sb_eq {n : Nat} (hn : 3 ≤ n) : (pSB n).1 = pStatement (pXF (n - 1)).1 (pSB (n - 1)).2 ∧ (pSB n).2 = pBlock (pSB (n - 1)).1 (n - 2) := by
  obtain ⟨m, rfl⟩ : ∃ m, n = m + 3 := ⟨n - 3, by omega⟩
  constructor <;> (rw [pSB, if_neg (by omega)]; rfl)
/-- A row of tokens is one statement. -/
def Sta (m : Nat) (L : List Tok) (s : Sx) : Prop := ∀ (A R : List Tok) (n : Nat), m ≤ n → (pSB n).1 (A ++ (L ++ R)) A.length = got s (A.length + L.length)
def Blo (m : Nat) (L : List Tok) (s : Sx) : Prop := ∀ (A R : List Tok) (n : Nat), m ≤ n → (pSB n).2 (A ++ (L ++ R)) A.length = got s (A.length + L.length)
theorem sta_put {d : Nat} {L : List Tok} {e : Ex} (tag : Nat) (w : ByteArray) (hw : (tag = 3 ∧ w = sOUT) ∨ (tag = 4 ∧ w = sHIDE)) (h : Exq d L e) (p q : Int) : Sta (d + 5) ([kT w p] ++ (L ++ [sT sSC q])) (.node 0 0 ⟨tag, kT w p, noTok, noTok, e⟩ .nil .nil) := by
  intro A R n hn
  obtain ⟨T, hT⟩ : ∃ T, A ++ (([kT w p] ++ (L ++ [sT sSC q])) ++ R) = T := ⟨_, rfl⟩
  have ht : tkAt T A.length = kT w p := by rw [← hT]; exact tk_at rfl
  have g1 := h (A ++ [kT w p]) R (n - 1) (sT sSC q) (by omega) ⟨by kernel_rfl, by kernel_rfl, by kernel_rfl⟩
  have e1 : A ++ [kT w p] ++ (L ++ (sT sSC q :: R)) = T := by rw [← hT]; simp
  rw [e1] at g1
  simp only [List.length_append, List.length_singleton] at g1
  have k1 : tkAt T (A.length + 1 + L.length) = sT sSC q := by
    have e : (A ++ [kT w p] ++ L) ++ sT sSC q :: R = T := by rw [← hT]; simp
    rw [← e]; exact tk_at (by first | (simp; done) | (simp; omega))
  have P : pPut (pXF (n - 1)).1 tag T A.length = got (.node 0 0 ⟨tag, kT w p, noTok, noTok, e⟩ .nil .nil) (A.length + ([kT w p] ++ (L ++ [sT sSC q])).length) := by
    unfold pPut
    rw [g1]
    show andThen (pNeed T sSC _) _ = _
    rw [need_tk k1 (by kernel_rfl), ht]
    show got _ _ = got _ _
    congr 1
    simp; omega
  rw [hT, (sb_eq (by omega)).1]
  unfold pStatement
  simp only [isT_tk ht]
  rw [ht]
  rcases hw with ⟨rfl, rfl⟩ | ⟨rfl, rfl⟩
  · rw [if_neg (by exact nk rfl), show isTk (kT sOUT p) sIF = false from by kernel_rfl, show isTk (kT sOUT p) sFOR = false from by kernel_rfl, show isTk (kT sOUT p) sOUT = true from by kernel_rfl, if_neg (by decide), if_neg (by decide), if_pos rfl]
    exact P
  · rw [if_neg (by exact nk rfl), show isTk (kT sHIDE p) sIF = false from by kernel_rfl, show isTk (kT sHIDE p) sFOR = false from by kernel_rfl, show isTk (kT sHIDE p) sOUT = false from by kernel_rfl, show isTk (kT sHIDE p) sHIDE = true from by kernel_rfl, if_neg (by decide), if_neg (by decide), if_neg (by decide), if_pos rfl]
    exact P
theorem sta_set {d : Nat} {L : List Tok} {e : Ex} (w : ByteArray) (h : Exq d L e) (p q u : Int) : Sta (d + 5) ([nT w p] ++ ([sT sAR q] ++ (L ++ [sT sSC u]))) (.node 0 0 ⟨0, nT w p, noTok, noTok, e⟩ .nil .nil) := by
  intro A R n hn
  obtain ⟨T, hT⟩ : ∃ T, A ++ (([nT w p] ++ ([sT sAR q] ++ (L ++ [sT sSC u]))) ++ R) = T := ⟨_, rfl⟩
  have ht : tkAt T A.length = nT w p := by rw [← hT]; exact tk_at rfl
  have k0 : tkAt T (A.length + 1) = sT sAR q := by
    have e : (A ++ [nT w p]) ++ sT sAR q :: (L ++ [sT sSC u] ++ R) = T := by rw [← hT]; simp
    rw [← e]; exact tk_at (by first | (simp; done) | (simp; omega))
  have g1 := h (A ++ [nT w p] ++ [sT sAR q]) R (n - 1) (sT sSC u) (by omega) ⟨by kernel_rfl, by kernel_rfl, by kernel_rfl⟩
  have e1 : A ++ [nT w p] ++ [sT sAR q] ++ (L ++ (sT sSC u :: R)) = T := by rw [← hT]; simp
  rw [e1] at g1
  simp only [List.length_append, List.length_singleton] at g1
  have k1 : tkAt T (A.length + 1 + 1 + L.length) = sT sSC u := by
    have e : (A ++ [nT w p] ++ [sT sAR q] ++ L) ++ sT sSC u :: R = T := by rw [← hT]; simp
    rw [← e]; exact tk_at (by first | (simp; done) | (simp; omega))
  rw [hT, (sb_eq (by omega)).1]
  unfold pStatement
  rw [ht, if_pos (by rfl)]
  unfold pAssign
  rw [need_tk k0 (by kernel_rfl)]
  show andThen ((pXF (n - 1)).1 T (A.length + 1 + 1)) _ = _
  rw [g1]
  show andThen (pNeed T sSC _) _ = _
  rw [need_tk k1 (by kernel_rfl), ht]
  show got _ _ = got _ _
  congr 1
  simp; omega
theorem blo_one {m : Nat} {t : Tok} {M : List Tok} {s : Sx} (ht : isTk t sCC = false) (h : Sta m (t :: M) s) (hm : 3 ≤ m) (p q : Int) : Blo (m + 1) ([sT sCO p] ++ ((t :: M) ++ [sT sCC q])) (besideS s .nil) := by
  intro A R n hn
  obtain ⟨T, hT⟩ : ∃ T, A ++ (([sT sCO p] ++ ((t :: M) ++ [sT sCC q])) ++ R) = T := ⟨_, rfl⟩
  have k0 : tkAt T A.length = sT sCO p := by rw [← hT]; exact tk_at rfl
  have k1 : tkAt T (A.length + 1) = t := by
    have e : (A ++ [sT sCO p]) ++ t :: (M ++ [sT sCC q] ++ R) = T := by rw [← hT]; simp
    rw [← e]; exact tk_at (by first | (simp; done) | (simp; omega))
  have g := h (A ++ [sT sCO p]) ([sT sCC q] ++ R) (n - 1) (by omega)
  have e1 : A ++ [sT sCO p] ++ ((t :: M) ++ ([sT sCC q] ++ R)) = T := by rw [← hT]; simp
  rw [e1] at g
  simp only [List.length_append, List.length_singleton] at g
  have k2 : tkAt T (A.length + 1 + (t :: M).length) = sT sCC q := by
    have e : (A ++ [sT sCO p] ++ (t :: M)) ++ sT sCC q :: R = T := by rw [← hT]; simp
    rw [← e]; exact tk_at (by first | (simp; done) | (simp; omega))
  obtain ⟨k, hk⟩ : ∃ k, n - 2 = k + 2 := ⟨n - 4, by omega⟩
  rw [hT, (sb_eq (by omega)).2, hk]
  unfold pBlock
  rw [if_neg (by omega), need_tk k0 (by kernel_rfl)]
  show pItems _ T (k + 1 + 1) (A.length + 1) = _
  rw [pItems, isT_tk k1, ht, if_neg (by decide), g]
  show andThen (pItems _ T (k + 1) _) _ = _
  rw [pItems, isT_tk k2, show isTk (sT sCC q) sCC = true from by kernel_rfl, if_pos rfl]
  show got _ _ = got _ _
  congr 1
  simp; omega
theorem sta_if {d m : Nat} {L M N : List Tok} {e : Ex} {s u : Sx} {t : Tok} (h : Exq d L e) (no : NoOp t) (hs : Blo m (t :: M) s) (hu : Blo m N u) (hm : d + 4 ≤ m) (p q : Int) : Sta (m + 1) ([kT sIF p] ++ (L ++ ((t :: M) ++ ([kT sELSE q] ++ N)))) (.node 0 0 ⟨1, kT sIF p, noTok, noTok, e⟩ (.node 0 0 ⟨5, noTok, noTok, noTok, .nil⟩ s u) .nil) := by
  intro A R n hn
  obtain ⟨T, hT⟩ : ∃ T, A ++ (([kT sIF p] ++ (L ++ ((t :: M) ++ ([kT sELSE q] ++ N)))) ++ R) = T := ⟨_, rfl⟩
  have ht : tkAt T A.length = kT sIF p := by rw [← hT]; exact tk_at rfl
  have g1 := h (A ++ [kT sIF p]) (M ++ ([kT sELSE q] ++ N) ++ R) (n - 1) t (by omega) no
  have e1 : A ++ [kT sIF p] ++ (L ++ (t :: (M ++ ([kT sELSE q] ++ N) ++ R))) = T := by rw [← hT]; simp
  rw [e1] at g1
  have g2 := hs (A ++ [kT sIF p] ++ L) ([kT sELSE q] ++ N ++ R) (n - 1) (by omega)
  have e2 : A ++ [kT sIF p] ++ L ++ ((t :: M) ++ ([kT sELSE q] ++ N ++ R)) = T := by rw [← hT]; simp
  rw [e2] at g2
  have g3 := hu (A ++ [kT sIF p] ++ L ++ (t :: M) ++ [kT sELSE q]) R (n - 1) (by omega)
  have e3 : A ++ [kT sIF p] ++ L ++ (t :: M) ++ [kT sELSE q] ++ (N ++ R) = T := by rw [← hT]; simp
  rw [e3] at g3
  simp only [List.length_append, List.length_singleton] at g1 g2 g3
  have k1 : tkAt T (A.length + 1 + L.length + (t :: M).length) = kT sELSE q := by
    have e : (A ++ [kT sIF p] ++ L ++ (t :: M)) ++ kT sELSE q :: (N ++ R) = T := by rw [← hT]; simp
    rw [← e]; exact tk_at (by first | (simp; done) | (simp; omega))
  rw [hT, (sb_eq (by omega)).1]
  unfold pStatement
  simp only [isT_tk ht]
  rw [ht, if_neg (by exact nk rfl), show isTk (kT sIF p) sIF = true from by kernel_rfl, if_pos rfl]
  unfold pIf
  rw [g1]
  show andThen ((pSB (n - 1)).2 T _) _ = _
  rw [g2]
  show pElse _ T _ _ _ _ = _
  unfold pElse
  rw [isT_tk k1, show isTk (kT sELSE q) sELSE = true from by kernel_rfl, if_pos rfl, g3, ht]
  show got _ _ = got _ _
  congr 1
  simp; omega

def fwHd : ByteArray := ⟨#[111, 112, 101, 110, 32, 97, 59, 32, 104, 105, 100, 100, 101, 110, 32, 104, 59, 32, 97, 32, 226, 134, 144, 32, 121, 32, 43, 32, 49, 59, 32, 104, 32, 226, 134, 144, 32, 115, 112, 121, 91, 120, 44, 32, 121, 93, 59, 32]⟩
def fwHT : List Tok := [kT ⟨#[111, 112, 101, 110]⟩ 0, nT ⟨#[97]⟩ 5, sT ⟨#[59]⟩ 6, kT ⟨#[104, 105, 100, 100, 101, 110]⟩ 8, nT ⟨#[104]⟩ 15, sT ⟨#[59]⟩ 16, nT ⟨#[97]⟩ 18, sT ⟨#[226, 134, 144]⟩ 20, nT ⟨#[121]⟩ 24, sT ⟨#[43]⟩ 26, uT 1 ⟨#[49]⟩ 28, sT ⟨#[59]⟩ 29, nT ⟨#[104]⟩ 31, sT ⟨#[226, 134, 144]⟩ 33, kT ⟨#[115, 112, 121]⟩ 37, sT ⟨#[91]⟩ 40, nT ⟨#[120]⟩ 41, sT ⟨#[44]⟩ 42, nT ⟨#[121]⟩ 44, sT ⟨#[93]⟩ 45, sT ⟨#[59]⟩ 46]
theorem fw_head : lx (nums fwHd) 0 = (some fwHT, 48) := by kernel_rfl
def fwS1 : SP := ⟨0, (nT ⟨#[97]⟩ 18), noTok, noTok, (.node 0 0 (sT ⟨#[43]⟩ 26) (.node 0 0 (nT ⟨#[121]⟩ 24) .nil (.node 0 0 (uT 1 ⟨#[49]⟩ 28) .nil .nil)) .nil)⟩
def fwS2 : SP := ⟨0, (nT ⟨#[104]⟩ 31), noTok, noTok, (.node 0 0 (kT ⟨#[115, 112, 121]⟩ 37) (.node 0 0 (nT ⟨#[120]⟩ 41) .nil (.node 0 0 (nT ⟨#[121]⟩ 44) .nil .nil)) .nil)⟩
def fwDs : List (Tok × Bool) := [((nT ⟨#[97]⟩ 5), false), ((nT ⟨#[104]⟩ 15), true)]
theorem fw_decls (U : List Tok) : pDecls (fwHT ++ U) 1000 999 0 = got fwDs 6 := by kernel_rfl
theorem fw_st1 (U : List Tok) : (pSB 1000).1 (fwHT ++ U) 6 = got (.node 0 0 fwS1 .nil .nil) 12 := by kernel_rfl
theorem fw_st2 (U : List Tok) : (pSB 1000).1 (fwHT ++ U) 12 = got (.node 0 0 fwS2 .nil .nil) 21 := by kernel_rfl
theorem body_one {S : PS} {T : List Tok} {m i j k : Nat} {s r : Sx} (hk : ((tkAt T i).kind == 4) = false) (h : S T i = got s j) (hr : pBody S T m j = got r k) : pBody S T (m + 1) i = got (besideS s r) k := by
  rw [pBody, hk, if_neg (by decide), h]
  show andThen (pBody S T m j) _ = _
  rw [hr]; rfl
theorem body_end {S : PS} {T : List Tok} {m i : Nat} (hk : ((tkAt T i).kind == 4) = true) : pBody S T (m + 1) i = got .nil i := by
  rw [pBody, hk]; rfl
theorem fw_src {U : List Tok} {r : Sx} {k : Nat} (h : pBody (pSB 1000).1 (fwHT ++ U) 997 21 = got r k) : pSource 1000 (fwHT ++ U) = got (fwDs, .node 0 0 fwS1 .nil (.node 0 0 fwS2 .nil r)) k := by
  have b2 := body_one (S := (pSB 1000).1) (T := fwHT ++ U) (m := 997) (i := 12) (by kernel_rfl) (fw_st2 U) h
  have b1 := body_one (S := (pSB 1000).1) (T := fwHT ++ U) (m := 998) (i := 6) (by kernel_rfl) (fw_st1 U) b2
  unfold pSource
  rw [fw_decls U]
  show andThen (pBody (pSB 1000).1 (fwHT ++ U) 999 6) _ = _
  rw [b1]
  rfl
/-- One statement behind the head. -/
theorem fw_one {m : Nat} {t : Tok} {L : List Tok} {s : Sx} (h : Sta m (t :: L) s) (hm : m ≤ 1000) (hk : (t.kind == 4) = false) (q : Nat) : pSource 1000 (fwHT ++ ((t :: L) ++ [overTok q])) = got (fwDs, .node 0 0 fwS1 .nil (.node 0 0 fwS2 .nil (besideS s .nil))) (21 + (t :: L).length) := by
  apply fw_src
  have k0 : tkAt (fwHT ++ ((t :: L) ++ [overTok q])) 21 = t := tk_at (A := fwHT) (R := L ++ [overTok q]) rfl
  refine body_one (by rw [k0]; exact hk) (h fwHT [overTok q] 1000 hm) (body_end ?_)
  rw [← List.append_assoc, tk_at (by first | (simp; done) | (simp; omega))]
  rfl
theorem fw_two {m m' : Nat} {t t' : Tok} {L L' : List Tok} {s s' : Sx} (h : Sta m (t :: L) s) (h' : Sta m' (t' :: L') s') (hm : m ≤ 1000) (hm' : m' ≤ 1000) (hk : (t.kind == 4) = false) (hk' : (t'.kind == 4) = false) (q : Nat) : pSource 1000 (fwHT ++ ((t :: L) ++ ((t' :: L') ++ [overTok q]))) = got (fwDs, .node 0 0 fwS1 .nil (.node 0 0 fwS2 .nil (besideS s (besideS s' .nil)))) (21 + (t :: L).length + (t' :: L').length) := by
  apply fw_src
  have k0 : tkAt (fwHT ++ ((t :: L) ++ ((t' :: L') ++ [overTok q]))) 21 = t := tk_at (A := fwHT) (R := L ++ ((t' :: L') ++ [overTok q])) rfl
  have k1 : tkAt (fwHT ++ ((t :: L) ++ ((t' :: L') ++ [overTok q]))) (21 + (t :: L).length) = t' := by
    rw [← List.append_assoc]; exact tk_at (by simp [fwHT]; omega)
  refine body_one (by rw [k0]; exact hk) (h fwHT ((t' :: L') ++ [overTok q]) 1000 hm) ?_
  have g := h' (fwHT ++ (t :: L)) [overTok q] 1000 hm'
  rw [List.append_assoc, List.length_append] at g
  refine body_one (by rw [show fwHT.length = 21 from rfl, k1]; exact hk') g (body_end ?_)
  rw [← List.append_assoc, ← List.append_assoc, tk_at (by first | (simp; done) | (simp; omega))]
  rfl
theorem good_nx1 {e : Ex} {h : Bool} (g : Good e h) (F : Flt) : nx1 roleF e F = F := by
  have := g.nx F
  obtain ⟨t, k, rfl⟩ := g.one
  exact this
theorem good_hid1 {e : Ex} {h : Bool} (g : Good e h) : hid1 hidF e = h := by
  have := g.hd
  obtain ⟨t, k, rfl⟩ := g.one
  rw [← this]
  show (hidH hidF t || hidE hidF k) = ((hidH hidF t || hidE hidF k) || false)
  rw [Bool.or_false]
theorem good_tc1 {e : Ex} {h : Bool} (g : Good e h) (F : Flt) : tc1 hidF e F = F := by
  have := g.tc F
  obtain ⟨t, k, rfl⟩ := g.one
  exact this
theorem fw_nm (r : Sx) : namesF fwDs (.node 0 0 fwS1 .nil (.node 0 0 fwS2 .nil r)) = (nxS r (roleF, (0, 0))).2 := by kernel_rfl
theorem fw_fl (r : Sx) : flowF fwDs (.node 0 0 fwS1 .nil (.node 0 0 fwS2 .nil r)) = flS hidF r (0, 0) := by kernel_rfl
/-- What is told of a source, where no name is wrong. -/
theorem fw_told {r : Sx} {p : Int} {h : Bool} (h1 : (nxS r (roleF, (0, 0))).2 = (0, 0)) (h2 : flS hidF r (0, 0) = if h then (11, p) else (0, 0)) : treeF fwDs (.node 0 0 fwS1 .nil (.node 0 0 fwS2 .nil r)) = if h then (11, p) else (0, 0) := by
  unfold treeF
  rw [fw_nm, h1, fw_fl, h2]
  cases h <;> rfl
theorem fw_lead {e : Ex} {h : Bool} (g : Good e h) (t : Tok) : ldF hidF t e false (0, 0) = if h then (11, t.place) else (0, 0) := by
  unfold ldF
  rw [good_tc1 g, good_hid1 g]
  cases h <;> rfl
theorem fw_lead_ok {e : Ex} {h : Bool} (g : Good e h) (t : Tok) (F : Flt) : ldF hidF t e true F = F := by
  unfold ldF
  rw [good_tc1 g]
  rfl
/-- The answer to a source, from its tokens. -/
theorem fw_ans {s : ByteArray} {U : List Tok} {q k : Nat} {t : Sx} {r : Int × Int} (hs : s.size ≤ 300) (hl : lx (nums s) 0 = (some (fwHT ++ U), q)) (hp : pSource 1000 (fwHT ++ (U ++ [overTok q])) = got (fwDs, t) k) (hr : treeF fwDs t = r) : readF s = r := by
  unfold readF
  rw [if_neg (by omega), lex_lx, hl]
  show toksF ((fwHT ++ U) ++ [overTok q]) = r
  unfold toksF
  rw [List.append_assoc, hp]
  exact hr
end Go.Proofs.Ythmmgiaobakilaa

/- Flowing's sources: what is told of them. -/
set_option maxRecDepth 100000
namespace Go.Proofs.Ythmmgiaobakilaa
open Go.RowKit Go.Deep

def oneS : ByteArray := ⟨#[49]⟩
theorem good_num (v : Int) (x : ByteArray) (p : Int) : Good (leafE (uT v x p)) false := good_leaf (fun F => by kernel_rfl) (by kernel_rfl)
theorem good_nmA (p : Int) : Good (leafE (nT fwA p)) false := good_leaf (fun F => by kernel_rfl) (by kernel_rfl)
theorem good_nmH (p : Int) : Good (leafE (nT fwH p)) true := good_leaf (fun F => by kernel_rfl) (by kernel_rfl)

def fw1 (x : ByteArray) : ByteArray := ((fwHd ++ ⟨#[111, 117, 116, 32]⟩) ++ x) ++ ⟨#[59]⟩
theorem fw_lex1 {x : ByteArray} {h : Bool} (g : TX x h) : ∃ q L e, Fac x.size L e ∧ Good e h ∧ ∃ b0 : Int, lx (nums (fw1 x)) 0 = (some (fwHT ++ ([kT ⟨#[111, 117, 116]⟩ (48)] ++ (L ++ [sT ⟨#[59]⟩ b0]))), q) := by
  have en : nums (fw1 x) = nums fwHd ++ ([111, 117, 116, 32] ++ (nums x ++ [59])) := by
    unfold fw1
    simp only [num_append]; rw [show nums ⟨#[111, 117, 116, 32]⟩ = [111, 117, 116, 32] from rfl, show nums ⟨#[59]⟩ = [59] from rfl]; simp
  obtain ⟨L, q, e, h1, h2, h3⟩ := g.ok (0 + (nums fwHd).length + 4)
  have t1 := lx_txt h1 (bd_sign (x := 59) (by decide) (by decide) (by decide)) (lx_at (L := [59]) (T := [sT ⟨#[59]⟩ 0]) (p := 1) (by kernel_rfl) _)
  have t2 := lx_lit (L := [111, 117, 116, 32]) (T := [kT ⟨#[111, 117, 116]⟩ 0]) (p := 4) (by kernel_rfl) (g.bd (z := 32) rfl (by decide) (by decide) _) _ t1
  have t3 := lx_txt fw_head (bd_end (fun z hz => by cases (show some (32 : Int) = some z from hz); exact ⟨by decide, by decide⟩) (fun y R' e => by cases e; decide)) t2
  rw [← en] at t3
  exact ⟨_, L, e, h2, h3, _, t3⟩
theorem fw_sz1 {x : ByteArray} (hx : x.size ≤ 100) : (fw1 x).size ≤ 300 := by
  unfold fw1
  simp only [ByteArray.size_append]
  show (((48 + 4) + x.size) + 1) ≤ 300
  omega
def fw2 (x : ByteArray) : ByteArray := ((fwHd ++ ⟨#[97, 32, 226, 134, 144, 32]⟩) ++ x) ++ ⟨#[59]⟩
theorem fw_lex2 {x : ByteArray} {h : Bool} (g : TX x h) : ∃ q L e, Fac x.size L e ∧ Good e h ∧ ∃ b0 : Int, lx (nums (fw2 x)) 0 = (some (fwHT ++ ([nT ⟨#[97]⟩ (48), sT ⟨#[226, 134, 144]⟩ (50)] ++ (L ++ [sT ⟨#[59]⟩ b0]))), q) := by
  have en : nums (fw2 x) = nums fwHd ++ ([97, 32, 226, 134, 144, 32] ++ (nums x ++ [59])) := by
    unfold fw2
    simp only [num_append]; rw [show nums ⟨#[97, 32, 226, 134, 144, 32]⟩ = [97, 32, 226, 134, 144, 32] from rfl, show nums ⟨#[59]⟩ = [59] from rfl]; simp
  obtain ⟨L, q, e, h1, h2, h3⟩ := g.ok (0 + (nums fwHd).length + 6)
  have t1 := lx_txt h1 (bd_sign (x := 59) (by decide) (by decide) (by decide)) (lx_at (L := [59]) (T := [sT ⟨#[59]⟩ 0]) (p := 1) (by kernel_rfl) _)
  have t2 := lx_lit (L := [97, 32, 226, 134, 144, 32]) (T := [nT ⟨#[97]⟩ 0, sT ⟨#[226, 134, 144]⟩ 2]) (p := 6) (by kernel_rfl) (g.bd (z := 32) rfl (by decide) (by decide) _) _ t1
  have t3 := lx_txt fw_head (bd_end (fun z hz => by cases (show some (32 : Int) = some z from hz); exact ⟨by decide, by decide⟩) (fun y R' e => by cases e; decide)) t2
  rw [← en] at t3
  exact ⟨_, L, e, h2, h3, _, t3⟩
theorem fw_sz2 {x : ByteArray} (hx : x.size ≤ 100) : (fw2 x).size ≤ 300 := by
  unfold fw2
  simp only [ByteArray.size_append]
  show (((48 + 6) + x.size) + 1) ≤ 300
  omega
def fw3 (x : ByteArray) : ByteArray := ((fwHd ++ ⟨#[105, 102, 32]⟩) ++ x) ++ ⟨#[32, 123, 32, 111, 117, 116, 32, 57, 59, 32, 125, 32, 101, 108, 115, 101, 32, 123, 32, 104, 105, 100, 101, 32, 97, 59, 32, 125]⟩
theorem fw_lex3 {x : ByteArray} {h : Bool} (g : TX x h) : ∃ q L e, Fac x.size L e ∧ Good e h ∧ ∃ b0 b1 b2 b3 b4 b5 b6 b7 b8 b9 b10 : Int, lx (nums (fw3 x)) 0 = (some (fwHT ++ ([kT ⟨#[105, 102]⟩ (48)] ++ (L ++ [sT ⟨#[123]⟩ b0, kT ⟨#[111, 117, 116]⟩ b1, uT 9 ⟨#[57]⟩ b2, sT ⟨#[59]⟩ b3, sT ⟨#[125]⟩ b4, kT ⟨#[101, 108, 115, 101]⟩ b5, sT ⟨#[123]⟩ b6, kT ⟨#[104, 105, 100, 101]⟩ b7, nT ⟨#[97]⟩ b8, sT ⟨#[59]⟩ b9, sT ⟨#[125]⟩ b10]))), q) := by
  have en : nums (fw3 x) = nums fwHd ++ ([105, 102, 32] ++ (nums x ++ [32, 123, 32, 111, 117, 116, 32, 57, 59, 32, 125, 32, 101, 108, 115, 101, 32, 123, 32, 104, 105, 100, 101, 32, 97, 59, 32, 125])) := by
    unfold fw3
    simp only [num_append]; rw [show nums ⟨#[105, 102, 32]⟩ = [105, 102, 32] from rfl, show nums ⟨#[32, 123, 32, 111, 117, 116, 32, 57, 59, 32, 125, 32, 101, 108, 115, 101, 32, 123, 32, 104, 105, 100, 101, 32, 97, 59, 32, 125]⟩ = [32, 123, 32, 111, 117, 116, 32, 57, 59, 32, 125, 32, 101, 108, 115, 101, 32, 123, 32, 104, 105, 100, 101, 32, 97, 59, 32, 125] from rfl]; simp
  obtain ⟨L, q, e, h1, h2, h3⟩ := g.ok (0 + (nums fwHd).length + 3)
  have t1 := lx_txt h1 (bd_blank _ _) (lx_at (L := [32, 123, 32, 111, 117, 116, 32, 57, 59, 32, 125, 32, 101, 108, 115, 101, 32, 123, 32, 104, 105, 100, 101, 32, 97, 59, 32, 125]) (T := [sT ⟨#[123]⟩ 1, kT ⟨#[111, 117, 116]⟩ 3, uT 9 ⟨#[57]⟩ 7, sT ⟨#[59]⟩ 8, sT ⟨#[125]⟩ 10, kT ⟨#[101, 108, 115, 101]⟩ 12, sT ⟨#[123]⟩ 17, kT ⟨#[104, 105, 100, 101]⟩ 19, nT ⟨#[97]⟩ 24, sT ⟨#[59]⟩ 25, sT ⟨#[125]⟩ 27]) (p := 28) (by kernel_rfl) _)
  have t2 := lx_lit (L := [105, 102, 32]) (T := [kT ⟨#[105, 102]⟩ 0]) (p := 3) (by kernel_rfl) (g.bd (z := 32) rfl (by decide) (by decide) _) _ t1
  have t3 := lx_txt fw_head (bd_end (fun z hz => by cases (show some (32 : Int) = some z from hz); exact ⟨by decide, by decide⟩) (fun y R' e => by cases e; decide)) t2
  rw [← en] at t3
  exact ⟨_, L, e, h2, h3, _, _, _, _, _, _, _, _, _, _, _, t3⟩
theorem fw_sz3 {x : ByteArray} (hx : x.size ≤ 100) : (fw3 x).size ≤ 300 := by
  unfold fw3
  simp only [ByteArray.size_append]
  show (((48 + 3) + x.size) + 28) ≤ 300
  omega
def fw4 (x : ByteArray) : ByteArray := ((fwHd ++ ⟨#[104, 105, 100, 101, 32, 49, 32, 43, 32, 112, 101, 101, 107, 91]⟩) ++ x) ++ ⟨#[44, 32, 48, 93, 59]⟩
theorem fw_lex4 {x : ByteArray} {h : Bool} (g : TX x h) : ∃ q L e, Fac x.size L e ∧ Good e h ∧ ∃ b0 b1 b2 b3 : Int, lx (nums (fw4 x)) 0 = (some (fwHT ++ ([kT ⟨#[104, 105, 100, 101]⟩ (48), uT 1 ⟨#[49]⟩ (53), sT ⟨#[43]⟩ (55), kT ⟨#[112, 101, 101, 107]⟩ (57), sT ⟨#[91]⟩ (61)] ++ (L ++ [sT ⟨#[44]⟩ b0, uT 0 ⟨#[48]⟩ b1, sT ⟨#[93]⟩ b2, sT ⟨#[59]⟩ b3]))), q) := by
  have en : nums (fw4 x) = nums fwHd ++ ([104, 105, 100, 101, 32, 49, 32, 43, 32, 112, 101, 101, 107, 91] ++ (nums x ++ [44, 32, 48, 93, 59])) := by
    unfold fw4
    simp only [num_append]; rw [show nums ⟨#[104, 105, 100, 101, 32, 49, 32, 43, 32, 112, 101, 101, 107, 91]⟩ = [104, 105, 100, 101, 32, 49, 32, 43, 32, 112, 101, 101, 107, 91] from rfl, show nums ⟨#[44, 32, 48, 93, 59]⟩ = [44, 32, 48, 93, 59] from rfl]; simp
  obtain ⟨L, q, e, h1, h2, h3⟩ := g.ok (0 + (nums fwHd).length + 14)
  have t1 := lx_txt h1 (bd_sign (x := 44) (by decide) (by decide) (by decide)) (lx_at (L := [44, 32, 48, 93, 59]) (T := [sT ⟨#[44]⟩ 0, uT 0 ⟨#[48]⟩ 2, sT ⟨#[93]⟩ 3, sT ⟨#[59]⟩ 4]) (p := 5) (by kernel_rfl) _)
  have t2 := lx_lit (L := [104, 105, 100, 101, 32, 49, 32, 43, 32, 112, 101, 101, 107, 91]) (T := [kT ⟨#[104, 105, 100, 101]⟩ 0, uT 1 ⟨#[49]⟩ 5, sT ⟨#[43]⟩ 7, kT ⟨#[112, 101, 101, 107]⟩ 9, sT ⟨#[91]⟩ 13]) (p := 14) (by kernel_rfl) (g.bd (z := 91) rfl (by decide) (by decide) _) _ t1
  have t3 := lx_txt fw_head (bd_end (fun z hz => by cases (show some (32 : Int) = some z from hz); exact ⟨by decide, by decide⟩) (fun y R' e => by cases e; decide)) t2
  rw [← en] at t3
  exact ⟨_, L, e, h2, h3, _, _, _, _, t3⟩
theorem fw_sz4 {x : ByteArray} (hx : x.size ≤ 100) : (fw4 x).size ≤ 300 := by
  unfold fw4
  simp only [ByteArray.size_append]
  show (((48 + 14) + x.size) + 5) ≤ 300
  omega
def fw5 (x : ByteArray) : ByteArray := ((fwHd ++ ⟨#[104, 105, 100, 101, 32, 115, 112, 121, 91, 48, 44, 32]⟩) ++ x) ++ ⟨#[93, 59]⟩
theorem fw_lex5 {x : ByteArray} {h : Bool} (g : TX x h) : ∃ q L e, Fac x.size L e ∧ Good e h ∧ ∃ b0 b1 : Int, lx (nums (fw5 x)) 0 = (some (fwHT ++ ([kT ⟨#[104, 105, 100, 101]⟩ (48), kT ⟨#[115, 112, 121]⟩ (53), sT ⟨#[91]⟩ (56), uT 0 ⟨#[48]⟩ (57), sT ⟨#[44]⟩ (58)] ++ (L ++ [sT ⟨#[93]⟩ b0, sT ⟨#[59]⟩ b1]))), q) := by
  have en : nums (fw5 x) = nums fwHd ++ ([104, 105, 100, 101, 32, 115, 112, 121, 91, 48, 44, 32] ++ (nums x ++ [93, 59])) := by
    unfold fw5
    simp only [num_append]; rw [show nums ⟨#[104, 105, 100, 101, 32, 115, 112, 121, 91, 48, 44, 32]⟩ = [104, 105, 100, 101, 32, 115, 112, 121, 91, 48, 44, 32] from rfl, show nums ⟨#[93, 59]⟩ = [93, 59] from rfl]; simp
  obtain ⟨L, q, e, h1, h2, h3⟩ := g.ok (0 + (nums fwHd).length + 12)
  have t1 := lx_txt h1 (bd_sign (x := 93) (by decide) (by decide) (by decide)) (lx_at (L := [93, 59]) (T := [sT ⟨#[93]⟩ 0, sT ⟨#[59]⟩ 1]) (p := 2) (by kernel_rfl) _)
  have t2 := lx_lit (L := [104, 105, 100, 101, 32, 115, 112, 121, 91, 48, 44, 32]) (T := [kT ⟨#[104, 105, 100, 101]⟩ 0, kT ⟨#[115, 112, 121]⟩ 5, sT ⟨#[91]⟩ 8, uT 0 ⟨#[48]⟩ 9, sT ⟨#[44]⟩ 10]) (p := 12) (by kernel_rfl) (g.bd (z := 32) rfl (by decide) (by decide) _) _ t1
  have t3 := lx_txt fw_head (bd_end (fun z hz => by cases (show some (32 : Int) = some z from hz); exact ⟨by decide, by decide⟩) (fun y R' e => by cases e; decide)) t2
  rw [← en] at t3
  exact ⟨_, L, e, h2, h3, _, _, t3⟩
theorem fw_sz5 {x : ByteArray} (hx : x.size ≤ 100) : (fw5 x).size ≤ 300 := by
  unfold fw5
  simp only [ByteArray.size_append]
  show (((48 + 12) + x.size) + 2) ≤ 300
  omega
def fw6 (x : ByteArray) : ByteArray := ((fwHd ++ ⟨#[104, 32, 226, 134, 144, 32]⟩) ++ x) ++ ⟨#[59, 32, 104, 105, 100, 101, 32, 104, 59]⟩
theorem fw_lex6 {x : ByteArray} {h : Bool} (g : TX x h) : ∃ q L e, Fac x.size L e ∧ Good e h ∧ ∃ b0 b1 b2 b3 : Int, lx (nums (fw6 x)) 0 = (some (fwHT ++ ([nT ⟨#[104]⟩ (48), sT ⟨#[226, 134, 144]⟩ (50)] ++ (L ++ [sT ⟨#[59]⟩ b0, kT ⟨#[104, 105, 100, 101]⟩ b1, nT ⟨#[104]⟩ b2, sT ⟨#[59]⟩ b3]))), q) := by
  have en : nums (fw6 x) = nums fwHd ++ ([104, 32, 226, 134, 144, 32] ++ (nums x ++ [59, 32, 104, 105, 100, 101, 32, 104, 59])) := by
    unfold fw6
    simp only [num_append]; rw [show nums ⟨#[104, 32, 226, 134, 144, 32]⟩ = [104, 32, 226, 134, 144, 32] from rfl, show nums ⟨#[59, 32, 104, 105, 100, 101, 32, 104, 59]⟩ = [59, 32, 104, 105, 100, 101, 32, 104, 59] from rfl]; simp
  obtain ⟨L, q, e, h1, h2, h3⟩ := g.ok (0 + (nums fwHd).length + 6)
  have t1 := lx_txt h1 (bd_sign (x := 59) (by decide) (by decide) (by decide)) (lx_at (L := [59, 32, 104, 105, 100, 101, 32, 104, 59]) (T := [sT ⟨#[59]⟩ 0, kT ⟨#[104, 105, 100, 101]⟩ 2, nT ⟨#[104]⟩ 7, sT ⟨#[59]⟩ 8]) (p := 9) (by kernel_rfl) _)
  have t2 := lx_lit (L := [104, 32, 226, 134, 144, 32]) (T := [nT ⟨#[104]⟩ 0, sT ⟨#[226, 134, 144]⟩ 2]) (p := 6) (by kernel_rfl) (g.bd (z := 32) rfl (by decide) (by decide) _) _ t1
  have t3 := lx_txt fw_head (bd_end (fun z hz => by cases (show some (32 : Int) = some z from hz); exact ⟨by decide, by decide⟩) (fun y R' e => by cases e; decide)) t2
  rw [← en] at t3
  exact ⟨_, L, e, h2, h3, _, _, _, _, t3⟩
theorem fw_sz6 {x : ByteArray} (hx : x.size ≤ 100) : (fw6 x).size ≤ 300 := by
  unfold fw6
  simp only [ByteArray.size_append]
  show (((48 + 6) + x.size) + 9) ≤ 300
  omega
theorem nm_set (e : Ex) (p : Int) (F : Flt) : nxS (besideS (.node 0 0 ⟨0, nT fwA p, noTok, noTok, e⟩ .nil .nil) .nil) (roleF, F) = (roleF, nx1 roleF e F) := by kernel_rfl
theorem nm_setH (e : Ex) (p : Int) (F : Flt) (r : Sx) : nxS (besideS (.node 0 0 ⟨0, nT fwH p, noTok, noTok, e⟩ .nil .nil) r) (roleF, F) = nxS r (roleF, nx1 roleF e F) := by kernel_rfl
theorem nm_put (e : Ex) (p : Int) (F : Flt) : nxS (besideS (.node 0 0 ⟨4, kT sHIDE p, noTok, noTok, e⟩ .nil .nil) .nil) (roleF, F) = (roleF, nx1 roleF e F) := by kernel_rfl
theorem fl_out (e : Ex) (p : Int) (F : Flt) : flS hidF (besideS (.node 0 0 ⟨3, kT sOUT p, noTok, noTok, e⟩ .nil .nil) .nil) F = ldF hidF (kT sOUT p) e false F := by kernel_rfl
theorem fl_hide (e : Ex) (p : Int) (F : Flt) : flS hidF (besideS (.node 0 0 ⟨4, kT sHIDE p, noTok, noTok, e⟩ .nil .nil) .nil) F = tc1 hidF e F := by kernel_rfl
theorem fl_set (e : Ex) (p : Int) (F : Flt) : flS hidF (besideS (.node 0 0 ⟨0, nT fwA p, noTok, noTok, e⟩ .nil .nil) .nil) F = ldF hidF (nT fwA p) e false F := by kernel_rfl
theorem fl_setH (e : Ex) (p : Int) (F : Flt) (r : Sx) : flS hidF (besideS (.node 0 0 ⟨0, nT fwH p, noTok, noTok, e⟩ .nil .nil) r) F = flS hidF r (ldF hidF (nT fwH p) e true F) := by kernel_rfl
theorem nm_if (e : Ex) (p : Int) (F : Flt) (s u : Sx) : nxS (besideS (.node 0 0 ⟨1, kT sIF p, noTok, noTok, e⟩ (.node 0 0 ⟨5, noTok, noTok, noTok, .nil⟩ s u) .nil) .nil) (roleF, F) = nxS u (nxS s (roleF, nx1 roleF e F)) := by kernel_rfl
theorem fl_if (e : Ex) (p : Int) (F : Flt) (s u : Sx) : flS hidF (besideS (.node 0 0 ⟨1, kT sIF p, noTok, noTok, e⟩ (.node 0 0 ⟨5, noTok, noTok, noTok, .nil⟩ s u) .nil) .nil) F = flS hidF u (flS hidF s (ldF hidF (kT sIF p) e false F)) := by kernel_rfl
/-- Put out. -/
theorem fw_told1 {x : ByteArray} {h : Bool} (g : TX x h) (hx : x.size ≤ 100) : readF (fw1 x) = if h then (11, 48) else (0, 0) := by
  obtain ⟨q, L, e, hf, hg, b0, hl⟩ := fw_lex1 g
  refine fw_ans (fw_sz1 hx) hl (fw_one (sta_put 3 sOUT (.inl ⟨rfl, rfl⟩) (exq_fac hf) 48 b0) (by omega) rfl q) (fw_told ?_ ?_)
  · show nx1 roleF e (0, 0) = _; exact good_nx1 hg _
  · exact (fl_out e 48 (0, 0)).trans (fw_lead hg _)
/-- Assigned to an open name. -/
theorem fw_told2 {x : ByteArray} {h : Bool} (g : TX x h) (hx : x.size ≤ 100) : readF (fw2 x) = if h then (11, 48) else (0, 0) := by
  obtain ⟨q, L, e, hf, hg, b0, hl⟩ := fw_lex2 g
  refine fw_ans (fw_sz2 hx) hl (fw_one (sta_set fwA (exq_fac hf) 48 50 b0) (by omega) rfl q) (fw_told ?_ ?_)
  · exact (congrArg Prod.snd (nm_set e 48 (0, 0))).trans (good_nx1 hg _)
  · exact (fl_set e 48 (0, 0)).trans (fw_lead hg _)
/-- Asked by an if. -/
theorem fw_told3 {x : ByteArray} {h : Bool} (g : TX x h) (hx : x.size ≤ 100) : readF (fw3 x) = if h then (11, 48) else (0, 0) := by
  obtain ⟨q, L, e, hf, hg, b0, b1, b2, b3, b4, b5, b6, b7, b8, b9, b10, hl⟩ := fw_lex3 g
  have s1 := sta_put 3 sOUT (.inl ⟨rfl, rfl⟩) (exq_fac (fac_num 9 ⟨#[57]⟩ b2)) b1 b3
  have s2 := sta_put 4 sHIDE (.inr ⟨rfl, rfl⟩) (exq_fac (fac_name fwA b8)) b7 b9
  have B1 := blo_one (by kernel_rfl) s1 (by omega) b0 b4
  have B2 := blo_one (by kernel_rfl) s2 (by omega) b6 b10
  have S := sta_if (m := x.size + 10) (exq_fac hf) ⟨by kernel_rfl, by kernel_rfl, by kernel_rfl⟩ (fun A R n hn => B1 A R n (by omega)) (fun A R n hn => B2 A R n (by omega)) (by omega) 48 b5
  refine fw_ans (fw_sz3 hx) hl (fw_one S (by omega) rfl q) (fw_told ?_ ?_)
  · rw [nm_if, good_nx1 hg]; kernel_rfl
  · rw [fl_if, fw_lead hg]
    cases h <;> kernel_rfl
/-- In the brackets of peek. -/
theorem fw_told4 {x : ByteArray} {h : Bool} (g : TX x h) (hx : x.size ≤ 100) : readF (fw4 x) = if h then (11, 57) else (0, 0) := by
  obtain ⟨q, L, e, hf, hg, b0, b1, b2, b3, hl⟩ := fw_lex4 g
  have f0 := fac_peek 57 61 b0 b2 hf ((fac_num 0 ⟨#[48]⟩ b1).mono (Nat.zero_le _))
  have S := sta_put 4 sHIDE (.inr ⟨rfl, rfl⟩) (exq_op (o := sT ⟨#[43]⟩ 55) (.inr (.inl ⟨by kernel_rfl, by kernel_rfl⟩)) ((fac_num 1 ⟨#[49]⟩ 53).mono (Nat.zero_le _)) f0) 48 b3
  have hp := fw_one S (by omega) rfl q
  refine fw_ans (fw_sz4 hx) (U := _) (k := _) (t := _) (hl.trans ?_) hp (fw_told ?_ ?_)
  · congr 3; simp; repeat' (first | rfl | apply And.intro)
  · rw [nm_put]
    show nx1 roleF (node2 (sT ⟨#[43]⟩ 55) (leafE (uT 1 ⟨#[49]⟩ 53)) (node2 (kT sPEEK 57) e (leafE (uT 0 ⟨#[48]⟩ b1)))) (0, 0) = _
    rw [show nx1 roleF (node2 (sT ⟨#[43]⟩ 55) (leafE (uT 1 ⟨#[49]⟩ 53)) (node2 (kT sPEEK 57) e (leafE (uT 0 ⟨#[48]⟩ b1)))) (0, 0) = nxE roleF (besideE e (besideE (leafE (uT 0 ⟨#[48]⟩ b1)) .nil)) (0, 0) from by kernel_rfl, beside_nx hg.one, hg.nx]; kernel_rfl
  · rw [fl_hide, show tc1 hidF (node2 (sT ⟨#[43]⟩ 55) (leafE (uT 1 ⟨#[49]⟩ 53)) (node2 (kT sPEEK 57) e (leafE (uT 0 ⟨#[48]⟩ b1)))) (0, 0) = tcE hidF (besideE e (besideE (leafE (uT 0 ⟨#[48]⟩ b1)) .nil)) (if hidE hidF (besideE e (besideE (leafE (uT 0 ⟨#[48]⟩ b1)) .nil)) then (11, 57) else (0, 0)) from by kernel_rfl]
    rw [beside_tc hg.one, hg.tc, beside_hd hg.one, hg.hd]
    cases h <;> kernel_rfl
/-- In the brackets of spy. -/
theorem fw_told5 {x : ByteArray} {h : Bool} (g : TX x h) (hx : x.size ≤ 100) : readF (fw5 x) = if h then (11, 53) else (0, 0) := by
  obtain ⟨q, L, e, hf, hg, b0, b1, hl⟩ := fw_lex5 g
  have f0 := fac_spy 53 56 58 b0 ((fac_num 0 ⟨#[48]⟩ 57).mono (Nat.zero_le _)) hf
  have S := sta_put 4 sHIDE (.inr ⟨rfl, rfl⟩) (exq_fac f0) 48 b1
  have hp := fw_one S (by omega) rfl q
  refine fw_ans (fw_sz5 hx) (U := _) (k := _) (t := _) (hl.trans ?_) hp (fw_told ?_ ?_)
  · congr 3; simp; repeat' (first | rfl | apply And.intro)
  · rw [nm_put]
    show nx1 roleF (node2 (kT sSPY 53) (leafE (uT 0 ⟨#[48]⟩ 57)) e) (0, 0) = _
    rw [show nx1 roleF (node2 (kT sSPY 53) (leafE (uT 0 ⟨#[48]⟩ 57)) e) (0, 0) = nxE roleF (besideE e .nil) (0, 0) from by kernel_rfl, beside_nx hg.one, hg.nx]; rfl
  · rw [fl_hide, show tc1 hidF (node2 (kT sSPY 53) (leafE (uT 0 ⟨#[48]⟩ 57)) e) (0, 0) = tcE hidF (besideE e .nil) (if hidE hidF (besideE e .nil) then (11, 53) else (0, 0)) from by kernel_rfl]
    rw [beside_tc hg.one, hg.tc, beside_hd hg.one, hg.hd]
    cases h <;> kernel_rfl
/-- To a hidden name. -/
theorem fw_told6 {x : ByteArray} {h : Bool} (g : TX x h) (hx : x.size ≤ 100) : readF (fw6 x) = (0, 0) := by
  obtain ⟨q, L, e, hf, hg, b0, b1, b2, b3, hl⟩ := fw_lex6 g
  have S1 := sta_set fwH (exq_fac hf) 48 50 b0
  have S2 := sta_put 4 sHIDE (.inr ⟨rfl, rfl⟩) (exq_fac (fac_name fwH b2)) b1 b3
  have hp := fw_two S1 S2 (by omega) (by omega) rfl rfl q
  refine fw_ans (fw_sz6 hx) (U := _) (k := _) (t := _) (hl.trans ?_) (by rw [List.append_assoc]; exact hp) (fw_told (h := false) (p := 0) ?_ ?_)
  · congr 3; simp; repeat' (first | rfl | apply And.intro)
  · rw [nm_setH, good_nx1 hg]; kernel_rfl
  · rw [fl_setH, fw_lead_ok hg]
    kernel_rfl
end Go.Proofs.Ythmmgiaobakilaa
