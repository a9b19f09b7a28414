import Derived.Test.YthmmgiaobakilaaJ47
import Derived.Test.YthmmgiaobakilaaJ50
import Derived.Deep.RegionHeld3
/- The walk of Shown. -/
set_option maxRecDepth 100000
namespace Go.Proofs.Ythmmgiaobakilaa
open Go.RowKit Go.Deep

theorem shS_lits (a b c : Nat) : ((((((((⟨#[111, 117, 116, 32, 112, 101, 101, 107, 91]⟩ : ByteArray) ++ dgS a) ++ ⟨#[32, 45, 32, 120, 44, 32]⟩) ++ dgS b) ++ ⟨#[32, 45, 32, 121, 93, 32, 43, 32]⟩) ++ dgS c) ++ ⟨#[59, 32, 104, 105, 100, 101, 32, 115, 112, 121, 91, 120, 44, 32, 121, 93, 32, 45, 32]⟩) ++ dgS c) ++ ⟨#[59]⟩ = shS a b c := rfl
theorem SB.lt {w : World} {b : Nat} {c0 c1 c2 c3 c4 : Value} (h : SB w b c0 c1 c2 c3 c4) : b < w.heap.size := (Array.getElem?_eq_some_iff.1 h).1
theorem SB.set4 {w : World} {b : Nat} {c0 c1 c2 c3 c4 : Value} (h : SB w b c0 c1 c2 c3 c4) (v : Value) : SB (w.setCell ⟨b, 4, none⟩ v) b c0 c1 c2 c3 v := heap_setCell_same w b 4 _ _ v h
/-- The scene's block, while other blocks are made. -/
structure ShN (w0 : World) (b : Nat) (c0 c1 c2 c3 c4 : Value) (w : World) : Prop where
  bel : Below w0.heap.size w0 w
  blk : SB w b c0 c1 c2 c3 c4
theorem ShN.call {w0 w w' : World} {b : Nat} {c0 c1 c2 c3 c4 : Value} (h : ShN w0 b c0 c1 c2 c3 c4 w) (g : Below w.heap.size w w') : ShN w0 b c0 c1 c2 c3 c4 w' := ⟨h.bel.trans (g.mono h.bel.size), h.blk.later g h.blk.lt⟩
theorem ShN.drew {w0 w : World} {b : Nat} {c0 c1 c2 c3 c4 : Value} (h : ShN w0 b c0 c1 c2 c3 c4 w) : ShN w0 b c0 c1 c2 c3 c4 w.drew := ⟨h.bel.drew, h.blk⟩
set_option maxHeartbeats 1500000 in
theorem shown_walk (i1 i2 i5 : Int) (ao bo : Option Addr) (c1 c2 : Nat) (xs ys : List Int) (w : World) (h1 : In64 i1) (h2 : In64 i2) (h5 : In64 i5) (hx : IntsAt w.heap.size w ao xs) (hy : IntsAt w.heap.size w bo ys) (x64 : ∀ x ∈ xs, In64 x) (y64 : ∀ x ∈ ys, In64 x) :
    Calls Try.prog 9 #[.int .i64 i1, .int .i64 i2, .slice ao xs.length c1, .slice bo ys.length c2, .int .i64 i5] w fun e w' => e = .returned (.bool true) ∧ Below w.heap.size w w' := by
  have P5 := hide (fun w => pick_more w i5 400 h5 (by omega))
  obtain ⟨k, ek, hk⟩ := pick_nat (c := i5) (n := 400) (by decide)
  rw [ek] at P5
  clear ek h5
  have hk' : k < 400 := by omega
  go_enter Try.func9, Try.ntmps9
  go_wp2_with fail
  refine (painting_any _).mono ?_
  rintro e w1 ⟨rfl, b1⟩
  go_wp2_with fail
  refine (unhide P5 _).mono ?_
  rintro e w9 ⟨rfl, h9⟩
  obtain rfl := h9.symm
  go_wp2_with fail
  refine (sceneK_any w1 i1 i2 ao bo c1 c2 xs ys ⟨#[]⟩ h1 h2 ((hx.later b1 (Nat.le_refl _)).mono b1.size) ((hy.later b1 (Nat.le_refl _)).mono b1.size) x64 y64).mono ?_
  rintro e w5 ⟨n, so, sd, d1, d2, hn, n1, n2, rfl, s1, s2, b5⟩
  obtain ⟨p, ep, hp⟩ := pick_nat (c := i1) (n := 6) (by decide)
  obtain ⟨q, eq, hq⟩ := pick_nat (c := i2) (n := 6) (by decide)
  rw [ep, eq] at hn ⊢
  have B5 : Hid (Below w.heap.size w w5) := b1.trans (b5.mono b1.size)
  clear b1 b5 P5 ep eq h1 h2 hx hy x64 y64
  unfold scV
  rw [texs_len, texs_len]
  obtain ⟨W, hW⟩ : ∃ W : Nat, (1 : Int) + (p : Int) = (W : Int) := ⟨1 + p, by omega⟩
  obtain ⟨H, hH⟩ : ∃ H : Nat, (1 : Int) + (q : Int) = (H : Int) := ⟨1 + q, by omega⟩
  rw [hW, hH] at hn ⊢
  have hW6 : 1 ≤ W ∧ W ≤ 6 := by omega
  have hH6 : 1 ≤ H ∧ H ≤ 6 := by omega
  clear hW hH hp hq
  obtain ⟨a, ha⟩ : ∃ a, W - 1 = a := ⟨_, rfl⟩
  obtain ⟨b, hb⟩ : ∃ b, H - 1 = b := ⟨_, rfl⟩
  have ha4 : a < 400 := by omega
  have hb4 : b < 400 := by omega
  have za := dgS_size ha4
  have zb := dgS_size hb4
  have zk := dgS_size hk'
  have HS := hide (shS_lits a b k)
  have D1 : Hid (∀ (w : World) (v : Int), v = (a : Int) → Calls Try.prog 27 #[.int .i64 v] w fun e w' => e = .returned (.string (dgS a)) ∧ Below w.heap.size w w') := fun w v hv => by subst hv; exact digits_any w a (by omega)
  have D2 : Hid (∀ (w : World) (v : Int), v = (b : Int) → Calls Try.prog 27 #[.int .i64 v] w fun e w' => e = .returned (.string (dgS b)) ∧ Below w.heap.size w w') := fun w v hv => by subst hv; exact digits_any w b (by omega)
  have D3 : Hid (∀ (w : World) (v : Int), v = (k : Int) → Calls Try.prog 27 #[.int .i64 v] w fun e w' => e = .returned (.string (dgS k)) ∧ Below w.heap.size w w') := fun w v hv => by subst hv; exact digits_any w k (by omega)
  have EA : (W : Int) - 1 = (a : Int) := by omega
  have EB : (H : Int) - 1 = (b : Int) := by omega
  have WA : Hid (IntKind.i64.wrap ((W : Int) - 1) = (a : Int) ∧ IntKind.i64.wrap (a : Int) = (a : Int)) := by
    constructor
    · simp [IntKind.wrap, IntKind.bits, IntKind.signed]; omega
    · simp [IntKind.wrap, IntKind.bits, IntKind.signed]; omega
  have WB : Hid (IntKind.i64.wrap ((H : Int) - 1) = (b : Int) ∧ IntKind.i64.wrap (b : Int) = (b : Int)) := by
    constructor
    · simp [IntKind.wrap, IntKind.bits, IntKind.signed]; omega
    · simp [IntKind.wrap, IntKind.bits, IntKind.signed]; omega
  obtain ⟨sa, hsa⟩ : ∃ s, dgS a = s := ⟨_, rfl⟩
  obtain ⟨sb, hsb⟩ : ∃ s, dgS b = s := ⟨_, rfl⟩
  obtain ⟨sk, hsk⟩ : ∃ s, dgS k = s := ⟨_, rfl⟩
  rw [hsa] at za HS D1
  rw [hsb] at zb HS D2
  rw [hsk] at zk HS D3
  clear hsa hsb hsk ha4 hb4
  have z1 : ByteArray.size ⟨#[111, 117, 116, 32, 112, 101, 101, 107, 91]⟩ = 9 := rfl
  have z2 : ByteArray.size ⟨#[32, 45, 32, 120, 44, 32]⟩ = 6 := rfl
  have z3 : ByteArray.size ⟨#[32, 45, 32, 121, 93, 32, 43, 32]⟩ = 8 := rfl
  have z4 : ByteArray.size ⟨#[59, 32, 104, 105, 100, 101, 32, 115, 112, 121, 91, 120, 44, 32, 121, 93, 32, 45, 32]⟩ = 19 := rfl
  have z5 : ByteArray.size ⟨#[59]⟩ = 1 := rfl
  have l1 : ∀ w : World, (Op.stringOp .add (⟨#[111, 117, 116, 32, 112, 101, 101, 107, 91]⟩) sa).run Try.prog w = .ok (.string ((⟨#[111, 117, 116, 32, 112, 101, 101, 107, 91]⟩) ++ sa)) w := fun w => run_string_add_sum w _ _ (by first | omega | (simp only [ByteArray.size_append]; omega))
  have l2 : ∀ w : World, (Op.stringOp .add (⟨#[111, 117, 116, 32, 112, 101, 101, 107, 91]⟩ ++ sa) ⟨#[32, 45, 32, 120, 44, 32]⟩).run Try.prog w = .ok (.string ((⟨#[111, 117, 116, 32, 112, 101, 101, 107, 91]⟩ ++ sa) ++ ⟨#[32, 45, 32, 120, 44, 32]⟩)) w := fun w => run_string_add_sum w _ _ (by first | omega | (simp only [ByteArray.size_append]; omega))
  have l3 : ∀ w : World, (Op.stringOp .add ((⟨#[111, 117, 116, 32, 112, 101, 101, 107, 91]⟩ ++ sa) ++ ⟨#[32, 45, 32, 120, 44, 32]⟩) sb).run Try.prog w = .ok (.string (((⟨#[111, 117, 116, 32, 112, 101, 101, 107, 91]⟩ ++ sa) ++ ⟨#[32, 45, 32, 120, 44, 32]⟩) ++ sb)) w := fun w => run_string_add_sum w _ _ (by first | omega | (simp only [ByteArray.size_append]; omega))
  have l4 : ∀ w : World, (Op.stringOp .add (((⟨#[111, 117, 116, 32, 112, 101, 101, 107, 91]⟩ ++ sa) ++ ⟨#[32, 45, 32, 120, 44, 32]⟩) ++ sb) ⟨#[32, 45, 32, 121, 93, 32, 43, 32]⟩).run Try.prog w = .ok (.string ((((⟨#[111, 117, 116, 32, 112, 101, 101, 107, 91]⟩ ++ sa) ++ ⟨#[32, 45, 32, 120, 44, 32]⟩) ++ sb) ++ ⟨#[32, 45, 32, 121, 93, 32, 43, 32]⟩)) w := fun w => run_string_add_sum w _ _ (by first | omega | (simp only [ByteArray.size_append]; omega))
  have l5 : ∀ w : World, (Op.stringOp .add ((((⟨#[111, 117, 116, 32, 112, 101, 101, 107, 91]⟩ ++ sa) ++ ⟨#[32, 45, 32, 120, 44, 32]⟩) ++ sb) ++ ⟨#[32, 45, 32, 121, 93, 32, 43, 32]⟩) sk).run Try.prog w = .ok (.string (((((⟨#[111, 117, 116, 32, 112, 101, 101, 107, 91]⟩ ++ sa) ++ ⟨#[32, 45, 32, 120, 44, 32]⟩) ++ sb) ++ ⟨#[32, 45, 32, 121, 93, 32, 43, 32]⟩) ++ sk)) w := fun w => run_string_add_sum w _ _ (by first | omega | (simp only [ByteArray.size_append]; omega))
  have l6 : ∀ w : World, (Op.stringOp .add (((((⟨#[111, 117, 116, 32, 112, 101, 101, 107, 91]⟩ ++ sa) ++ ⟨#[32, 45, 32, 120, 44, 32]⟩) ++ sb) ++ ⟨#[32, 45, 32, 121, 93, 32, 43, 32]⟩) ++ sk) ⟨#[59, 32, 104, 105, 100, 101, 32, 115, 112, 121, 91, 120, 44, 32, 121, 93, 32, 45, 32]⟩).run Try.prog w = .ok (.string ((((((⟨#[111, 117, 116, 32, 112, 101, 101, 107, 91]⟩ ++ sa) ++ ⟨#[32, 45, 32, 120, 44, 32]⟩) ++ sb) ++ ⟨#[32, 45, 32, 121, 93, 32, 43, 32]⟩) ++ sk) ++ ⟨#[59, 32, 104, 105, 100, 101, 32, 115, 112, 121, 91, 120, 44, 32, 121, 93, 32, 45, 32]⟩)) w := fun w => run_string_add_sum w _ _ (by first | omega | (simp only [ByteArray.size_append]; omega))
  have l7 : ∀ w : World, (Op.stringOp .add ((((((⟨#[111, 117, 116, 32, 112, 101, 101, 107, 91]⟩ ++ sa) ++ ⟨#[32, 45, 32, 120, 44, 32]⟩) ++ sb) ++ ⟨#[32, 45, 32, 121, 93, 32, 43, 32]⟩) ++ sk) ++ ⟨#[59, 32, 104, 105, 100, 101, 32, 115, 112, 121, 91, 120, 44, 32, 121, 93, 32, 45, 32]⟩) sk).run Try.prog w = .ok (.string (((((((⟨#[111, 117, 116, 32, 112, 101, 101, 107, 91]⟩ ++ sa) ++ ⟨#[32, 45, 32, 120, 44, 32]⟩) ++ sb) ++ ⟨#[32, 45, 32, 121, 93, 32, 43, 32]⟩) ++ sk) ++ ⟨#[59, 32, 104, 105, 100, 101, 32, 115, 112, 121, 91, 120, 44, 32, 121, 93, 32, 45, 32]⟩) ++ sk)) w := fun w => run_string_add_sum w _ _ (by first | omega | (simp only [ByteArray.size_append]; omega))
  have l8 : ∀ w : World, (Op.stringOp .add (((((((⟨#[111, 117, 116, 32, 112, 101, 101, 107, 91]⟩ ++ sa) ++ ⟨#[32, 45, 32, 120, 44, 32]⟩) ++ sb) ++ ⟨#[32, 45, 32, 121, 93, 32, 43, 32]⟩) ++ sk) ++ ⟨#[59, 32, 104, 105, 100, 101, 32, 115, 112, 121, 91, 120, 44, 32, 121, 93, 32, 45, 32]⟩) ++ sk) ⟨#[59]⟩).run Try.prog w = .ok (.string ((((((((⟨#[111, 117, 116, 32, 112, 101, 101, 107, 91]⟩ ++ sa) ++ ⟨#[32, 45, 32, 120, 44, 32]⟩) ++ sb) ++ ⟨#[32, 45, 32, 121, 93, 32, 43, 32]⟩) ++ sk) ++ ⟨#[59, 32, 104, 105, 100, 101, 32, 115, 112, 121, 91, 120, 44, 32, 121, 93, 32, 45, 32]⟩) ++ sk) ++ ⟨#[59]⟩)) w := fun w => run_string_add_sum w _ _ (by first | omega | (simp only [ByteArray.size_append]; omega))
  clear z1 z2 z3 z4 z5
  have HN := hide hn
  have HAB := hide (And.intro ha hb)
  clear hn ha hb
  obtain ⟨w6, hw6⟩ : ∃ w6, w5.alloc (.cells #[.int .i64 (W : Int), .int .i64 (H : Int), .slice so n d1, .slice sd n d2, .string ⟨#[]⟩] 24) = w6 := ⟨_, rfl⟩
  obtain ⟨w7, hw7⟩ : ∃ w7, w6.setCell ⟨w5.heap.size, 4, none⟩ (.string ⟨#[]⟩) = w7 := ⟨_, rfl⟩
  have sb6 : SB w6 w5.heap.size (.int .i64 (W : Int)) (.int .i64 (H : Int)) (.slice so n d1) (.slice sd n d2) (.string ⟨#[]⟩) := by
    have := SB.new w5 (.int .i64 (W : Int)) (.int .i64 (H : Int)) (.slice so n d1) (.slice sd n d2) (.string ⟨#[]⟩)
    rw [hw6] at this; exact this
  have nx : ShN w5 w5.heap.size (.int .i64 (W : Int)) (.int .i64 (H : Int)) (.slice so n d1) (.slice sd n d2) (.string ⟨#[]⟩) w7 := ⟨by rw [← hw7, ← hw6]; exact (below_alloc _ _).setCell (p := ⟨w5.heap.size, 4, none⟩) (by simp) _, by rw [← hw7]; exact sb6.set4 _⟩
  obtain ⟨_, q0, q1, q2, q3, q4⟩ := bk5 sb6
  obtain ⟨⟨y0, y1, y2, y3, y4⟩, f0, f1, f2, f3, f4⟩ := bk5 nx.blk
  have S1 := hide s1
  have S2 := hide s2
  clear s1 s2
  go_wp2
  clear hw6 hw7 sb6 q0 q1 q2 q3 q4
  go_region_held3 (fun w' => w'.cell? ⟨w5.heap.size, 0, none⟩ = some (.int .i64 (W : Int)) ∧ w'.cell? ⟨w5.heap.size, 1, none⟩ = some (.int .i64 (H : Int))) (first | go_keep | exact ⟨(World.cell?_setCell_other _ _ _ _ (by simp)).trans y0, (World.cell?_setCell_other _ _ _ _ (by simp)).trans y1⟩)
    (first
      | (go_at_call 27; refine (unhide D1 _ _ ?_).mono ?_; (first | exact (unhide WA).1 | exact (unhide WA).2 | rfl); rintro e w9 ⟨rfl, b9⟩; have nx9 := ShN.call (by first | exact nx | exact nx.drew | exact nx.drew.drew) b9; clear nx b9 y0 y1 y2 y3 y4 f0 f1 f2 f3 f4; have nx := nx9; clear nx9; obtain ⟨⟨y0, y1, y2, y3, y4⟩, f0, f1, f2, f3, f4⟩ := bk5 nx.blk)
      | (go_at_call 27; refine (unhide D2 _ _ ?_).mono ?_; (first | exact (unhide WB).1 | exact (unhide WB).2 | rfl); rintro e w9 ⟨rfl, b9⟩; have nx9 := ShN.call (by first | exact nx | exact nx.drew | exact nx.drew.drew) b9; clear nx b9 y0 y1 y2 y3 y4 f0 f1 f2 f3 f4; have nx := nx9; clear nx9; obtain ⟨⟨y0, y1, y2, y3, y4⟩, f0, f1, f2, f3, f4⟩ := bk5 nx.blk)
      | (go_at_call 27; refine (unhide D3 _ _ ?_).mono ?_; rfl; rintro e w9 ⟨rfl, b9⟩; have nx9 := ShN.call (by first | exact nx | exact nx.drew | exact nx.drew.drew) b9; clear nx b9 y0 y1 y2 y3 y4 f0 f1 f2 f3 f4; have nx := nx9; clear nx9; obtain ⟨⟨y0, y1, y2, y3, y4⟩, f0, f1, f2, f3, f4⟩ := bk5 nx.blk))
  rw [unhide HS]
  obtain ⟨src, hsrc⟩ : ∃ s, shS a b k = s := ⟨_, rfl⟩
  rw [hsrc]
  obtain ⟨w10, hw10⟩ : ∃ w10, w9.setCell ⟨w5.heap.size, 4, none⟩ (.string src) = w10 := ⟨_, rfl⟩
  have sb10 : SB w10 w5.heap.size (.int .i64 (W : Int)) (.int .i64 (H : Int)) (.slice so n d1) (.slice sd n d2) (.string src) := by rw [← hw10]; exact nx.blk.set4 _
  have b10 : Below w5.heap.size w5 w10 := by rw [← hw10]; exact nx.bel.setCell (p := ⟨w5.heap.size, 4, none⟩) (by simp) _
  rw [hw10]
  clear hw10 nx y0 y1 y2 y3 y4 f0 f1 f2 f3 f4 D1 D2 D3 HS l1 l2 l3 l4 l5 l6 l7 l8 za zb zk WA WB EA EB
  obtain ⟨⟨y0, y1, y2, y3, y4⟩, _⟩ := bk5 sb10
  have hn := unhide HN
  have hnN : W * H = n := by
    have : ((W * H : Nat) : Int) = (n : Int) := by rw [Int.natCast_mul]; exact hn
    omega
  have z10 := sb10.lt
  have shp : shapeE W H (texsV xs n) (texsV ys n) = 0 := shape_fit (n := n) (by omega) (by omega) hn (texs_len _ _) (texs_len _ _) (texs_all _ _) (texs_all _ _)
  have C := paint_any w10 W H so sd d1 d2 (texsV xs n) (texsV ys n) src (((unhide S1).later b10 (Nat.le_refl _)).mono (by omega)) (((unhide S2).later b10 (Nat.le_refl _)).mono (by omega)) (by rw [texs_len]; unfold maxLen; omega) (by rw [texs_len]; unfold maxLen; omega) (by
    rw [← hsrc]
    have := sh_size (a := a) (b := b) (c := k) (by have := unhide HAB; omega) (by have := unhide HAB; omega) hk'
    unfold maxLen; omega)
  unfold scV at C
  rw [texs_len, texs_len] at C
  have PC := hide C
  have B10 : Hid (Below w.heap.size w w10) := (unhide B5).trans (b10.mono (unhide B5).size)
  have X1 := hide ((unhide S1).later b10 (Nat.le_refl _))
  have X2 := hide ((unhide S2).later b10 (Nat.le_refl _))
  have SHP := hide shp
  have HNN := hide hnN
  have HSRC := hide hsrc
  have Z10 : Hid (w.heap.size ≤ w5.heap.size ∧ w5.heap.size < w10.heap.size) := ⟨(unhide B5).size, z10⟩
  clear C b10 hsrc shp hnN hn z10 S1 S2 B5
  go_wp2_with fail
  clear y0 y1 y2 y3 y4
  refine (unhide PC).mono ?_
  rintro e w11 ⟨E, P, r, hA, hR⟩
  rw [← unhide HSRC] at hA
  obtain ⟨rfl, rfl, S, rfl, e1, e2, e3, e4, e5⟩ := sh_ans hW6 hH6 (unhide SHP) (texs_all _ _) (texs_all _ _) hk' (by obtain ⟨h1, h2⟩ := unhide HAB; rw [h1, h2]; exact hA)
  rw [unhide HNN] at e1 e2 e3 e4 e5
  clear hA SHP HNN PC HSRC HAB
  have hn := unhide HN
  obtain ⟨ao', f1, bo', f2, to, f3, he, j1, j2, _, b11⟩ := hR.hidden
  have z10 := unhide Z10
  have sb11 := sb10.later b11 (by omega)
  have B11 : Hid (Below w.heap.size w w11) := (unhide B10).trans (b11.mono (by omega))
  have x1 := (unhide X1).later b11 (by omega)
  have x2 := (unhide X2).later b11 (by omega)
  have z11 := b11.size
  rw [e1, e2, e3, e4, e5, List.length_map, List.length_map, List.length_range] at he
  rw [e4] at j1
  rw [e5] at j2
  rw [show (16 : Int) * (n : Int) = (n : Int) * 16 by omega] at he
  obtain ⟨tl, htl⟩ : ∃ tl, min (4 * n) 100 = tl := ⟨_, rfl⟩
  have htl' : min (4 * (n : Int)) 100 = (tl : Int) := by omega
  rw [htl] at he
  subst he
  clear hR e1 e2 e3 e4 e5 b11 sb10 B10 X1 X2 htl
  obtain ⟨w12, hw12⟩ : ∃ w12, w11.alloc (.cells #[.slice ao' n f1, .slice bo' n f2, .int .i64 ((n : Int) * 16), .int .i64 (4 * (n : Int)), .slice to tl f3] 51) = w12 := ⟨_, rfl⟩
  have r12 := RB.new w11 (.slice ao' n f1) (.slice bo' n f2) (.int .i64 ((n : Int) * 16)) (.int .i64 (4 * (n : Int))) (.slice to tl f3)
  have b12 : Below w11.heap.size w11 w12 := by rw [← hw12]; exact below_alloc _ _
  rw [hw12] at r12
  have sb12 := sb11.later b12 (by omega)
  have B12 : Hid (Below w.heap.size w w12) := (unhide B11).trans (b12.mono (by omega))
  have J1 := hide (j1.later b12 (Nat.le_refl _))
  have J2 := hide (j2.later b12 (Nat.le_refl _))
  have X1 := hide (x1.later b12 (by omega))
  have X2 := hide (x2.later b12 (by omega))
  have Z12 : Hid (w.heap.size ≤ w5.heap.size ∧ w5.heap.size < w11.heap.size ∧ w11.heap.size < w12.heap.size) := by
    have : w11.heap.size < w12.heap.size := (Array.getElem?_eq_some_iff.1 r12).1
    show _ ∧ _ ∧ _; omega
  have R12 := hide r12
  have SB12 := hide sb12
  obtain ⟨⟨y0, y1, y2, y3, y4⟩, _⟩ := bk5 sb12
  obtain ⟨⟨g0, g1, g2, g3, g4⟩, _⟩ := bk5 r12
  clear b12 z10 z11 sb11 sb12 r12 B11 j1 j2 x1 x2 Z10 HN
  go_wp2
  go_loopw [18] (fun i wr => ∃ q : Nat, q ≤ n ∧ i = .int .i64 q ∧ Below w12.heap.size w12 wr) (fun i _ => n - (intOf i).toNat)
  case atStart => exact ⟨0, Nat.zero_le _, rfl, Below.refl _ _⟩
  case round =>
    obtain ⟨q, hq, rfl, hnx⟩ := hrel
    clear y0 y1 y2 y3 y4 g0 g1 g2 g3 g4 hw12
    by_cases hlt : q < n
    · have hlt' : (q : Int) < (n : Int) := by omega
      obtain ⟨jj, hjj⟩ : ∃ jj : Nat, n - 1 - q = jj := ⟨_, rfl⟩
      have ejj : (n : Int) - 1 - (q : Int) = (jj : Int) := by omega
      have ljj : (jj : Int) < (n : Int) := by omega
      have z12 := unhide Z12
      obtain ⟨⟨g0, g1, g2, g3, g4⟩, _⟩ := bk5 ((unhide R12).later hnx (by omega))
      obtain ⟨⟨y0, y1, y2, y3, y4⟩, _⟩ := bk5 ((unhide SB12).later hnx (by omega))
      have ln : ∀ f : Nat → Int, ((List.range n).map f).length = n := fun f => by simp
      have gt : ∀ (f : Nat → Int), ((List.range n).map f).getD q 0 = f q := fun f => by simp [List.getD, hlt]
      rcases unhide J1 with J | ⟨b1, o1, rfl, hb1, hc1⟩
      · have := congrArg List.length J; rw [ln] at this; simp at this; omega
      rcases unhide J2 with J | ⟨b2, o2, rfl, hb2, hc2⟩
      · have := congrArg List.length J; rw [ln] at this; simp at this; omega
      rcases unhide X1 with J | ⟨b3, o3, rfl, hb3, hc3⟩
      · have := congrArg List.length J; rw [texs_len] at this; simp at this; omega
      rcases unhide X2 with J | ⟨b4, o4, rfl, hb4, hc4⟩
      · have := congrArg List.length J; rw [texs_len] at this; simp at this; omega
      have v1 := (hnx.cell (p := ⟨b1, o1 + q, none⟩) (by show b1 < w12.heap.size; omega)).trans (hc1 q (by rw [ln]; exact hlt))
      have v2 := (hnx.cell (p := ⟨b2, o2 + q, none⟩) (by show b2 < w12.heap.size; omega)).trans (hc2 q (by rw [ln]; exact hlt))
      have v3 := (hnx.cell (p := ⟨b3, o3 + jj, none⟩) (by show b3 < w12.heap.size; omega)).trans (hc3 jj (by rw [texs_len]; omega))
      have v4 := (hnx.cell (p := ⟨b4, o4 + q, none⟩) (by show b4 < w12.heap.size; omega)).trans (hc4 q (by rw [texs_len]; exact hlt))
      rw [gt, hjj] at v1
      rw [gt] at v2
      have t3 := texel_in (texs_all xs n) jj
      have t4 := texel_in (texs_all ys n) q
      obtain ⟨ta, hta⟩ : ∃ ta, (texsV xs n).getD jj 0 = ta := ⟨_, rfl⟩
      obtain ⟨tb, htb⟩ : ∃ tb, (texsV ys n).getD q 0 = tb := ⟨_, rfl⟩
      rw [hta] at v1 v3 t3
      rw [htb] at v2 v4 t4
      obtain ⟨ta0, ta1⟩ := t3
      obtain ⟨tb0, tb1⟩ := t4
      obtain ⟨m1, hm1⟩ : ∃ m : Nat, min (ta + (k : Int)) 255 = (m : Int) := ⟨(min (ta + (k : Int)) 255).toNat, by omega⟩
      obtain ⟨m2, hm2⟩ : ∃ m : Nat, max (tb - (k : Int)) 0 = (m : Int) := ⟨(max (tb - (k : Int)) 0).toNat, by omega⟩
      have hm1b : m1 ≤ 255 := by omega
      have hm2b : m2 ≤ 255 := by omega
      have u1 : toneV (ta + (k : Int)) = (rootN (255 * m1) : Int) := by
        unfold toneV clampV
        rw [show (min (max (ta + (k : Int)) 0) 255).toNat = m1 by omega]
      have u2 : toneV (tb - (k : Int)) = (rootN (255 * m2) : Int) := by
        unfold toneV clampV
        rw [show (min (max (tb - (k : Int)) 0) 255).toNat = m2 by omega]
      rw [u1] at v1
      rw [u2] at v2
      have RT1 : Hid (∀ (w : World) (v : Int), v = 255 * (m1 : Int) → Calls Try.prog 29 #[.int .i64 v] w fun e w' => e = .returned (.int .i64 (rootN (255 * m1) : Int)) ∧ w' = w) := fun w v hv => by
        subst hv
        have := root_any w (255 * m1) (by omega)
        rw [Int.natCast_mul] at this
        exact this
      have RT2 : Hid (∀ (w : World) (v : Int), v = 255 * (m2 : Int) → Calls Try.prog 29 #[.int .i64 v] w fun e w' => e = .returned (.int .i64 (rootN (255 * m2) : Int)) ∧ w' = w) := fun w v hv => by
        subst hv
        have := root_any w (255 * m2) (by omega)
        rw [Int.natCast_mul] at this
        exact this
      have W1 : Hid (IntKind.i64.wrap (255 * (m1 : Int)) = 255 * (m1 : Int)) := by show _ = _; simp [IntKind.wrap, IntKind.bits, IntKind.signed]; omega
      have W2 : Hid (IntKind.i64.wrap (255 * (m2 : Int)) = 255 * (m2 : Int)) := by show _ = _; simp [IntKind.wrap, IntKind.bits, IntKind.signed]; omega
      obtain ⟨r1, hr1⟩ : ∃ r : Int, (rootN (255 * m1) : Int) = r := ⟨_, rfl⟩
      obtain ⟨r2, hr2⟩ : ∃ r : Int, (rootN (255 * m2) : Int) = r := ⟨_, rfl⟩
      rw [hr1] at v1 RT1
      rw [hr2] at v2 RT2
      have R := hide hnx.drew
      have R' := hide hnx
      clear hnx hc1 hc2 hc3 hc4 J1 J2 X1 X2 R12 SB12 Z12 z12 u1 u2 hr1 hr2 hta htb ln gt
      go_wp2
      go_region_held3 (fun w' => w'.cell? ⟨w11.heap.size, 0, none⟩ = some (.slice (some ⟨b1, o1, none⟩) n f1) ∧ w'.cell? ⟨w11.heap.size, 1, none⟩ = some (.slice (some ⟨b2, o2, none⟩) n f2) ∧ w'.cell? ⟨b1, o1 + q, none⟩ = some (.int .i64 r1) ∧ w'.cell? ⟨b2, o2 + q, none⟩ = some (.int .i64 r2)) (go_keep)
        (first
          | (go_at_call 29; refine (unhide RT1 _ _ ?_).mono ?_; (first | exact unhide W1 | rfl); rintro e w9 ⟨rfl, h9⟩; obtain rfl := h9.symm)
          | (go_at_call 29; refine (unhide RT2 _ _ ?_).mono ?_; (first | exact unhide W2 | rfl); rintro e w9 ⟨rfl, h9⟩; obtain rfl := h9.symm))
      clear RT1 RT2 W1 W2 v1 v2 v3 v4 g0 g1 g2 g3 g4 y0 y1 y2 y3 y4
      go_wp2
      go_roundw
      case rel => first | exact ⟨q + 1, by omega, by go_num, unhide R⟩ | exact ⟨q + 1, by omega, by go_num, unhide R'⟩
      case measure => simp [intOf]; omega
    · have hge : decide ((q : Int) < (n : Int)) = false := by simp; omega
      have B9 := hide ((unhide B12).trans (hnx.mono (by have := (unhide B12).size; omega)))
      clear hnx
      go_wp2
      go_ret
      exact ⟨rfl, unhide B9⟩
end Go.Proofs.Ythmmgiaobakilaa
