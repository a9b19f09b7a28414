import Derived.Test.YthmmgiaobakilaaJ41
import Derived.Test.YthmmgiaobakilaaJ46
/- Shown on data: a point, all points, what Paint answers. -/
set_option maxRecDepth 100000
namespace Go.Proofs.Ythmmgiaobakilaa
open Go.RowKit Go.Deep

def shPl (D : PD) (n1 n2 x y : Int) : Int := placeV D (wrap32 (n1 - x)) (wrap32 (n2 - y))
def shO (D : PD) (n1 n2 n3 x y : Int) : Int := wrap32 (wrap32 (D.opens.getD (shPl D n1 n2 x y).toNat 0) + n3)
def shH (D : PD) (n3 x y : Int) : Int := wrap32 (wrap32 (D.hids.getD (placeV D x y).toNat 0) - n3)
theorem touch_len (S : PSt) (a b : Int) (h : S.trace.length ≤ 100) : (touchP S a b).trace.length = min (S.trace.length + 1) 100 := by
  unfold touchP
  split
  · show (S.trace ++ [(a, b)]).length = _; rw [List.length_append, List.length_singleton]; omega
  · show S.trace.length = _; omega
/-- k steps, m touches more. -/
structure Rt (S T : PSt) (k : Int) (m : Nat) : Prop where
  steps : T.steps = S.steps + k
  vals : T.vals = S.vals
  tch : T.touched = S.touched + m
  tr : S.trace.length ≤ 100 → T.trace.length = min (S.trace.length + m) 100
  cx : T.cx = S.cx
  cy : T.cy = S.cy
theorem Rt.trans {A B C : PSt} {k k' : Int} {m m' : Nat} (h : Rt A B k m) (g : Rt B C k' m') : Rt A C (k + k') (m + m') :=
  ⟨by rw [g.steps, h.steps]; omega, g.vals.trans h.vals, by rw [g.tch, h.tch]; omega, fun hl => by
    have := h.tr hl
    rw [g.tr (by omega), this]; omega, g.cx.trans h.cx, g.cy.trans h.cy⟩
theorem Rt.step (S : PSt) : Rt S (stepP S) 1 0 := ⟨rfl, rfl, by show S.touched = _; omega, fun h => by show S.trace.length = _; omega, rfl, rfl⟩
theorem Rt.touch (S : PSt) (a b : Int) : Rt S (touchP S a b) 0 1 := by
  obtain ⟨t1, t2, t3, _, _, t6, t7⟩ := touchP_steps S a b
  exact ⟨by rw [t1]; omega, t2, by rw [t3]; rfl, touch_len S a b, t6, t7⟩
theorem put_out (D : PD) (S : PSt) (v : Int) : Rt S (putP D S true v) 0 1 ∧ (putP D S true v).opn = S.opn.set (S.cy * D.sw + S.cx).toNat (toneV v) ∧ (putP D S true v).hid = S.hid := by
  have t := Rt.touch S 2 (hereP D S)
  exact ⟨⟨t.steps, t.vals, t.tch, t.tr, t.cx, t.cy⟩, rfl, (touchP_steps S 2 (hereP D S)).2.2.2.2.1⟩
theorem put_hide (D : PD) (S : PSt) (v : Int) : Rt S (putP D S false v) 0 1 ∧ (putP D S false v).hid = S.hid.set (S.cy * D.sw + S.cx).toNat (toneV v) ∧ (putP D S false v).opn = S.opn := by
  have t := Rt.touch S 3 (hereP D S)
  exact ⟨⟨t.steps, t.vals, t.tch, t.tr, t.cx, t.cy⟩, rfl, (touchP_steps S 3 (hereP D S)).2.2.2.1⟩
section
variable {D : PD} (n1 n2 n3 : Int) (x1 x2 x3 : ByteArray) (P : Nat → Int)
theorem sh_e1 (S : PSt) : ev1 D (shE1 n1 n2 n3 x1 x2 x3 P) S = (shO D n1 n2 n3 (S.vals nmX) (S.vals nmY), stepP (stepP (touchP (stepP (stepP (stepP (stepP (stepP (stepP (stepP S))))))) 0 (shPl D n1 n2 (S.vals nmX) (S.vals nmY))))) := by
  kernel_rfl
theorem sh_e2 (S : PSt) : ev1 D (shE2 n3 x3 P) S = (shH D n3 (S.vals nmX) (S.vals nmY), stepP (stepP (touchP (stepP (stepP (stepP S))) 1 (placeV D (S.vals nmX) (S.vals nmY))))) := by
  kernel_rfl
theorem sh_pt (S : PSt) (hs : S.steps + 16 ≤ 20000) :
    let T := stP D (shTree n1 n2 n3 x1 x2 x3 P) S
    Rt S T 16 4 ∧ T.opn = S.opn.set (S.cy * D.sw + S.cx).toNat (toneV (shO D n1 n2 n3 (S.vals nmX) (S.vals nmY))) ∧ T.hid = S.hid.set (S.cy * D.sw + S.cx).toNat (toneV (shH D n3 (S.vals nmX) (S.vals nmY))) := by
  intro T
  obtain ⟨v1, hv1⟩ : ∃ v, shO D n1 n2 n3 (S.vals nmX) (S.vals nmY) = v := ⟨_, rfl⟩
  obtain ⟨v2, hv2⟩ : ∃ v, shH D n3 (S.vals nmX) (S.vals nmY) = v := ⟨_, rfl⟩
  have g1 := sh_e1 (D := D) n1 n2 n3 x1 x2 x3 P (stepP S)
  rw [show (stepP S).vals = S.vals from rfl, hv1] at g1
  obtain ⟨A, hA⟩ : ∃ A, stepP (stepP (touchP (stepP (stepP (stepP (stepP (stepP (stepP (stepP (stepP S)))))))) 0 (shPl D n1 n2 (S.vals nmX) (S.vals nmY)))) = A := ⟨_, rfl⟩
  rw [hA] at g1
  have rA : Rt S A 10 1 := by
    rw [← hA]
    have := ((((((((((Rt.step S).trans (Rt.step _)).trans (Rt.step _)).trans (Rt.step _)).trans (Rt.step _)).trans (Rt.step _)).trans (Rt.step _)).trans (Rt.step _)).trans (Rt.touch _ 0 (shPl D n1 n2 (S.vals nmX) (S.vals nmY)))).trans (Rt.step _)).trans (Rt.step _)
    exact this
  have oA : A.opn = S.opn ∧ A.hid = S.hid := by
    rw [← hA]
    obtain ⟨_, _, _, t4, t5, _, _⟩ := touchP_steps (stepP (stepP (stepP (stepP (stepP (stepP (stepP (stepP S)))))))) 0 (shPl D n1 n2 (S.vals nmX) (S.vals nmY))
    exact ⟨t4, t5⟩
  obtain ⟨pA, q1, q2⟩ := put_out D A v1
  obtain ⟨B, hB⟩ : ∃ B, putP D A true v1 = B := ⟨_, rfl⟩
  rw [hB] at pA q1 q2
  have rB := rA.trans pA
  have sB := rB.steps
  have vB := rB.vals
  have g2 := sh_e2 (D := D) n3 x3 P (stepP B)
  rw [show (stepP B).vals = S.vals from vB, hv2] at g2
  obtain ⟨C, hC⟩ : ∃ C, stepP (stepP (touchP (stepP (stepP (stepP (stepP B)))) 1 (placeV D (S.vals nmX) (S.vals nmY)))) = C := ⟨_, rfl⟩
  rw [hC] at g2
  have rC : Rt B C 6 1 := by
    rw [← hC]
    exact ((((((Rt.step B).trans (Rt.step _)).trans (Rt.step _)).trans (Rt.step _)).trans (Rt.touch _ 1 (placeV D (S.vals nmX) (S.vals nmY)))).trans (Rt.step _)).trans (Rt.step _)
  have oC : C.opn = B.opn ∧ C.hid = B.hid := by
    rw [← hC]
    obtain ⟨_, _, _, t4, t5, _, _⟩ := touchP_steps (stepP (stepP (stepP (stepP B)))) 1 (placeV D (S.vals nmX) (S.vals nmY))
    exact ⟨t4, t5⟩
  obtain ⟨pC, q3, q4⟩ := put_hide D C v2
  have rT := rB.trans (rC.trans pC)
  have eT : T = putP D C false v2 := by
    show stP D (shTree n1 n2 n3 x1 x2 x3 P) S = _
    unfold shTree
    rw [stP_3 (by omega) (.inl rfl)]
    show stP D _ (putP D (ev1 D (shE1 n1 n2 n3 x1 x2 x3 P) (stepP S)).2 _ (ev1 D (shE1 n1 n2 n3 x1 x2 x3 P) (stepP S)).1) = _
    rw [g1]
    show stP D _ (putP D A (decide (wP (kT ⟨#[111, 117, 116]⟩ (P 0)) = sOUT)) v1) = _
    rw [show decide (wP (kT ⟨#[111, 117, 116]⟩ (P 0)) = sOUT) = true from decide_eq_true rfl, hB]
    rw [stP_3 (by omega) (.inr rfl)]
    show stP D .nil (putP D (ev1 D (shE2 n3 x3 P) (stepP B)).2 _ (ev1 D (shE2 n3 x3 P) (stepP B)).1) = _
    rw [g2]
    show putP D C (decide (wP (kT ⟨#[104, 105, 100, 101]⟩ (P 14)) = sOUT)) v2 = _
    rw [show decide (wP (kT ⟨#[104, 105, 100, 101]⟩ (P 14)) = sOUT) = false from by kernel_rfl]
  rw [eT]
  refine ⟨rT, ?_, ?_⟩
  · rw [q4, oC.1, q1, oA.1, rA.cx, rA.cy, hv1]
  · rw [q3, oC.2, q2, oA.2, rC.cx, rC.cy, rB.cx, rB.cy, hv2]
def paintF (D : PD) (f : Int × Int → Int) (o : List Int) (x : Int × Int) : List Int := o.set (x.2 * D.sw + x.1).toNat (f x)
theorem begin_xy (S : PSt) (x y : Int) : (beginP S x y).vals nmX = x ∧ (beginP S x y).vals nmY = y := by
  constructor
  · show updR (updR (fun _ => 0) nmX x) nmY y nmX = x
    rw [upd_ne (by decide +kernel), upd_eq]
  · show updR (updR (fun _ => 0) nmX x) nmY y nmY = y
    rw [upd_eq]
theorem go_sh : ∀ (l : List (Int × Int)) (S : PSt), S.steps + 16 * (l.length : Int) ≤ 20000 → S.trace.length ≤ 100 →
    ∃ T, goP D (shTree n1 n2 n3 x1 x2 x3 P) l S = some T ∧ T.steps = S.steps + 16 * (l.length : Int) ∧ T.touched = S.touched + 4 * (l.length : Int) ∧ T.trace.length = min (S.trace.length + 4 * l.length) 100 ∧ T.opn = l.foldl (paintF D (fun x => toneV (shO D n1 n2 n3 x.1 x.2))) S.opn ∧ T.hid = l.foldl (paintF D (fun x => toneV (shH D n3 x.1 x.2))) S.hid
  | [], S, _, _ => ⟨S, rfl, by simp, by simp, by simp; omega, rfl, rfl⟩
  | x :: l, S, hs, ht => by
    have hl : (((x :: l).length : Nat) : Int) = (l.length : Int) + 1 := by simp
    have PT := sh_pt (D := D) n1 n2 n3 x1 x2 x3 P (beginP S x.1 x.2) (by show S.steps + 16 ≤ 20000; omega)
    have IH := go_sh l (ptOne D (shTree n1 n2 n3 x1 x2 x3 P) S x)
    obtain ⟨b1, b2⟩ := begin_xy S x.1 x.2
    rw [b1, b2] at PT
    obtain ⟨t, ht⟩ : ∃ t, shTree n1 n2 n3 x1 x2 x3 P = t := ⟨_, rfl⟩
    rw [ht] at PT IH ⊢
    obtain ⟨r, e1, e2⟩ := PT
    have r1 : (ptOne D t S x).steps = S.steps + 16 := r.steps
    have r2 : (ptOne D t S x).touched = S.touched + 4 := r.tch
    have r3 : (ptOne D t S x).trace.length = min (S.trace.length + 4) 100 := r.tr (by assumption)
    have r4 : (ptOne D t S x).opn = paintF D (fun x => toneV (shO D n1 n2 n3 x.1 x.2)) S.opn x := e1
    have r5 : (ptOne D t S x).hid = paintF D (fun x => toneV (shH D n3 x.1 x.2)) S.hid x := e2
    obtain ⟨T, j0, j1, j2, j3, j4, j5⟩ := IH (by omega) (by omega)
    refine ⟨T, ?_, by omega, by omega, by rw [j3, r3, List.length_cons]; omega, ?_, ?_⟩
    · rw [goP, if_neg (by omega)]; exact j0
    · rw [j4, r4]; rfl
    · rw [j5, r5]; rfl
end
theorem all_setF (f : Int × Int → Int) (w h : Nat) (hw : 1 ≤ w ∧ w ≤ 6) (hh : 1 ≤ h ∧ h ≤ 6) (xs ys : List Int) : (ptsOf w h).foldl (paintF (pdOf w h xs ys) f) (List.replicate (w * h) 0) = (List.range (w * h)).map (fun i => f (((i % w : Nat) : Int), ((i / w : Nat) : Int))) := by
  rcases (show w = 1 ∨ w = 2 ∨ w = 3 ∨ w = 4 ∨ w = 5 ∨ w = 6 by omega) with rfl | rfl | rfl | rfl | rfl | rfl <;>
  rcases (show h = 1 ∨ h = 2 ∨ h = 3 ∨ h = 4 ∨ h = 5 ∨ h = 6 by omega) with rfl | rfl | rfl | rfl | rfl | rfl <;> kernel_rfl
theorem sh_places : ∀ W ∈ List.range 7, ∀ H ∈ List.range 7, 1 ≤ W → 1 ≤ H → ∀ i ∈ List.range (W * H), (shPl (pdOf W H [] []) ((W - 1 : Nat) : Int) ((H - 1 : Nat) : Int) ((i % W : Nat) : Int) ((i / W : Nat) : Int)).toNat = W * H - 1 - i ∧ (placeV (pdOf W H [] []) ((i % W : Nat) : Int) ((i / W : Nat) : Int)).toNat = i := by decide +kernel
theorem texel_in {xs : List Int} (h : xs.all texelB = true) (i : Nat) : 0 ≤ xs.getD i 0 ∧ xs.getD i 0 ≤ 255 := by
  rcases Nat.lt_or_ge i xs.length with hi | hi
  · rw [List.getD, List.getElem?_eq_getElem hi]
    have := List.all_eq_true.1 h _ (List.getElem_mem hi)
    unfold texelB at this
    simp only [Bool.and_eq_true, decide_eq_true_eq] at this
    show 0 ≤ xs[i] ∧ xs[i] ≤ 255
    omega
  · rw [List.getD, List.getElem?_eq_none hi]; exact ⟨by decide, by decide⟩
theorem wrap_tex {t k : Int} (h : 0 ≤ t ∧ t ≤ 255) (hk : -400 ≤ k ∧ k ≤ 400) : wrap32 (wrap32 t + k) = t + k := by unfold wrap32; omega
theorem wrap_tex' {t k : Int} (h : 0 ≤ t ∧ t ≤ 255) (hk : 0 ≤ k ∧ k ≤ 400) : wrap32 (wrap32 t - k) = t - k := by unfold wrap32; omega
theorem sh_ans {W H : Nat} (hW : 1 ≤ W ∧ W ≤ 6) (hH : 1 ≤ H ∧ H ≤ 6) {xs ys : List Int} (hs : shapeE W H xs ys = 0) (hx : xs.all texelB = true) (hy : ys.all texelB = true) {k : Nat} (hk : k < 400) {E P : Int} {r : Option PSt} (h : Ans W H xs ys (shS (W - 1) (H - 1) k) E P r) :
    P = 0 ∧ E = 0 ∧ ∃ S, r = some S ∧ S.steps = 16 * ((W * H : Nat) : Int) ∧ S.touched = 4 * ((W * H : Nat) : Int) ∧ S.trace.length = min (4 * (W * H)) 100 ∧ S.opn = (List.range (W * H)).map (fun i => toneV (xs.getD (W * H - 1 - i) 0 + k)) ∧ S.hid = (List.range (W * H)).map (fun i => toneV (ys.getD i 0 - k)) := by
  obtain ⟨hread, x1, x2, x3, P, ht⟩ := sh_read (a := W - 1) (b := H - 1) (c := k) (by omega) (by omega) hk
  obtain ⟨hP, hr, hE⟩ := ans_run h hs hread
  rw [ht, Int.toNat_natCast, Int.toNat_natCast] at hr
  have hn : W * H ≤ 36 := Nat.mul_le_mul hW.2 hH.2
  obtain ⟨T, g0, g1, g2, g3, g4, g5⟩ := go_sh (D := pdOf W H xs ys) ((W - 1 : Nat) : Int) ((H - 1 : Nat) : Int) (k : Int) x1 x2 x3 P (ptsOf W H) (startP (W * H)) (by rw [ptsOf_len]; show 0 + 16 * ((W * H : Nat) : Int) ≤ _; omega) (by show 0 ≤ 100; omega)
  rw [g0] at hr
  subst hr
  rw [ptsOf_len] at g1 g2 g3
  have PL := fun i (hi : i < W * H) => sh_places W (List.mem_range.2 (by omega)) H (List.mem_range.2 (by omega)) hW.1 hH.1 i (List.mem_range.2 hi)
  refine ⟨hP, hE, T, rfl, by rw [g1]; show 0 + _ = _; omega, by rw [g2]; show 0 + _ = _; omega, by rw [g3]; show min (0 + _) _ = _; omega, ?_, ?_⟩
  · rw [g4]
    show (ptsOf W H).foldl (paintF (pdOf W H xs ys) (fun x => toneV (shO (pdOf W H xs ys) ((W - 1 : Nat) : Int) ((H - 1 : Nat) : Int) k x.1 x.2))) (List.replicate (W * H) 0) = _
    rw [all_setF _ W H hW hH xs ys]
    refine List.map_congr_left fun i hi => ?_
    have p := (PL i (List.mem_range.1 hi)).1
    have v := texel_in hx (W * H - 1 - i)
    have p2 : (shPl (pdOf W H xs ys) ((W - 1 : Nat) : Int) ((H - 1 : Nat) : Int) ((i % W : Nat) : Int) ((i / W : Nat) : Int)).toNat = W * H - 1 - i := p
    have key : shO (pdOf W H xs ys) ((W - 1 : Nat) : Int) ((H - 1 : Nat) : Int) k ((i % W : Nat) : Int) ((i / W : Nat) : Int) = xs.getD (W * H - 1 - i) 0 + k := by
      unfold shO
      rw [p2, show (pdOf W H xs ys).opens = xs from rfl]
      exact wrap_tex v (by omega)
    rw [key]
  · rw [g5]
    show (ptsOf W H).foldl (paintF (pdOf W H xs ys) (fun x => toneV (shH (pdOf W H xs ys) k x.1 x.2))) (List.replicate (W * H) 0) = _
    rw [all_setF _ W H hW hH xs ys]
    refine List.map_congr_left fun i hi => ?_
    have p := (PL i (List.mem_range.1 hi)).2
    have v := texel_in hy i
    have p2 : (placeV (pdOf W H xs ys) ((i % W : Nat) : Int) ((i / W : Nat) : Int)).toNat = i := p
    have key : shH (pdOf W H xs ys) k ((i % W : Nat) : Int) ((i / W : Nat) : Int) = ys.getD i 0 - k := by
      unfold shH
      rw [p2, show (pdOf W H xs ys).hids = ys from rfl]
      exact wrap_tex' v (by omega)
    rw [key]
end Go.Proofs.Ythmmgiaobakilaa
