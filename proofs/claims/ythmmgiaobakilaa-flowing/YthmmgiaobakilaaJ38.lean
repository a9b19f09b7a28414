import Derived.Test.YthmmgiaobakilaaJ37
/- What a painted answer shows, and the law's function untold: true for every scene whose shape is right. -/
set_option maxRecDepth 100000
namespace Go.Proofs.Ythmmgiaobakilaa
open Go.RowKit Go.Deep

theorem ev_len (D : PD) (e : Ex) (S : PSt) : (ev1 D e (stepP S)).2.opn.length = S.opn.length := by
  obtain ⟨m, _, h⟩ := ev1_any D e (stepP S)
  rw [h.opn]; rfl
theorem put_len (D : PD) (S : PSt) (out : Bool) (v : Int) : (putP D S out v).opn.length = S.opn.length := by
  unfold putP
  split
  · show (S.opn.set _ _).length = _; rw [List.length_set]
  · show (touchP S 3 (hereP D S)).opn.length = _; rw [(touchP_steps S 3 (hereP D S)).2.2.2.1]
theorem rounds_len {body : PSt → PSt} {nm : ByteArray} (hb : ∀ T, (body T).opn.length = T.opn.length) : ∀ (q : Nat) (i : Int) (S : PSt), (roundsP body nm q i S).opn.length = S.opn.length
  | 0, _, _ => rfl
  | q + 1, i, _ => (rounds_len hb q (i + 1) _).trans (hb _)
theorem st_len (D : PD) : ∀ (n : Nat) (s : Sx), szS s ≤ n → ∀ S, (stP D s S).opn.length = S.opn.length
  | _, .nil, _, _ => rfl
  | 0, .node _ _ _ _ _, h, _ => by simp [szS] at h
  | n + 1, .node b o p k r, h, S => by
    by_cases h0 : 20000 < S.steps
    · rw [stP_over h0]
    have hr : szS r ≤ n := by simp only [szS] at h; omega
    have hk : szS k ≤ n := by simp only [szS] at h; omega
    cases k with
    | nil =>
      show (if 20000 < S.steps then S else stP D r _).opn.length = _
      rw [if_neg h0, st_len D n r hr]
      split
      · exact ev_len D p.e S
      split
      · exact ev_len D p.e S
      split
      · exact rounds_len (fun T => rfl) _ _ _
      · rw [put_len]; exact ev_len D p.e S
    | node b1 o1 q s u =>
      have hs : szS s ≤ n := by simp only [szS] at hk; omega
      have hu : szS u ≤ n := by simp only [szS] at hk; omega
      show (if 20000 < S.steps then S else stP D r _).opn.length = _
      rw [if_neg h0, st_len D n r hr]
      split
      · exact ev_len D p.e S
      split
      · show (if _ then _ else _ : PSt).opn.length = _
        split
        · rw [st_len D n s hs]; exact ev_len D p.e S
        · rw [st_len D n u hu]; exact ev_len D p.e S
      split
      · exact rounds_len (fun T => st_len D n _ hk T) _ _ _
      · rw [put_len]; exact ev_len D p.e S
theorem go_len (D : PD) (t : Sx) : ∀ (l : List (Int × Int)) (S T : PSt), goP D t l S = some T → T.opn.length = S.opn.length
  | [], S, T, h => by cases h; rfl
  | x :: l, S, T, h => by
    rw [goP] at h
    split at h
    · cases h
    · rw [go_len D t l _ T h]; exact st_len D _ t (Nat.le_refl _) _
def opnO : Option PSt → List Int
  | none => []
  | some S => S.opn
def trO : Option PSt → List (Int × Int)
  | none => []
  | some S => S.trace
def stO : Option PSt → Int
  | none => 0
  | some S => S.steps
def ttO : Option PSt → Int
  | none => 0
  | some S => S.touched
def hlO : Option PSt → Nat
  | none => 0
  | some S => S.hid.length
theorem LoO.eqs {H : List ByteArray} {r r' : Option PSt} (h : LoO H r r') : opnO r' = opnO r ∧ trO r' = trO r ∧ stO r' = stO r ∧ ttO r' = ttO r ∧ hlO r' = hlO r := by
  cases r with
  | none =>
    cases r' with
    | none => exact ⟨rfl, rfl, rfl, rfl, rfl⟩
    | some T => cases h
  | some S =>
    cases r' with
    | none => cases h
    | some T => exact ⟨h.opn.symm, h.trace.symm, h.steps.symm, h.touched.symm, h.hid.symm⟩
theorem ans_len {sw sh : Int} {xs ys : List Int} {src : ByteArray} {E P : Int} {r : Option PSt} (h : Ans sw sh xs ys src E P r) : (opnO r).length ≤ sw.toNat * sh.toNat := by
  rcases h with ⟨_, _, _, rfl⟩ | ⟨_, _, _, _, rfl⟩ | ⟨_, _, _, ds, t, _, hr, _⟩
  · exact Nat.zero_le _
  · exact Nat.zero_le _
  · cases r with
    | none => exact Nat.zero_le _
    | some S =>
      show S.opn.length ≤ _
      rw [go_len _ _ _ _ _ hr.symm]
      show (List.replicate _ _).length ≤ _
      rw [List.length_replicate]
      exact Nat.le_refl _
theorem tchs_get : ∀ (l : List (Int × Int)) (j : Nat), j < l.length → (tchsC l)[j * 2]? = some (.int .i64 (l.getD j (0, 0)).1) ∧ (tchsC l)[j * 2 + 1]? = some (.int .i64 (l.getD j (0, 0)).2)
  | [], j, h => by simp at h
  | t :: l, 0, _ => ⟨rfl, rfl⟩
  | t :: l, j + 1, h => by
    have := tchs_get l j (by simpa using h)
    have e : tchsC (t :: l) = .int .i64 t.1 :: .int .i64 t.2 :: tchsC l := rfl
    rw [e, show (j + 1) * 2 = j * 2 + 1 + 1 by omega]
    simpa using this
theorem PntRes.view {w : World} {E P : Int} {r : Option PSt} {e : Ending} {w' : World} (h : PntRes w E P r e w') : ∃ ao c bo d to f, e = .returned (.tuple #[.agg #[.slice ao (opnO r).length c, .slice bo (hlO r) d, .int .i64 (stO r), .int .i64 (ttO r), .slice to (trO r).length f], .int .i64 E, .int .i64 P]) ∧ IntsAt w'.heap.size w' ao (opnO r) ∧ TrAt w'.heap.size w' to (trO r) ∧ (trO r).length ≤ maxLen ∧ Below w.heap.size w w' := by
  cases r with
  | none => exact ⟨none, 0, none, 0, none, 0, h.2, .inl rfl, .inl rfl, Nat.zero_le _, h.1⟩
  | some S =>
    obtain ⟨hb, ob, hb', rv, he, ho, _, hr, _⟩ := h
    have i1 : IntsAt w'.heap.size w' (some ⟨ob, 0, none⟩) S.opn := by
      refine .inr ⟨ob, 0, rfl, (Array.getElem?_eq_some_iff.1 ho).1, fun j hj => ?_⟩
      rw [Nat.zero_add]; exact (pic_cell ho hj).1
    have hr' := hr
    rcases hr.2 with ⟨h1, h0⟩ | ⟨g, cap, cur, rfl, _, _, k1, k2, _⟩
    · rw [h1] at he
      have h2 : S.trace = [] := List.eq_nil_of_length_eq_zero h0
      refine ⟨some ⟨ob, 0, none⟩, S.opn.length, some ⟨hb', 0, none⟩, S.hid.length, none, 0, ?_, i1, .inl h2, ?_, hb⟩
      · rw [he]; simp [opnO, hlO, stO, ttO, trO, h2]
      · show S.trace.length ≤ _; rw [h0]; exact Nat.zero_le _
    · refine ⟨_, _, _, _, _, cap, he, i1, .inr ⟨g, rfl, (hr'.lt g rfl).2, fun j hj => ?_⟩, Nat.le_trans k1 k2, hb⟩
      have hj' : j < S.trace.length := hj
      obtain ⟨t1, t2⟩ := tchs_get S.trace j hj'
      exact ⟨(hr'.cellAt _ (by omega)).trans t1, (hr'.cellAt _ (by omega)).trans t2⟩
end Go.Proofs.Ythmmgiaobakilaa

/- The law's function untold: true for every scene whose shape is right. -/
set_option maxRecDepth 100000
namespace Go.Proofs.Ythmmgiaobakilaa
open Go.RowKit Go.Deep

theorem shape_fit {sw sh : Int} {xs ys : List Int} {n : Nat} (w1 : 1 ≤ sw ∧ sw ≤ 6) (h1 : 1 ≤ sh ∧ sh ≤ 6) (hn : sw * sh = (n : Int)) (lx : xs.length = n) (ly : ys.length = n) (ax : xs.all texelB = true) (ay : ys.all texelB = true) : shapeE sw sh xs ys = 0 := by
  unfold shapeE texelsB
  rw [if_pos (by simp [sideB]; omega), hn, if_pos (by rw [lx, ly, ax, ay]; simp)]
/-- A block of a result's five cells. -/
def RB (w : World) (b : Nat) (c0 c1 c2 c3 c4 : Value) : Prop := w.heap[b]? = some (.cells #[c0, c1, c2, c3, c4] 51 (0, 0))
theorem RB.later {w w' : World} {b : Nat} {c0 c1 c2 c3 c4 : Value} {B : Nat} (h : RB w b c0 c1 c2 c3 c4) (hb : Below B w w') (hB : b < B) : RB w' b c0 c1 c2 c3 c4 := (hb.block b hB).trans h
theorem RB.new (w : World) (c0 c1 c2 c3 c4 : Value) : RB (w.alloc (.cells #[c0, c1, c2, c3, c4] 51)) w.heap.size c0 c1 c2 c3 c4 := heap_alloc_new w _
theorem TrAt.mono {B B' : Nat} {w : World} {ao : Option Addr} {l : List (Int × Int)} (h : TrAt B w ao l) (hB : B ≤ B') : TrAt B' w ao l := by
  rcases h with h | ⟨g, h1, h2, h3⟩
  · exact .inl h
  · exact .inr ⟨g, h1, by omega, h3⟩
theorem below_alloc (w : World) (o : Obj) : Below w.heap.size w (w.alloc o) := (Below.refl _ w).alloc (Nat.le_refl _) o
set_option maxHeartbeats 4000000 in
theorem untold_any (w : World) (sw sh : Int) (so sd oo : Option Addr) (c1 c2 c3 : Nat) (xs ys zs : List Int) (src : ByteArray) (n : Nat) (hsw : 1 ≤ sw ∧ sw ≤ 6) (hsh : 1 ≤ sh ∧ sh ≤ 6) (hn : sw * sh = (n : Int)) (n1 : 1 ≤ n) (n2 : n ≤ 36) (lx : xs.length = n) (ly : ys.length = n) (ax : xs.all texelB = true) (ay : ys.all texelB = true)
    (hx : IntsAt w.heap.size w so xs) (hy : IntsAt w.heap.size w sd ys) (hz : IntsAt w.heap.size w oo zs) (z64 : ∀ x ∈ zs, In64 x) (hsrc : src.size ≤ maxLen) :
    Calls Try.prog 23 #[scV sw sh so sd c1 c2 xs ys src, .slice oo zs.length c3] w fun e w' => e = .returned (.bool true) ∧ Below w.heap.size w w' := by
  have hm : n ≤ maxLen := by unfold maxLen; omega
  have sh1 := shape_fit hsw hsh hn lx ly ax ay
  have sh2 := shape_fit hsw hsh hn lx (texs_len zs n) ax (texs_all zs n)
  have hN : Hid (sw.toNat * sh.toNat ≤ 36) := by
    show _ ≤ _
    have e : ((sw.toNat * sh.toNat : Nat) : Int) = sw * sh := by rw [Int.natCast_mul, Int.toNat_of_nonneg (by omega), Int.toNat_of_nonneg (by omega)]
    omega
  have SH := hide (sh1.trans sh2.symm)
  obtain ⟨w1, hw1⟩ : ∃ w1, (w.alloc (.cells #[.int .i64 sw, .int .i64 sh, .slice so n c1, .slice sd n c2, .string src] 24)).alloc (.cells #[.int .i64 sw, .int .i64 sh, .slice so n c1, .slice sd n c2, .string src] 24) = w1 := ⟨_, rfl⟩
  have b1 : Below w.heap.size w w1 := by rw [← hw1]; exact ((Below.refl _ w).alloc (Nat.le_refl _) _).alloc (by simp) _
  have z1 : w1.heap.size = w.heap.size + 2 := by rw [← hw1]; simp
  have s0 := SB.under w (.int .i64 sw) (.int .i64 sh) (.slice so n c1) (.slice sd n c2) (.string src) (.cells #[.int .i64 sw, .int .i64 sh, .slice so n c1, .slice sd n c2, .string src] 24)
  have s1 := SB.over w (.int .i64 sw) (.int .i64 sh) (.slice so n c1) (.slice sd n c2) (.string src) (.cells #[.int .i64 sw, .int .i64 sh, .slice so n c1, .slice sd n c2, .string src] 24)
  rw [hw1] at s0 s1
  obtain ⟨x0, x1, x2, x3, x4⟩ := (bk5 s0).1
  have T1 := hide (texK_some w1 oo c3 zs n n1 n2 ((hz.later b1 (Nat.le_refl _)).mono (by omega)) z64)
  have B1 := hide b1
  have Z1 := hide z1
  have LX := hide lx
  have LY := hide ly
  unfold scV
  rw [lx, ly]
  obtain ⟨s1', s2'⟩ := hsw
  obtain ⟨s3', s4'⟩ := hsh
  clear b1 z1 lx ly ax ay hz sh1 sh2
  go_enter Try.func23, Try.ntmps23
  go_wp2_with fail
  clear hw1 x0 x1 x2 x3 x4 hn
  refine (unhide T1).mono ?_
  rintro e w2 ⟨g, cap, rfl, hg, hgi, hb2⟩
  have z1 := unhide Z1
  have t0 := s0.later hb2 (by omega)
  have t1 := s1.later hb2 (by omega)
  have u0 := t0.other (a := w.heap.size + 1) (i := 3) (by omega) (.slice (some ⟨g, 0, none⟩) n cap)
  have u1 := t1.set3 (.slice (some ⟨g, 0, none⟩) n cap)
  obtain ⟨⟨y0, y1, y2, y3, y4⟩, q0, q1, q2, q3, q4⟩ := bk5 t1
  obtain ⟨w3, hw3⟩ : ∃ w3, w2.setCell ⟨w.heap.size + 1, 3, none⟩ (.slice (some ⟨g, 0, none⟩) n cap) = w3 := ⟨_, rfl⟩
  have e3 : w3.heap.size = w2.heap.size := by rw [← hw3]; simp
  have b3 : Below w.heap.size w w3 := by rw [← hw3]; exact ((unhide B1).trans (hb2.mono (by omega))).setCell (p := ⟨w.heap.size + 1, 3, none⟩) (by simp) _
  have e2 : w1.heap.size ≤ w2.heap.size := hb2.size
  rw [hw3] at u0 u1
  have gi3 : IntsAt w3.heap.size w3 (some ⟨g, 0, none⟩) (texsV zs n) := by
    rw [e3, ← hw3]; exact hgi.setK (fun p hp => by cases hp; show g ≠ _; omega)
  have lx := unhide LX
  have ly := unhide LY
  have C1 := paint_any w3 sw sh so sd c1 c2 xs ys src ((hx.later b3 (Nat.le_refl _)).mono (by omega)) ((hy.later b3 (Nat.le_refl _)).mono (by omega)) (by omega) (by omega) hsrc
  unfold scV at C1
  rw [lx, ly] at C1
  have PC1 := hide C1
  have E3 : Hid (w.heap.size + 2 ≤ w3.heap.size) := by show _ ≤ _; omega
  have HB3 := hide b3
  obtain ⟨⟨a0, a1, a2, a3, a4⟩, _⟩ := bk5 u0
  clear C1 s0 s1 z1 e3 b3 e2 hgi hb2 hy T1 B1 Z1 t0 t1 hg lx ly
  go_wp2_with fail
  clear a0 a1 a2 a3 a4 hw3 y0 y1 y2 y3 y4 q0 q1 q2 q3 q4
  refine (unhide PC1).mono ?_
  rintro e w4 ⟨E, P, r, hA, hR⟩
  obtain ⟨ao, d1, bo, d2, to, d3, rfl, iX, iT, lT, b4⟩ := hR.view
  clear hR PC1
  have e3 := unhide E3
  have lx := unhide LX
  have b3 := unhide HB3
  have v1 := u1.later b4 (by omega)
  obtain ⟨w5, hw5⟩ : ∃ w5, w4.alloc (.cells #[.slice ao (opnO r).length d1, .slice bo (hlO r) d2, .int .i64 (stO r), .int .i64 (ttO r), .slice to (trO r).length d3] 51) = w5 := ⟨_, rfl⟩
  have e4 : w3.heap.size ≤ w4.heap.size := b4.size
  have e5 : w5.heap.size = w4.heap.size + 1 := by rw [← hw5]; simp
  have b45 : Below w4.heap.size w4 w5 := by rw [← hw5]; exact below_alloc _ _
  have r5 := RB.new w4 (.slice ao (opnO r).length d1) (.slice bo (hlO r) d2) (.int .i64 (stO r)) (.int .i64 (ttO r)) (.slice to (trO r).length d3)
  rw [hw5] at r5
  have b5 : Below w.heap.size w w5 := (b3.trans (b4.mono (by omega))).trans (b45.mono (by omega))
  have v5 := v1.later b45 (by omega)
  have g5 := ((gi3.later b4 (Nat.le_refl _)).mono e4).later b45 (Nat.le_refl _)
  have C2 := paint_any w5 sw sh so (some ⟨g, 0, none⟩) c1 cap xs (texsV zs n) src ((hx.later b5 (Nat.le_refl _)).mono (by omega)) (g5.mono (by omega)) (by omega) (by rw [texs_len]; omega) hsrc
  unfold scV at C2
  rw [lx, texs_len] at C2
  have PC2 := hide C2
  have iX5 := iX.later b45 (Nat.le_refl _)
  have iT5 := iT.later b45 (Nat.le_refl _)
  have E4 : Hid (w.heap.size ≤ w4.heap.size ∧ w5.heap.size = w4.heap.size + 1) := by show _ ∧ _; exact ⟨by omega, e5⟩
  have HB5 := hide b5
  obtain ⟨⟨a0, a1, a2, a3, a4⟩, _⟩ := bk5 v5
  clear C2 e3 b3 v1 e4 e5 b45 b5 v5 g5 gi3 u0 u1 b4 iX iT hx E3 HB3 lx
  go_wp2_with fail
  clear a0 a1 a2 a3 a4 hw5
  refine (unhide PC2).mono ?_
  rintro e w6 ⟨E', P', r', hA', hR⟩
  obtain ⟨ao', d1', bo', d2', to', d3', he, iX', iT', _, b6⟩ := hR.view
  obtain ⟨rfl, rfl, H, hlo⟩ := ans_lo hA hA' (unhide SH)
  obtain ⟨q1, q2, q3, q4, q5⟩ := hlo.eqs
  rw [q1, q2, q3, q4, q5] at he
  rw [q1] at iX'
  rw [q2] at iT'
  subst he
  have hl := ans_len hA
  have hl2 : (opnO r).length ≤ 1000 := by have := unhide hN; omega
  clear hR PC2 q1 q2 q3 q4 q5 hlo hA hA' hl hN SH
  have e4 := unhide E4
  have b5 := unhide HB5
  obtain ⟨w7, hw7⟩ : ∃ w7, w6.alloc (.cells #[.slice ao' (opnO r).length d1', .slice bo' (hlO r) d2', .int .i64 (stO r), .int .i64 (ttO r), .slice to' (trO r).length d3'] 51) = w7 := ⟨_, rfl⟩
  have e6 : w5.heap.size ≤ w6.heap.size := b6.size
  have e7 : w7.heap.size = w6.heap.size + 1 := by rw [← hw7]; simp
  have b67 : Below w6.heap.size w6 w7 := by rw [← hw7]; exact below_alloc _ _
  have p7 := RB.new w6 (.slice ao' (opnO r).length d1') (.slice bo' (hlO r) d2') (.int .i64 (stO r)) (.int .i64 (ttO r)) (.slice to' (trO r).length d3')
  rw [hw7] at p7
  have r7 := (r5.later b6 (by omega)).later b67 (by omega)
  have iX7 := ((iX5.later b6 (by omega)).later b67 (by omega)).mono (B' := w7.heap.size) (by omega)
  have iT7 : TrAt w4.heap.size w7 to (trO r) := (iT5.later b6 (by omega)).later b67 (by omega)
  have jX7 := (iX'.later b67 (Nat.le_refl _)).mono (B' := w7.heap.size) (by omega)
  have jT7 : TrAt w6.heap.size w7 to' (trO r) := iT'.later b67 (Nat.le_refl _)
  have b7 : Below w.heap.size w w7 := (b5.trans (b6.mono (by omega))).trans (b67.mono (by omega))
  have SK := hide (same_keep ao ao' d1 d1' (opnO r) w7 iX7 jX7 hl2)
  have E7 : Hid (w.heap.size ≤ w7.heap.size ∧ w4.heap.size < w7.heap.size ∧ w6.heap.size < w7.heap.size) := by show _ ∧ _; omega
  have HB7 := hide b7
  obtain ⟨⟨a0, a1, a2, a3, a4⟩, _⟩ := bk5 p7
  obtain ⟨⟨k0, k1, k2, k3, k4⟩, _⟩ := bk5 r7
  clear b5 b6 b67 b7 e4 e6 e7 iX5 iT5 iX' iT' r5 iX7 jX7 E4 HB5
  go_wp2_with fail
  clear hw7 a0 a1 a2 a3 a4 k0 k1 k2 k3 k4
  refine (unhide SK).mono ?_
  rintro e w8 ⟨rfl, b8⟩
  have e7 := unhide E7
  have p8 := p7.later b8 (by omega)
  have r8 := r7.later b8 (by omega)
  have e8 : w7.heap.size ≤ w8.heap.size := b8.size
  have ST := hide (same_trace to to' d3 d3' (trO r) w8 ((iT7.later b8 (by omega)).mono (B' := w8.heap.size) (by omega)) ((jT7.later b8 (by omega)).mono (B' := w8.heap.size) (by omega)) lT)
  have HB8 : Hid (Below w.heap.size w w8) := (unhide HB7).trans (b8.mono (by omega))
  have E8 : Hid (w.heap.size ≤ w8.heap.size ∧ w4.heap.size < w8.heap.size ∧ w6.heap.size < w8.heap.size) := by show _ ∧ _; omega
  obtain ⟨⟨a0, a1, a2, a3, a4⟩, _⟩ := bk5 p8
  obtain ⟨⟨k0, k1, k2, k3, k4⟩, _⟩ := bk5 r8
  clear SK e7 p7 r7 e8 b8 iT7 jT7 HB7 E7
  go_wp2_with fail
  clear a0 a1 a2 a3 a4 k0 k1 k2 k3 k4
  refine (unhide ST).mono ?_
  rintro e w9 ⟨rfl, b9⟩
  have e8 := unhide E8
  have p9 := p8.later b9 (by omega)
  have r9 := r8.later b9 (by omega)
  have HB9 : Hid (Below w.heap.size w w9) := (unhide HB8).trans (b9.mono (by omega))
  obtain ⟨⟨a0, a1, a2, a3, a4⟩, _⟩ := bk5 p9
  obtain ⟨⟨k0, k1, k2, k3, k4⟩, _⟩ := bk5 r9
  clear ST e8 p8 r8 b9 HB8 E8
  go_wp2
  go_ret
  exact ⟨rfl, unhide HB9⟩
end Go.Proofs.Ythmmgiaobakilaa

/- The document's examples: checking and painting. -/
set_option maxRecDepth 100000
namespace Go.Proofs.Ythmmgiaobakilaa
open Go.RowKit Go.Deep

def kx1 : ByteArray := ⟨#[111, 117, 116, 32, 115, 112, 121, 91, 120, 44, 32, 121, 93, 59]⟩
def kx2 : ByteArray := ⟨#[111, 112, 101, 110, 32, 97, 59, 32, 97, 32, 226, 134, 144, 32, 115, 112, 121, 91, 48, 44, 32, 48, 93, 59]⟩
def kx3 : ByteArray := ⟨#[104, 105, 100, 100, 101, 110, 32, 104, 59, 32, 104, 32, 226, 134, 144, 32, 115, 112, 121, 91, 120, 44, 32, 121, 93, 59, 32, 104, 105, 100, 101, 32, 115, 101, 108, 40, 104, 32, 60, 32, 57, 44, 32, 49, 44, 32, 104, 32, 195, 183, 32, 48, 41, 59]⟩
def kx4 : ByteArray := ⟨#[111, 117, 116, 32, 112, 101, 101, 107, 91, 120, 44, 32, 121, 93, 59, 32, 104, 105, 100, 101, 32, 115, 112, 121, 91, 49, 32, 45, 32, 120, 44, 32, 121, 93, 59]⟩
theorem kx_1 : readF kx1 = (11, 0) := by decide +kernel
theorem kx_2 : readF kx2 = (11, 8) := by decide +kernel
theorem kx_3 : readF kx3 = (0, 0) := by decide +kernel
theorem kx_4 : readF kx4 = (0, 0) := by decide +kernel
/-- The tree of a source. -/
def treeOf (s : ByteArray) : Sx := match lex s s.size 0 [] with
  | (none, _) => .nil
  | (some l, p) => match pSource 1000 (l ++ [overTok p]) with
    | some (.ok ((_, t), _)) => t
    | _ => .nil
theorem treeOf_is {s : ByteArray} {ds : List (Tok × Bool)} {t : Sx} (h : IsTree s ds t) : treeOf s = t := by
  obtain ⟨_, l, p, j, hl, hr, _⟩ := h
  unfold treeOf
  rw [hl]
  show (match pSource 1000 (l ++ [overTok p]) with | some (.ok ((_, t), _)) => t | _ => .nil) = t
  rw [hr]
theorem ans_run {sw sh : Int} {xs ys : List Int} {src : ByteArray} {E P : Int} {r : Option PSt} (h : Ans sw sh xs ys src E P r) (hs : shapeE sw sh xs ys = 0) (hr : readF src = (0, 0)) : P = 0 ∧ r = goP (pdOf sw sh xs ys) (treeOf src) (ptsOf sw.toNat sh.toNat) (startP (sw.toNat * sh.toNat)) ∧ E = if r.isSome then 0 else 12 := by
  rcases h with ⟨h1, _⟩ | ⟨_, h1, _⟩ | ⟨_, _, h1, ds, t, hT, h2, h3⟩
  · exact absurd hs h1
  · rw [hr] at h1; exact absurd rfl h1
  · rw [treeOf_is hT]; exact ⟨h1, h2, h3⟩
def exR : Option PSt := goP (pdOf 2 1 [10, 20] [30, 40]) (treeOf kx4) (ptsOf 2 1) (startP 2)
def hidO : Option PSt → List Int
  | none => []
  | some S => S.hid
theorem exR_some : exR.isSome = true := by decide +kernel
theorem exR_opn : opnO exR = [50, 71] := by decide +kernel
theorem exR_hid : hidO exR = [101, 87] := by decide +kernel
theorem exR_st : stO exR = 20 := by decide +kernel
theorem exR_tt : ttO exR = 8 := by decide +kernel
theorem exR_tr : (trO exR).length = 8 ∧ (trO exR).getD 2 (0, 0) = (1, 1) := by decide +kernel
set_option maxHeartbeats 1000000 in
theorem checking_any (w : World) : Calls Try.prog 21 #[] w fun e w' => e = .returned (.bool true) ∧ Below w.heap.size w w' := by
  have c1 := fun w => check_any kx1 (by unfold maxLen; decide) w
  have c2 := fun w => check_any kx2 (by unfold maxLen; decide) w
  have c3 := fun w => check_any kx3 (by unfold maxLen; decide) w
  rw [kx_1] at c1
  rw [kx_2] at c2
  rw [kx_3] at c3
  go_enter Try.func21, Try.ntmps21
  go_wp2_with fail
  refine (c1 _).mono ?_
  rintro e w1 ⟨hb1, rfl⟩
  go_wp2_with fail
  refine (c2 _).mono ?_
  rintro e w2 ⟨hb2, rfl⟩
  go_wp2_with fail
  refine (c3 _).mono ?_
  rintro e w3 ⟨hb3, rfl⟩
  have hb := (hb1.trans (hb2.mono hb1.size)).trans (hb3.mono (Nat.le_trans hb1.size hb2.size))
  clear c1 c2 c3 hb1 hb2 hb3
  go_wp2
  go_ret
  exact ⟨rfl, hb⟩
end Go.Proofs.Ythmmgiaobakilaa

/- Looped's source: nothing is wrong with it, and its tree. -/
set_option maxRecDepth 100000
namespace Go.Proofs.Ythmmgiaobakilaa
open Go.RowKit Go.Deep

theorem nxN_ok {a b : Tok} {σ : NSt} (h1 : nP a ≤ nP b) (h2 : nP b ≤ 20) : nxN a b σ = σ := by
  unfold nxN
  rw [if_neg (by rw [Bool.or_eq_true, decide_eq_true_iff, decide_eq_true_iff]; omega)]
section
variable {n1 n2 n3 : Int} (x1 x2 x3 : ByteArray) (p1 p4 p5 p7 p10 p11 p13 p15 p17 p18 p19 p23 p24 : Int)
theorem lp_names (h1 : n1 ≤ n2) (h2 : n2 ≤ 20) (h3 : 0 ≤ n3) (h4 : n3 ≤ 20) : namesF [(nT ⟨#[110]⟩ p1, false)] (lpTree n1 n2 n3 x1 x2 x3 p4 p5 p7 p10 p11 p13 p15 p17 p18 p19 p23 p24) = (0, 0) := by
  unfold namesF lpTree
  rw [nxS_2 rfl, nxN_ok (a := uT n1 x1 p5) (b := uT n2 x2 p7) h1 h2, nxS_2 (p := ⟨2, nT ⟨#[106]⟩ p10, uT 0 ⟨#[48]⟩ p11, uT n3 x3 p13, .nil⟩) rfl, nxN_ok (a := uT 0 ⟨#[48]⟩ p11) (b := uT n3 x3 p13) h3 h4]
  kernel_rfl
theorem lp_flow : flowF [(nT ⟨#[110]⟩ p1, false)] (lpTree n1 n2 n3 x1 x2 x3 p4 p5 p7 p10 p11 p13 p15 p17 p18 p19 p23 p24) = (0, 0) := by
  kernel_rfl
theorem lp_tree (h1 : n1 ≤ n2) (h2 : n2 ≤ 20) (h3 : 0 ≤ n3) (h4 : n3 ≤ 20) : treeF [(nT ⟨#[110]⟩ p1, false)] (lpTree n1 n2 n3 x1 x2 x3 p4 p5 p7 p10 p11 p13 p15 p17 p18 p19 p23 p24) = (0, 0) := by
  unfold treeF
  rw [lp_names x1 x2 x3 p1 p4 p5 p7 p10 p11 p13 p15 p17 p18 p19 p23 p24 h1 h2 h3 h4, lp_flow]
  rfl
end
def lpS (a b c : Nat) : ByteArray := lp1 ++ ⟨#[32]⟩ ++ dgS a ++ (lp2 ++ ⟨#[32]⟩) ++ dgS b ++ (lp3 ++ ⟨#[32]⟩) ++ dgS c ++ lp4
theorem num_append (a b : ByteArray) : nums (a ++ b) = nums a ++ nums b := by simp [nums, ByteArray.data_append]
theorem dg_back : ∀ n ∈ List.range 400, nums (dgS n) = dgL n := by decide +kernel
theorem lp_nums {a b c : Nat} (ha : a < 400) (hb : b < 400) (hc : c < 400) : nums (lpS a b c) = lpL a b c := by
  unfold lpS lpL
  simp only [num_append]
  rw [dg_back a (List.mem_range.2 ha), dg_back b (List.mem_range.2 hb), dg_back c (List.mem_range.2 hc)]
  rw [show nums ⟨#[32]⟩ = [32] from rfl]
  simp
theorem dg_len : ∀ n ∈ List.range 400, (dgL n).length ≤ 3 := by decide +kernel
theorem lp_size {a b c : Nat} (ha : a < 400) (hb : b < 400) (hc : c < 400) : (lpS a b c).size ≤ 300 := by
  rw [← nums_length, lp_nums ha hb hc]
  have h1 := dg_len a (List.mem_range.2 ha)
  have h2 := dg_len b (List.mem_range.2 hb)
  have h3 := dg_len c (List.mem_range.2 hc)
  have e1 : (nums lp1).length = 13 := rfl
  have e2 : (nums lp2).length = 4 := rfl
  have e3 : (nums lp3).length = 14 := rfl
  have e4 : (nums lp4).length = 26 := rfl
  unfold lpL
  simp only [List.length_append, List.length_cons, e1, e2, e3, e4]
  omega
/-- The source of Looped is right, and its tree. -/
theorem lp_read {a b c : Nat} (hab : a ≤ b) (hb : b ≤ 20) (hc : c ≤ 20) : readF (lpS a b c) = (0, 0) ∧ ∃ x1 x2 x3 p4 p5 p7 p10 p11 p13 p15 p17 p18 p19 p23 p24, treeOf (lpS a b c) = lpTree a b c x1 x2 x3 p4 p5 p7 p10 p11 p13 p15 p17 p18 p19 p23 p24 := by
  obtain ⟨q, T, hT, p0, p1, p2, p3, p4, p5, p6, p7, p8, p9, p10, p11, p12, p13, p14, p15, p16, p17, p18, p19, p20, p21, p22, p23, p24, p25, rfl⟩ := lp_lex (a := a) (b := b) (c := c) (by omega) (by omega) (by omega)
  have hlex := lex_lx (lpS a b c)
  rw [lp_nums (by omega) (by omega) (by omega), hT] at hlex
  have hp := lp_parse a b c (dgS a) (dgS b) (dgS c) p0 p1 p2 p3 p4 p5 p6 p7 p8 p9 p10 p11 p12 p13 p14 p15 p16 p17 p18 p19 p20 p21 p22 p23 p24 p25 q
  unfold lpToks at hp
  refine ⟨?_, dgS a, dgS b, dgS c, p4, p5, p7, p10, p11, p13, p15, p17, p18, p19, p23, p24, ?_⟩
  · have hsz := lp_size (a := a) (b := b) (c := c) (by omega) (by omega) (by omega)
    unfold readF
    rw [if_neg (by omega), hlex]
    show toksF _ = _
    unfold toksF
    rw [hp]
    exact lp_tree _ _ _ _ _ _ _ _ _ _ _ _ _ _ _ _ (by omega) (by omega) (by omega) (by omega)
  · unfold treeOf
    rw [hlex]
    show (match pSource 1000 _ with | some (.ok ((_, t), _)) => t | _ => .nil) = _
    rw [hp]
end Go.Proofs.Ythmmgiaobakilaa
