import Derived.Test.YthmmgiaobakilaaJ36
/- The law's own function scene: of raw numbers a scene whose shape is right. -/
set_option maxRecDepth 100000
namespace Go.Proofs.Ythmmgiaobakilaa
open Go.RowKit Go.Deep

theorem own_formK {w : World} {base n : Nat} {v : Value} {xs : List Value} (h : w.ownsRow base 3 1 v n xs) (hn : 0 < n) : ∃ g cap, v = .slice (some ⟨g, 0, none⟩) n cap := by
  rcases h.2 with ⟨rfl, h0⟩ | ⟨g, cap, cur, rfl, _⟩
  · omega
  · exact ⟨g, cap, rfl⟩
theorem IntsAt.of_ownK {w : World} {base g n cap : Nat} {xs : List Int} (h : w.ownsRow base 3 1 (.slice (some ⟨g, 0, none⟩) n cap) n (xs.map (Value.int .i64))) : IntsAt w.heap.size w (some ⟨g, 0, none⟩) xs := by
  have hl : xs.length = n := by simpa using h.1
  have hg := h.lt g rfl
  refine .inr ⟨g, 0, rfl, hg.2, fun j hj => ?_⟩
  rw [Nat.zero_add, h.cellAt j (by omega), List.getElem?_map, List.getElem?_eq_getElem hj]
  simp [List.getD, List.getElem?_eq_getElem hj]
/-- A block of a scene's five cells. -/
def SB (w : World) (b : Nat) (c0 c1 c2 c3 c4 : Value) : Prop := w.heap[b]? = some (.cells #[c0, c1, c2, c3, c4] 24 (0, 0))
section
variable {w w' : World} {b : Nat} {c0 c1 c2 c3 c4 : Value}
theorem SB.later {B : Nat} (h : SB w b c0 c1 c2 c3 c4) (hb : Below B w w') (hB : b < B) : SB w' b c0 c1 c2 c3 c4 := (hb.block b hB).trans h
theorem SB.other (h : SB w b c0 c1 c2 c3 c4) {a i : Nat} (hne : b ≠ a) (v : Value) : SB (w.setCell ⟨a, i, none⟩ v) b c0 c1 c2 c3 c4 := (Below.heap_setCell _ _ _ _ hne).trans h
theorem SB.set2 (h : SB w b c0 c1 c2 c3 c4) (v : Value) : SB (w.setCell ⟨b, 2, none⟩ v) b c0 c1 v c3 c4 := heap_setCell_same w b 2 _ _ v h
theorem SB.set3 (h : SB w b c0 c1 c2 c3 c4) (v : Value) : SB (w.setCell ⟨b, 3, none⟩ v) b c0 c1 c2 v c4 := heap_setCell_same w b 3 _ _ v h
theorem SB.set5 (h : SB w b c0 c1 c2 c3 c4) (v0 v1 v2 v3 v4 : Value) : SB (((((w.setCell ⟨b, 0, none⟩ v0).setCell ⟨b, 1, none⟩ v1).setCell ⟨b, 2, none⟩ v2).setCell ⟨b, 3, none⟩ v3).setCell ⟨b, 4, none⟩ v4) b v0 v1 v2 v3 v4 := Go.Proofs.Ythmmgiaobakilaa.set5 h _ _ _ _ _
theorem SB.new (w : World) (c0 c1 c2 c3 c4 : Value) : SB (w.alloc (.cells #[c0, c1, c2, c3, c4] 24)) w.heap.size c0 c1 c2 c3 c4 := heap_alloc_new w _
theorem SB.under (w : World) (c0 c1 c2 c3 c4 : Value) (o : Obj) : SB ((w.alloc (.cells #[c0, c1, c2, c3, c4] 24)).alloc o) w.heap.size c0 c1 c2 c3 c4 := (Below.heap_alloc _ _ _ (by simp)).trans (heap_alloc_new w _)
theorem SB.over (w : World) (c0 c1 c2 c3 c4 : Value) (o : Obj) : SB ((w.alloc o).alloc (.cells #[c0, c1, c2, c3, c4] 24)) (w.heap.size + 1) c0 c1 c2 c3 c4 := by
  have := SB.new (w.alloc o) c0 c1 c2 c3 c4
  simpa using this
end
/-- A texels' row, as a list that lies there. -/
theorem texK_some (w : World) (ao : Option Addr) (c : Nat) (raw : List Int) (n : Nat) (h1 : 1 ≤ n) (hn : n ≤ 36) (hx : IntsAt w.heap.size w ao raw) (h64 : ∀ x ∈ raw, In64 x) :
    Calls Try.prog 38 #[.slice ao raw.length c, .int .i64 (n : Int)] w fun e w' => ∃ g cap, e = .returned (.slice (some ⟨g, 0, none⟩) n cap) ∧ w.heap.size ≤ g ∧ IntsAt w'.heap.size w' (some ⟨g, 0, none⟩) (texsV raw n) ∧ Below w.heap.size w w' := by
  refine (texK_any w ao c raw n hn hx h64).mono ?_
  rintro e w' ⟨v, rfl, ho, hb⟩
  obtain ⟨g, cap, rfl⟩ := own_formK ho (by omega)
  exact ⟨g, cap, rfl, (ho.lt g rfl).1, IntsAt.of_ownK ho, hb⟩
theorem IntsAt.setK {B : Nat} {w : World} {ao : Option Addr} {xs : List Int} (h : IntsAt B w ao xs) {a i : Nat} {v : Value} (hne : ∀ p, ao = some p → p.block ≠ a) : IntsAt B (w.setCell ⟨a, i, none⟩ v) ao xs := by
  rcases h with h | ⟨b, off, rfl, h2, h3⟩
  · exact .inl h
  · refine .inr ⟨b, off, rfl, h2, fun j hj => ?_⟩
    exact (World.cell?_of_block (w := w) (Below.heap_setCell _ _ _ _ (hne _ rfl))).trans (h3 j hj)
theorem mulN {p q : Int} (hp : 0 ≤ p ∧ p < 6) (hq : 0 ≤ q ∧ q < 6) : ∃ n : Nat, (1 + p) * (1 + q) = (n : Int) ∧ 1 ≤ n ∧ n ≤ 36 := by
  obtain ⟨_, _, _, _, h5, h6⟩ := side_mul (W := 1 + p) (H := 1 + q) (by simp [sideB]; omega) (by simp [sideB]; omega)
  exact ⟨((1 + p) * (1 + q)).toNat, by omega, by omega, by omega⟩
set_option maxHeartbeats 2000000 in
theorem sceneK_any (w : World) (a b : Int) (ao bo : Option Addr) (c d : Nat) (xs ys : List Int) (src : ByteArray) (ha : In64 a) (hb : In64 b) (hx : IntsAt w.heap.size w ao xs) (hy : IntsAt w.heap.size w bo ys) (h64 : ∀ x ∈ xs, In64 x) (k64 : ∀ x ∈ ys, In64 x) :
    Calls Try.prog 24 #[.int .i64 a, .int .i64 b, .slice ao xs.length c, .slice bo ys.length d, .string src] w fun e w' => ∃ (n : Nat) (so sd : Option Addr) (c1 c2 : Nat), (1 + pickV a 6) * (1 + pickV b 6) = (n : Int) ∧ 1 ≤ n ∧ n ≤ 36 ∧ e = .returned (scV (1 + pickV a 6) (1 + pickV b 6) so sd c1 c2 (texsV xs n) (texsV ys n) src) ∧ IntsAt w'.heap.size w' so (texsV xs n) ∧ IntsAt w'.heap.size w' sd (texsV ys n) ∧ Below w.heap.size w w' := by
  have P1 := hide (fun w => pick_any w a 6 ha (.inl rfl))
  have P2 := hide (fun w => pick_any w b 6 hb (.inl rfl))
  have h1 := pick_in (c := a) (n := 6) (by decide)
  have h2 := pick_in (c := b) (n := 6) (by decide)
  obtain ⟨p, hp⟩ : ∃ p, pickV a 6 = p := ⟨_, rfl⟩
  obtain ⟨q, hq⟩ : ∃ q, pickV b 6 = q := ⟨_, rfl⟩
  rw [hp] at P1 h1 ⊢
  rw [hq] at P2 h2 ⊢
  clear hp hq ha hb
  obtain ⟨n, hn, n1, n2⟩ := mulN h1 h2
  have hN := hide hn
  obtain ⟨l1, l2⟩ := h1
  obtain ⟨l3, l4⟩ := h2
  obtain ⟨w1, hw1⟩ : ∃ w1, (w.alloc (.cells #[.int .i64 0, .int .i64 0, .slice none 0 0, .slice none 0 0, .string ⟨#[]⟩] 24)).alloc (.cells #[.int .i64 (1 + p), .int .i64 (1 + q), .slice none 0 0, .slice none 0 0, .string src] 24) = w1 := ⟨_, rfl⟩
  have b1 : Below w.heap.size w w1 := by rw [← hw1]; exact ((Below.refl _ w).alloc (Nat.le_refl _) _).alloc (by simp) _
  have z1 : Hid (w1.heap.size = w.heap.size + 2) := by show w1.heap.size = _; rw [← hw1]; simp
  have s0 := SB.under w (.int .i64 0) (.int .i64 0) (.slice none 0 0) (.slice none 0 0) (.string ⟨#[]⟩) (.cells #[.int .i64 (1 + p), .int .i64 (1 + q), .slice none 0 0, .slice none 0 0, .string src] 24)
  have s1 := SB.over w (.int .i64 (1 + p)) (.int .i64 (1 + q)) (.slice none 0 0) (.slice none 0 0) (.string src) (.cells #[.int .i64 0, .int .i64 0, .slice none 0 0, .slice none 0 0, .string ⟨#[]⟩] 24)
  rw [hw1] at s0 s1
  obtain ⟨x0, x1, x2, x3, x4⟩ := (bk5 s1).1
  have T1 := hide (texK_some w1 ao c xs n n1 n2 ((hx.later b1 (Nat.le_refl _)).mono (by have := unhide z1; omega)) h64)
  have B1 := hide b1
  have HW := hide hw1
  clear b1 hx
  go_enter Try.func24, Try.ntmps24
  go_wp2_with fail
  refine (unhide P1 _).mono ?_
  rintro e w9 ⟨rfl, h9⟩
  obtain rfl := h9.symm
  go_wp2_with fail
  refine (unhide P2 _).mono ?_
  rintro e w9 ⟨rfl, h9⟩
  obtain rfl := h9.symm
  go_wp2_with fail
  clear x0 x1 x2 x3 x4 P1 P2
  refine (unhide T1).mono ?_
  rintro e w2 ⟨g, cap, rfl, hg, hgi, hb2⟩
  have hz1 := unhide z1
  have t0 := s0.later hb2 (by omega)
  have t1 := s1.later hb2 (by omega)
  have u0 := t0.other (a := w.heap.size + 1) (i := 2) (by omega) (.slice (some ⟨g, 0, none⟩) n cap)
  have u1 := t1.set2 (.slice (some ⟨g, 0, none⟩) n cap)
  obtain ⟨⟨y0, y1, y2, y3, y4⟩, z0, z1', z2, z3, z4⟩ := bk5 t1
  obtain ⟨w3, hw3⟩ : ∃ w3, w2.setCell ⟨w.heap.size + 1, 2, none⟩ (.slice (some ⟨g, 0, none⟩) n cap) = w3 := ⟨_, rfl⟩
  have e3 : w3.heap.size = w2.heap.size := by rw [← hw3]; simp
  have b3 : Below w.heap.size w w3 := by rw [← hw3]; exact ((unhide B1).trans (hb2.mono (by omega))).setCell (p := ⟨w.heap.size + 1, 2, none⟩) (by simp) _
  have e2 : w1.heap.size ≤ w2.heap.size := hb2.size
  rw [hw3] at u0 u1
  have gi3 : IntsAt w3.heap.size w3 (some ⟨g, 0, none⟩) (texsV xs n) := by
    rw [e3, ← hw3]; exact hgi.setK (fun p hp => by cases hp; show g ≠ _; omega)
  have T2 := hide (texK_some w3 bo d ys n n1 n2 ((hy.later b3 (Nat.le_refl _)).mono (by omega)) k64)
  have E3 : Hid (w.heap.size + 2 ≤ w3.heap.size) := by show _ ≤ _; omega
  have E4 : Hid (w.heap.size + 2 ≤ g) := by show _ ≤ _; omega
  have HB3 := hide b3
  obtain ⟨⟨a0, a1, a2, a3, a4⟩, _⟩ := bk5 u1
  clear HW hw1 s0 s1 hz1 e3 b3 e2 hgi hb2 hy T1 B1 t0 t1 hg z1
  go_wp2_with fail
  refine (unhide T2).mono ?_
  rintro e w4 ⟨g', cap', rfl, hg, hgi, hb4⟩
  have e3 := unhide E3
  have t0 := u0.later hb4 (by omega)
  have t1 := u1.later hb4 (by omega)
  have gi4 := gi3.later hb4 (Nat.le_refl _)
  clear hw3
  obtain ⟨⟨y0, y1, y2, y3, y4⟩, z0, z1', z2, z3, z4⟩ := bk5 t1
  obtain ⟨w5, hw5⟩ : ∃ w5, w4.setCell ⟨w.heap.size + 1, 3, none⟩ (.slice (some ⟨g', 0, none⟩) n cap') = w5 := ⟨_, rfl⟩
  have v1 := t1.set3 (.slice (some ⟨g', 0, none⟩) n cap')
  have v0 := t0.other (a := w.heap.size + 1) (i := 3) (by omega) (.slice (some ⟨g', 0, none⟩) n cap')
  rw [hw5] at v0 v1
  have b4 : Below w.heap.size w w4 := (unhide HB3).trans (hb4.mono (by omega))
  have b5 : Below w.heap.size w w5 := by rw [← hw5]; exact b4.setCell (p := ⟨w.heap.size + 1, 3, none⟩) (by simp) _
  have g5 : IntsAt w5.heap.size w5 (some ⟨g, 0, none⟩) (texsV xs n) := by
    have e5 : w5.heap.size = w4.heap.size := by rw [← hw5]; simp
    rw [e5, ← hw5]; exact (gi4.mono hb4.size).setK (fun p hp => by cases hp; show g ≠ _; have := unhide E4; omega)
  have g5' : IntsAt w5.heap.size w5 (some ⟨g', 0, none⟩) (texsV ys n) := by
    have e5 : w5.heap.size = w4.heap.size := by rw [← hw5]; simp
    rw [e5, ← hw5]; exact hgi.setK (fun p hp => by cases hp; show g' ≠ _; omega)
  obtain ⟨⟨m0, m1, m2, m3, m4⟩, _⟩ := bk5 v1
  obtain ⟨_, f0, f1, f2, f3, f4⟩ := bk5 v0
  have v2 := v0.set5 (.int .i64 (1 + p)) (.int .i64 (1 + q)) (.slice (some ⟨g, 0, none⟩) n cap) (.slice (some ⟨g', 0, none⟩) n cap') (.string src)
  obtain ⟨w6, hw6⟩ : ∃ w6, ((((w5.setCell ⟨w.heap.size, 0, none⟩ (.int .i64 (1 + p))).setCell ⟨w.heap.size, 1, none⟩ (.int .i64 (1 + q))).setCell ⟨w.heap.size, 2, none⟩ (.slice (some ⟨g, 0, none⟩) n cap)).setCell ⟨w.heap.size, 3, none⟩ (.slice (some ⟨g', 0, none⟩) n cap')).setCell ⟨w.heap.size, 4, none⟩ (.string src) = w6 := ⟨_, rfl⟩
  have FIN : Hid (∃ (n' : Nat) (so sd : Option Addr) (c1 c2 : Nat), (1 + p) * (1 + q) = (n' : Int) ∧ 1 ≤ n' ∧ n' ≤ 36 ∧ Ending.returned (.agg #[.int .i64 (1 + p), .int .i64 (1 + q), .slice (some ⟨g, 0, none⟩) n cap, .slice (some ⟨g', 0, none⟩) n cap', .string src]) = .returned (scV (1 + p) (1 + q) so sd c1 c2 (texsV xs n') (texsV ys n') src) ∧ IntsAt w6.heap.size w6 so (texsV xs n') ∧ IntsAt w6.heap.size w6 sd (texsV ys n') ∧ Below w.heap.size w w6) := by
    have e4 := unhide E4
    refine ⟨n, some ⟨g, 0, none⟩, some ⟨g', 0, none⟩, cap, cap', unhide hN, n1, n2, ?_, ?_, ?_, ?_⟩
    · unfold scV; rw [texs_len, texs_len]
    · have e6 : w6.heap.size = w5.heap.size := by rw [← hw6]; simp
      rw [e6, ← hw6]
      have hne : ∀ p : Addr, some (⟨g, 0, none⟩ : Addr) = some p → p.block ≠ w.heap.size := fun p hp => by cases hp; show g ≠ _; omega
      exact ((((g5.setK hne).setK hne).setK hne).setK hne).setK hne
    · have e6 : w6.heap.size = w5.heap.size := by rw [← hw6]; simp
      rw [e6, ← hw6]
      have hne : ∀ p : Addr, some (⟨g', 0, none⟩ : Addr) = some p → p.block ≠ w.heap.size := fun p hp => by cases hp; show g' ≠ _; omega
      exact ((((g5'.setK hne).setK hne).setK hne).setK hne).setK hne
    · rw [← hw6]
      exact ((((b5.setCell (p := ⟨w.heap.size, 0, none⟩) (by simp) _).setCell (p := ⟨w.heap.size, 1, none⟩) (by simp) _).setCell (p := ⟨w.heap.size, 2, none⟩) (by simp) _).setCell (p := ⟨w.heap.size, 3, none⟩) (by simp) _).setCell (p := ⟨w.heap.size, 4, none⟩) (by simp) _
  rw [hw6] at v2
  obtain ⟨⟨q0, q1, q2, q3, q4⟩, _⟩ := bk5 v2
  clear g5 g5' b4 b5 v0 v1 v2 t0 t1 gi4 hgi hb4 hg e3 gi3 u0 u1 T2 HB3 E3 E4 hN hn
  go_wp2
  refine bodyPost_ret (v := .agg #[.int .i64 (1 + p), .int .i64 (1 + q), .slice (some ⟨g, 0, none⟩) n cap, .slice (some ⟨g', 0, none⟩) n cap', .string src]) (by simp [results, Try.results24, go_sem, q0, q1, q2, q3, q4]) rfl ?_
  first | exact unhide FIN | (rw [hw6]; exact unhide FIN)
end Go.Proofs.Ythmmgiaobakilaa

/- What a painted answer shows, and the law's function untold: true for every scene whose shape is right. -/
set_option maxRecDepth 100000
namespace Go.Proofs.Ythmmgiaobakilaa
open Go.RowKit Go.Deep

theorem ev_len (D : PD) (e : Ex) (S : PSt) : (ev1 D e (stepP S)).2.opn.length = S.opn.length := by
  obtain ⟨m, _, h⟩ := ev1_any D e (stepP S)
  rw [h.opn]; rfl
theorem put_len (D : PD) (S : PSt) (out : Bool) (v : Int) : (putP D S out v).opn.length = S.opn.length := by
  unfold putP
  split
  · show (S.opn.set _ _).length = _; rw [List.length_set]
  · show (touchP S 3 (hereP D S)).opn.length = _; rw [(touchP_steps S 3 (hereP D S)).2.2.2.1]
theorem rounds_len {body : PSt → PSt} {nm : ByteArray} (hb : ∀ T, (body T).opn.length = T.opn.length) : ∀ (q : Nat) (i : Int) (S : PSt), (roundsP body nm q i S).opn.length = S.opn.length
  | 0, _, _ => rfl
  | q + 1, i, _ => (rounds_len hb q (i + 1) _).trans (hb _)
theorem st_len (D : PD) : ∀ (n : Nat) (s : Sx), szS s ≤ n → ∀ S, (stP D s S).opn.length = S.opn.length
  | _, .nil, _, _ => rfl
  | 0, .node _ _ _ _ _, h, _ => by simp [szS] at h
  | n + 1, .node b o p k r, h, S => by
    by_cases h0 : 20000 < S.steps
    · rw [stP_over h0]
    have hr : szS r ≤ n := by simp only [szS] at h; omega
    have hk : szS k ≤ n := by simp only [szS] at h; omega
    cases k with
    | nil =>
      show (if 20000 < S.steps then S else stP D r _).opn.length = _
      rw [if_neg h0, st_len D n r hr]
      split
      · exact ev_len D p.e S
      split
      · exact ev_len D p.e S
      split
      · exact rounds_len (fun T => rfl) _ _ _
      · rw [put_len]; exact ev_len D p.e S
    | node b1 o1 q s u =>
      have hs : szS s ≤ n := by simp only [szS] at hk; omega
      have hu : szS u ≤ n := by simp only [szS] at hk; omega
      show (if 20000 < S.steps then S else stP D r _).opn.length = _
      rw [if_neg h0, st_len D n r hr]
      split
      · exact ev_len D p.e S
      split
      · show (if _ then _ else _ : PSt).opn.length = _
        split
        · rw [st_len D n s hs]; exact ev_len D p.e S
        · rw [st_len D n u hu]; exact ev_len D p.e S
      split
      · exact rounds_len (fun T => st_len D n _ hk T) _ _ _
      · rw [put_len]; exact ev_len D p.e S
theorem go_len (D : PD) (t : Sx) : ∀ (l : List (Int × Int)) (S T : PSt), goP D t l S = some T → T.opn.length = S.opn.length
  | [], S, T, h => by cases h; rfl
  | x :: l, S, T, h => by
    rw [goP] at h
    split at h
    · cases h
    · rw [go_len D t l _ T h]; exact st_len D _ t (Nat.le_refl _) _
def opnO : Option PSt → List Int
  | none => []
  | some S => S.opn
def trO : Option PSt → List (Int × Int)
  | none => []
  | some S => S.trace
def stO : Option PSt → Int
  | none => 0
  | some S => S.steps
def ttO : Option PSt → Int
  | none => 0
  | some S => S.touched
def hlO : Option PSt → Nat
  | none => 0
  | some S => S.hid.length
theorem LoO.eqs {H : List ByteArray} {r r' : Option PSt} (h : LoO H r r') : opnO r' = opnO r ∧ trO r' = trO r ∧ stO r' = stO r ∧ ttO r' = ttO r ∧ hlO r' = hlO r := by
  cases r with
  | none =>
    cases r' with
    | none => exact ⟨rfl, rfl, rfl, rfl, rfl⟩
    | some T => cases h
  | some S =>
    cases r' with
    | none => cases h
    | some T => exact ⟨h.opn.symm, h.trace.symm, h.steps.symm, h.touched.symm, h.hid.symm⟩
theorem ans_len {sw sh : Int} {xs ys : List Int} {src : ByteArray} {E P : Int} {r : Option PSt} (h : Ans sw sh xs ys src E P r) : (opnO r).length ≤ sw.toNat * sh.toNat := by
  rcases h with ⟨_, _, _, rfl⟩ | ⟨_, _, _, _, rfl⟩ | ⟨_, _, _, ds, t, _, hr, _⟩
  · exact Nat.zero_le _
  · exact Nat.zero_le _
  · cases r with
    | none => exact Nat.zero_le _
    | some S =>
      show S.opn.length ≤ _
      rw [go_len _ _ _ _ _ hr.symm]
      show (List.replicate _ _).length ≤ _
      rw [List.length_replicate]
      exact Nat.le_refl _
theorem tchs_get : ∀ (l : List (Int × Int)) (j : Nat), j < l.length → (tchsC l)[j * 2]? = some (.int .i64 (l.getD j (0, 0)).1) ∧ (tchsC l)[j * 2 + 1]? = some (.int .i64 (l.getD j (0, 0)).2)
  | [], j, h => by simp at h
  | t :: l, 0, _ => ⟨rfl, rfl⟩
  | t :: l, j + 1, h => by
    have := tchs_get l j (by simpa using h)
    have e : tchsC (t :: l) = .int .i64 t.1 :: .int .i64 t.2 :: tchsC l := rfl
    rw [e, show (j + 1) * 2 = j * 2 + 1 + 1 by omega]
    simpa using this
theorem PntRes.view {w : World} {E P : Int} {r : Option PSt} {e : Ending} {w' : World} (h : PntRes w E P r e w') : ∃ ao c bo d to f, e = .returned (.tuple #[.agg #[.slice ao (opnO r).length c, .slice bo (hlO r) d, .int .i64 (stO r), .int .i64 (ttO r), .slice to (trO r).length f], .int .i64 E, .int .i64 P]) ∧ IntsAt w'.heap.size w' ao (opnO r) ∧ TrAt w'.heap.size w' to (trO r) ∧ (trO r).length ≤ maxLen ∧ Below w.heap.size w w' := by
  cases r with
  | none => exact ⟨none, 0, none, 0, none, 0, h.2, .inl rfl, .inl rfl, Nat.zero_le _, h.1⟩
  | some S =>
    obtain ⟨hb, ob, hb', rv, he, ho, _, hr, _⟩ := h
    have i1 : IntsAt w'.heap.size w' (some ⟨ob, 0, none⟩) S.opn := by
      refine .inr ⟨ob, 0, rfl, (Array.getElem?_eq_some_iff.1 ho).1, fun j hj => ?_⟩
      rw [Nat.zero_add]; exact (pic_cell ho hj).1
    have hr' := hr
    rcases hr.2 with ⟨h1, h0⟩ | ⟨g, cap, cur, rfl, _, _, k1, k2, _⟩
    · rw [h1] at he
      have h2 : S.trace = [] := List.eq_nil_of_length_eq_zero h0
      refine ⟨some ⟨ob, 0, none⟩, S.opn.length, some ⟨hb', 0, none⟩, S.hid.length, none, 0, ?_, i1, .inl h2, ?_, hb⟩
      · rw [he]; simp [opnO, hlO, stO, ttO, trO, h2]
      · show S.trace.length ≤ _; rw [h0]; exact Nat.zero_le _
    · refine ⟨_, _, _, _, _, cap, he, i1, .inr ⟨g, rfl, (hr'.lt g rfl).2, fun j hj => ?_⟩, Nat.le_trans k1 k2, hb⟩
      have hj' : j < S.trace.length := hj
      obtain ⟨t1, t2⟩ := tchs_get S.trace j hj'
      exact ⟨(hr'.cellAt _ (by omega)).trans t1, (hr'.cellAt _ (by omega)).trans t2⟩
end Go.Proofs.Ythmmgiaobakilaa
