/- Proved here: for every text Reads answers true, and the text reads as it did. No condition. -/
import Derived.Test.YthmmgiaobakilaaArgs
import Derived.Test.YthmmgiaobakilaaDecode
import Derived.Test.YthmmgiaobakilaaSame
set_option maxRecDepth 100000
namespace Go.Proofs.Ythmmgiaobakilaa
open Go.ChangeShapes Go.WideShapes Go.ChangeAt Go.RowKit
open Go.ChangeMaps (open_string shut_string)

theorem box5' (w : World) (c0 c1 c2 c3 c4 : Value) : Blk5 (w.alloc (.cells #[c0, c1, c2, c3, c4] 24)) w.heap.size c0 c1 c2 c3 c4 := heap_alloc_new w _

set_option maxHeartbeats 1000000 in
theorem samescene_any (W H : Int) (ao bo a2 b2 : Option Addr) (c d c2 d2 : Nat) (xs ys : List Int) (src : ByteArray) (w : World) (hx : IntsAt w.heap.size w ao xs) (hy : IntsAt w.heap.size w bo ys) (hx2 : IntsAt w.heap.size w a2 xs) (hy2 : IntsAt w.heap.size w b2 ys) (hlx : xs.length ≤ 1000) (hly : ys.length ≤ 1000) :
    Calls Try.prog 16 #[.agg #[.int .i64 W, .int .i64 H, .slice ao xs.length c, .slice bo ys.length d, .string src], .agg #[.int .i64 W, .int .i64 H, .slice a2 xs.length c2, .slice b2 ys.length d2, .string src]] w fun e w' => e = .returned (.bool true) ∧ Below w.heap.size w w' := by
  have hb := fun o1 o2 => below_two w o1 o2
  go_enter Try.func16, Try.ntmps16
  go_wp2_with fail
  refine (same_law ao a2 c c2 xs _ ((hx.later (hb _ _) (Nat.le_refl _)).mono (by simp; omega)) ((hx2.later (hb _ _) (Nat.le_refl _)).mono (by simp; omega)) hlx).mono ?_
  rintro e w1 ⟨rfl, hb1⟩
  have hk1 := (blk_two w (.int .i64 W) (.int .i64 H) (.slice ao xs.length c) (.slice bo ys.length d) (.string src) (.cells #[.int .i64 W, .int .i64 H, .slice a2 xs.length c2, .slice b2 ys.length d2, .string src] 24)).later hb1 (by simp; omega)
  have hk2 := (box5' (w.alloc (.cells #[.int .i64 W, .int .i64 H, .slice ao xs.length c, .slice bo ys.length d, .string src] 24)) (.int .i64 W) (.int .i64 H) (.slice a2 xs.length c2) (.slice b2 ys.length d2) (.string src)).later hb1 (by simp)
  simp only [World.size_alloc] at hk2
  have hbw1 := (hb _ _).trans (hb1.mono (by simp; omega))
  obtain ⟨⟨x0, x1, x2, x3, x4⟩, _⟩ := hk1.all
  obtain ⟨⟨y0, y1, y2, y3, y4⟩, _⟩ := hk2.all
  have hz := hk2.lt
  clear hb hb1
  go_wp2_with fail
  refine (same_law bo b2 d d2 ys _ ((hy.later hbw1 (Nat.le_refl _)).mono (by omega)) ((hy2.later hbw1 (Nat.le_refl _)).mono (by omega)) hly).mono ?_
  rintro e w2 ⟨rfl, hb2⟩
  replace hk1 := hk1.later hb2 hk1.lt
  replace hk2 := hk2.later hb2 hk2.lt
  have hbw2 := hbw1.trans (hb2.mono (by omega))
  clear x0 x1 x2 x3 x4 y0 y1 y2 y3 y4 hb2 hbw1
  obtain ⟨⟨x0, x1, x2, x3, x4⟩, _⟩ := hk1.all
  obtain ⟨⟨y0, y1, y2, y3, y4⟩, _⟩ := hk2.all
  go_wp2
  go_ret
  exact ⟨rfl, hbw2⟩

theorem tE_long {n : Nat} {M : List Int} (h : tE n M = 0) : 2 + 2 * n ≤ M.length := by
  unfold tE at h
  split at h
  · cases h
  · omega
theorem side_small {x y : Int} (hx : sideB x = true) (hy : sideB y = true) : (x * y).toNat ≤ 36 := by
  have := side_mul hx hy
  omega

/-- Two answers of one reading, in one world, are the same scene, and the same error. -/
theorem two_outs {b1 b2 : Nat} {L : List Int} {e1 e2 : Ending} {w : World} (h1 : DecOut b1 L e1 w) (h2 : DecOut b2 L e2 w) :
    ∃ W H ao bo a2 b2 c d c2 d2 xs ys src E, e1 = .returned (.tuple #[.agg #[.int .i64 W, .int .i64 H, .slice ao xs.length c, .slice bo ys.length d, .string src], .int .i64 E]) ∧
      e2 = .returned (.tuple #[.agg #[.int .i64 W, .int .i64 H, .slice a2 xs.length c2, .slice b2 ys.length d2, .string src], .int .i64 E]) ∧
      IntsAt w.heap.size w ao xs ∧ IntsAt w.heap.size w bo ys ∧ IntsAt w.heap.size w a2 xs ∧ IntsAt w.heap.size w b2 ys ∧ xs.length ≤ 1000 ∧ ys.length ≤ 1000 := by
  rcases h1 with ⟨h0, rfl⟩ | ⟨x, y, M, ao, bo, c, d, src, hL, sx, sy, ht, rfl, hs, i1, i2, _, _⟩
  · rcases h2 with ⟨_, rfl⟩ | ⟨x, y, M, ao, bo, c, d, src, hL, sx, sy, ht, rfl, _⟩
    · exact ⟨0, 0, none, none, none, none, 0, 0, 0, 0, [], [], ⟨#[]⟩, dE L, rfl, rfl, .inl rfl, .inl rfl, .inl rfl, .inl rfl, by simp, by simp⟩
    · exact absurd (by rw [hL]; simp [dE, sx, sy, ht]) h0
  · have hd : dE L = 0 := by rw [hL]; simp [dE, sx, sy, ht]
    rcases h2 with ⟨h0, _⟩ | ⟨x', y', M', ao', bo', c', d', src', hL', sx', sy', ht', rfl, hs', i1', i2', _, _⟩
    · exact absurd hd h0
    · rw [hL] at hL'
      simp only [List.cons.injEq, true_and] at hL'
      obtain ⟨rfl, rfl, rfl⟩ := hL'
      have hsrc : src = src' := by rw [← nums_back src, ← nums_back src', hs, hs']
      subst hsrc
      have hlen := tE_long ht
      have h36 := side_small sx sy
      have l1 : (M.take (x * y).toNat).length = (x * y).toNat := by rw [List.length_take]; omega
      have l2 : ((M.drop (x * y).toNat).take (x * y).toNat).length = (x * y).toNat := by rw [List.length_take, List.length_drop]; omega
      refine ⟨x, y, ao, bo, ao', bo', c, d, c', d', M.take (x * y).toNat, (M.drop (x * y).toNat).take (x * y).toNat, src, 0, ?_, ?_, i1, i2, i1', i2', by omega, by omega⟩
      · rw [l1, l2]
      · rw [l1, l2]

set_option maxHeartbeats 1000000 in
theorem reads_walk (b : ByteArray) (w : World) (hs : b.size ≤ maxLen) :
    Calls Try.prog 4 #[.string b] w fun e w' => e = .returned (.bool true) ∧ Below w.heap.size w w' := by
  go_enter Try.func4, Try.ntmps4
  go_wp2_with fail
  refine (decode_any b _ hs).mono ?_
  rintro e w1 ⟨hd1, hb1⟩
  obtain ⟨x, y, a, n, c, b', m, d, s, E, rfl⟩ := hd1.value
  go_wp2_with fail
  have hk := box5' w1 (.int .i64 x) (.int .i64 y) (.slice a n c) (.slice b' m d) (.string s)
  have hba : ∀ o, Below w1.heap.size w1 (w1.alloc o) := fun o => (Below.refl _ _).alloc (Nat.le_refl _) o
  refine (refdecode_any b _ hs).mono ?_
  rintro e w2 ⟨hd2, hb2⟩
  replace hk := hk.later hb2 hk.lt
  have hb12 := (hba _).trans (hb2.mono (by simp))
  obtain ⟨W, H, ao, bo, a2, b2, c1, d1, c2, d2, xs, ys, src, E', h1, rfl, i1, i2, i3, i4, l1, l2⟩ := two_outs (hd1.later hb12) hd2
  simp only [Ending.returned.injEq, Value.tuple.injEq, Array.mk.injEq, List.cons.injEq, Value.agg.injEq, Value.int.injEq, Value.slice.injEq, Value.string.injEq, true_and, and_true] at h1
  obtain ⟨⟨rfl, rfl, ⟨rfl, rfl, rfl⟩, ⟨rfl, rfl, rfl⟩, rfl⟩, rfl⟩ := h1
  have hbw2 := hb1.trans (hb12.mono hb1.size)
  obtain ⟨⟨k0, k1, k2, k3, k4⟩, _⟩ := hk.all
  have hz := hk.lt
  clear hd1 hd2 hb1 hb2 hb12 hba hk
  go_wp2_with fail
  have hbc : ∀ o, Below w2.heap.size w2 (w2.alloc o) := fun o => (Below.refl _ _).alloc (Nat.le_refl _) o
  refine (samescene_any x y a b' a2 b2 c d c2 d2 xs ys s _ ((i1.later (hbc _) (Nat.le_refl _)).mono (by simp)) ((i2.later (hbc _) (Nat.le_refl _)).mono (by simp)) ((i3.later (hbc _) (Nat.le_refl _)).mono (by simp)) ((i4.later (hbc _) (Nat.le_refl _)).mono (by simp)) l1 l2).mono ?_
  rintro e w3 ⟨rfl, hb3⟩
  have hbw3 := hbw2.trans (((hbc _).trans (hb3.mono (by simp))).mono hbw2.size)
  clear k0 k1 k2 k3 k4 i1 i2 i3 i4 hbw2 hbc hb3
  go_wp2
  go_ret
  exact ⟨rfl, hbw3⟩

set_option maxRecDepth 100000 in
theorem reads_lifted (os : Os) (started : os.Started) (H : Type) (enc : TypeId × Value → H) :
    ReturnsInHanded {} Try.checked os 4 .any (Rows.readsSpec.pre6 enc Try.prog Try.f4 Rows.readsRow.domain false) (Rows.readsSpec.post enc Try.prog Try.f4 false true false false) := by
  refine returnsInHanded_of_change (C := Try.checked) own started (by kernel_rfl) Try.func4
    (ChangeSpec.witness6 (enc := enc) (C := Try.checked) false ⟨#[], #[.string .empty], []⟩ 8 (by kernel_rfl) (by kernel_rfl) (by kernel_rfl) (by kernel_rfl)) ?_
  intro W base args ds gs before hval0 hW _ _
  have hval : ∀ (j : Nat) t v, Try.f4.params[j]? = some t → args[j]? = some v → Value.okWide Try.prog W .any base t v := hval0
  have hW' := hW
  obtain ⟨p, q, hA0, hV, rfl, hfz, hnd⟩ := hW
  have hA : DataW.TrodAll enc Try.prog W 0 (fun _ => true) true Try.f4.params.toList args.toList ds p := hA0
  rw [Try.params4] at hA hval
  obtain ⟨v0, vs0, d0, ds0, p0, q0, hargs, rfl, rfl, h0, r0⟩ := trodAll_cons hA
  obtain ⟨rfl, rfl, rfl⟩ := trodAll_nil r0
  obtain rfl : args = #[v0] := by cases args; simp_all
  obtain ⟨rfl, rfl⟩ := trodVars_none hV
  have k0 := h0
  have lt0 : ∀ x ∈ p0, x.block < W.heap.size := by obtain ⟨m, hm⟩ := k0; exact DataW.trod_lt m _ _ _ hm
  obtain ⟨b, rfl, _, _, hs⟩ := open_string Try.underlying9 (hval 0 9 v0 rfl rfl) h0
  clear hA0 hval0
  refine (reads_walk b W hs).mono fun e W' ⟨he, bel⟩ => ?_
  subst he
  exact ⟨_, rfl, _, _, _, [], _, [], hW', trodAll_mk1 (shut_bool Try.underlying4 _), (trodAll_cons_mk (Below.trod laidOut (by kernel_rfl) (of_decide_eq_true (by kernel_rfl)) k0 bel lt0) trodAll_mk0), rfl, bel.frame _, fun h => by cases h⟩

theorem reads_holds : Rows.ReadsSaid :=
  OpenClaim.holds_of_wide 4 Try.f4 rfl rfl rfl rfl rfl rfl rfl ⟨rfl, rfl, rfl, rfl, rfl⟩ rfl rfl rfl rfl rfl (by kernel_rfl) Try.func4 (by kernel_rfl)
    (of_decide_eq_true (by kernel_rfl)) (by unfold Func.isWrapper; first | (rw [if_pos (by decide +kernel)]; kernel_rfl) | (rw [if_neg (by decide +kernel)]; exact ⟨rfl, rfl⟩))
    (fun os started H enc _ => reads_lifted os started H enc)
#print axioms reads_holds

end Go.Proofs.Ythmmgiaobakilaa
