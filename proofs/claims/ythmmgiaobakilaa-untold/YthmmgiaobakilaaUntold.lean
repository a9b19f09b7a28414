/- Proved here: for every source, sides and raw numbers Untold answers true, and what it was handed reads as it did. No condition. -/
import Derived.Test.YthmmgiaobakilaaJ52
import Derived.Test.YthmmgiaobakilaaJ53
set_option maxRecDepth 100000
namespace Go.Proofs.Ythmmgiaobakilaa
open Go.ChangeShapes Go.WideShapes Go.ChangeAt Go.RowKit Go.Deep
open Go.ChangeMaps (open_string shut_string)

theorem wf_in64 {n : Int} (h : (Lit.int .i64 n).wf = true) : In64 n := by
  simp [Lit.wf] at h
  have e1 : IntKind.i64.min = -9223372036854775808 := by decide
  rw [e1] at h
  exact h
theorem ints64_of_trod {H : Type} {enc : TypeId × Value → H} {w : World} {n : Nat} {v : Value} {y : DataW H × List MemPlace} (h : DataW.trod enc Try.prog w 0 (fun _ => true) true n 22 [v] = some y) :
    ∃ ao c xs, v = .slice ao xs.length c ∧ IntsAt w.heap.size w ao xs ∧ ∀ x ∈ xs, In64 x := by
  rcases open_ints Try.underlying22 Try.underlying3 (by kernel_rfl) h with ⟨hcs, _⟩ | ⟨x, l, c, zs, hcs, _, hl, hm, hz, _, hcell, hwf⟩
  · simp at hcs
    exact ⟨none, 0, [], by simpa using hcs, .inl rfl, fun x hx => by cases hx⟩
  · simp at hcs
    simp only [if_true] at hz
    have hlen : (zs.take l).length = l := by rw [List.length_take]; omega
    refine ⟨some x, c, zs.take l, by rw [hlen]; exact hcs, ?_, fun x hx => wf_in64 (hwf x (List.mem_of_mem_take hx))⟩
    by_cases h0 : l = 0
    · left
      rw [h0, List.take_zero]
    · right
      obtain ⟨b, off, spot⟩ := x
      have hc := hcell 0 (by omega)
      have hspot : spot = none := by simpa [Addr.add] using World.cell?_spot hc
      subst hspot
      have hc' : ∀ j, j < l → w.cell? ⟨b, off + j, none⟩ = some (.int .i64 (zs.getD j 0)) := fun j hj => by
        have := hcell j (by omega)
        have hadd : (⟨b, off, none⟩ : Addr).add j = ⟨b, off + j, none⟩ := by unfold Addr.add; split <;> simp_all
        rwa [hadd] at this
      refine ⟨b, off, rfl, World.block_lt_of_cell? w _ (hc' 0 (by omega)), fun j hj => ?_⟩
      rw [hc' j (by omega)]
      simp only [List.getD, List.getElem?_take]
      rw [if_pos (by omega)]
theorem open_list {H : Type} {enc : TypeId × Value → H} {w : World} {r : Reach} {b0 : Nat} {v : Value} {d : DataW H} {p : List MemPlace} (hv : Value.okWide Try.prog w r b0 22 v) (h : DataW.Trod enc Try.prog w 0 (fun _ => true) true 22 v d p) :
    ∃ ao c xs, v = .slice ao xs.length c ∧ IntsAt w.heap.size w ao xs ∧ ∀ x ∈ xs, In64 x := by
  obtain ⟨ao, n, c, rfl⟩ := okWide_slice Try.underlying22 hv
  obtain ⟨fuel, hf⟩ := h
  exact ints64_of_trod (by simpa [Value.cells] using hf)
set_option maxHeartbeats 1000000 in
theorem untold_walk (s : ByteArray) (a b : Int) (ao bo oo : Option Addr) (c1 c2 c3 : Nat) (xs ys zs : List Int) (w : World) (hs : s.size ≤ maxLen) (ha : In64 a) (hb : In64 b) (hx : IntsAt w.heap.size w ao xs) (hy : IntsAt w.heap.size w bo ys) (hz : IntsAt w.heap.size w oo zs) (x64 : ∀ x ∈ xs, In64 x) (y64 : ∀ x ∈ ys, In64 x) (z64 : ∀ x ∈ zs, In64 x) :
    Calls Try.prog 7 #[.string s, .int .i64 a, .int .i64 b, .slice ao xs.length c1, .slice bo ys.length c2, .slice oo zs.length c3] w fun e w' => e = .returned (.bool true) ∧ Below w.heap.size w w' := by
  go_enter Try.func7, Try.ntmps7
  go_wp2_with fail
  refine (checking_any _).mono ?_
  rintro e w1 ⟨rfl, b1⟩
  go_wp2_with fail
  refine (painting_any _).mono ?_
  rintro e w2 ⟨rfl, b2⟩
  have b2' := b1.trans (b2.mono b1.size)
  have h2 := b2'.size
  go_wp2_with fail
  refine (sceneK_any _ a b ao bo c1 c2 xs ys s ha hb ((hx.later b2' (Nat.le_refl _)).mono h2) ((hy.later b2' (Nat.le_refl _)).mono h2) x64 y64).mono ?_
  rintro e w3 ⟨n, so, sd, d1, d2, hn, n1, n2, rfl, i1, i2, b3⟩
  have b3' := b2'.trans (b3.mono h2)
  have h3 := b3'.size
  have p1 := pick_in (c := a) (n := 6) (by decide)
  have p2 := pick_in (c := b) (n := 6) (by decide)
  have U := hide (untold_any w3 (1 + pickV a 6) (1 + pickV b 6) so sd oo d1 d2 c3 (texsV xs n) (texsV ys n) zs s n ⟨by omega, by omega⟩ ⟨by omega, by omega⟩ hn n1 n2 (texs_len _ _) (texs_len _ _) (texs_all _ _) (texs_all _ _) i1 i2 ((hz.later b3' (Nat.le_refl _)).mono h3) z64 hs)
  clear hn i1 i2 p1 p2 hx hy hz x64 y64 z64 b1 b2 b3 b2' h2
  go_wp2_with fail
  refine (unhide U).mono ?_
  rintro e w4 ⟨rfl, b4⟩
  have b4' := b3'.trans (b4.mono h3)
  clear U b3' b4 h3
  go_wp2
  go_ret
  exact ⟨rfl, b4'⟩

set_option maxRecDepth 100000 in
theorem untold_lifted (os : Os) (started : os.Started) (H : Type) (enc : TypeId × Value → H) :
    ReturnsInHanded {} Try.checked os 7 .any (Rows.untoldSpec.pre6 enc Try.prog Try.f7 Rows.untoldRow.domain false) (Rows.untoldSpec.post enc Try.prog Try.f7 false true false false) := by
  refine returnsInHanded_of_change (C := Try.checked) own started (by kernel_rfl) Try.func7
    (ChangeSpec.witness6 (enc := enc) (C := Try.checked) false ⟨#[], #[.string .empty, .int .i64 0, .int .i64 0, .slice none 0 0, .slice none 0 0, .slice none 0 0], []⟩ 8 (by kernel_rfl) (by kernel_rfl) (by kernel_rfl) (by kernel_rfl)) ?_
  intro W base args ds gs before hval0 hW _ _
  have hval : ∀ (j : Nat) t v, Try.f7.params[j]? = some t → args[j]? = some v → Value.okWide Try.prog W .any base t v := hval0
  have hW' := hW
  obtain ⟨p, q, hA0, hV, rfl, hfz, hnd⟩ := hW
  have hA : DataW.TrodAll enc Try.prog W 0 (fun _ => true) true Try.f7.params.toList args.toList ds p := hA0
  rw [Try.params7] at hA hval
  obtain ⟨v0, vs0, d0, ds0, p0, q0, hargs, rfl, rfl, h0, r0⟩ := trodAll_cons hA
  obtain ⟨v1, vs1, d1, ds1, p1, q1, rfl, rfl, rfl, h1, r1⟩ := trodAll_cons r0
  obtain ⟨v2, vs2, d2, ds2, p2, q2, rfl, rfl, rfl, h2, r2⟩ := trodAll_cons r1
  obtain ⟨v3, vs3, d3, ds3, p3, q3, rfl, rfl, rfl, h3, r3⟩ := trodAll_cons r2
  obtain ⟨v4, vs4, d4, ds4, p4, q4, rfl, rfl, rfl, h4, r4⟩ := trodAll_cons r3
  obtain ⟨v5, vs5, d5, ds5, p5, q5, rfl, rfl, rfl, h5, r5⟩ := trodAll_cons r4
  obtain ⟨rfl, rfl, rfl⟩ := trodAll_nil r5
  obtain rfl : args = #[v0, v1, v2, v3, v4, v5] := by cases args; simp_all
  obtain ⟨rfl, rfl⟩ := trodVars_none hV
  have k0 := h0
  have lt0 : ∀ x ∈ p0, x.block < W.heap.size := by obtain ⟨m, hm⟩ := k0; exact DataW.trod_lt m _ _ _ hm
  have k1 := h1
  have lt1 : ∀ x ∈ p1, x.block < W.heap.size := by obtain ⟨m, hm⟩ := k1; exact DataW.trod_lt m _ _ _ hm
  have k2 := h2
  have lt2 : ∀ x ∈ p2, x.block < W.heap.size := by obtain ⟨m, hm⟩ := k2; exact DataW.trod_lt m _ _ _ hm
  have k3 := h3
  have lt3 : ∀ x ∈ p3, x.block < W.heap.size := by obtain ⟨m, hm⟩ := k3; exact DataW.trod_lt m _ _ _ hm
  have k4 := h4
  have lt4 : ∀ x ∈ p4, x.block < W.heap.size := by obtain ⟨m, hm⟩ := k4; exact DataW.trod_lt m _ _ _ hm
  have k5 := h5
  have lt5 : ∀ x ∈ p5, x.block < W.heap.size := by obtain ⟨m, hm⟩ := k5; exact DataW.trod_lt m _ _ _ hm
  obtain ⟨s, rfl, _, _, hs⟩ := open_string Try.underlying9 (hval 0 9 v0 rfl rfl) h0
  obtain ⟨a, rfl, _, _, ha⟩ := open_int Try.underlying3 (hval 1 3 v1 rfl rfl) h1
  obtain ⟨b, rfl, _, _, hb⟩ := open_int Try.underlying3 (hval 2 3 v2 rfl rfl) h2
  obtain ⟨ao, c1, xs, rfl, hx, x64⟩ := open_list (hval 3 22 v3 rfl rfl) h3
  obtain ⟨bo, c2, ys, rfl, hy, y64⟩ := open_list (hval 4 22 v4 rfl rfl) h4
  obtain ⟨oo, c3, zs, rfl, hz, z64⟩ := open_list (hval 5 22 v5 rfl rfl) h5
  clear hA0 hval0
  refine (untold_walk s a b ao bo oo c1 c2 c3 xs ys zs W hs (wf_in64 ha) (wf_in64 hb) hx hy hz x64 y64 z64).mono fun e W' ⟨he, bel⟩ => ?_
  subst he
  exact ⟨_, rfl, _, _, _, [], _, [], hW', trodAll_mk1 (shut_bool Try.underlying4 _), (trodAll_cons_mk (Below.trod laidOut (by kernel_rfl) (of_decide_eq_true (by kernel_rfl)) k0 bel lt0) (trodAll_cons_mk (Below.trod laidOut (by kernel_rfl) (of_decide_eq_true (by kernel_rfl)) k1 bel lt1) (trodAll_cons_mk (Below.trod laidOut (by kernel_rfl) (of_decide_eq_true (by kernel_rfl)) k2 bel lt2) (trodAll_cons_mk (Below.trod laidOut (by kernel_rfl) (of_decide_eq_true (by kernel_rfl)) k3 bel lt3) (trodAll_cons_mk (Below.trod laidOut (by kernel_rfl) (of_decide_eq_true (by kernel_rfl)) k4 bel lt4) (trodAll_cons_mk (Below.trod laidOut (by kernel_rfl) (of_decide_eq_true (by kernel_rfl)) k5 bel lt5) trodAll_mk0)))))), rfl, bel.frame _, fun h => by cases h⟩

theorem untold_holds : Rows.UntoldSaid :=
  OpenClaim.holds_of_wide 7 Try.f7 rfl rfl rfl rfl rfl rfl rfl ⟨rfl, rfl, rfl, rfl, rfl⟩ rfl rfl rfl rfl rfl (by kernel_rfl) Try.func7 (by kernel_rfl)
    (of_decide_eq_true (by kernel_rfl)) (by unfold Func.isWrapper; first | (rw [if_pos (by decide +kernel)]; kernel_rfl) | (rw [if_neg (by decide +kernel)]; exact ⟨rfl, rfl⟩))
    (fun os started H enc _ => untold_lifted os started H enc)
#print axioms untold_holds

end Go.Proofs.Ythmmgiaobakilaa
