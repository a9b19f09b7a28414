/- Proved here: for every scene Writes answers true, and the scene reads as it did. No condition. -/
import Derived.Test.YthmmgiaobakilaaArgs
import Derived.Test.YthmmgiaobakilaaEncode
import Derived.Test.YthmmgiaobakilaaRefWrite
set_option maxRecDepth 100000
namespace Go.Proofs.Ythmmgiaobakilaa
open Go.ChangeShapes Go.WideShapes Go.ChangeAt Go.RowKit

set_option maxHeartbeats 1000000 in
theorem writes_walk (W H : Int) (ao bo : Option Addr) (c d : Nat) (xs ys : List Int) (src : ByteArray) (w : World) (hx : IntsAt w.heap.size w ao xs) (hy : IntsAt w.heap.size w bo ys) (hlx : xs.length ≤ maxLen) (hly : ys.length ≤ maxLen) (hs : src.size ≤ maxLen) :
    Calls Try.prog 3 #[.agg #[.int .i64 W, .int .i64 H, .slice ao xs.length c, .slice bo ys.length d, .string src]] w fun e w' => e = .returned (.bool true) ∧ Below w.heap.size w w' := by
  have hb : ∀ o, Below w.heap.size w (w.alloc o) := fun o => (Below.refl _ _).alloc (Nat.le_refl _) o
  go_enter Try.func3, Try.ntmps3
  go_wp2_with fail
  refine (encode_any W H ao bo c d xs ys src _ ((hx.later (hb _) (Nat.le_refl _)).mono (by simp)) ((hy.later (hb _) (Nat.le_refl _)).mono (by simp)) hlx hly hs).mono ?_
  rintro e w' ⟨rfl, hw⟩
  obtain ⟨k0, k1, k2, k3, k4, hz⟩ := box5 hw
  have hw' := (hb _).trans (hw.mono (by simp))
  have hx' := (hx.later hw' (Nat.le_refl _)).mono (Nat.le_of_lt hz)
  have hy' := (hy.later hw' (Nat.le_refl _)).mono (Nat.le_of_lt hz)
  clear hw hx hy
  go_wp2_with fail
  refine (refencode_any W H ao bo c d xs ys src _ hx' hy' hlx hly hs).mono ?_
  rintro e w2 ⟨rfl, hw2⟩
  have hw3 := hw'.trans (hw2.mono (Nat.le_of_lt hz))
  clear k0 k1 k2 k3 k4 hx' hy' hw2
  generalize encS W H xs ys src = S
  generalize encE W H xs ys src = E
  go_wp2
  go_ret
  exact ⟨rfl, hw3⟩

set_option maxRecDepth 100000 in
theorem writes_lifted (os : Os) (started : os.Started) (H : Type) (enc : TypeId × Value → H) :
    ReturnsInHanded {} Try.checked os 3 .any (Rows.writesSpec.pre6 enc Try.prog Try.f3 Rows.writesRow.domain false) (Rows.writesSpec.post enc Try.prog Try.f3 false true false false) := by
  refine returnsInHanded_of_change (C := Try.checked) own started (by kernel_rfl) Try.func3
    (ChangeSpec.witness6 (enc := enc) (C := Try.checked) false ⟨#[], #[.agg #[.int .i64 0, .int .i64 0, .slice none 0 0, .slice none 0 0, .string .empty]], []⟩ 8 (by kernel_rfl) (by kernel_rfl) (by kernel_rfl) (by kernel_rfl)) ?_
  intro W base args ds gs before hval0 hW _ _
  have hval : ∀ (j : Nat) t v, Try.f3.params[j]? = some t → args[j]? = some v → Value.okWide Try.prog W .any base t v := hval0
  have hW' := hW
  obtain ⟨p, q, hA0, hV, rfl, hfz, hnd⟩ := hW
  have hA : DataW.TrodAll enc Try.prog W 0 (fun _ => true) true Try.f3.params.toList args.toList ds p := hA0
  rw [Try.params3] at hA hval
  obtain ⟨v0, vs0, d0, ds0, p0, q0, hargs, rfl, rfl, h0, r0⟩ := trodAll_cons hA
  obtain ⟨rfl, rfl, rfl⟩ := trodAll_nil r0
  obtain rfl : args = #[v0] := by cases args; simp_all
  obtain ⟨rfl, rfl⟩ := trodVars_none hV
  have k0 := h0
  have lt0 : ∀ x ∈ p0, x.block < W.heap.size := by obtain ⟨m, hm⟩ := k0; exact DataW.trod_lt m _ _ _ hm
  obtain ⟨sw, sh, ao, bo, c, e, xs, ys, src, rfl, hx, hy, lx, ly, ls, _, _, _, _⟩ := open_scene (hval 0 24 v0 rfl rfl) h0
  clear hA0 hval0
  refine (writes_walk sw sh ao bo c e xs ys src W hx hy lx ly ls).mono fun e W' ⟨he, bel⟩ => ?_
  subst he
  exact ⟨_, rfl, _, _, _, [], _, [], hW', trodAll_mk1 (shut_bool Try.underlying4 _), (trodAll_cons_mk (Below.trod laidOut (by kernel_rfl) (of_decide_eq_true (by kernel_rfl)) k0 bel lt0) trodAll_mk0), rfl, bel.frame _, fun h => by cases h⟩

theorem writes_holds : Rows.WritesSaid :=
  OpenClaim.holds_of_wide 3 Try.f3 rfl rfl rfl rfl rfl rfl rfl ⟨rfl, rfl, rfl, rfl, rfl⟩ rfl rfl rfl rfl rfl (by kernel_rfl) Try.func3 (by kernel_rfl)
    (of_decide_eq_true (by kernel_rfl)) (by unfold Func.isWrapper; first | (rw [if_pos (by decide +kernel)]; kernel_rfl) | (rw [if_neg (by decide +kernel)]; exact ⟨rfl, rfl⟩))
    (fun os started H enc _ => writes_lifted os started H enc)
#print axioms writes_holds

end Go.Proofs.Ythmmgiaobakilaa
