import Derived.Test.YthmmgiaobakilaaJ44
import Derived.Test.YthmmgiaobakilaaJ45
/- The law's own functions: pick, texels. -/
set_option maxRecDepth 100000
namespace Go.Proofs.Ythmmgiaobakilaa
open Go.RowKit Go.Deep

def In64 (x : Int) : Prop := -9223372036854775808 ≤ x ∧ x ≤ 9223372036854775807
def pickV (c n : Int) : Int := (if c < 0 then -(c + 1) else c) % n
theorem pick_in {c n : Int} (hn : 0 < n) : 0 ≤ pickV c n ∧ pickV c n < n := by
  unfold pickV
  exact ⟨Int.emod_nonneg _ (by omega), Int.emod_lt_of_pos _ hn⟩
set_option maxHeartbeats 1000000 in
theorem pick_any' (w : World) (c n : Int) (hc : In64 c) (hn : n = 6 ∨ n = 256) : Calls Try.prog 26 #[.int .i64 c, .int .i64 n] w fun e w' => (∃ v, v = pickV c n ∧ e = .returned (.int .i64 v)) ∧ w' = w := by
  obtain ⟨h1, h2⟩ := hc
  by_cases h0 : c < 0
  · have e0 : Hid (pickV c n = -((c + 1).tmod n)) := by
      show pickV c n = _
      unfold pickV; rw [if_pos h0, ← Int.tmod_eq_emod_of_nonneg (by omega), Int.neg_tmod]
    have k1 : wrap64 (c + 1) = c + 1 := by unfold wrap64; omega
    have k2 : wrap64 (-(c + 1)) = -(c + 1) := by unfold wrap64; omega
    rcases hn with rfl | rfl
    · go_enter Try.func26, Try.ntmps26
      go_wp2
      go_ret
      first | exact ⟨⟨_, (unhide e0).symm, rfl⟩, rfl⟩ | exact ⟨ret_int (unhide e0).symm, rfl⟩
    · go_enter Try.func26, Try.ntmps26
      go_wp2
      go_ret
      first | exact ⟨⟨_, (unhide e0).symm, rfl⟩, rfl⟩ | exact ⟨ret_int (unhide e0).symm, rfl⟩
  · have e0 : Hid (pickV c n = c % n) := by
      show pickV c n = _
      unfold pickV; rw [if_neg h0]
    have h0' : decide (c < 0) = false := by simpa using h0
    rcases hn with rfl | rfl
    · go_enter Try.func26, Try.ntmps26
      go_wp2
      go_ret
      first | exact ⟨⟨_, (unhide e0).symm, rfl⟩, rfl⟩ | exact ⟨ret_int (unhide e0).symm, rfl⟩
    · go_enter Try.func26, Try.ntmps26
      go_wp2
      go_ret
      first | exact ⟨⟨_, (unhide e0).symm, rfl⟩, rfl⟩ | exact ⟨ret_int (unhide e0).symm, rfl⟩
theorem pick_any (w : World) (c n : Int) (hc : In64 c) (hn : n = 6 ∨ n = 256) : Calls Try.prog 26 #[.int .i64 c, .int .i64 n] w fun e w' => e = .returned (.int .i64 (pickV c n)) ∧ w' = w :=
  (pick_any' w c n hc hn).mono fun e w' ⟨⟨v, h1, h2⟩, h3⟩ => ⟨by rw [h2, h1], h3⟩
/-- The texels that the law makes of raw numbers. -/
def texV (raw : List Int) (i : Nat) : Int := pickV (if i < raw.length then raw.getD i 0 else 7 * (i : Int)) 256
def texsV (raw : List Int) (n : Nat) : List Int := (List.range n).map (texV raw)
theorem texs_snoc (raw : List Int) (j : Nat) : texsV raw (j + 1) = texsV raw j ++ [texV raw j] := by unfold texsV; rw [List.range_succ, List.map_append]; rfl
theorem texs_len (raw : List Int) (n : Nat) : (texsV raw n).length = n := by simp [texsV]
theorem texs_all (raw : List Int) (n : Nat) : (texsV raw n).all texelB = true := by
  rw [List.all_eq_true]
  intro x hx
  unfold texsV at hx
  obtain ⟨i, _, rfl⟩ := List.mem_map.1 hx
  have := pick_in (c := (if i < raw.length then raw.getD i 0 else 7 * (i : Int))) (n := 256) (by decide)
  have h2 : 0 ≤ texV raw i ∧ texV raw i < 256 := this
  unfold texelB
  rw [decide_eq_true h2.1, decide_eq_true (show texV raw i ≤ 255 by omega)]
  rfl
theorem infoIK : (Try.prog.info? 3).map (fun i => (i.zero, i.size, i.bytes)) = some (some (.int .i64 0), 1, 8) := by kernel_rfl
theorem cell_oneK (w : World) (v : Value) (T : TypeId) : ∀ j u, [v][j]? = some u → (w.alloc (.cells #[v] T)).cell? ((⟨w.heap.size, 0, none⟩ : Addr).add j) = some u := cell_newP w _ rfl [v] T
set_option maxHeartbeats 2000000 in
theorem texK_any (w : World) (ao : Option Addr) (c : Nat) (raw : List Int) (n : Nat) (hn : n ≤ 36) (hx : IntsAt w.heap.size w ao raw) (h64 : ∀ x ∈ raw, In64 x) :
    Calls Try.prog 38 #[.slice ao raw.length c, .int .i64 (n : Int)] w fun e w' => ∃ v, e = .returned v ∧ w'.ownsRow w.heap.size 3 1 v n ((texsV raw n).map (Value.int .i64)) ∧ Below w.heap.size w w' := by
  have hm : (maxLen : Int) ≤ 9223372036854775807 := by unfold maxLen; decide
  obtain ⟨i0, hi, hz0, hz1, hz2⟩ := info_parts infoIK
  go_enter Try.func38, Try.ntmps38
  go_wp2
  go_loopw [5, 6] (fun v i wr => ∃ j : Nat, j ≤ n ∧ i = .int .i64 j ∧ wr.ownsRow w.heap.size 3 1 v j ((texsV raw j).map (Value.int .i64)) ∧ Below w.heap.size w wr) (fun _ i _ => n - (intOf i).toNat)
  case atStart => exact ⟨0, Nat.zero_le _, rfl, World.ownsRow_nil w w.heap.size 3 1, Below.refl _ _⟩
  case round =>
    obtain ⟨j, hj, rfl, own, hnx⟩ := hrel
    have hwz := hnx.size
    by_cases hlt : j < n
    · have hlt' : (j : Int) < (n : Int) := by omega
      have NX : Hid (∀ (v' : Value) (w5 : World), w5.ownsRow w.heap.size 3 1 v' (j + 1) ((texsV raw j).map (Value.int .i64) ++ [.int .i64 (texV raw j)]) → w5.ownsRow w.heap.size 3 1 v' (j + 1) ((texsV raw (j + 1)).map (Value.int .i64))) := fun v' w5 h => by rw [texs_snoc, List.map_append]; exact h
      by_cases hr : j < raw.length
      · have hr' : (j : Int) < (raw.length : Int) := by omega
        have ev : texV raw j = pickV (raw.getD j 0) 256 := by unfold texV; rw [if_pos hr]
        have h6 : In64 (raw.getD j 0) := h64 _ (by rw [List.getD, List.getElem?_eq_getElem hr, Option.getD_some]; exact List.getElem_mem hr)
        rcases hx with hx | ⟨b, off, rfl, hbB, hcell⟩
        · simp [hx] at hr
        have hc1 := (hnx.cell (p := ⟨b, off + j, none⟩) hbB).trans (hcell j hr)
        clear hcell
        obtain ⟨x, hxe⟩ : ∃ x, raw.getD j 0 = x := ⟨_, rfl⟩
        rw [hxe] at hc1 ev h6
        have PK := hide (fun w => pick_any w x 256 h6 (.inr rfl))
        rw [← ev] at PK
        obtain ⟨tv, htv⟩ : ∃ tv, texV raw j = tv := ⟨_, rfl⟩
        rw [htv] at PK NX
        clear hxe ev h6 htv
        go_wp2_with fail
        refine (unhide PK _).mono ?_
        rintro e w9 ⟨rfl, h9⟩
        obtain rfl := h9.symm
        go_wp2_with (at_builtin; refine wpList_append_own _ rfl _ _ 22 rfl w.heap.size 3 i0 (.int .i64 0) 1 8 Try.underlying22 hi hz0 hz1 hz2 rfl (by decide) _ _ _ rfl (own.alloc _) ⟨wr.heap.size, 0, none⟩ 1 1 [.int .i64 tv] rfl rfl ?c1 ?c2 ?c3 ?c4 ?c5 ?_)
        case c1 => exact cell_oneK _ _ _
        case c2 => intro u hu; simp at hu; subst hu; rfl
        case c3 => unfold maxLen; omega
        case c4 => omega
        case c5 => simp; omega
        intro v' w1 h1 hg _
        have R := unhide NX v' w1 (by simpa using h1)
        have R2 : Below w.heap.size w w1 := (hnx.alloc (by omega) _).grown hg (by simp; omega) (fun q hq => (own.lt q hq).1)
        clear h1 hg own hnx NX PK hc1
        go_wp2
        go_roundw
        case rel => exact ⟨j + 1, by omega, by go_num, R, R2⟩
        case measure => simp [intOf]; omega
      · have hr' : decide ((j : Int) < (raw.length : Int)) = false := by simp; omega
        have ev : texV raw j = pickV (7 * (j : Int)) 256 := by unfold texV; rw [if_neg hr]
        have PK := hide (fun w => pick_any w (7 * (j : Int)) 256 ⟨by omega, by omega⟩ (.inr rfl))
        rw [← ev] at PK
        obtain ⟨tv, htv⟩ : ∃ tv, texV raw j = tv := ⟨_, rfl⟩
        rw [htv] at PK NX
        clear ev htv
        go_wp2_with fail
        refine (unhide PK _).mono ?_
        rintro e w9 ⟨rfl, h9⟩
        obtain rfl := h9.symm
        go_wp2_with (at_builtin; refine wpList_append_own _ rfl _ _ 22 rfl w.heap.size 3 i0 (.int .i64 0) 1 8 Try.underlying22 hi hz0 hz1 hz2 rfl (by decide) _ _ _ rfl (own.alloc _) ⟨wr.heap.size, 0, none⟩ 1 1 [.int .i64 tv] rfl rfl ?c1 ?c2 ?c3 ?c4 ?c5 ?_)
        case c1 => exact cell_oneK _ _ _
        case c2 => intro u hu; simp at hu; subst hu; rfl
        case c3 => unfold maxLen; omega
        case c4 => omega
        case c5 => simp; omega
        intro v' w1 h1 hg _
        have R := unhide NX v' w1 (by simpa using h1)
        have R2 : Below w.heap.size w w1 := (hnx.alloc (by omega) _).grown hg (by simp; omega) (fun q hq => (own.lt q hq).1)
        clear h1 hg own hnx NX PK
        go_wp2
        go_roundw
        case rel => exact ⟨j + 1, by omega, by go_num, R, R2⟩
        case measure => simp [intOf]; omega
    · have hge : decide ((j : Int) < (n : Int)) = false := by simp; omega
      have hj' : j = n := by omega
      subst hj'
      go_wp2
      go_ret
      exact ⟨_, rfl, own, hnx⟩
end Go.Proofs.Ythmmgiaobakilaa
