import Derived.Test.YthmmgiaobakilaaJ40
import Derived.Test.YthmmgiaobakilaaJ41
/- The walk of Flowing. -/
set_option maxRecDepth 100000
namespace Go.Proofs.Ythmmgiaobakilaa
open Go.RowKit Go.Deep

set_option maxHeartbeats 2000000 in
theorem flowing_walk (a b : Int) (ro ao bo oo : Option Addr) (c0 c1 c2 c3 : Nat) (rs xs ys zs : List Int) (w : World) (ha : In64 a) (hb : In64 b) (hr : IntsAt w.heap.size w ro rs) (hx : IntsAt w.heap.size w ao xs) (hy : IntsAt w.heap.size w bo ys) (hz : IntsAt w.heap.size w oo zs) (r64 : ∀ x ∈ rs, In64 x) (x64 : ∀ x ∈ xs, In64 x) (y64 : ∀ x ∈ ys, In64 x) (z64 : ∀ x ∈ zs, In64 x)
    (SUM : ∀ (w : World) (ao : Option Addr) (c : Nat) (raw : List Int), IntsAt w.heap.size w ao raw → (∀ x ∈ raw, In64 x) → Calls Try.prog 25 #[.slice ao raw.length c] w (SumOut w)) :
    Calls Try.prog 8 #[.slice ro rs.length c0, .int .i64 a, .int .i64 b, .slice ao xs.length c1, .slice bo ys.length c2, .slice oo zs.length c3] w fun e w' => e = .returned (.bool true) ∧ Below w.heap.size w w' := by
  have SC : Hid (∀ (w' : World) (s : ByteArray), s.size ≤ 300 → Below w.heap.size w w' → Calls Try.prog 24 #[.int .i64 a, .int .i64 b, .slice ao xs.length c1, .slice bo ys.length c2, .string s] w' fun e w2 => ∃ V, e = .returned V ∧ Below w'.heap.size w' w2 ∧ Hid (Calls Try.prog 23 #[V, .slice oo zs.length c3] w2 fun e w3 => e = .returned (.bool true) ∧ Below w2.heap.size w2 w3)) := fun w' s hs hB => by
    refine (sceneK_any w' a b ao bo c1 c2 xs ys s ha hb ((hx.later hB (Nat.le_refl _)).mono hB.size) ((hy.later hB (Nat.le_refl _)).mono hB.size) x64 y64).mono ?_
    rintro e w3 ⟨n, so, sd, d1, d2, hn, n1, n2, rfl, i1, i2, b3⟩
    have b3' := hB.trans (b3.mono hB.size)
    have p1 := pick_in (c := a) (n := 6) (by decide)
    have p2 := pick_in (c := b) (n := 6) (by decide)
    exact ⟨_, rfl, b3, untold_any w3 (1 + pickV a 6) (1 + pickV b 6) so sd oo d1 d2 c3 (texsV xs n) (texsV ys n) zs s n ⟨by omega, by omega⟩ ⟨by omega, by omega⟩ hn n1 n2 (texs_len _ _) (texs_len _ _) (texs_all _ _) (texs_all _ _) i1 i2 ((hz.later b3' (Nat.le_refl _)).mono b3'.size) z64 (by unfold maxLen; omega)⟩
  have CK : Hid (∀ (w' : World) (s : ByteArray) (r : Int × Int), s.size ≤ 300 → readF s = r → Calls Try.prog 19 #[.string s] w' fun e w2 => e = .returned (.tuple #[.int .i64 r.1, .int .i64 r.2]) ∧ Below w'.heap.size w' w2) := fun w' s r hs hr => by
    subst hr
    exact (check_any s (by unfold maxLen; omega) w').mono fun e w2 ⟨h1, h2⟩ => ⟨h2, h1⟩
  clear hx hy hz x64 y64 z64 ha hb
  go_enter Try.func8, Try.ntmps8
  go_wp2_with fail
  refine (checking_any _).mono ?_
  rintro e w1 ⟨rfl, b1⟩
  go_wp2_with fail
  refine (SUM w1 ro c0 rs ((hr.later b1 (Nat.le_refl _)).mono b1.size) r64).mono ?_
  rintro e w2 ⟨t, h, rfl, tx, hsz, b2⟩
  have B2 : Hid (Below w.heap.size w w2) := b1.trans (b2.mono b1.size)
  clear hr r64 b1 b2
  obtain ⟨w5, hw5⟩ : ∃ w5, ((w2.alloc (.cells #[.string t, .bool h] 43)).alloc (.cells #[.string (fw1 t), .string (fw2 t), .string (fw3 t), .string (fw4 t), .string (fw5 t)] 9)).alloc (.cells #[.int .i64 0, .int .i64 0, .int .i64 0, .int .i64 9, .int .i64 5] 3) = w5 := ⟨_, rfl⟩
  have z5 : w5.heap.size = w2.heap.size + 3 := by rw [← hw5]; simp
  have b5 : Below w2.heap.size w2 w5 := by rw [← hw5]; exact (((Below.refl _ w2).alloc (Nat.le_refl _) _).alloc (by simp) _).alloc (by simp; omega) _
  have f0 : w5.heap[w2.heap.size]? = some (.cells #[.string t, .bool h] 43 (0, 0)) := by
    rw [← hw5]; exact (Below.heap_alloc _ _ _ (by simp; omega)).trans ((Below.heap_alloc _ _ _ (by simp)).trans (heap_alloc_new w2 _))
  have f1 : w5.heap[w2.heap.size + 1]? = some (.cells #[.string (fw1 t), .string (fw2 t), .string (fw3 t), .string (fw4 t), .string (fw5 t)] 9 (0, 0)) := by
    have := heap_alloc_new (w2.alloc (.cells #[.string t, .bool h] 43)) (.cells #[.string (fw1 t), .string (fw2 t), .string (fw3 t), .string (fw4 t), .string (fw5 t)] 9)
    rw [World.size_alloc] at this
    rw [← hw5]; exact (Below.heap_alloc _ _ _ (by simp)).trans this
  have f2 : w5.heap[w2.heap.size + 1 + 1]? = some (.cells #[.int .i64 0, .int .i64 0, .int .i64 0, .int .i64 9, .int .i64 5] 3 (0, 0)) := by
    have := heap_alloc_new ((w2.alloc (.cells #[.string t, .bool h] 43)).alloc (.cells #[.string (fw1 t), .string (fw2 t), .string (fw3 t), .string (fw4 t), .string (fw5 t)] 9)) (.cells #[.int .i64 0, .int .i64 0, .int .i64 0, .int .i64 9, .int .i64 5] 3)
    rw [World.size_alloc, World.size_alloc] at this
    rw [← hw5]; exact this
  have B5 : Hid (Below w.heap.size w w5) := (unhide B2).trans (b5.mono (unhide B2).size)
  have ROW : Hid (∀ k, k < 5 → ∃ (s : ByteArray) (mo : Int), s.size ≤ 300 ∧ 0 ≤ mo ∧ mo ≤ 9 ∧ readF s = (if h then (11, 48 + mo) else (0, 0)) ∧ ∀ w', Below w5.heap.size w5 w' → w'.cell? ⟨w2.heap.size + 1, k, none⟩ = some (.string s) ∧ w'.cell? ⟨w2.heap.size + 1 + 1, k, none⟩ = some (.int .i64 mo) ∧ w'.cell? ⟨w2.heap.size, 0, none⟩ = some (.string t) ∧ w'.cell? ⟨w2.heap.size, 1, none⟩ = some (.bool h)) := fun k hk => by
    have st : ∀ (s : ByteArray) (mo : Int), (∀ w', Below w5.heap.size w5 w' → w'.cell? ⟨w2.heap.size + 1, k, none⟩ = some (.string s) ∧ w'.cell? ⟨w2.heap.size + 1 + 1, k, none⟩ = some (.int .i64 mo)) → ∀ w', Below w5.heap.size w5 w' → w'.cell? ⟨w2.heap.size + 1, k, none⟩ = some (.string s) ∧ w'.cell? ⟨w2.heap.size + 1 + 1, k, none⟩ = some (.int .i64 mo) ∧ w'.cell? ⟨w2.heap.size, 0, none⟩ = some (.string t) ∧ w'.cell? ⟨w2.heap.size, 1, none⟩ = some (.bool h) := fun s mo hh w' hb => by
      obtain ⟨⟨g0, g1⟩, _⟩ := bkp2 ((hb.block w2.heap.size (by omega)).trans f0)
      exact ⟨(hh w' hb).1, (hh w' hb).2, g0, g1⟩
    have c1 : ∀ w', Below w5.heap.size w5 w' → w'.heap[w2.heap.size + 1]? = _ := fun w' hb => (hb.block _ (by omega)).trans f1
    have c2 : ∀ w', Below w5.heap.size w5 w' → w'.heap[w2.heap.size + 1 + 1]? = _ := fun w' hb => (hb.block _ (by omega)).trans f2
    have hx : t.size ≤ 100 := by omega
    rcases (show k = 0 ∨ k = 1 ∨ k = 2 ∨ k = 3 ∨ k = 4 by omega) with rfl | rfl | rfl | rfl | rfl
    · exact ⟨fw1 t, 0, fw_sz1 hx, by decide, by decide, fw_told1 tx hx, st _ _ (fun w' hb => ⟨by simp [World.cell?, c1 w' hb], by simp [World.cell?, c2 w' hb]⟩)⟩
    · exact ⟨fw2 t, 0, fw_sz2 hx, by decide, by decide, fw_told2 tx hx, st _ _ (fun w' hb => ⟨by simp [World.cell?, c1 w' hb], by simp [World.cell?, c2 w' hb]⟩)⟩
    · exact ⟨fw3 t, 0, fw_sz3 hx, by decide, by decide, fw_told3 tx hx, st _ _ (fun w' hb => ⟨by simp [World.cell?, c1 w' hb], by simp [World.cell?, c2 w' hb]⟩)⟩
    · exact ⟨fw4 t, 9, fw_sz4 hx, by decide, by decide, fw_told4 tx hx, st _ _ (fun w' hb => ⟨by simp [World.cell?, c1 w' hb], by simp [World.cell?, c2 w' hb]⟩)⟩
    · exact ⟨fw5 t, 5, fw_sz5 hx, by decide, by decide, fw_told5 tx hx, st _ _ (fun w' hb => ⟨by simp [World.cell?, c1 w' hb], by simp [World.cell?, c2 w' hb]⟩)⟩
  have CK6 : Hid (∀ w', Calls Try.prog 19 #[.string (fw6 t)] w' fun e w2 => e = .returned (.tuple #[.int .i64 0, .int .i64 0]) ∧ Below w'.heap.size w' w2) := fun w' => unhide CK w' (fw6 t) (0, 0) (fw_sz6 (by omega)) (fw_told6 tx (by omega))
  have SC6 := hide (fun w' => unhide SC w' (fw6 t) (fw_sz6 (by omega)))
  have SZ6 : (fw6 t).size ≤ 300 := fw_sz6 (by omega)
  unfold fw6 fwHd at CK6 SC6
  unfold fw1 fw2 fw3 fw4 fw5 fwHd at hw5
  clear b5 f0 f1 f2 B2 tx
  go_wp2
  clear hw5
  go_loopw [13, 19] (fun ok i wr => ok = .bool true ∧ ∃ k : Nat, k ≤ 5 ∧ i = .int .i64 (k : Int) ∧ Below w5.heap.size w5 wr) (fun _ i _ => 5 - (intOf i).toNat)
  case atStart => exact ⟨rfl, 0, Nat.zero_le _, rfl, Below.refl _ _⟩
  case round =>
    obtain ⟨rfl, k, hk, rfl, hnx⟩ := hrel
    by_cases hlt : k < 5
    · have hlt' : (k : Int) < 5 := by omega
      obtain ⟨s, mo, hs, m0, m9, told, cel⟩ := unhide ROW k hlt
      have hs' : decide ((300 : Int) < (s.size : Int)) = false := by rw [decide_eq_false_iff_not]; omega
      obtain ⟨q1, q2, q3, q4⟩ := cel wr hnx
      have CKs := hide (fun w' => unhide CK w' s _ hs told)
      have CEL := hide cel
      have SCs := hide (fun w' => unhide SC w' s hs)
      have NX := hide hnx
      clear cel told hnx ROW CK6 SC6
      cases h
      · go_wp2_with fail
        refine (unhide CKs _).mono ?_
        rintro e w6 ⟨rfl, b6⟩
        have bb6 := (unhide NX).trans (b6.mono (unhide NX).size)
        obtain ⟨r1, r2, r3, r4⟩ := unhide CEL w6 bb6
        have US := hide (unhide SCs w6 ((unhide B5).trans (bb6.mono (unhide B5).size)))
        have BB6 := hide bb6
        clear b6 bb6 q1 q2 q3 q4 NX CKs SCs
        go_wp2_with fail
        refine (unhide US).mono ?_
        rintro e w7 ⟨V, rfl, b7, UT⟩
        go_wp2_with fail
        refine (unhide UT).mono ?_
        rintro e w8 ⟨rfl, b8⟩
        have bb6 := unhide BB6
        have R := hide ((bb6.trans (b7.mono bb6.size)).trans (b8.mono (Nat.le_trans bb6.size b7.size)))
        clear b7 b8 UT US bb6 BB6 r1 r2 r3 r4
        go_wp2
        go_roundw
        case rel => exact ⟨rfl, k + 1, by omega, by go_num, unhide R⟩
        case measure => simp [intOf]; omega
      · go_wp2_with fail
        refine (unhide CKs _).mono ?_
        rintro e w6 ⟨rfl, b6⟩
        have bb6 := (unhide NX).trans (b6.mono (unhide NX).size)
        obtain ⟨r1, r2, r3, r4⟩ := unhide CEL w6 bb6
        have US := hide (unhide SCs w6 ((unhide B5).trans (bb6.mono (unhide B5).size)))
        have BB6 := hide bb6
        clear b6 bb6 q1 q2 q3 q4 NX CKs SCs
        go_wp2_with fail
        refine (unhide US).mono ?_
        rintro e w7 ⟨V, rfl, b7, UT⟩
        go_wp2_with fail
        refine (unhide UT).mono ?_
        rintro e w8 ⟨rfl, b8⟩
        have bb6 := unhide BB6
        have R := hide ((bb6.trans (b7.mono bb6.size)).trans (b8.mono (Nat.le_trans bb6.size b7.size)))
        clear b7 b8 UT US bb6 BB6 r1 r2 r3 r4
        go_wp2
        go_roundw
        case rel => exact ⟨rfl, k + 1, by omega, by go_num, unhide R⟩
        case measure => simp [intOf]; omega
    · have hk5 : k = 5 := by omega
      subst hk5
      obtain ⟨s, mo, hs, m0, m9, told, cel⟩ := unhide ROW 0 (by omega)
      obtain ⟨q1, q2, q3, q4⟩ := cel wr hnx
      have NX := hide ((unhide B5).trans (hnx.mono (unhide B5).size))
      clear cel told hnx ROW q1 q2 hs m0 m9
      go_wp2_with fail
      refine (unhide CK6 _).mono ?_
      rintro e w6 ⟨rfl, b6⟩
      have bb6 := (unhide NX).trans (b6.mono (unhide NX).size)
      have US := hide (unhide SC6 w6 bb6)
      have BB6 := hide bb6
      clear b6 bb6 q3 q4 NX CK6 SC6
      go_wp2_with fail
      refine (unhide US).mono ?_
      rintro e w7 ⟨V, rfl, b7, UT⟩
      go_wp2_with fail
      refine (unhide UT).mono ?_
      rintro e w8 ⟨rfl, b8⟩
      have bb6 := unhide BB6
      have R := hide ((bb6.trans (b7.mono bb6.size)).trans (b8.mono (Nat.le_trans bb6.size b7.size)))
      clear b7 b8 UT US bb6 BB6
      go_wp2
      go_ret
      exact ⟨rfl, unhide R⟩
end Go.Proofs.Ythmmgiaobakilaa
