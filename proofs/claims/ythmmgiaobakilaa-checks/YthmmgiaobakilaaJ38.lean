import Derived.Test.YthmmgiaobakilaaJ37
/- The project's touches. -/
set_option maxRecDepth 100000
namespace Go.Proofs.Ythmmgiaobakilaa
open Go.RowKit Go.Deep

def TchOK (m : Nat) : Prop := ∀ (e : Ex) (w : World) (cb hc : Nat) (ho : Option Addr) (H : List ByteArray) (F : Flt) (Q : Nat → Prop) (v : Value), szE e ≤ m → FcAt w cb ho hc H F → RepV w Q v e → (∀ k, Q k → k ≠ cb) →
  Calls Try.prog 132 #[.pointer (some ⟨cb, 0, none⟩), v] w fun r w' => r = .returned (.tuple #[]) ∧ FcAt w' cb ho hc H (tc1 H e F) ∧ Kept cb w w'
set_option maxHeartbeats 16000000 in
theorem ftch_step {m : Nat} (hm : m ≤ 100000) (ih : TchOK m) : TchOK (m + 1) := by
  intro e w cb hc ho H F Q v hsz h hv hQ
  obtain ⟨b, o, t, k, r, sv, rfl, rfl, hk⟩ := hv
  obtain ⟨ao, c, rfl, rep⟩ := hk.a
  clear hk
  have hszk : szE k ≤ m := by simp [szE] at hsz; omega
  have hlen : lenE k ≤ 100000 := by have := lenE_le k; omega
  have hlt := h.lt
  obtain ⟨w1, hw1⟩ : ∃ w1, w.alloc (.cells #[.int .i64 (kP t), .int .i64 t.place, .string (wP t), .int .i32 (nP t), .int .i32 (sP t), .slice ao (lenE k) c] 154) = w1 := ⟨_, rfl⟩
  have s1 : w1.heap[w.heap.size]? = some (.cells #[.int .i64 (kP t), .int .i64 t.place, .string (wP t), .int .i32 (nP t), .int .i32 (sP t), .slice ao (lenE k) c] 154 (0, 0)) := by rw [← hw1]; exact heap_alloc_new w _
  have f1 : FcAt w1 cb ho hc H F := by rw [← hw1]; exact h.later (fun j hj => Below.heap_alloc w _ j hj)
  have B1 : Below w.heap.size w w1 := by rw [← hw1]; exact (Below.refl _ w).alloc (Nat.le_refl _) _
  have rep1 : RepFa w1 Q k ao 0 := by rw [← hw1]; exact rep.later (fun j _ hl => Below.heap_alloc w _ j hl)
  have lt1 : w.heap.size < w1.heap.size := (Array.getElem?_eq_some_iff.1 s1).1
  have keep : ∀ w2, Below w1.heap.size w1 w2 → FcAt w2 cb ho hc H F ∧ w2.heap[w.heap.size]? = some (.cells #[.int .i64 (kP t), .int .i64 t.place, .string (wP t), .int .i32 (nP t), .int .i32 (sP t), .slice ao (lenE k) c] 154 (0, 0)) ∧ RepFa w2 Q k ao 0 ∧ Kept cb w w2 := fun w2 B2 =>
    ⟨f1.below B2, (B2.block _ lt1).trans s1, rep1.later (fun j _ hl => B2.block j hl), Kept.below (B1.trans (B2.mono B1.size))⟩
  have KP := hide keep
  clear keep h rep
  unfold exV
  show Calls _ _ _ _ fun r w' => r = .returned (.tuple #[]) ∧ FcAt w' cb ho hc H (tcE H k (tcH H t k F)) ∧ Kept cb w w'
  have d1 := (blk6 s1).1
  go_enter Try.func132, Try.ntmps132
  go_wp2_with fail
  clear hw1
  refine (isWord_gen _ t (some ⟨w1.heap.size, 0, none⟩) 2 [sPEEK, sSPY] (strs_A w1 [sPEEK, sSPY]) (by simp)).mono ?_
  rintro e w2 ⟨rfl, b2⟩
  have B2 : Below w1.heap.size w1 w2 := ((Below.refl _ w1).alloc (Nat.le_refl _) _).trans (b2.mono (by simp))
  obtain ⟨h2, s2, rep2, K2⟩ := unhide KP w2 B2
  have d2 := (blk6 s2).1
  have c2 := (bk3 h2.blk).1
  clear f1 s1 d1 rep1 b2
  cases hwd : wdT t [sPEEK, sSPY]
  · have e2 : tcH H t k F = F := by unfold tcH; rw [hwd]; rfl
    rw [← e2] at h2
    clear KP B2
    all_goals go_wp2
    all_goals
      go_loopg [27] (lenE k) (fun q v wr => ∃ rest F', v = .int .i64 ((lenE k - q : Nat) : Int) ∧ q ≤ lenE k ∧ lenE rest = q ∧ szE rest ≤ szE k ∧ FcAt wr cb ho hc H F' ∧ Kept cb w wr ∧ tcE H rest F' = tcE H k (tcH H t k F) ∧ RepFa wr Q rest ao (lenE k - q))
      case atStart => exact ⟨k, _, by rw [Nat.sub_self]; rfl, Nat.le_refl _, rfl, Nat.le_refl _, h2, K2, rfl, by rw [Nat.sub_self]; exact rep2⟩
      case round =>
        clear h2 K2 rep2
        obtain ⟨rest, F', rfl, hq, hlr, hsr, hnc, kw, hfold, hrep⟩ := hrel
        cases rest with
        | nil =>
          have hq0 : gk = 0 := by rw [← hlr]; rfl
          subst hq0
          have hge : decide (((lenE k - 0 : Nat) : Int) < (lenE k : Int)) = false := by simp
          have hf : F' = tcE H k (tcH H t k F) := hfold
          subst hf
          clear hfold
          go_wp2
          go_end0
          exact ⟨rfl, hnc, kw⟩
        | node b1 o1 t1 k1 r1 =>
          have hl1 : lenE r1 + 1 = gk := hlr
          obtain ⟨d, hd⟩ : ∃ d, d + gk = lenE k := ⟨lenE k - gk, by omega⟩
          have hnd : lenE k - gk = d := by omega
          rw [hnd] at hrep ⊢
          have hlt : decide ((d : Int) < (lenE k : Int)) = true := by simp; omega
          rcases hrep with hn | ⟨g, rfl, hg, hrf⟩
          · cases hn
          obtain ⟨⟨sv1, hcells, hkids⟩, hrest⟩ := hrf
          obtain ⟨x0, x1, x2, x3, x4, x5⟩ := hcells
          have hv1 : RepV wr Q (exV t1 sv1) (.node b1 o1 t1 k1 r1) := ⟨b1, o1, t1, k1, r1, sv1, rfl, rfl, hkids⟩
          obtain ⟨so1, sc1, hsv1⟩ := RepK.form hkids
          subst hsv1
          have hsz1 : szE (.node b1 o1 t1 k1 r1) ≤ m := by omega
          have hszw := kw.1
          have nextF : ∀ w3, FcAt w3 cb ho hc H (tc1 H (.node b1 o1 t1 k1 r1) F') → Kept cb wr w3 → ∃ rest F'', Value.int .i64 ((d : Int) + 1) = .int .i64 ((lenE k - lenE r1 : Nat) : Int) ∧ lenE r1 ≤ lenE k ∧ lenE rest = lenE r1 ∧ szE rest ≤ szE k ∧ FcAt w3 cb ho hc H F'' ∧ Kept cb w w3 ∧ tcE H rest F'' = tcE H k (tcH H t k F) ∧ RepFa w3 Q rest (some ⟨g, 0, none⟩) (lenE k - lenE r1) := fun w3 h3 k3 => by
            refine ⟨r1, _, by congr 1; omega, by omega, rfl, by simp [szE] at hsr; omega, h3, kw.trans k3, hfold, .inr ⟨g, rfl, hg, ?_⟩⟩
            rw [show lenE k - lenE r1 = d + 1 by omega]
            exact RepF.later (fun j hj hl => k3.2 j hl (hQ j hj)) (fun j hj _ => hj) r1 g (d + 1) hg hrest
          have NX := hide nextF
          have HV1 := hide hv1
          have hgw : g < wr.heap.size := World.block_lt_of_cell? _ _ x0
          have hgcb := hQ g hg
          clear nextF hv1 hrest hkids hfold
          go_wp2_with fail
          refine (ih (.node b1 o1 t1 k1 r1) _ cb hc ho H F' Q (exV t1 (.slice so1 (lenE k1) sc1)) hsz1 (hnc.later (fun j hj => Below.heap_alloc wr _ j hj)) (RepV.later (fun j _ hl => Below.heap_alloc wr _ j hl) (fun j hj _ => hj) (unhide HV1)) hQ).mono ?_
          rintro e w3 ⟨rfl, h3, k3⟩
          have fin3 := unhide NX w3 h3 ((Kept.alloc cb wr _).trans k3)
          clear NX HV1 k3 hnc
          go_wp2
          go_roundg (lenE r1)
          case rel => exact fin3
          case measure => omega
  · go_wp2_with fail
    refine (fcont_any (fhid_all m hm) k w2 cb hc c ho ao H F Q hszk hm h2 rep2).mono ?_
    rintro e w3 ⟨rfl, b3⟩
    have B3 := B2.trans (b3.mono B2.size)
    clear h2 s2 rep2 K2 d2 c2
    obtain ⟨h2, s2, rep2, K2⟩ := unhide KP w3 B3
    have d2 := (blk6 s2).1
    have c2 := (bk3 h2.blk).1
    cases hhk : hidE H k
    · have e2 : tcH H t k F = F := by unfold tcH; rw [hwd, hhk]; rfl
      rw [← e2] at h2
      clear KP B2 B3 b3
      all_goals go_wp2
      all_goals
        go_loopg [27] (lenE k) (fun q v wr => ∃ rest F', v = .int .i64 ((lenE k - q : Nat) : Int) ∧ q ≤ lenE k ∧ lenE rest = q ∧ szE rest ≤ szE k ∧ FcAt wr cb ho hc H F' ∧ Kept cb w wr ∧ tcE H rest F' = tcE H k (tcH H t k F) ∧ RepFa wr Q rest ao (lenE k - q))
        case atStart => exact ⟨k, _, by rw [Nat.sub_self]; rfl, Nat.le_refl _, rfl, Nat.le_refl _, h2, K2, rfl, by rw [Nat.sub_self]; exact rep2⟩
        case round =>
          clear h2 K2 rep2
          obtain ⟨rest, F', rfl, hq, hlr, hsr, hnc, kw, hfold, hrep⟩ := hrel
          cases rest with
          | nil =>
            have hq0 : gk = 0 := by rw [← hlr]; rfl
            subst hq0
            have hge : decide (((lenE k - 0 : Nat) : Int) < (lenE k : Int)) = false := by simp
            have hf : F' = tcE H k (tcH H t k F) := hfold
            subst hf
            clear hfold
            go_wp2
            go_end0
            exact ⟨rfl, hnc, kw⟩
          | node b1 o1 t1 k1 r1 =>
            have hl1 : lenE r1 + 1 = gk := hlr
            obtain ⟨d, hd⟩ : ∃ d, d + gk = lenE k := ⟨lenE k - gk, by omega⟩
            have hnd : lenE k - gk = d := by omega
            rw [hnd] at hrep ⊢
            have hlt : decide ((d : Int) < (lenE k : Int)) = true := by simp; omega
            rcases hrep with hn | ⟨g, rfl, hg, hrf⟩
            · cases hn
            obtain ⟨⟨sv1, hcells, hkids⟩, hrest⟩ := hrf
            obtain ⟨x0, x1, x2, x3, x4, x5⟩ := hcells
            have hv1 : RepV wr Q (exV t1 sv1) (.node b1 o1 t1 k1 r1) := ⟨b1, o1, t1, k1, r1, sv1, rfl, rfl, hkids⟩
            obtain ⟨so1, sc1, hsv1⟩ := RepK.form hkids
            subst hsv1
            have hsz1 : szE (.node b1 o1 t1 k1 r1) ≤ m := by omega
            have hszw := kw.1
            have nextF : ∀ w3, FcAt w3 cb ho hc H (tc1 H (.node b1 o1 t1 k1 r1) F') → Kept cb wr w3 → ∃ rest F'', Value.int .i64 ((d : Int) + 1) = .int .i64 ((lenE k - lenE r1 : Nat) : Int) ∧ lenE r1 ≤ lenE k ∧ lenE rest = lenE r1 ∧ szE rest ≤ szE k ∧ FcAt w3 cb ho hc H F'' ∧ Kept cb w w3 ∧ tcE H rest F'' = tcE H k (tcH H t k F) ∧ RepFa w3 Q rest (some ⟨g, 0, none⟩) (lenE k - lenE r1) := fun w3 h3 k3 => by
              refine ⟨r1, _, by congr 1; omega, by omega, rfl, by simp [szE] at hsr; omega, h3, kw.trans k3, hfold, .inr ⟨g, rfl, hg, ?_⟩⟩
              rw [show lenE k - lenE r1 = d + 1 by omega]
              exact RepF.later (fun j hj hl => k3.2 j hl (hQ j hj)) (fun j hj _ => hj) r1 g (d + 1) hg hrest
            have NX := hide nextF
            have HV1 := hide hv1
            have hgw : g < wr.heap.size := World.block_lt_of_cell? _ _ x0
            have hgcb := hQ g hg
            clear nextF hv1 hrest hkids hfold
            go_wp2_with fail
            refine (ih (.node b1 o1 t1 k1 r1) _ cb hc ho H F' Q (exV t1 (.slice so1 (lenE k1) sc1)) hsz1 (hnc.later (fun j hj => Below.heap_alloc wr _ j hj)) (RepV.later (fun j _ hl => Below.heap_alloc wr _ j hl) (fun j hj _ => hj) (unhide HV1)) hQ).mono ?_
            rintro e w3 ⟨rfl, h3, k3⟩
            have fin3 := unhide NX w3 h3 ((Kept.alloc cb wr _).trans k3)
            clear NX HV1 k3 hnc
            go_wp2
            go_roundg (lenE r1)
            case rel => exact fin3
            case measure => omega
    · have e2 : tcH H t k F = noteF F 11 t.place := by unfold tcH; rw [hwd, hhk]; rfl
      have l3 : w.heap.size < w3.heap.size := (Array.getElem?_eq_some_iff.1 s2).1
      go_wp2
      first | (go_region_with (go_at_call 110; refine (fnote_any _ cb hc ho H F 11 t.place ?_).mono ?_; exact h2.later (fun _ _ => rfl); rintro e w4 ⟨rfl, h4, k4⟩; have s4 := (k4.2 _ (by show _ < w3.heap.size; omega) (by omega)).trans s2; have K4 := K2.trans (by first | exact k4 | exact k4.undrew | exact k4.undrew.undrew | exact k4.undrew.undrew.undrew); have rep4 := RepFa.later (w := w3) (w' := w4) (fun j hj hl => k4.2 j hl (hQ j hj)) rep2; clear h2 s2 rep2 K2 d2 c2; have d2 := (blk6 s4).1; have h2 := h4; have K2 := K4; have rep2 := rep4; rw [← e2] at h2)) | fail
      all_goals clear KP B2 B3 b3
      all_goals go_wp2
      all_goals
        go_loopg [27] (lenE k) (fun q v wr => ∃ rest F', v = .int .i64 ((lenE k - q : Nat) : Int) ∧ q ≤ lenE k ∧ lenE rest = q ∧ szE rest ≤ szE k ∧ FcAt wr cb ho hc H F' ∧ Kept cb w wr ∧ tcE H rest F' = tcE H k (tcH H t k F) ∧ RepFa wr Q rest ao (lenE k - q))
        case atStart => exact ⟨k, _, by rw [Nat.sub_self]; rfl, Nat.le_refl _, rfl, Nat.le_refl _, h2, K2, rfl, by rw [Nat.sub_self]; exact rep2⟩
        case round =>
          clear h2 K2 rep2
          obtain ⟨rest, F', rfl, hq, hlr, hsr, hnc, kw, hfold, hrep⟩ := hrel
          cases rest with
          | nil =>
            have hq0 : gk = 0 := by rw [← hlr]; rfl
            subst hq0
            have hge : decide (((lenE k - 0 : Nat) : Int) < (lenE k : Int)) = false := by simp
            have hf : F' = tcE H k (tcH H t k F) := hfold
            subst hf
            clear hfold
            go_wp2
            go_end0
            exact ⟨rfl, hnc, kw⟩
          | node b1 o1 t1 k1 r1 =>
            have hl1 : lenE r1 + 1 = gk := hlr
            obtain ⟨d, hd⟩ : ∃ d, d + gk = lenE k := ⟨lenE k - gk, by omega⟩
            have hnd : lenE k - gk = d := by omega
            rw [hnd] at hrep ⊢
            have hlt : decide ((d : Int) < (lenE k : Int)) = true := by simp; omega
            rcases hrep with hn | ⟨g, rfl, hg, hrf⟩
            · cases hn
            obtain ⟨⟨sv1, hcells, hkids⟩, hrest⟩ := hrf
            obtain ⟨x0, x1, x2, x3, x4, x5⟩ := hcells
            have hv1 : RepV wr Q (exV t1 sv1) (.node b1 o1 t1 k1 r1) := ⟨b1, o1, t1, k1, r1, sv1, rfl, rfl, hkids⟩
            obtain ⟨so1, sc1, hsv1⟩ := RepK.form hkids
            subst hsv1
            have hsz1 : szE (.node b1 o1 t1 k1 r1) ≤ m := by omega
            have hszw := kw.1
            have nextF : ∀ w3, FcAt w3 cb ho hc H (tc1 H (.node b1 o1 t1 k1 r1) F') → Kept cb wr w3 → ∃ rest F'', Value.int .i64 ((d : Int) + 1) = .int .i64 ((lenE k - lenE r1 : Nat) : Int) ∧ lenE r1 ≤ lenE k ∧ lenE rest = lenE r1 ∧ szE rest ≤ szE k ∧ FcAt w3 cb ho hc H F'' ∧ Kept cb w w3 ∧ tcE H rest F'' = tcE H k (tcH H t k F) ∧ RepFa w3 Q rest (some ⟨g, 0, none⟩) (lenE k - lenE r1) := fun w3 h3 k3 => by
              refine ⟨r1, _, by congr 1; omega, by omega, rfl, by simp [szE] at hsr; omega, h3, kw.trans k3, hfold, .inr ⟨g, rfl, hg, ?_⟩⟩
              rw [show lenE k - lenE r1 = d + 1 by omega]
              exact RepF.later (fun j hj hl => k3.2 j hl (hQ j hj)) (fun j hj _ => hj) r1 g (d + 1) hg hrest
            have NX := hide nextF
            have HV1 := hide hv1
            have hgw : g < wr.heap.size := World.block_lt_of_cell? _ _ x0
            have hgcb := hQ g hg
            clear nextF hv1 hrest hkids hfold
            go_wp2_with fail
            refine (ih (.node b1 o1 t1 k1 r1) _ cb hc ho H F' Q (exV t1 (.slice so1 (lenE k1) sc1)) hsz1 (hnc.later (fun j hj => Below.heap_alloc wr _ j hj)) (RepV.later (fun j _ hl => Below.heap_alloc wr _ j hl) (fun j hj _ => hj) (unhide HV1)) hQ).mono ?_
            rintro e w3 ⟨rfl, h3, k3⟩
            have fin3 := unhide NX w3 h3 ((Kept.alloc cb wr _).trans k3)
            clear NX HV1 k3 hnc
            go_wp2
            go_roundg (lenE r1)
            case rel => exact fin3
            case measure => omega
theorem ftch_all : ∀ m, m ≤ 100000 → TchOK m
  | 0, _ => fun e w cb hc ho H F Q v hsz h hv hQ => by
    obtain ⟨b, o, t, k, r, sv, rfl, rfl, hk⟩ := hv
    simp [szE] at hsz
  | m + 1, hm => ftch_step (by omega) (ftch_all m (by omega))

end Go.Proofs.Ythmmgiaobakilaa
