import Derived.Test.YthmmgiaobakilaaJ35
import Derived.Test.YthmmgiaobakilaaJ42
import Derived.Deep.LoopGhost
/- The project's look at the names of an expression. -/
set_option maxRecDepth 100000
namespace Go.Proofs.Ythmmgiaobakilaa
open Go.RowKit Go.Deep

def NExOK (m : Nat) : Prop := ∀ (e : Ex) (w : World) (cb mb n : Nat) (R : ByteArray → Int) (F : Flt) (Q : Nat → Prop) (v : Value), szE e ≤ m → NcAt w cb mb n R F → RepV w Q v e → AllE TokB e → (∀ k, Q k → k ≠ cb) →
  Calls Try.prog 111 #[.pointer (some ⟨cb, 0, none⟩), v] w fun e' w' => e' = .returned (.tuple #[]) ∧ NcAt w' cb mb n R (nx1 R e F) ∧ Kept cb w w'
set_option maxHeartbeats 16000000 in
theorem nexpr_step {m : Nat} (hm : m ≤ 100000) (ih : NExOK m) : NExOK (m + 1) := by
  intro e w cb mb n R F Q v hsz h hv hall hQ
  obtain ⟨b, o, t, k, r, sv, rfl, rfl, hk⟩ := hv
  obtain ⟨ao, c, rfl, rep⟩ := hk.a
  clear hk
  have hsz' : szE (.node 0 0 t k .nil) ≤ m + 1 := by simp [szE] at hsz ⊢; omega
  have hlen : lenE k ≤ 100000 := by have := lenE_le k; simp [szE] at hsz'; omega
  have hlt := h.lt
  have hmt := h.map.lt
  have htb := hall.1.1
  obtain ⟨w1, hw1⟩ : ∃ w1, w.alloc (.cells #[.int .i64 (kP t), .int .i64 t.place, .string (wP t), .int .i32 (nP t), .int .i32 (sP t), .slice ao (lenE k) c] 154) = w1 := ⟨_, rfl⟩
  have s1 : w1.heap[w.heap.size]? = some (.cells #[.int .i64 (kP t), .int .i64 t.place, .string (wP t), .int .i32 (nP t), .int .i32 (sP t), .slice ao (lenE k) c] 154 (0, 0)) := by rw [← hw1]; exact heap_alloc_new w _
  have h1 : NcAt w1 cb mb n R F := by rw [← hw1]; exact h.later (Below.heap_alloc w _ _ hlt) (Below.heap_alloc w _ _ hmt)
  have k1 : Kept cb w w1 := by rw [← hw1]; exact Kept.alloc cb w _
  have rep1 : RepFa w1 Q k ao 0 := by rw [← hw1]; exact rep.later (fun j _ hl => Below.heap_alloc w _ j hl)
  have lt1 : w.heap.size < w1.heap.size := (Array.getElem?_eq_some_iff.1 s1).1
  clear h rep
  unfold exV
  show Calls _ _ _ _ fun e' w' => e' = .returned (.tuple #[]) ∧ NcAt w' cb mb n R (nxE R k (nxH R t F)) ∧ Kept cb w w'
  go_enter Try.func111, Try.ntmps111
  go_wp2
  clear hw1
  obtain ⟨⟨t0, t1, t2, t3, t4, t5⟩, _⟩ := blk6 s1
  have h1d : NcAt w1.drew cb mb n R F := h1.later rfl rfl
  have onw : ∀ w2, Below w1.drew.heap.size w1.drew w2 → NcAt w2 cb mb n R F ∧ w2.heap[w.heap.size]? = some (.cells #[.int .i64 (kP t), .int .i64 t.place, .string (wP t), .int .i32 (nP t), .int .i32 (sP t), .slice ao (lenE k) c] 154 (0, 0)) ∧ Kept cb w w2 ∧ RepFa w2 Q k ao 0 ∧ (Instr.lookup 136 (.map (some mb)) (.string (wP t)) false).run Try.prog w2 = .ok (.int .i64 (R (wP t))) w2 := fun w2 B2 => by
    have n2 := h1d.below B2
    exact ⟨n2, (B2.block _ lt1).trans s1, k1.trans (⟨B2.size, fun j hj _ => B2.block j hj, ⟨B2.os, B2.tape, B2.output⟩⟩ : Kept cb w1 w2), RepFa.later (w := w1) (fun j _ hl => B2.block j hl) rep1, n2.look htb⟩
  have ONW := hide onw
  clear onw h1d
  cases hnm : nmT t
  · have es : ((kP t == 2) && !kwsP.any (fun u => (wP t).toList == u.toList)) = false := hnm
    have e2 : nxH R t F = F := by unfold nxH; rw [hnm]; rfl
    first | (go_region_with (go_at_call 105; refine (isName_any _ (kP t) t.place (nP t) (sP t) (wP t)).mono ?_; rintro e w2 ⟨rfl, B2⟩; rw [es]; have fx := unhide ONW w2 B2; obtain ⟨h2, s2, K2, rep2, hl2⟩ := fx; have d2 := (blk6 s2).1; have c2 := bk3 h2.blk; rw [← e2] at h2)) | fail
    all_goals clear ONW
    all_goals go_wp2
    all_goals
      go_loopg [30] (lenE k) (fun q v wr => ∃ rest F', v = .int .i64 ((lenE k - q : Nat) : Int) ∧ q ≤ lenE k ∧ lenE rest = q ∧ szE rest ≤ szE k ∧ AllE TokB rest ∧ NcAt wr cb mb n R F' ∧ Kept cb w wr ∧ nxE R rest F' = nxE R k (nxH R t F) ∧ RepFa wr Q rest ao (lenE k - q))
      case atStart => exact ⟨k, _, by rw [Nat.sub_self]; rfl, Nat.le_refl _, rfl, Nat.le_refl _, hall.2.1, h2, K2, rfl, by rw [Nat.sub_self]; exact rep2⟩
      case round =>
        clear h2 K2 rep2
        obtain ⟨rest, F', rfl, hq, hlr, hsr, har, hnc, kw, hfold, hrep⟩ := hrel
        cases rest with
        | nil =>
          have hq0 : gk = 0 := by rw [← hlr]; rfl
          subst hq0
          have hge : decide (((lenE k - 0 : Nat) : Int) < (lenE k : Int)) = false := by simp
          have hf : F' = nxE R k (nxH R t F) := hfold
          subst hf
          clear hfold
          go_wp2
          go_end0
          exact ⟨rfl, hnc, kw⟩
        | node b1 o1 t1 k1 r1 =>
          have hl1 : lenE r1 + 1 = gk := hlr
          obtain ⟨d, hd⟩ : ∃ d, d + gk = lenE k := ⟨lenE k - gk, by omega⟩
          have hnd : lenE k - gk = d := by omega
          rw [hnd] at hrep ⊢
          have hlt : decide ((d : Int) < (lenE k : Int)) = true := by simp; omega
          rcases hrep with hn | ⟨g, rfl, hg, hrf⟩
          · cases hn
          obtain ⟨⟨sv1, hcells, hkids⟩, hrest⟩ := hrf
          obtain ⟨x0, x1, x2, x3, x4, x5⟩ := hcells
          have hv1 : RepV wr Q (exV t1 sv1) (.node b1 o1 t1 k1 r1) := ⟨b1, o1, t1, k1, r1, sv1, rfl, rfl, hkids⟩
          obtain ⟨so1, sc1, hsv1⟩ := RepK.form hkids
          subst hsv1
          have hsz1 : szE (.node b1 o1 t1 k1 r1) ≤ m := by have : szE (.node 0 0 t k .nil) ≤ m + 1 := hsz'; simp [szE] at this hsr ⊢; omega
          have hszw := kw.1
          have nextF : ∀ w3, NcAt w3 cb mb n R (nx1 R (.node b1 o1 t1 k1 r1) F') → Kept cb wr w3 → ∃ rest F'', Value.int .i64 ((d : Int) + 1) = .int .i64 ((lenE k - lenE r1 : Nat) : Int) ∧ lenE r1 ≤ lenE k ∧ lenE rest = lenE r1 ∧ szE rest ≤ szE k ∧ AllE TokB rest ∧ NcAt w3 cb mb n R F'' ∧ Kept cb w w3 ∧ nxE R rest F'' = nxE R k (nxH R t F) ∧ RepFa w3 Q rest (some ⟨g, 0, none⟩) (lenE k - lenE r1) := fun w3 h3 k3 => by
            refine ⟨r1, _, by congr 1; omega, by omega, rfl, by simp [szE] at hsr; omega, har.2.2, h3, kw.trans k3, hfold, .inr ⟨g, rfl, hg, ?_⟩⟩
            rw [show lenE k - lenE r1 = d + 1 by omega]
            exact RepF.later (fun j hj hl => k3.2 j hl (hQ j hj)) (fun j hj _ => hj) r1 g (d + 1) hg hrest
          have NX := hide nextF
          have HV1 := hide hv1
          have hgw : g < wr.heap.size := World.block_lt_of_cell? _ _ x0
          have hgcb := hQ g hg
          clear nextF hv1 hrest hkids hfold
          go_wp2_with fail
          refine (ih (.node b1 o1 t1 k1 r1) _ cb mb n R F' Q (exV t1 (.slice so1 (lenE k1) sc1)) hsz1 (hnc.later (Below.heap_alloc wr _ _ hnc.lt) (Below.heap_alloc wr _ _ hnc.map.lt)) (RepV.later (fun j _ hl => Below.heap_alloc wr _ j hl) (fun j hj _ => hj) (unhide HV1)) har hQ).mono ?_
          rintro e w3 ⟨rfl, h3, k3⟩
          have fin3 := unhide NX w3 h3 ((Kept.alloc cb wr _).trans k3)
          clear NX HV1 k3 hnc
          go_wp2
          go_roundg (lenE r1)
          case rel => exact fin3
          case measure => omega
  · have es : ((kP t == 2) && !kwsP.any (fun u => (wP t).toList == u.toList)) = true := hnm
    by_cases hR : R (wP t) = 0
    · have e2 : nxH R t F = noteF F 10 t.place := by unfold nxH; rw [hnm, hR]; rfl
      have onn : ∀ w2, NcAt w2 cb mb n R F → w2.heap[w.heap.size]? = some (.cells #[.int .i64 (kP t), .int .i64 t.place, .string (wP t), .int .i32 (nP t), .int .i32 (sP t), .slice ao (lenE k) c] 154 (0, 0)) → Kept cb w w2 → RepFa w2 Q k ao 0 → ∀ w3, NcAt w3 cb mb n R (noteF F 10 t.place) → Kept cb w2.drew w3 → NcAt w3 cb mb n R (nxH R t F) ∧ w3.heap[w.heap.size]? = some (.cells #[.int .i64 (kP t), .int .i64 t.place, .string (wP t), .int .i32 (nP t), .int .i32 (sP t), .slice ao (lenE k) c] 154 (0, 0)) ∧ Kept cb w w3 ∧ RepFa w3 Q k ao 0 := fun w2 a1 a2 a3 a4 w3 b1 b2 => by
        have l2 := (Array.getElem?_eq_some_iff.1 a2).1
        exact ⟨by rw [e2]; exact b1, (b2.2 _ l2 (by omega)).trans a2, a3.trans b2.undrew, RepFa.later (w := w2) (fun j hj hl => b2.2 j hl (hQ j hj)) a4⟩
      have ONN := hide onn
      clear onn
      first | (go_region_with (go_at_call 105; refine (isName_any _ (kP t) t.place (nP t) (sP t) (wP t)).mono ?_; rintro e w2 ⟨rfl, B2⟩; rw [es]; have fx := unhide ONW w2 B2; obtain ⟨h2, s2, K2, rep2, hl2⟩ := fx; have d2 := (blk6 s2).1; have c2 := bk3 h2.blk; have ON3 := hide (unhide ONN w2 h2 s2 K2 rep2); rw [hR] at hl2)) | fail
      all_goals clear ONW ONN
      all_goals go_wp2
      all_goals first | (go_region_with (go_at_call 110; refine (nnote_any _ cb mb n R F 10 t.place ?_).mono ?_; exact h2.later rfl rfl; rintro e w3 ⟨rfl, h3, k3⟩; have fx := unhide ON3 w3 h3 k3; clear h2 s2 K2 rep2 d2 hl2; obtain ⟨h2, s2, K2, rep2⟩ := fx; have d2 := (blk6 s2).1)) | fail
      all_goals clear ON3
      all_goals go_wp2
      all_goals
        go_loopg [30] (lenE k) (fun q v wr => ∃ rest F', v = .int .i64 ((lenE k - q : Nat) : Int) ∧ q ≤ lenE k ∧ lenE rest = q ∧ szE rest ≤ szE k ∧ AllE TokB rest ∧ NcAt wr cb mb n R F' ∧ Kept cb w wr ∧ nxE R rest F' = nxE R k (nxH R t F) ∧ RepFa wr Q rest ao (lenE k - q))
        case atStart => exact ⟨k, _, by rw [Nat.sub_self]; rfl, Nat.le_refl _, rfl, Nat.le_refl _, hall.2.1, h2, K2, rfl, by rw [Nat.sub_self]; exact rep2⟩
        case round =>
          clear h2 K2 rep2
          obtain ⟨rest, F', rfl, hq, hlr, hsr, har, hnc, kw, hfold, hrep⟩ := hrel
          cases rest with
          | nil =>
            have hq0 : gk = 0 := by rw [← hlr]; rfl
            subst hq0
            have hge : decide (((lenE k - 0 : Nat) : Int) < (lenE k : Int)) = false := by simp
            have hf : F' = nxE R k (nxH R t F) := hfold
            subst hf
            clear hfold
            go_wp2
            go_end0
            exact ⟨rfl, hnc, kw⟩
          | node b1 o1 t1 k1 r1 =>
            have hl1 : lenE r1 + 1 = gk := hlr
            obtain ⟨d, hd⟩ : ∃ d, d + gk = lenE k := ⟨lenE k - gk, by omega⟩
            have hnd : lenE k - gk = d := by omega
            rw [hnd] at hrep ⊢
            have hlt : decide ((d : Int) < (lenE k : Int)) = true := by simp; omega
            rcases hrep with hn | ⟨g, rfl, hg, hrf⟩
            · cases hn
            obtain ⟨⟨sv1, hcells, hkids⟩, hrest⟩ := hrf
            obtain ⟨x0, x1, x2, x3, x4, x5⟩ := hcells
            have hv1 : RepV wr Q (exV t1 sv1) (.node b1 o1 t1 k1 r1) := ⟨b1, o1, t1, k1, r1, sv1, rfl, rfl, hkids⟩
            obtain ⟨so1, sc1, hsv1⟩ := RepK.form hkids
            subst hsv1
            have hsz1 : szE (.node b1 o1 t1 k1 r1) ≤ m := by have : szE (.node 0 0 t k .nil) ≤ m + 1 := hsz'; simp [szE] at this hsr ⊢; omega
            have hszw := kw.1
            have nextF : ∀ w3, NcAt w3 cb mb n R (nx1 R (.node b1 o1 t1 k1 r1) F') → Kept cb wr w3 → ∃ rest F'', Value.int .i64 ((d : Int) + 1) = .int .i64 ((lenE k - lenE r1 : Nat) : Int) ∧ lenE r1 ≤ lenE k ∧ lenE rest = lenE r1 ∧ szE rest ≤ szE k ∧ AllE TokB rest ∧ NcAt w3 cb mb n R F'' ∧ Kept cb w w3 ∧ nxE R rest F'' = nxE R k (nxH R t F) ∧ RepFa w3 Q rest (some ⟨g, 0, none⟩) (lenE k - lenE r1) := fun w3 h3 k3 => by
              refine ⟨r1, _, by congr 1; omega, by omega, rfl, by simp [szE] at hsr; omega, har.2.2, h3, kw.trans k3, hfold, .inr ⟨g, rfl, hg, ?_⟩⟩
              rw [show lenE k - lenE r1 = d + 1 by omega]
              exact RepF.later (fun j hj hl => k3.2 j hl (hQ j hj)) (fun j hj _ => hj) r1 g (d + 1) hg hrest
            have NX := hide nextF
            have HV1 := hide hv1
            have hgw : g < wr.heap.size := World.block_lt_of_cell? _ _ x0
            have hgcb := hQ g hg
            clear nextF hv1 hrest hkids hfold
            go_wp2_with fail
            refine (ih (.node b1 o1 t1 k1 r1) _ cb mb n R F' Q (exV t1 (.slice so1 (lenE k1) sc1)) hsz1 (hnc.later (Below.heap_alloc wr _ _ hnc.lt) (Below.heap_alloc wr _ _ hnc.map.lt)) (RepV.later (fun j _ hl => Below.heap_alloc wr _ j hl) (fun j hj _ => hj) (unhide HV1)) har hQ).mono ?_
            rintro e w3 ⟨rfl, h3, k3⟩
            have fin3 := unhide NX w3 h3 ((Kept.alloc cb wr _).trans k3)
            clear NX HV1 k3 hnc
            go_wp2
            go_roundg (lenE r1)
            case rel => exact fin3
            case measure => omega
    · have e2 : nxH R t F = F := by unfold nxH; rw [hnm]; simp [hR]
      first | (go_region_with (go_at_call 105; refine (isName_any _ (kP t) t.place (nP t) (sP t) (wP t)).mono ?_; rintro e w2 ⟨rfl, B2⟩; rw [es]; have fx := unhide ONW w2 B2; obtain ⟨h2, s2, K2, rep2, hl2⟩ := fx; have d2 := (blk6 s2).1; have c2 := bk3 h2.blk; rw [← e2] at h2)) | fail
      all_goals clear ONW
      all_goals go_wp2
      all_goals
        go_loopg [30] (lenE k) (fun q v wr => ∃ rest F', v = .int .i64 ((lenE k - q : Nat) : Int) ∧ q ≤ lenE k ∧ lenE rest = q ∧ szE rest ≤ szE k ∧ AllE TokB rest ∧ NcAt wr cb mb n R F' ∧ Kept cb w wr ∧ nxE R rest F' = nxE R k (nxH R t F) ∧ RepFa wr Q rest ao (lenE k - q))
        case atStart => exact ⟨k, _, by rw [Nat.sub_self]; rfl, Nat.le_refl _, rfl, Nat.le_refl _, hall.2.1, h2, K2, rfl, by rw [Nat.sub_self]; exact rep2⟩
        case round =>
          clear h2 K2 rep2
          obtain ⟨rest, F', rfl, hq, hlr, hsr, har, hnc, kw, hfold, hrep⟩ := hrel
          cases rest with
          | nil =>
            have hq0 : gk = 0 := by rw [← hlr]; rfl
            subst hq0
            have hge : decide (((lenE k - 0 : Nat) : Int) < (lenE k : Int)) = false := by simp
            have hf : F' = nxE R k (nxH R t F) := hfold
            subst hf
            clear hfold
            go_wp2
            go_end0
            exact ⟨rfl, hnc, kw⟩
          | node b1 o1 t1 k1 r1 =>
            have hl1 : lenE r1 + 1 = gk := hlr
            obtain ⟨d, hd⟩ : ∃ d, d + gk = lenE k := ⟨lenE k - gk, by omega⟩
            have hnd : lenE k - gk = d := by omega
            rw [hnd] at hrep ⊢
            have hlt : decide ((d : Int) < (lenE k : Int)) = true := by simp; omega
            rcases hrep with hn | ⟨g, rfl, hg, hrf⟩
            · cases hn
            obtain ⟨⟨sv1, hcells, hkids⟩, hrest⟩ := hrf
            obtain ⟨x0, x1, x2, x3, x4, x5⟩ := hcells
            have hv1 : RepV wr Q (exV t1 sv1) (.node b1 o1 t1 k1 r1) := ⟨b1, o1, t1, k1, r1, sv1, rfl, rfl, hkids⟩
            obtain ⟨so1, sc1, hsv1⟩ := RepK.form hkids
            subst hsv1
            have hsz1 : szE (.node b1 o1 t1 k1 r1) ≤ m := by have : szE (.node 0 0 t k .nil) ≤ m + 1 := hsz'; simp [szE] at this hsr ⊢; omega
            have hszw := kw.1
            have nextF : ∀ w3, NcAt w3 cb mb n R (nx1 R (.node b1 o1 t1 k1 r1) F') → Kept cb wr w3 → ∃ rest F'', Value.int .i64 ((d : Int) + 1) = .int .i64 ((lenE k - lenE r1 : Nat) : Int) ∧ lenE r1 ≤ lenE k ∧ lenE rest = lenE r1 ∧ szE rest ≤ szE k ∧ AllE TokB rest ∧ NcAt w3 cb mb n R F'' ∧ Kept cb w w3 ∧ nxE R rest F'' = nxE R k (nxH R t F) ∧ RepFa w3 Q rest (some ⟨g, 0, none⟩) (lenE k - lenE r1) := fun w3 h3 k3 => by
              refine ⟨r1, _, by congr 1; omega, by omega, rfl, by simp [szE] at hsr; omega, har.2.2, h3, kw.trans k3, hfold, .inr ⟨g, rfl, hg, ?_⟩⟩
              rw [show lenE k - lenE r1 = d + 1 by omega]
              exact RepF.later (fun j hj hl => k3.2 j hl (hQ j hj)) (fun j hj _ => hj) r1 g (d + 1) hg hrest
            have NX := hide nextF
            have HV1 := hide hv1
            have hgw : g < wr.heap.size := World.block_lt_of_cell? _ _ x0
            have hgcb := hQ g hg
            clear nextF hv1 hrest hkids hfold
            go_wp2_with fail
            refine (ih (.node b1 o1 t1 k1 r1) _ cb mb n R F' Q (exV t1 (.slice so1 (lenE k1) sc1)) hsz1 (hnc.later (Below.heap_alloc wr _ _ hnc.lt) (Below.heap_alloc wr _ _ hnc.map.lt)) (RepV.later (fun j _ hl => Below.heap_alloc wr _ j hl) (fun j hj _ => hj) (unhide HV1)) har hQ).mono ?_
            rintro e w3 ⟨rfl, h3, k3⟩
            have fin3 := unhide NX w3 h3 ((Kept.alloc cb wr _).trans k3)
            clear NX HV1 k3 hnc
            go_wp2
            go_roundg (lenE r1)
            case rel => exact fin3
            case measure => omega

end Go.Proofs.Ythmmgiaobakilaa
