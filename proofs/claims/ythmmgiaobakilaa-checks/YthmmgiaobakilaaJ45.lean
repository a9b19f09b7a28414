import Derived.Test.YthmmgiaobakilaaJ40
import Derived.Test.YthmmgiaobakilaaJ44
/- The project's look at the names of statements. -/
set_option maxRecDepth 100000
namespace Go.Proofs.Ythmmgiaobakilaa
open Go.RowKit Go.Deep

theorem nexpr_all : ∀ m, m ≤ 100000 → NExOK m
  | 0, _ => fun e w cb mb n R F Q v hsz h hv hall hQ => by
    obtain ⟨b, o, t, k, r, sv, rfl, rfl, hk⟩ := hv
    simp [szE] at hsz
  | m + 1, hm => nexpr_step (by omega) (nexpr_all m (by omega))
def AllZ : Sx → Prop
  | .nil => True
  | .node _ _ s k r => szE s.e ≤ 100000 ∧ AllZ k ∧ AllZ r
def NStOK (m : Nat) : Prop := ∀ (s : Sx) (w : World) (cb mb n : Nat) (σ : NSt) (Q : Nat → Prop) (v : Value), szS s < m → NcAt w cb mb n σ.1 σ.2 → RepL w Q v s → AllS TokB s ∧ AllZ s → (∀ k, Q k → k ≠ cb ∧ k ≠ mb) → n + szS s ≤ 100000 →
  Calls Try.prog 79 #[.pointer (some ⟨cb, 0, none⟩), v] w (NSOut w cb mb n (szS s) (nxS s σ))
set_option maxHeartbeats 32000000 in
theorem nstm_step {m : Nat} (ih : NStOK m) : NStOK (m + 1) := by
  intro s w cb mb n σ Q v hsz h hv hall hQ hn
  obtain ⟨ao, c, rfl, rep⟩ := hv.a
  clear hv
  have hlen : lenS s ≤ 100000 := by have := lenS_le s; omega
  go_enter Try.func79, Try.ntmps79
  go_wp2
  go_loopg [12] (lenS s) (fun q v wr => ∃ rest σ' n', v = .int .i64 ((lenS s - q : Nat) : Int) ∧ q ≤ lenS s ∧ lenS rest = q ∧ szS rest ≤ szS s ∧ (AllS TokB rest ∧ AllZ rest) ∧ NcAt wr cb mb n' σ'.1 σ'.2 ∧ n' + szS rest ≤ n + szS s ∧ Kept2 cb mb w wr ∧ nxS rest σ' = nxS s σ ∧ RepSa wr Q rest ao (lenS s - q))
  case atStart => exact ⟨s, σ, n, by rw [Nat.sub_self]; rfl, Nat.le_refl _, rfl, Nat.le_refl _, hall, h, Nat.le_refl _, Kept2.refl _ _ _, rfl, by rw [Nat.sub_self]; exact rep⟩
  case round =>
  clear h rep
  obtain ⟨rest, σ', n', rfl, hq, hlr, hsr, har, hnc, hnn, kw, hfold, hrep⟩ := hrel
  cases rest with
  | nil =>
    have hq0 : gk = 0 := by rw [← hlr]; rfl
    subst hq0
    have hge : decide (((lenS s - 0 : Nat) : Int) < (lenS s : Int)) = false := by simp
    have hf : σ' = nxS s σ := hfold
    subst hf
    clear hfold
    go_wp2
    go_end0
    exact ⟨rfl, n', by simp [szS] at hnn; omega, hnc, kw⟩
  | node b1 o1 p k r1 =>
  have hl1 : lenS r1 + 1 = gk := hlr
  obtain ⟨d, hd⟩ : ∃ d, d + gk = lenS s := ⟨lenS s - gk, by omega⟩
  have hnd : lenS s - gk = d := by omega
  rw [hnd] at hrep ⊢
  have hlt : decide ((d : Int) < (lenS s : Int)) = true := by simp; omega
  rcases hrep with hnl | ⟨g, rfl, hg, hrf⟩
  · cases hnl
  rw [RepS_node] at hrf
  obtain ⟨⟨v, hcell, hrp⟩, hrest⟩ := hrf
  obtain ⟨⟨hpt, hpa, hpb, hpe, hak0, har1⟩, hsze, hakz, harz⟩ := har
  have hak : AllS TokB k ∧ AllZ k := ⟨hak0, hakz⟩
  have hszk : szS k + szS r1 + 1 ≤ szS s := hsr
  have hnn' : n' + (szS k + szS r1 + 1) ≤ n + szS s := hnn
  have hgw : g < wr.heap.size := World.block_lt_of_cell? _ _ hcell
  have hgcb := hQ g hg
  have nextF : ∀ (w3 : World) (n3 : Nat) (τ : NSt), NcAt w3 cb mb n3 τ.1 τ.2 → n3 ≤ n' + szS k + 1 → Kept2 cb mb wr w3 → nxS s σ = nxS r1 τ → ∃ rest σ'' n'', Value.int .i64 ((d : Int) + 1) = .int .i64 ((lenS s - lenS r1 : Nat) : Int) ∧ lenS r1 ≤ lenS s ∧ lenS rest = lenS r1 ∧ szS rest ≤ szS s ∧ (AllS TokB rest ∧ AllZ rest) ∧ NcAt w3 cb mb n'' σ''.1 σ''.2 ∧ n'' + szS rest ≤ n + szS s ∧ Kept2 cb mb w w3 ∧ nxS rest σ'' = nxS s σ ∧ RepSa w3 Q rest (some ⟨g, 0, none⟩) (lenS s - lenS r1) := fun w3 n3 τ h3 hn3 k3 e3 => by
    refine ⟨r1, τ, n3, by congr 1; omega, by omega, rfl, by omega, ⟨har1, harz⟩, h3, by omega, kw.trans k3, e3.symm, .inr ⟨g, rfl, hg, ?_⟩⟩
    rw [show lenS s - lenS r1 = d + 1 by omega]
    exact RepS.later (fun j hj hl => k3.2 j hl (hQ j hj).1 (hQ j hj).2) (fun j hj _ => hj) r1 g (d + 1) hg hrest
  have NX := hide nextF
  have hfold0 : p.tag = 0 → nxS r1 (σ'.1, nx1 σ'.1 p.e (if σ'.1 (wP p.t) != 1 then noteF σ'.2 10 p.t.place else σ'.2)) = nxS s σ := fun ht => by rw [nxS_0 ht] at hfold; exact hfold
  have hfold3 : (p.tag = 3 ∨ p.tag = 4) → nxS r1 (σ'.1, nx1 σ'.1 p.e σ'.2) = nxS s σ := fun ht => by rw [nxS_3 ht] at hfold; exact hfold
  have hfold2 : p.tag = 2 → nxS r1 ((fun τ : NSt => (updR τ.1 (wP p.t) 0, τ.2)) (nxS k (nxN p.a p.b (nbr (σ'.1, σ'.2) p.t 2)))) = nxS s σ := fun ht => by rw [nxS_2 ht] at hfold; exact hfold
  have HF := hide hfold
  clear nextF hrest hfold hnn har1 harz
  rcases hrp with ⟨ht0, x, k1, sv, hhead, rfl, hkx⟩ | ⟨ht0, x, k1, sv, a1, b2, hhead, rfl, hkx, hkids⟩ | ⟨ht0, a1, rfl, hkids⟩ | ⟨ht0, x, k1, sv, hhead, rfl, hkx⟩
  · obtain ⟨so1, sc1, rfl⟩ := RepK.form hkx
    have HVE := hide (show RepV wr Q (exV x (.slice so1 (lenE k1) sc1)) p.e by obtain ⟨b, o, r, he⟩ := hhead; exact ⟨b, o, x, k1, r, _, he, rfl, hkx⟩)
    unfold asgV at hcell
    have ta0 := ta_Assign_Assign
    clear hkx hhead
    obtain ⟨w1, hw1⟩ : ∃ w1, wr.alloc (.cells #[.int .i64 (kP p.t), .int .i64 p.t.place, .string (wP p.t), .int .i32 (nP p.t), .int .i32 (sP p.t), .int .i64 (kP x), .int .i64 x.place, .string (wP x), .int .i32 (nP x), .int .i32 (sP x), .slice so1 (lenE k1) sc1] 156) = w1 := ⟨_, rfl⟩
    have s1 : w1.heap[wr.heap.size]? = some (.cells #[.int .i64 (kP p.t), .int .i64 p.t.place, .string (wP p.t), .int .i32 (nP p.t), .int .i32 (sP p.t), .int .i64 (kP x), .int .i64 x.place, .string (wP x), .int .i32 (nP x), .int .i32 (sP x), .slice so1 (lenE k1) sc1] 156 (0, 0)) := by rw [← hw1]; exact heap_alloc_new wr _
    have h1 : NcAt w1 cb mb n' σ'.1 σ'.2 := by rw [← hw1]; exact hnc.later (Below.heap_alloc wr _ _ hnc.lt) (Below.heap_alloc wr _ _ hnc.map.lt)
    have k1' : Kept2 cb mb wr w1 := by rw [← hw1]; exact (Kept.alloc cb wr _).two mb
    have lt1 : wr.heap.size < w1.heap.size := (Array.getElem?_eq_some_iff.1 s1).1
    have d1 := (bk11 s1).1
    have hc1 := hnc.lt
    have hm1 := hnc.map.lt
    have hl : (Instr.lookup 136 (.map (some mb)) (.string (wP p.t)) false).run Try.prog w1.drew = .ok (.int .i64 (σ'.1 (wP p.t))) w1.drew := (h1.later (w' := w1.drew) rfl rfl).look hpt.1
    have c1 := (bk3 h1.blk).1
    by_cases hR : σ'.1 (wP p.t) = 1
    · have eτ : (σ'.1, nx1 σ'.1 p.e σ'.2) = (σ'.1, nx1 σ'.1 p.e (if σ'.1 (wP p.t) != 1 then noteF σ'.2 10 p.t.place else σ'.2)) := by simp [hR]
      have hneq : decide (σ'.1 (wP p.t) = 1) = true := by simp [hR]
      go_wp2
      clear hw1
      go_region
      all_goals go_wp2_with fail
      all_goals
        refine (nexpr_all (szE p.e) hsze p.e w1.drew cb mb n' σ'.1 σ'.2 Q (exV x (.slice so1 (lenE k1) sc1)) (Nat.le_refl _) (h1.later rfl rfl) (RepV.later (fun j hj hl => (⟨k1'.1, k1'.2, k1'.same.drew⟩ : Kept2 cb mb wr w1.drew).2 j hl (hQ j hj).1 (hQ j hj).2) (fun j hj _ => hj) (unhide HVE)) hpe (fun j hj => (hQ j hj).1)).mono ?_
        rintro e w3 ⟨rfl, hw3, kw3⟩
        have fin3 := unhide NX w3 n' (σ'.1, nx1 σ'.1 p.e σ'.2) hw3 (by omega) (k1'.trans (Kept.two (a := w1) (by first | exact kw3 | exact kw3.undrew | exact kw3.undrew.undrew | exact kw3.undrew.undrew.undrew) mb)) (by rw [eτ]; exact (hfold0 ht0).symm)
        clear h1 k1' s1 d1 kw3
        go_wp2
        go_roundg (lenS r1)
        case rel => exact fin3
        case measure => omega
    · have eτ : (σ'.1, nx1 σ'.1 p.e (noteF σ'.2 10 p.t.place)) = (σ'.1, nx1 σ'.1 p.e (if σ'.1 (wP p.t) != 1 then noteF σ'.2 10 p.t.place else σ'.2)) := by simp [hR]
      go_wp2
      clear hw1
      go_region
      all_goals go_wp2
      all_goals first | (go_region_with (go_at_call 110; refine (nnote_any _ cb mb n' σ'.1 σ'.2 10 p.t.place ?_).mono ?_; exact h1.later rfl rfl; rintro e w2 ⟨rfl, h2, k2⟩; have s2 := (k2.2 _ (by show _ < w1.heap.size; omega) (by omega)).trans s1; have d2 := (bk11 s2).1; have k2' := k1'.trans (Kept.two (a := w1) (by first | exact k2 | exact k2.undrew | exact k2.undrew.undrew | exact k2.undrew.undrew.undrew) mb); have l2 : w1.heap.size ≤ w2.heap.size := k2.1)) | fail
      all_goals go_wp2_with fail
      all_goals
        refine (nexpr_all (szE p.e) hsze p.e w2 cb mb n' σ'.1 (noteF σ'.2 10 p.t.place) Q (exV x (.slice so1 (lenE k1) sc1)) (Nat.le_refl _) h2 (RepV.later (fun j hj hl => k2'.2 j hl (hQ j hj).1 (hQ j hj).2) (fun j hj _ => hj) (unhide HVE)) hpe (fun j hj => (hQ j hj).1)).mono ?_
        rintro e w3 ⟨rfl, hw3, kw3⟩
        have fin3 := unhide NX w3 n' (σ'.1, nx1 σ'.1 p.e (noteF σ'.2 10 p.t.place)) hw3 (by omega) (k2'.trans (Kept.two kw3 mb)) (by rw [eτ]; exact (hfold0 ht0).symm)
        clear h1 h2 k1' k2' s1 s2 d1 d2 kw3 k2
        go_wp2
        go_roundg (lenS r1)
        case rel => exact fin3
        case measure => omega
  · obtain ⟨so1, sc1, rfl⟩ := RepK.form hkx
    have HVE := hide (show RepV wr Q (exV x (.slice so1 (lenE k1) sc1)) p.e by obtain ⟨b, o, r, he⟩ := hhead; exact ⟨b, o, x, k1, r, _, he, rfl, hkx⟩)
    unfold ifV at hcell
    have ta0 := ta_If_Assign
    have ta1 := ta_If_If
    clear hkx hhead
    cases k with
    | nil => exact hkids.elim
    | node b3 o3 p3 s1' u1' =>
    obtain ⟨ao1, ac1, e1⟩ := RepL.form hkids.1
    obtain ⟨bo1, bc1, e2⟩ := RepL.form hkids.2
    obtain ⟨al1, hal1⟩ : ∃ al1, lenS s1' = al1 := ⟨_, rfl⟩
    obtain ⟨bl1, hbl1⟩ : ∃ bl1, lenS u1' = bl1 := ⟨_, rfl⟩
    rw [hal1] at e1
    rw [hbl1] at e2
    subst e1
    subst e2
    clear hal1 hbl1
    have has1 : AllS TokB s1' ∧ AllZ s1' := ⟨hak0.2.2.2.2.1, hakz.2.1⟩
    have hau1 : AllS TokB u1' ∧ AllZ u1' := ⟨hak0.2.2.2.2.2, hakz.2.2⟩
    have hszk2 : szS (.node b3 o3 p3 s1' u1') = szS s1' + szS u1' + 1 := rfl
    have hfold1 : p.tag = 1 → nxS r1 (nxS u1' (nxS s1' (σ'.1, nx1 σ'.1 p.e σ'.2))) = nxS s σ := fun ht => by have hfold := unhide HF; rw [nxS_1 ht] at hfold; exact hfold
    obtain ⟨w1, hw1⟩ : ∃ w1, wr.alloc (.cells #[.int .i64 (kP p.t), .int .i64 p.t.place, .string (wP p.t), .int .i32 (nP p.t), .int .i32 (sP p.t), .int .i64 (kP x), .int .i64 x.place, .string (wP x), .int .i32 (nP x), .int .i32 (sP x), .slice so1 (lenE k1) sc1, .slice ao1 al1 ac1, .slice bo1 bl1 bc1] 159) = w1 := ⟨_, rfl⟩
    have s1 : w1.heap[wr.heap.size]? = some (.cells #[.int .i64 (kP p.t), .int .i64 p.t.place, .string (wP p.t), .int .i32 (nP p.t), .int .i32 (sP p.t), .int .i64 (kP x), .int .i64 x.place, .string (wP x), .int .i32 (nP x), .int .i32 (sP x), .slice so1 (lenE k1) sc1, .slice ao1 al1 ac1, .slice bo1 bl1 bc1] 159 (0, 0)) := by rw [← hw1]; exact heap_alloc_new wr _
    have h1 : NcAt w1 cb mb n' σ'.1 σ'.2 := by rw [← hw1]; exact hnc.later (Below.heap_alloc wr _ _ hnc.lt) (Below.heap_alloc wr _ _ hnc.map.lt)
    have k1' : Kept2 cb mb wr w1 := by rw [← hw1]; exact (Kept.alloc cb wr _).two mb
    have lt1 : wr.heap.size < w1.heap.size := (Array.getElem?_eq_some_iff.1 s1).1
    have d1 := (bk13 s1).1
    have hc1 := hnc.lt
    have hm1 := hnc.map.lt
    go_wp2_with fail
    clear hw1
    refine (nexpr_all (szE p.e) hsze p.e w1 cb mb n' σ'.1 σ'.2 Q (exV x (.slice so1 (lenE k1) sc1)) (Nat.le_refl _) h1 (RepV.later (fun j hj hl => k1'.2 j hl (hQ j hj).1 (hQ j hj).2) (fun j hj _ => hj) (unhide HVE)) hpe (fun j hj => (hQ j hj).1)).mono ?_
    rintro e w2 ⟨rfl, hw2, kw2⟩
    have s2 := (kw2.2 _ lt1 (by omega)).trans s1
    have d2 := (bk13 s2).1
    have K2 := k1'.trans (Kept.two kw2 mb)
    have l2 := kw2.1
    clear h1 k1' s1 d1 kw2
    go_wp2_with fail
    refine (ih s1' w2 cb mb n' (σ'.1, nx1 σ'.1 p.e σ'.2) Q (.slice ao1 al1 ac1) (by omega) hw2 (RepL.later (fun j hj hl => K2.2 j hl (hQ j hj).1 (hQ j hj).2) (fun j hj _ => hj) hkids.1) has1 hQ (by omega)).mono ?_
    rintro e w3 ⟨rfl, n3, hn3, h3, k3⟩
    have s3 := (k3.2 _ (by omega) (by omega) (by omega)).trans s2
    have d3 := (bk13 s3).1
    have K3 := K2.trans k3
    have l3 := k3.1
    clear hw2 K2 s2 d2 k3
    go_wp2_with fail
    refine (ih u1' w3 cb mb n3 (nxS s1' (σ'.1, nx1 σ'.1 p.e σ'.2)) Q (.slice bo1 bl1 bc1) (by omega) h3 (RepL.later (fun j hj hl => K3.2 j hl (hQ j hj).1 (hQ j hj).2) (fun j hj _ => hj) hkids.2) hau1 hQ (by omega)).mono ?_
    rintro e w4 ⟨rfl, n4, hn4, h4, k4⟩
    have fin3 := unhide NX w4 n4 (nxS u1' (nxS s1' (σ'.1, nx1 σ'.1 p.e σ'.2))) h4 (by omega) (K3.trans k4) (hfold1 ht0).symm
    clear h3 h4 K3 k4 s3 d3
    go_wp2
    go_roundg (lenS r1)
    case rel => exact fin3
    case measure => omega
  · obtain ⟨ao1, ac1, e1⟩ := RepL.form hkids
    obtain ⟨al1, hal1⟩ : ∃ al1, lenS k = al1 := ⟨_, rfl⟩
    rw [hal1] at e1
    subst e1
    clear hal1
    unfold forV at hcell
    have ta0 := ta_For_Assign
    have ta1 := ta_For_If
    have ta2 := ta_For_For
    obtain ⟨w1, hw1⟩ : ∃ w1, wr.alloc (.cells #[.int .i64 (kP p.t), .int .i64 p.t.place, .string (wP p.t), .int .i32 (nP p.t), .int .i32 (sP p.t), .int .i64 (kP p.a), .int .i64 p.a.place, .string (wP p.a), .int .i32 (nP p.a), .int .i32 (sP p.a), .int .i64 (kP p.b), .int .i64 p.b.place, .string (wP p.b), .int .i32 (nP p.b), .int .i32 (sP p.b), .slice ao1 al1 ac1] 162) = w1 := ⟨_, rfl⟩
    have s1 : w1.heap[wr.heap.size]? = some (.cells #[.int .i64 (kP p.t), .int .i64 p.t.place, .string (wP p.t), .int .i32 (nP p.t), .int .i32 (sP p.t), .int .i64 (kP p.a), .int .i64 p.a.place, .string (wP p.a), .int .i32 (nP p.a), .int .i32 (sP p.a), .int .i64 (kP p.b), .int .i64 p.b.place, .string (wP p.b), .int .i32 (nP p.b), .int .i32 (sP p.b), .slice ao1 al1 ac1] 162 (0, 0)) := by rw [← hw1]; exact heap_alloc_new wr _
    have h1 : NcAt w1 cb mb n' σ'.1 σ'.2 := by rw [← hw1]; exact hnc.later (Below.heap_alloc wr _ _ hnc.lt) (Below.heap_alloc wr _ _ hnc.map.lt)
    have k1' : Kept2 cb mb wr w1 := by rw [← hw1]; exact (Kept.alloc cb wr _).two mb
    have lt1 : wr.heap.size < w1.heap.size := (Array.getElem?_eq_some_iff.1 s1).1
    have d1 := (bk16 s1).1
    have hc1 := hnc.lt
    have hm1 := hnc.map.lt
    go_wp2_with fail
    clear hw1
    refine (nloop_any (k := k) (Q := Q) (so := ao1) (sl := al1) (sc := ac1) cb mb (fun W m' τ g1 g2 g3 => ?_) w1 n' σ'.1 σ'.2 p.t p.a p.b h1 (RepL.later (fun j hj hl => k1'.2 j hl (hQ j hj).1 (hQ j hj).2) (fun j hj _ => hj) hkids) hpt hQ (by omega)).mono ?_
    · exact ih k W cb mb m' τ Q _ (by omega) g1 g2 hak hQ g3
    rintro e w3 ⟨rfl, n3, hn3, h3, k3⟩
    have fin3 := unhide NX w3 n3 _ h3 (by omega) (k1'.trans k3) (hfold2 ht0).symm
    clear h1 h3 k1' k3 s1 d1
    go_wp2
    go_roundg (lenS r1)
    case rel => exact fin3
    case measure => omega
  · obtain ⟨so1, sc1, rfl⟩ := RepK.form hkx
    have HVE := hide (show RepV wr Q (exV x (.slice so1 (lenE k1) sc1)) p.e by obtain ⟨b, o, r, he⟩ := hhead; exact ⟨b, o, x, k1, r, _, he, rfl, hkx⟩)
    unfold putV at hcell
    have ta0 := ta_Put_Assign
    have ta1 := ta_Put_If
    have ta2 := ta_Put_For
    have ta3 := ta_Put_Put
    clear hkx hhead
    obtain ⟨w1, hw1⟩ : ∃ w1, wr.alloc (.cells #[.int .i64 (kP p.t), .int .i64 p.t.place, .string (wP p.t), .int .i32 (nP p.t), .int .i32 (sP p.t), .int .i64 (kP x), .int .i64 x.place, .string (wP x), .int .i32 (nP x), .int .i32 (sP x), .slice so1 (lenE k1) sc1] 165) = w1 := ⟨_, rfl⟩
    have s1 : w1.heap[wr.heap.size]? = some (.cells #[.int .i64 (kP p.t), .int .i64 p.t.place, .string (wP p.t), .int .i32 (nP p.t), .int .i32 (sP p.t), .int .i64 (kP x), .int .i64 x.place, .string (wP x), .int .i32 (nP x), .int .i32 (sP x), .slice so1 (lenE k1) sc1] 165 (0, 0)) := by rw [← hw1]; exact heap_alloc_new wr _
    have h1 : NcAt w1 cb mb n' σ'.1 σ'.2 := by rw [← hw1]; exact hnc.later (Below.heap_alloc wr _ _ hnc.lt) (Below.heap_alloc wr _ _ hnc.map.lt)
    have k1' : Kept2 cb mb wr w1 := by rw [← hw1]; exact (Kept.alloc cb wr _).two mb
    have lt1 : wr.heap.size < w1.heap.size := (Array.getElem?_eq_some_iff.1 s1).1
    have d1 := (bk11 s1).1
    have hc1 := hnc.lt
    have hm1 := hnc.map.lt
    go_wp2_with fail
    clear hw1
    refine (nexpr_all (szE p.e) hsze p.e w1 cb mb n' σ'.1 σ'.2 Q (exV x (.slice so1 (lenE k1) sc1)) (Nat.le_refl _) h1 (RepV.later (fun j hj hl => k1'.2 j hl (hQ j hj).1 (hQ j hj).2) (fun j hj _ => hj) (unhide HVE)) hpe (fun j hj => (hQ j hj).1)).mono ?_
    rintro e w3 ⟨rfl, hw3, kw3⟩
    have fin3 := unhide NX w3 n' (σ'.1, nx1 σ'.1 p.e σ'.2) hw3 (by omega) (k1'.trans (Kept.two kw3 mb)) (hfold3 ht0).symm
    clear h1 k1' s1 d1 kw3
    go_wp2
    go_roundg (lenS r1)
    case rel => exact fin3
    case measure => omega
theorem nstm_all : ∀ m, NStOK m
  | 0 => fun _ _ _ _ _ _ _ _ hsz _ _ _ _ _ => absurd hsz (Nat.not_lt_zero _)
  | m + 1 => nstm_step (nstm_all m)

end Go.Proofs.Ythmmgiaobakilaa
