import Derived.Test.YthmmgiaobakilaaJ01
import Derived.Test.YthmmgiaobakilaaJ33
/- The painter's statements. -/
set_option maxRecDepth 100000
namespace Go.Proofs.Ythmmgiaobakilaa
open Go.RowKit Go.Deep

structure SLoop (D : PD) (S : PSt) (rv : Value) (Q : Nat → Prop) (s : Sx) (ao : Option Addr) (w : World) (q : Nat) (rest : Sx) (S' : PSt) (n' : Nat) (rv' : Value) (wr : World) : Prop where
  le : q ≤ lenS s
  len : lenS rest = q
  sz : szS rest ≤ szS s
  wt : wtS rest ≤ wtS s
  wf : WfS rest
  pt : PtAt wr D S' n' rv'
  st : PStep D rv w wr rv'
  fold : stP D rest S' = stP D s S
  ok : POk D S'
  cnt : (n' : Int) ≤ S'.steps + 2
  ub : S'.steps ≤ 150000
  rep : RepSa wr Q rest ao (lenS s - q)
theorem first_grow {D : PD} {b o : Nat} {p : SP} {k r : Sx} {S T : PSt} (hw : WfS (.node b o p k r)) (ho : POk D S) (e : stP D (.node b o p k .nil) S = T) : POk D T ∧ T.steps ≤ max S.steps (20001 + wtS (.node b o p k .nil)) := by
  have g := st_grow (D := D) _ (.node b o p k .nil) (Nat.le_refl _) ⟨hw.1, hw.2.1, trivial⟩ S ho
  rw [e] at g
  exact ⟨g.ok, g.ub⟩
set_option maxHeartbeats 32000000 in
theorem pstm_step {m : Nat} (hm : m ≤ 100000) (ih : PStOK m) : PStOK (m + 1) := by
  intro s w D S n rv Q v hsz h hv hwf hQ hD ho hst hwt hn
  obtain ⟨ao, c, rfl, rep⟩ := hv.a
  clear hv
  have hlen : lenS s ≤ 100000 := by have := lenS_le s; omega
  have HL0 : Hid (SLoop D S rv Q s ao w (lenS s) s S n rv w) := ⟨Nat.le_refl _, rfl, Nat.le_refl _, Nat.le_refl _, hwf, h, PStep.refl _ _ _, rfl, ho, hn, hst, by rw [Nat.sub_self]; exact rep⟩
  have FIN : Hid (∀ S' n' rv' wr, PtAt wr D S' n' rv' → PStep D rv w wr rv' → (n' : Int) ≤ S'.steps + 2 → S' = stP D s S → PTOut w D rv (stP D s S) (.returned (.tuple #[])) wr) := fun S' n' rv' wr a b c d => by
    rw [← d]; exact ⟨rfl, n', rv', a, b, c⟩
  obtain ⟨RES, hRES⟩ : ∃ RES, stP D s S = RES := ⟨_, rfl⟩
  rw [hRES] at FIN ⊢
  clear h rep ho hn hst
  go_enter Try.func63, Try.ntmps63
  go_wp2
  go_loopg [12] (lenS s) (fun q v wr => ∃ rest S' n' rv', v = .int .i64 ((lenS s - q : Nat) : Int) ∧ SLoop D S rv Q s ao w q rest S' n' rv' wr)
  case atStart => exact ⟨s, S, n, rv, by rw [Nat.sub_self]; rfl, unhide HL0⟩
  case round =>
  clear HL0
  obtain ⟨rest, S', n', rv', rfl, L⟩ := hrel
  cases rest with
  | nil =>
    have hq0 : gk = 0 := by rw [← L.len]; rfl
    subst hq0
    have hge : decide (((lenS s - 0 : Nat) : Int) < (lenS s : Int)) = false := by simp
    have FF := hide (unhide FIN S' n' rv' wr L.pt L.st L.cnt (by rw [← hRES]; exact L.fold))
    clear FIN L
    go_wp2
    go_end0
    exact unhide FF
  | node b1 o1 p k r1 =>
  have hl1 : lenS r1 + 1 = gk := L.len
  have hle := L.le
  obtain ⟨d, hd⟩ : ∃ d, d + gk = lenS s := ⟨lenS s - gk, by omega⟩
  have hnd : lenS s - gk = d := by omega
  have hrep := L.rep
  rw [hnd] at hrep ⊢
  have hlt : decide ((d : Int) < (lenS s : Int)) = true := by simp; omega
  rcases hrep with hnl | ⟨g, rfl, hg, hrf⟩
  · cases hnl
  rw [RepS_node] at hrf
  obtain ⟨⟨v, hcell, hrp⟩, hrest⟩ := hrf
  obtain ⟨⟨wfe, wft, wfa, wfb, wf2⟩, wfk, wfr⟩ := L.wf
  have hszk : szS k + szS r1 + 1 ≤ szS s := L.sz
  have hwtk : szE p.e + 22 + wtS k + wtS r1 ≤ wtS s := L.wt
  have hgw : g < wr.heap.size := World.block_lt_of_cell? _ _ hcell
  have OV := hide (over_any wr D S' n' rv' L.pt)
  by_cases hov : 20000 < S'.steps
  · have hov' : decide (20000 < S'.steps) = true := by simp [hov]
    have FF := hide (unhide FIN S' n' rv' wr L.pt L.st L.cnt (by rw [← hRES, ← L.fold, stP_over hov]))
    rw [hov'] at OV
    clear FIN L hrp hrest
    go_wp2_with fail
    refine (unhide OV).mono ?_
    rintro e w9 ⟨rfl, h9⟩
    obtain rfl := h9.symm
    go_wp2
    go_end0
    exact unhide FF
  have hov' : decide (20000 < S'.steps) = false := by simp [hov]
  rw [hov'] at OV
  have hs2 : S'.steps ≤ 20000 := by omega
  have hs0 := L.ok.s0
  have hcnt := L.cnt
  have ht1 := L.ok.t1
  have ok1 : POk D (stepP S') := L.ok.step
  have e1s : (stepP S').steps = S'.steps + 1 := rfl
  have e1t : (stepP S').touched = S'.touched := rfl
  have NX : Hid (∀ (w3 : World) (T : PSt) (n3 : Nat) (rv3 : Value), PtAt w3 D T n3 rv3 → PStep D rv' wr w3 rv3 → (∀ r, stP D (.node b1 o1 p k r) S' = stP D r T) → (n3 : Int) ≤ T.steps + 2 → ∃ rest S'' n'' rv'', Value.int .i64 ((d : Int) + 1) = .int .i64 ((lenS s - lenS r1 : Nat) : Int) ∧ SLoop D S rv Q s (some ⟨g, 0, none⟩) w (lenS r1) rest S'' n'' rv'' w3) := fun w3 T n3 rv3 h3 k3 eT hn3 => by
    obtain ⟨okT, ubT⟩ := first_grow (T := T) L.wf L.ok (eT .nil)
    have hw1 : (wtS (.node b1 o1 p k .nil) : Int) = szE p.e + 22 + wtS k := by simp [wtS]
    refine ⟨r1, T, n3, rv3, by congr 1; omega, by omega, rfl, by omega, by omega, wfr, h3, L.st.trans k3, (eT r1).symm.trans L.fold, okT, hn3, by omega, .inr ⟨g, rfl, hg, ?_⟩⟩
    rw [show lenS s - lenS r1 = d + 1 by omega]
    exact RepS.later (k3.stay L.pt hQ) (fun j hj _ => hj) r1 g (d + 1) hg hrest
  have STP := hide (step_any wr D S' n' rv' L.pt hs0 (by omega))
  have STY : Hid (∀ w3, PStep D rv' wr w3 rv' → Stay Q wr w3) := fun w3 k3 => k3.stay L.pt hQ
  have hgB := hQ g hg
  have hrv0 : ∀ j, rv'.ownBlock = some j → D.B ≤ j := fun j e => (L.pt.rowR.lt j e).1
  have hP0 := L.pt
  clear L hrest FIN
  go_wp2_with fail
  refine (unhide OV).mono ?_
  rintro e w9 ⟨rfl, h9⟩
  obtain rfl := h9.symm
  go_wp2_with fail
  refine (unhide STP).mono ?_
  rintro e w3 ⟨rfl, h3, k3⟩
  have sty := unhide STY w3 k3
  obtain ⟨fnb, fnr⟩ := h3.fresh
  have hz3 := k3.size
  clear OV STP STY hcell
  rcases hrp with ⟨ht0, x, k1, sv, hhead, rfl, hkx⟩ | ⟨ht0, x, k1, sv, a1, b2, hhead, rfl, hkx, hkids⟩ | ⟨ht0, a1, rfl, hkids⟩ | ⟨ht0, x, k1, sv, hhead, rfl, hkx⟩
  · obtain ⟨so1, sc1, rfl⟩ := RepK.form hkx
    have hve : RepV wr Q (exV x (.slice so1 (lenE k1) sc1)) p.e := by obtain ⟨b, o, r, he⟩ := hhead; exact ⟨b, o, x, k1, r, _, he, rfl, hkx⟩
    unfold asgV
    have ta0 := ta_Assign_Assign
    obtain ⟨w4, hw4⟩ : ∃ w4, w3.alloc (.cells #[.int .i64 (kP p.t), .int .i64 p.t.place, .string (wP p.t), .int .i32 (nP p.t), .int .i32 (sP p.t), .int .i64 (kP x), .int .i64 x.place, .string (wP x), .int .i32 (nP x), .int .i32 (sP x), .slice so1 (lenE k1) sc1] 156) = w4 := ⟨_, rfl⟩
    have s4 : w4.heap[w3.heap.size]? = some (.cells #[.int .i64 (kP p.t), .int .i64 p.t.place, .string (wP p.t), .int .i32 (nP p.t), .int .i32 (sP p.t), .int .i64 (kP x), .int .i64 x.place, .string (wP x), .int .i32 (nP x), .int .i32 (sP x), .slice so1 (lenE k1) sc1] 156 (0, 0)) := by rw [← hw4]; exact heap_alloc_new w3 _
    have h4 : PtAt w4 D (stepP S') n' rv' := by rw [← hw4]; exact h3.later (fun j hj => Below.heap_alloc w3 _ j hj)
    have k4 : PStep D rv' w3 w4 rv' := by rw [← hw4]; exact PStep.alloc D rv' w3 _
    have z4 : w4.heap.size = w3.heap.size + 1 := by rw [← hw4]; simp
    have v4 : RepV w4.drew Q (exV x (.slice so1 (lenE k1) sc1)) p.e := RepV.later (w' := w4.drew) (fun j hj hl => (((k4.stay h3 hQ) j hj (by omega)).trans (sty j hj hl))) (fun j hj _ => hj) hve
    obtain ⟨q, hq1, hq2, evs⟩ := ev1_some D hve (stepP S')
    have val := value_all 100000 (Nat.le_refl _) p.e w4.drew D (stepP S') n' rv' Q _ (by omega) h4.drew v4 wfe hQ hD ok1.vals ok1.s0 (by omega) ok1.t0 (by omega)
    have in1 := ev1_in D wfe ok1.vals
    have eT : ∀ r, stP D (.node b1 o1 p k r) S' = stP D r (setV (ev1 D p.e (stepP S')).2 (wP p.t) (ev1 D p.e (stepP S')).1) := fun r => stP_0 (show ¬ 20000 < S'.steps by omega) ht0
    obtain ⟨r0, hr0⟩ : ∃ r0, ev1 D p.e (stepP S') = r0 := ⟨_, rfl⟩
    obtain ⟨vv, S5⟩ := r0
    rw [hr0] at val evs in1 eT
    have st5 : S5.steps = S'.steps + 1 + q := evs.steps
    have AFT : Hid (∀ w5 rv5, PtAt w5 D S5 n' rv5 → PStep D rv' w4.drew w5 rv5 → (w5.cell? ⟨D.pb, 7, none⟩ = some (.map (some D.mb)) ∧ w5.heap[w3.heap.size]? = some (.cells #[.int .i64 (kP p.t), .int .i64 p.t.place, .string (wP p.t), .int .i32 (nP p.t), .int .i32 (sP p.t), .int .i64 (kP x), .int .i64 x.place, .string (wP x), .int .i32 (nP x), .int .i32 (sP x), .slice so1 (lenE k1) sc1] 156 (0, 0))) ∧ ∃ w9, (Instr.mapUpdate 112 (.map (some D.mb)) (.string (wP p.t)) (.int .i32 vv)).run Try.prog w5 = .ok () w9 ∧ (w9.cell? ⟨D.pb, 7, none⟩ = some (.map (some D.mb)) ∧ w9.heap[w3.heap.size]? = some (.cells #[.int .i64 (kP p.t), .int .i64 p.t.place, .string (wP p.t), .int .i32 (nP p.t), .int .i32 (sP p.t), .int .i64 (kP x), .int .i64 x.place, .string (wP x), .int .i32 (nP x), .int .i32 (sP x), .slice so1 (lenE k1) sc1] 156 (0, 0))) ∧ Hid (∃ rest S'' n'' rv'', Value.int .i64 ((d : Int) + 1) = .int .i64 ((lenS s - lenS r1 : Nat) : Int) ∧ SLoop D S rv Q s (some ⟨g, 0, none⟩) w (lenS r1) rest S'' n'' rv'' w9)) := fun w5 rv5 h5 k5 => by
      have pc : ∀ {w' : World} {T : PSt} {nn : Nat} {rr : Value}, PtAt w' D T nn rr → w'.cell? ⟨D.pb, 7, none⟩ = some (.map (some D.mb)) := fun hh => by
        have hb := hh.blk
        unfold ptO at hb
        exact (bk13 hb).1.2.2.2.2.2.2.2.1
      have b5 := (k5.block w3.heap.size (by show _ < w4.heap.size; omega) fnb fnr).trans s4
      obtain ⟨w9, hrun, h9, k9⟩ := h5.store wft.1 in1 (by omega)
      have fn5 : rv5.ownBlock ≠ some w3.heap.size := by
        rcases k5.tr with e | ⟨j, e, hj⟩
        · rw [e]; exact fnr
        · rw [e]; intro e2; cases e2
          have hj' : w4.heap.size ≤ w3.heap.size := hj
          omega
      have b9 := (k9.block w3.heap.size (by have := k5.size; have : w4.drew.heap.size = w4.heap.size := rfl; omega) fnb fn5).trans b5
      refine ⟨⟨pc h5, b5⟩, w9, hrun, ⟨pc h9, b9⟩, ?_⟩
      exact unhide NX w9 _ (n' + 1) rv5 h9 ((((k3.trans k4).trans (PStep.drew D rv' w4)).trans k5).trans k9) eT (by show ((n' + 1 : Nat) : Int) ≤ S5.steps + 2; omega)
    have VAL := hide val
    obtain ⟨d0, d1, d2, d3, d4, d5, d6, d7, d8, d9, d10⟩ := (bk11 s4).1
    have hb4 := h4.blk
    unfold ptO at hb4
    obtain ⟨⟨y0, y1, y2, y3, y4, y5, y6, y7, y8, y9, y10, y11, y12⟩, _⟩ := bk13 hb4
    clear val hkx hhead hve v4 s4 h4 k4 h3 k3 sty NX eT in1 evs hr0 ih hQ hD ok1 hb4 y0 y1 y2 y3 y4 y5 y6 y8 y9 y10 y11 y12 hP0 hrv0 wfe wft wfa wfb wf2 wfk wfr
    unfold exV at VAL
    go_wp2
    clear hw4
    go_region_held3 (fun w' => w'.cell? ⟨D.pb, 7, none⟩ = some (.map (some D.mb)) ∧ w'.cell? ⟨w3.heap.size, 2, none⟩ = some (.string (wP p.t)) ∧ w'.cell? ⟨w3.heap.size, 5, none⟩ = some (.int .i64 (kP x)) ∧ w'.cell? ⟨w3.heap.size, 6, none⟩ = some (.int .i64 x.place) ∧ w'.cell? ⟨w3.heap.size, 7, none⟩ = some (.string (wP x)) ∧ w'.cell? ⟨w3.heap.size, 8, none⟩ = some (.int .i32 (nP x)) ∧ w'.cell? ⟨w3.heap.size, 9, none⟩ = some (.int .i32 (sP x)) ∧ w'.cell? ⟨w3.heap.size, 10, none⟩ = some (.slice so1 (lenE k1) sc1)) (go_keep)
      (first
        | (go_at_call 94; refine (unhide VAL).mono ?_; rintro e w5 ⟨rfl, rv5, h5, k5⟩; have fx := unhide AFT w5 rv5 h5 k5; clear h5 k5; obtain ⟨⟨f5, g5⟩, w9, hrun, ⟨f9, g9⟩, fin⟩ := fx; have m5 := (bk11 g5).1; have m9 := (bk11 g9).1))
    all_goals go_wp2
    all_goals go_roundg (lenS r1)
    all_goals first
      | exact unhide fin
      | omega
  · obtain ⟨so1, sc1, rfl⟩ := RepK.form hkx
    have hve : RepV wr Q (exV x (.slice so1 (lenE k1) sc1)) p.e := by obtain ⟨b, o, r, he⟩ := hhead; exact ⟨b, o, x, k1, r, _, he, rfl, hkx⟩
    unfold ifV
    have ta0 := ta_If_Assign
    have ta1 := ta_If_If
    cases k with
    | nil => exact hkids.elim
    | node b3 o3 p3 s1' u1' =>
    obtain ⟨ao1, ac1, e1⟩ := RepL.form hkids.1
    obtain ⟨bo1, bc1, e2⟩ := RepL.form hkids.2
    obtain ⟨al1, hal1⟩ : ∃ al1, lenS s1' = al1 := ⟨_, rfl⟩
    obtain ⟨bl1, hbl1⟩ : ∃ bl1, lenS u1' = bl1 := ⟨_, rfl⟩
    rw [hal1] at e1
    rw [hbl1] at e2
    subst e1
    subst e2
    have hsz2 : szS (.node b3 o3 p3 s1' u1') = szS s1' + szS u1' + 1 := rfl
    have hwt2 : wtS (.node b3 o3 p3 s1' u1') = szE p3.e + 22 + wtS s1' + wtS u1' := rfl
    obtain ⟨w4, hw4⟩ : ∃ w4, w3.alloc (.cells #[.int .i64 (kP p.t), .int .i64 p.t.place, .string (wP p.t), .int .i32 (nP p.t), .int .i32 (sP p.t), .int .i64 (kP x), .int .i64 x.place, .string (wP x), .int .i32 (nP x), .int .i32 (sP x), .slice so1 (lenE k1) sc1, .slice ao1 al1 ac1, .slice bo1 bl1 bc1] 159) = w4 := ⟨_, rfl⟩
    have s4 : w4.heap[w3.heap.size]? = some (.cells #[.int .i64 (kP p.t), .int .i64 p.t.place, .string (wP p.t), .int .i32 (nP p.t), .int .i32 (sP p.t), .int .i64 (kP x), .int .i64 x.place, .string (wP x), .int .i32 (nP x), .int .i32 (sP x), .slice so1 (lenE k1) sc1, .slice ao1 al1 ac1, .slice bo1 bl1 bc1] 159 (0, 0)) := by rw [← hw4]; exact heap_alloc_new w3 _
    have h4 : PtAt w4 D (stepP S') n' rv' := by rw [← hw4]; exact h3.later (fun j hj => Below.heap_alloc w3 _ j hj)
    have k4 : PStep D rv' w3 w4 rv' := by rw [← hw4]; exact PStep.alloc D rv' w3 _
    have st4 : Stay Q wr w4 := fun j hj hl => ((k4.stay h3 hQ) j hj (by omega)).trans (sty j hj hl)
    have eT : ∀ r, stP D (.node b1 o1 p (.node b3 o3 p3 s1' u1') r) S' = stP D r (if (ev1 D p.e (stepP S')).1 ≠ 0 then stP D s1' (ev1 D p.e (stepP S')).2 else stP D u1' (ev1 D p.e (stepP S')).2) := fun r => stP_1 (show ¬ 20000 < S'.steps by omega) ht0
    have CH : Hid (Calls Try.prog 95 #[.pointer (some ⟨D.pb, 0, none⟩), .agg #[.int .i64 (kP p.t), .int .i64 p.t.place, .string (wP p.t), .int .i32 (nP p.t), .int .i32 (sP p.t), .int .i64 (kP x), .int .i64 x.place, .string (wP x), .int .i32 (nP x), .int .i32 (sP x), .slice so1 (lenE k1) sc1, .slice ao1 al1 ac1, .slice bo1 bl1 bc1]] w4 (fun e w5 => e = .returned (.tuple #[]) ∧ Hid (∃ rest S'' n'' rv'', Value.int .i64 ((d : Int) + 1) = .int .i64 ((lenS s - lenS r1 : Nat) : Int) ∧ SLoop D S rv Q s (some ⟨g, 0, none⟩) w (lenS r1) rest S'' n'' rv'' w5))) := by
      refine (choose_any ih w4 D (stepP S') n' rv' Q p.t x so1 ao1 bo1 (lenE k1) sc1 al1 ac1 bl1 bc1 p.e s1' u1' hD h4 (RepV.later st4 (fun j hj _ => hj) hve) (RepL.later st4 (fun j hj _ => hj) hkids.1) (RepL.later st4 (fun j hj _ => hj) hkids.2) wfe wfk.2.1 wfk.2.2 hQ ok1 (by omega) (by omega) (by omega) (by omega) (by omega) (by omega) (by omega)).mono ?_
      rintro e w5 ⟨rfl, n5, rv5, p5, k5, hn5⟩
      exact ⟨rfl, unhide NX w5 _ n5 rv5 p5 ((k3.trans k4).trans k5) eT hn5⟩
    obtain ⟨d0, d1, d2, d3, d4, d5, d6, d7, d8, d9, d10, d11, d12⟩ := (bk13 s4).1
    clear hkx hhead hve st4 h4 k4 h3 k3 sty NX eT ih hQ hD ok1 hP0 hrv0 wfe wft wfa wfb wf2 wfk wfr hkids hal1 hbl1 s4
    go_wp2_with fail
    clear hw4
    refine (unhide CH).mono ?_
    rintro e w5 ⟨rfl, fin⟩
    clear CH d0 d1 d2 d3 d4 d5 d6 d7 d8 d9 d10 d11 d12
    go_wp2
    go_roundg (lenS r1)
    case rel => exact unhide fin
    case measure => omega
  · unfold forV
    have ta0 := ta_For_Assign
    have ta1 := ta_For_If
    have ta2 := ta_For_For
    obtain ⟨ao1, ac1, e1⟩ := RepL.form hkids
    obtain ⟨al1, hal1⟩ : ∃ al1, lenS k = al1 := ⟨_, rfl⟩
    rw [hal1] at e1
    subst e1
    obtain ⟨w4, hw4⟩ : ∃ w4, w3.alloc (.cells #[.int .i64 (kP p.t), .int .i64 p.t.place, .string (wP p.t), .int .i32 (nP p.t), .int .i32 (sP p.t), .int .i64 (kP p.a), .int .i64 p.a.place, .string (wP p.a), .int .i32 (nP p.a), .int .i32 (sP p.a), .int .i64 (kP p.b), .int .i64 p.b.place, .string (wP p.b), .int .i32 (nP p.b), .int .i32 (sP p.b), .slice ao1 al1 ac1] 162) = w4 := ⟨_, rfl⟩
    have s4 : w4.heap[w3.heap.size]? = some (.cells #[.int .i64 (kP p.t), .int .i64 p.t.place, .string (wP p.t), .int .i32 (nP p.t), .int .i32 (sP p.t), .int .i64 (kP p.a), .int .i64 p.a.place, .string (wP p.a), .int .i32 (nP p.a), .int .i32 (sP p.a), .int .i64 (kP p.b), .int .i64 p.b.place, .string (wP p.b), .int .i32 (nP p.b), .int .i32 (sP p.b), .slice ao1 al1 ac1] 162 (0, 0)) := by rw [← hw4]; exact heap_alloc_new w3 _
    have h4 : PtAt w4 D (stepP S') n' rv' := by rw [← hw4]; exact h3.later (fun j hj => Below.heap_alloc w3 _ j hj)
    have k4 : PStep D rv' w3 w4 rv' := by rw [← hw4]; exact PStep.alloc D rv' w3 _
    have st4 : Stay Q wr w4 := fun j hj hl => ((k4.stay h3 hQ) j hj (by omega)).trans (sty j hj hl)
    have eT : ∀ r, stP D (.node b1 o1 p k r) S' = stP D r (roundsP (stP D k) (wP p.t) (nP p.b - nP p.a + 1).toNat (nP p.a) (stepP S')) := fun r => stP_2 (show ¬ 20000 < S'.steps by omega) ht0
    have CH : Hid (Calls Try.prog 96 #[.pointer (some ⟨D.pb, 0, none⟩), .agg #[.int .i64 (kP p.t), .int .i64 p.t.place, .string (wP p.t), .int .i32 (nP p.t), .int .i32 (sP p.t), .int .i64 (kP p.a), .int .i64 p.a.place, .string (wP p.a), .int .i32 (nP p.a), .int .i32 (sP p.a), .int .i64 (kP p.b), .int .i64 p.b.place, .string (wP p.b), .int .i32 (nP p.b), .int .i32 (sP p.b), .slice ao1 al1 ac1]] w4 (fun e w5 => e = .returned (.tuple #[]) ∧ Hid (∃ rest S'' n'' rv'', Value.int .i64 ((d : Int) + 1) = .int .i64 ((lenS s - lenS r1 : Nat) : Int) ∧ SLoop D S rv Q s (some ⟨g, 0, none⟩) w (lenS r1) rest S'' n'' rv'' w5))) := by
      refine (rounds_any ih w4 D (stepP S') n' rv' Q p.t p.a p.b ao1 al1 ac1 k hD h4 (RepL.later st4 (fun j hj _ => hj) hkids) wfk wft wfa (wf2 ht0) hQ ok1 (by omega) (by omega) (by omega) (by omega)).mono ?_
      rintro e w5 ⟨rfl, n5, rv5, p5, k5, hn5⟩
      exact ⟨rfl, unhide NX w5 _ n5 rv5 p5 ((k3.trans k4).trans k5) eT hn5⟩
    obtain ⟨d0, d1, d2, d3, d4, d5, d6, d7, d8, d9, d10, d11, d12, d13, d14, d15⟩ := (bk16 s4).1
    clear st4 h4 k4 h3 k3 sty NX eT ih hQ hD ok1 hP0 hrv0 wfe wft wfa wfb wf2 wfk wfr hkids hal1 s4
    go_wp2_with fail
    clear hw4
    refine (unhide CH).mono ?_
    rintro e w5 ⟨rfl, fin⟩
    clear CH d0 d1 d2 d3 d4 d5 d6 d7 d8 d9 d10 d11 d12 d13 d14 d15
    go_wp2
    go_roundg (lenS r1)
    case rel => exact unhide fin
    case measure => omega
  · obtain ⟨so1, sc1, rfl⟩ := RepK.form hkx
    have hve : RepV wr Q (exV x (.slice so1 (lenE k1) sc1)) p.e := by obtain ⟨b, o, r, he⟩ := hhead; exact ⟨b, o, x, k1, r, _, he, rfl, hkx⟩
    unfold putV
    have ta0 := ta_Put_Assign
    have ta1 := ta_Put_If
    have ta2 := ta_Put_For
    have ta3 := ta_Put_Put
    obtain ⟨w4, hw4⟩ : ∃ w4, w3.alloc (.cells #[.int .i64 (kP p.t), .int .i64 p.t.place, .string (wP p.t), .int .i32 (nP p.t), .int .i32 (sP p.t), .int .i64 (kP x), .int .i64 x.place, .string (wP x), .int .i32 (nP x), .int .i32 (sP x), .slice so1 (lenE k1) sc1] 165) = w4 := ⟨_, rfl⟩
    have s4 : w4.heap[w3.heap.size]? = some (.cells #[.int .i64 (kP p.t), .int .i64 p.t.place, .string (wP p.t), .int .i32 (nP p.t), .int .i32 (sP p.t), .int .i64 (kP x), .int .i64 x.place, .string (wP x), .int .i32 (nP x), .int .i32 (sP x), .slice so1 (lenE k1) sc1] 165 (0, 0)) := by rw [← hw4]; exact heap_alloc_new w3 _
    have h4 : PtAt w4 D (stepP S') n' rv' := by rw [← hw4]; exact h3.later (fun j hj => Below.heap_alloc w3 _ j hj)
    have k4 : PStep D rv' w3 w4 rv' := by rw [← hw4]; exact PStep.alloc D rv' w3 _
    have st4 : Stay Q wr w4 := fun j hj hl => ((k4.stay h3 hQ) j hj (by omega)).trans (sty j hj hl)
    have eT : ∀ r, stP D (.node b1 o1 p k r) S' = stP D r (putP D (ev1 D p.e (stepP S')).2 (decide (wP p.t = sOUT)) (ev1 D p.e (stepP S')).1) := fun r => stP_3 (show ¬ 20000 < S'.steps by omega) ht0
    obtain ⟨q, hq1, hq2, evs⟩ := ev1_some D hve (stepP S')
    have st5 := evs.steps
    have tt5 := evs.t2
    have pst := ((ok1.ev evs).put (by omega) (decide (wP p.t = sOUT)) (ev1 D p.e (stepP S')).1).2
    have CH : Hid (Calls Try.prog 97 #[.pointer (some ⟨D.pb, 0, none⟩), .agg #[.int .i64 (kP p.t), .int .i64 p.t.place, .string (wP p.t), .int .i32 (nP p.t), .int .i32 (sP p.t), .int .i64 (kP x), .int .i64 x.place, .string (wP x), .int .i32 (nP x), .int .i32 (sP x), .slice so1 (lenE k1) sc1]] w4 (fun e w5 => e = .returned (.tuple #[]) ∧ Hid (∃ rest S'' n'' rv'', Value.int .i64 ((d : Int) + 1) = .int .i64 ((lenS s - lenS r1 : Nat) : Int) ∧ SLoop D S rv Q s (some ⟨g, 0, none⟩) w (lenS r1) rest S'' n'' rv'' w5))) := by
      refine (put_anyP w4 D (stepP S') n' rv' Q p.t x so1 (lenE k1) sc1 p.e hD h4 (RepV.later st4 (fun j hj _ => hj) hve) wfe hQ ok1 (by omega) (by omega)).mono ?_
      rintro e w5 ⟨rfl, rv5, p5, k5⟩
      exact ⟨rfl, unhide NX w5 _ n' rv5 p5 ((k3.trans k4).trans k5) eT (by rw [pst]; omega)⟩
    obtain ⟨d0, d1, d2, d3, d4, d5, d6, d7, d8, d9, d10⟩ := (bk11 s4).1
    clear hkx hhead hve st4 h4 k4 h3 k3 sty NX eT ih hQ hD ok1 hP0 hrv0 wfe wft wfa wfb wf2 wfk wfr s4 evs st5 tt5 pst
    go_wp2_with fail
    clear hw4
    refine (unhide CH).mono ?_
    rintro e w5 ⟨rfl, fin⟩
    clear CH d0 d1 d2 d3 d4 d5 d6 d7 d8 d9 d10
    go_wp2
    go_roundg (lenS r1)
    case rel => exact unhide fin
    case measure => omega
theorem pstm_all : ∀ m, m ≤ 100000 → PStOK m
  | 0, _ => fun s w D S n rv Q v hsz => by omega
  | m + 1, hm => pstm_step (by omega) (pstm_all m (by omega))
end Go.Proofs.Ythmmgiaobakilaa
