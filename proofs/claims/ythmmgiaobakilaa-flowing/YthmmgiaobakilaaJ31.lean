import Derived.Test.YthmmgiaobakilaaJ29
import Derived.Test.YthmmgiaobakilaaJ30
import Derived.Deep.RegionHeld3
/- What statements do, on data; the painter's put. -/
set_option maxRecDepth 100000
namespace Go.Proofs.Ythmmgiaobakilaa
open Go.RowKit Go.Deep

def hereP (D : PD) (S : PSt) : Int := S.cy * D.sw + S.cx
def putP (D : PD) (S : PSt) (out : Bool) (v : Int) : PSt :=
  if out then { touchP S 2 (hereP D S) with opn := S.opn.set (hereP D S).toNat (toneV v) } else { touchP S 3 (hereP D S) with hid := S.hid.set (hereP D S).toNat (toneV v) }
/-- What is good about a painter's state. -/
structure POk (D : PD) (S : PSt) : Prop where
  vals : OkV S
  s0 : 0 ≤ S.steps
  t0 : 0 ≤ S.touched
  t1 : S.touched ≤ S.steps
  lo : (S.opn.length : Int) = D.sw * D.sh
  lh : (S.hid.length : Int) = D.sw * D.sh
  x0 : 0 ≤ S.cx
  x1 : S.cx ≤ D.sw - 1
  y0 : 0 ≤ S.cy
  y1 : S.cy ≤ D.sh - 1
theorem here_in {D : PD} {S : PSt} (hD : D.Ok) (h : POk D S) : 0 ≤ hereP D S ∧ hereP D S < D.sw * D.sh := by
  have a1 := h.x0; have a2 := h.x1; have b1 := h.y0; have b2 := h.y1
  have hw := hD.w1
  have m1 : 0 ≤ S.cy * D.sw := Int.mul_nonneg b1 (by omega)
  have m2 : S.cy * D.sw ≤ (D.sh - 1) * D.sw := Int.mul_le_mul_of_nonneg_right b2 (by omega)
  have m3 : (D.sh - 1) * D.sw = D.sw * D.sh - D.sw := by rw [Int.sub_mul, Int.mul_comm, Int.one_mul]
  unfold hereP
  omega
def PSOut (w : World) (D : PD) (n : Nat) (rv : Value) (S' : PSt) (e : Ending) (w' : World) : Prop := e = .returned (.tuple #[]) ∧ ∃ rv', PtAt w' D S' n rv' ∧ PStep D rv w w' rv'
theorem pic_set (l : List Int) (i : Nat) (v : Int) : ((l.map (Value.int .i64)).toArray.setIfInBounds i (.int .i64 v)) = ((l.set i v).map (Value.int .i64)).toArray := by
  rw [List.setIfInBounds_toArray, List.map_set]
section
variable {w : World} {D : PD} {S : PSt} {n : Nat} {rv : Value}
theorem PtAt.paintO (h : PtAt w D S n rv) (i : Nat) (v : Int) : PtAt (w.setCell ⟨D.ob, i, none⟩ (.int .i64 v)) D { S with opn := S.opn.set i v } n rv := by
  obtain ⟨n1, n2, n3, n4, n5, n6⟩ := h.ne
  have oth : ∀ k, k ≠ D.ob → (w.setCell ⟨D.ob, i, none⟩ (.int .i64 v)).heap[k]? = w.heap[k]? := fun k hk => Below.heap_setCell _ _ _ _ hk
  have hB := fun k => h.base k
  refine ⟨(oth _ n2).trans ?_, h.map.later (oth _ n4), ?_, (oth _ (Ne.symm n6)).trans h.rowH, own_sameP h.rowR (fun k e => oth k (fun e2 => h.away k e (.inr (.inr (.inl e2))))), h.ne, h.base, h.away, h.tex1.sameP (fun k hk => oth k (by have := hB D.ob (.inr (.inr (.inl rfl))); omega)), h.tex2.sameP (fun k hk => oth k (by have := hB D.ob (.inr (.inr (.inl rfl))); omega))⟩
  · rw [h.blk]; unfold ptO; simp
  · have := heap_setCell_same w D.ob i _ _ (.int .i64 v) h.rowO
    rw [this]
    unfold picO
    rw [pic_set]
theorem PtAt.paintH (h : PtAt w D S n rv) (i : Nat) (v : Int) : PtAt (w.setCell ⟨D.hb, i, none⟩ (.int .i64 v)) D { S with hid := S.hid.set i v } n rv := by
  obtain ⟨n1, n2, n3, n4, n5, n6⟩ := h.ne
  have oth : ∀ k, k ≠ D.hb → (w.setCell ⟨D.hb, i, none⟩ (.int .i64 v)).heap[k]? = w.heap[k]? := fun k hk => Below.heap_setCell _ _ _ _ hk
  have hB := fun k => h.base k
  refine ⟨(oth _ n3).trans ?_, h.map.later (oth _ n5), (oth _ n6).trans h.rowO, ?_, own_sameP h.rowR (fun k e => oth k (fun e2 => h.away k e (.inr (.inr (.inr e2))))), h.ne, h.base, h.away, h.tex1.sameP (fun k hk => oth k (by have := hB D.hb (.inr (.inr (.inr rfl))); omega)), h.tex2.sameP (fun k hk => oth k (by have := hB D.hb (.inr (.inr (.inr rfl))); omega))⟩
  · rw [h.blk]; unfold ptO; simp
  · have := heap_setCell_same w D.hb i _ _ (.int .i64 v) h.rowH
    rw [this]
    unfold picO
    rw [pic_set]
theorem pic_cell {b : Nat} {l : List Int} (h : w.heap[b]? = some (picO l)) {i : Nat} (hi : i < l.length) : w.cell? ⟨b, i, none⟩ = some (.int .i64 (l.getD i 0)) ∧ w.frozen? ⟨b, i, none⟩ = false := by
  unfold picO at h
  constructor
  · simp only [World.cell?, h]
    simp [List.getElem?_eq_getElem hi, List.getD]
  · simp [World.frozen?, h]
end
theorem ev1_some (D : PD) {w : World} {Q : Nat → Prop} {v : Value} {e : Ex} (h : RepV w Q v e) (S : PSt) : ∃ m, 1 ≤ m ∧ m ≤ szE e ∧ EvS S (ev1 D e S).2 m := by
  obtain ⟨b, o, t, k, r, sv, rfl, _, _⟩ := h
  exact ⟨szE k + 1, by omega, by simp [szE], ev1_ev D S⟩
theorem POk.ev {D : PD} {S S' : PSt} {m : Nat} (h : POk D S) (e : EvS S S' m) : POk D S' := by
  have a := e.steps; have b := e.t1; have c := e.t2; have d := h.s0; have f := h.t0; have g := h.t1
  exact ⟨h.vals.ev e, by omega, by omega, by omega, by rw [e.opn]; exact h.lo, by rw [e.hid]; exact h.lh, by rw [e.cx]; exact h.x0, by rw [e.cx]; exact h.x1, by rw [e.cy]; exact h.y0, by rw [e.cy]; exact h.y1⟩
/-- What a touch at the painter's own point leaves to be read. -/
theorem touch_left {w : World} {D : PD} {S : PSt} {n : Nat} {rv : Value} {a b : Int} (h : PtAt w D (touchP S a b) n rv) : w.cell? ⟨D.pb, 5, none⟩ = some (.int .i64 S.cx) ∧ w.cell? ⟨D.pb, 6, none⟩ = some (.int .i64 S.cy) ∧ w.cell? ⟨D.pb, 8, none⟩ = some (.slice (some ⟨D.ob, 0, none⟩) S.opn.length S.opn.length) ∧ w.cell? ⟨D.pb, 9, none⟩ = some (.slice (some ⟨D.hb, 0, none⟩) S.hid.length S.hid.length) ∧ w.heap[D.ob]? = some (picO S.opn) ∧ w.heap[D.hb]? = some (picO S.hid) := by
  obtain ⟨_, _, _, e4, e5, e6, e7⟩ := touchP_steps S a b
  have hb := h.blk
  unfold ptO at hb
  obtain ⟨⟨_, _, _, _, _, x5, x6, _, x8, x9, _⟩, _⟩ := bk13 hb
  rw [e6] at x5
  rw [e7] at x6
  rw [e4] at x8
  rw [e5] at x9
  have o := h.rowO
  have g := h.rowH
  rw [e4] at o
  rw [e5] at g
  exact ⟨x5, x6, x8, x9, o, g⟩
set_option maxHeartbeats 8000000 in
theorem put_anyP (w : World) (D : PD) (S : PSt) (n : Nat) (rv : Value) (Q : Nat → Prop) (t x : Tok) (so : Option Addr) (sl sc : Nat) (e : Ex) (hD : D.Ok) (h : PtAt w D S n rv) (hv : RepV w Q (exV x (.slice so sl sc)) e) (hw : WfV e) (hQ : ∀ k, Q k → k < D.B) (ho : POk D S) (hs : S.steps + szE e ≤ 900000) (hsz : szE e ≤ 100000) :
    Calls Try.prog 97 #[.pointer (some ⟨D.pb, 0, none⟩), .agg #[.int .i64 (kP t), .int .i64 t.place, .string (wP t), .int .i32 (nP t), .int .i32 (sP t), .int .i64 (kP x), .int .i64 x.place, .string (wP x), .int .i32 (nP x), .int .i32 (sP x), .slice so sl sc]] w (PSOut w D n rv (putP D (ev1 D e S).2 (decide (wP t = sOUT)) (ev1 D e S).1)) := by
  obtain ⟨w1, hw1⟩ : ∃ w1, w.alloc (.cells #[.int .i64 (kP t), .int .i64 t.place, .string (wP t), .int .i32 (nP t), .int .i32 (sP t), .int .i64 (kP x), .int .i64 x.place, .string (wP x), .int .i32 (nP x), .int .i32 (sP x), .slice so sl sc] 165) = w1 := ⟨_, rfl⟩
  have s1 : w1.heap[w.heap.size]? = some (.cells #[.int .i64 (kP t), .int .i64 t.place, .string (wP t), .int .i32 (nP t), .int .i32 (sP t), .int .i64 (kP x), .int .i64 x.place, .string (wP x), .int .i32 (nP x), .int .i32 (sP x), .slice so sl sc] 165 (0, 0)) := by rw [← hw1]; exact heap_alloc_new w _
  have h1 : PtAt w1 D S n rv := by rw [← hw1]; exact h.later (fun k hk => Below.heap_alloc w _ k hk)
  have k1 : PStep D rv w w1 rv := by rw [← hw1]; exact PStep.alloc D rv w _
  have z1 : w1.heap.size = w.heap.size + 1 := by rw [← hw1]; simp
  have v1 : RepV w1 Q (exV x (.slice so sl sc)) e := by rw [← hw1]; exact RepV.later (fun j _ hl => Below.heap_alloc w _ j hl) (fun j hj _ => hj) hv
  have hnb : ¬ D.own w.heap.size := by
    rintro (o | o | o | o)
    · have := h.ltP; omega
    · have := h.ltM; omega
    · have := h.ltO; omega
    · have := h.ltH; omega
  have hnr : rv.ownBlock ≠ some w.heap.size := fun e => by have := (h.rowR.lt _ e).2; omega
  have val := value_all 100000 (Nat.le_refl _) e w1 D S n rv Q _ hsz h1 v1 hw hQ hD ho.vals ho.s0 (by omega) ho.t0 (by have := ho.t1; omega)
  obtain ⟨m, hm1, hm2, evs⟩ := ev1_some D hv S
  obtain ⟨r0, hr0⟩ : ∃ r0, ev1 D e S = r0 := ⟨_, rfl⟩
  obtain ⟨vv, S1⟩ := r0
  rw [hr0] at val evs ⊢
  have evs : EvS S S1 m := evs
  have ok1 : POk D S1 := ho.ev evs
  obtain ⟨p0, p1⟩ := here_in hD ok1
  obtain ⟨kk, hkk⟩ : ∃ kk : Nat, hereP D S1 = (kk : Int) := ⟨(hereP D S1).toNat, by omega⟩
  have hko : kk < S1.opn.length := by have := ok1.lo; omega
  have hkh : kk < S1.hid.length := by have := ok1.lh; omega
  have st1 := evs.steps
  have t1s := ok1.t1
  have hw1' := hD.w1
  have hw2' := hD.w2
  have TCH : Hid (∀ (wh : Int) (w2 : World) (rv2 : Value), PtAt w2 D S1 n rv2 → Calls Try.prog 125 #[.pointer (some ⟨D.pb, 0, none⟩), .int .i64 wh, .agg #[.int .i64 S1.cx, .int .i64 S1.cy]] w2 fun e w' => e = .returned (.int .i64 (kk : Int)) ∧ ∃ rv', PtAt w' D (touchP S1 wh (kk : Int)) n rv' ∧ PStep D rv2 w2 w' rv') := fun wh w2 rv2 h2 => by
    have := touch_anyP w2 D S1 n rv2 S1.cx S1.cy wh h2 ok1.t0 (by omega) ⟨ok1.x0, by have := ok1.x1; omega⟩ ⟨ok1.y0, by have := ok1.y1; have := hD.h2; omega⟩ ⟨hw1', by omega⟩
    have e : S1.cy * D.sw + S1.cx = (kk : Int) := hkk
    rw [e] at this
    exact this
  have FO : Hid (∀ (w3 : World) (rv3 : Value), PtAt w3 D (touchP S1 2 (kk : Int)) n rv3 → PStep D rv w w3 rv3 → PSOut w D n rv (putP D S1 true vv) (.returned (.tuple #[])) (w3.setCell ⟨D.ob, kk, none⟩ (.int .i64 (toneV vv)))) := fun w3 rv3 h3 k3 => by
    have := h3.paintO kk (toneV vv)
    rw [(touchP_steps S1 2 (kk : Int)).2.2.2.1] at this
    refine ⟨rfl, rv3, ?_, k3.set (.inr (.inr (.inl rfl))) _⟩
    unfold putP
    rw [if_pos rfl, hkk, Int.toNat_natCast]
    exact this
  have FH : Hid (∀ (w3 : World) (rv3 : Value), PtAt w3 D (touchP S1 3 (kk : Int)) n rv3 → PStep D rv w w3 rv3 → PSOut w D n rv (putP D S1 false vv) (.returned (.tuple #[])) (w3.setCell ⟨D.hb, kk, none⟩ (.int .i64 (toneV vv)))) := fun w3 rv3 h3 k3 => by
    have := h3.paintH kk (toneV vv)
    rw [(touchP_steps S1 3 (kk : Int)).2.2.2.2.1] at this
    refine ⟨rfl, rv3, ?_, k3.set (.inr (.inr (.inr rfl))) _⟩
    unfold putP
    rw [if_neg (by simp), hkk, Int.toNat_natCast]
    exact this
  have g1 : ((wP t).toList == [111, 117, 116]) = decide (wP t = sOUT) := str_is (wP t) sOUT
  obtain ⟨d0, d1, d2, d3, d4, d5, d6, d7, d8, d9, d10⟩ := (bk11 s1).1
  have nO : ¬ D.pb = D.ob := h.ne.2.1
  have nH : ¬ D.pb = D.hb := h.ne.2.2.1
  have nO' : ¬ D.ob = D.pb := fun e => nO e.symm
  have nH' : ¬ D.hb = D.pb := fun e => nH e.symm
  have VAL := hide val
  clear val h v1 hv hw hQ ho evs ok1 p0 p1 hkk hD hr0 hs hsz h1 st1 t1s hw1' hw2' hm1 hm2
  show Calls _ _ _ _ (PSOut w D n rv (putP D S1 (decide (wP t = sOUT)) vv))
  obtain ⟨bo, hbo⟩ : ∃ bo, decide (wP t = sOUT) = bo := ⟨_, rfl⟩
  rw [hbo] at g1 ⊢
  clear hbo
  go_enter Try.func97, Try.ntmps97
  go_wp2_with fail
  clear hw1
  unfold exV at VAL
  refine (unhide VAL).mono ?_
  rintro e w2 ⟨rfl, rv2, h2, k2⟩
  have s2 := (k2.block _ (by omega) hnb hnr).trans s1
  have kk2 := k1.trans k2
  have hz2 := k2.size
  clear VAL d0 d1 d2 d3 d4 d5 d6 d7 d8 d9 d10 s1 k2 k1
  go_wp2_with fail
  refine (tone_any w2 vv).mono ?_
  rintro e w9 ⟨rfl, h9⟩
  obtain rfl := h9.symm
  obtain ⟨d0, d1, d2, d3, d4, d5, d6, d7, d8, d9, d10⟩ := (bk11 s2).1
  have hb2 := h2.blk
  unfold ptO at hb2
  obtain ⟨⟨x0, x1, x2, x3, x4, x5, x6, x7, x8, x9, x10, x11, x12⟩, _⟩ := bk13 hb2
  have h2d : PtAt w2.drew D S1 n rv2 := h2.drew
  have k2d : PStep D rv w w2.drew rv2 := kk2.trans (PStep.drew D rv2 w2)
  clear s2 hb2 x0 x1 x2 x3 x4 x7 x10 x11 x12 h2 kk2
  cases bo
  · have AFT : Hid (∀ (w3 : World) (rv3 : Value), PtAt w3 D (touchP S1 3 (kk : Int)) n rv3 → PStep D rv2 w2.drew w3 rv3 → (w3.cell? ⟨D.pb, 5, none⟩ = some (.int .i64 S1.cx) ∧ w3.cell? ⟨D.pb, 6, none⟩ = some (.int .i64 S1.cy) ∧ w3.cell? ⟨D.pb, 9, none⟩ = some (.slice (some ⟨D.hb, 0, none⟩) S1.hid.length S1.hid.length)) ∧ w3.cell? ⟨D.hb, kk, none⟩ = some (.int .i64 (S1.hid.getD kk 0)) ∧ w3.frozen? ⟨D.hb, kk, none⟩ = false ∧ Hid (PSOut w D n rv (putP D S1 false vv) (.returned (.tuple #[])) (w3.setCell ⟨D.hb, kk, none⟩ (.int .i64 (toneV vv))))) := fun w3 rv3 h3 k3 => by
      obtain ⟨a, b, c, d, f, g⟩ := touch_left h3
      exact ⟨⟨a, b, d⟩, (pic_cell g hkh).1, (pic_cell g hkh).2, unhide FH w3 rv3 h3 (k2d.trans k3)⟩
    have hlt : (kk : Int) < (S1.hid.length : Int) := by omega
    obtain ⟨L, hL⟩ : ∃ L, S1.hid.length = L := ⟨_, rfl⟩
    obtain ⟨old, hold⟩ : ∃ old, S1.hid.getD kk 0 = old := ⟨_, rfl⟩
    obtain ⟨tv, htv⟩ : ∃ tv, toneV vv = tv := ⟨_, rfl⟩
    rw [hL] at AFT hlt x9
    rw [hold, htv] at AFT
    rw [htv]
    clear hL hold htv FO FH x8 hko hkh
    go_wp2
    go_region_held3 (fun w' => w'.cell? ⟨D.pb, 5, none⟩ = some (.int .i64 S1.cx) ∧ w'.cell? ⟨D.pb, 6, none⟩ = some (.int .i64 S1.cy) ∧ w'.cell? ⟨D.pb, 9, none⟩ = some (.slice (some ⟨D.hb, 0, none⟩) L L)) (go_keep)
      (first
        | (go_at_call 125; refine (unhide TCH 3 _ rv2 h2d).mono ?_; rintro e w3 ⟨rfl, rv3, h3, k3⟩; have fx := unhide AFT w3 rv3 h3 k3; clear h3 k3; obtain ⟨⟨fa, fb, fc⟩, fd, fe, fin⟩ := fx))
    all_goals go_wp2
    all_goals go_end0
    all_goals exact unhide fin
  · have AFT : Hid (∀ (w3 : World) (rv3 : Value), PtAt w3 D (touchP S1 2 (kk : Int)) n rv3 → PStep D rv2 w2.drew w3 rv3 → (w3.cell? ⟨D.pb, 5, none⟩ = some (.int .i64 S1.cx) ∧ w3.cell? ⟨D.pb, 6, none⟩ = some (.int .i64 S1.cy) ∧ w3.cell? ⟨D.pb, 8, none⟩ = some (.slice (some ⟨D.ob, 0, none⟩) S1.opn.length S1.opn.length)) ∧ w3.cell? ⟨D.ob, kk, none⟩ = some (.int .i64 (S1.opn.getD kk 0)) ∧ w3.frozen? ⟨D.ob, kk, none⟩ = false ∧ Hid (PSOut w D n rv (putP D S1 true vv) (.returned (.tuple #[])) (w3.setCell ⟨D.ob, kk, none⟩ (.int .i64 (toneV vv))))) := fun w3 rv3 h3 k3 => by
      obtain ⟨a, b, c, d, f, g⟩ := touch_left h3
      exact ⟨⟨a, b, c⟩, (pic_cell f hko).1, (pic_cell f hko).2, unhide FO w3 rv3 h3 (k2d.trans k3)⟩
    have hlt : (kk : Int) < (S1.opn.length : Int) := by omega
    obtain ⟨L, hL⟩ : ∃ L, S1.opn.length = L := ⟨_, rfl⟩
    obtain ⟨old, hold⟩ : ∃ old, S1.opn.getD kk 0 = old := ⟨_, rfl⟩
    obtain ⟨tv, htv⟩ : ∃ tv, toneV vv = tv := ⟨_, rfl⟩
    rw [hL] at AFT hlt x8
    rw [hold, htv] at AFT
    rw [htv]
    clear hL hold htv FO FH x9 hko hkh
    go_wp2
    go_region_held3 (fun w' => w'.cell? ⟨D.pb, 5, none⟩ = some (.int .i64 S1.cx) ∧ w'.cell? ⟨D.pb, 6, none⟩ = some (.int .i64 S1.cy) ∧ w'.cell? ⟨D.pb, 8, none⟩ = some (.slice (some ⟨D.ob, 0, none⟩) L L)) (go_keep)
      (first
        | (go_at_call 125; refine (unhide TCH 2 _ rv2 h2d).mono ?_; rintro e w3 ⟨rfl, rv3, h3, k3⟩; have fx := unhide AFT w3 rv3 h3 k3; clear h3 k3; obtain ⟨⟨fa, fb, fc⟩, fd, fe, fin⟩ := fx))
    all_goals go_wp2
    all_goals go_end0
    all_goals exact unhide fin
end Go.Proofs.Ythmmgiaobakilaa
