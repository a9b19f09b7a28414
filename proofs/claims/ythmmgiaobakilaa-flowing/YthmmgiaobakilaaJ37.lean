import Derived.Test.YthmmgiaobakilaaJ01
import Derived.Test.YthmmgiaobakilaaJ02
import Derived.Test.YthmmgiaobakilaaJ13
import Derived.Test.YthmmgiaobakilaaJ35
import Derived.Test.YthmmgiaobakilaaJ36
/- sable.Paint, by one function on data. -/
set_option maxRecDepth 100000
namespace Go.Proofs.Ythmmgiaobakilaa
open Go.RowKit Go.Deep

/-- A scene as data alone. -/
def pdOf (sw sh : Int) (xs ys : List Int) : PD := ⟨0, 0, 0, 0, 0, sw, sh, none, none, 0, 0, xs, ys, ⟨#[]⟩⟩
def PD.data (D : PD) : PD := pdOf D.sw D.sh D.opens D.hids
theorem word_data (D : PD) (S : PSt) (u : ByteArray) (vs : List Int) : wordP D S u vs = wordP D.data S u vs := by cases D; rfl
theorem head_data (D : PD) (S : PSt) (t : Tok) (vs : List Int) : headP D S t vs = headP D.data S t vs := by
  unfold headP; rw [word_data]
theorem evE_data (D : PD) : ∀ (e : Ex) (S : PSt), evE D e S = evE D.data e S
  | .nil, _ => rfl
  | .node _ _ t k r, S => by
    rw [evE, evE, evE_data D k S, head_data D, evE_data D r]
theorem ev1_data (D : PD) (e : Ex) (S : PSt) : ev1 D e S = ev1 D.data e S := by
  cases e with
  | nil => rfl
  | node b o t k r => rw [ev1, ev1, evE_data D k S, head_data D]
theorem put_data (D : PD) (S : PSt) (b : Bool) (v : Int) : putP D S b v = putP D.data S b v := by cases D; rfl
theorem rounds_data {f g : PSt → PSt} (h : ∀ T, f T = g T) (nm : ByteArray) (q : Nat) : ∀ (i : Int) (S : PSt), roundsP f nm q i S = roundsP g nm q i S := by
  have e : f = g := funext h
  intro i S; rw [e]
theorem stP_data (D : PD) (n : Nat) : ∀ (s : Sx), szS s ≤ n → ∀ S, stP D s S = stP D.data s S := by
  induction n with
  | zero =>
    intro s hs S
    cases s with
    | nil => rfl
    | node b o p k r => simp [szS] at hs
  | succ n ih =>
    intro s hs S
    cases s with
    | nil => rfl
    | node b o p k r =>
      simp only [szS] at hs
      by_cases hov : 20000 < S.steps
      · rw [stP_over hov, stP_over hov]
      have hr : ∀ T, stP D r T = stP D.data r T := ih r (by omega)
      by_cases t0 : p.tag = 0
      · rw [stP_0 hov t0, stP_0 hov t0, ev1_data D, hr]
      by_cases t1 : p.tag = 1
      · cases k with
        | nil =>
          have e : ∀ E : PD, stP E (.node b o p .nil r) S = stP E r (ev1 E p.e (stepP S)).2 := fun E => by
            show (if 20000 < S.steps then S else stP E r (if p.tag = 0 then _ else if p.tag = 1 then _ else _)) = _
            rw [if_neg hov, if_neg t0, if_pos t1]
          rw [e D, e D.data, ev1_data D, hr]
        | node b1 o1 q s u =>
          simp only [szS] at hs
          rw [stP_1 hov t1, stP_1 hov t1, ev1_data D, ih s (by omega), ih u (by omega), hr]
      by_cases t2 : p.tag = 2
      · rw [stP_2 hov t2, stP_2 hov t2, rounds_data (ih k (by omega)), hr]
      · have e : ∀ E : PD, stP E (.node b o p k r) S = stP E r (putP E (ev1 E p.e (stepP S)).2 (decide (wP p.t = sOUT)) (ev1 E p.e (stepP S)).1) := fun E => by
          cases k <;> (show (if 20000 < S.steps then S else stP E r (if p.tag = 0 then _ else if p.tag = 1 then _ else if p.tag = 2 then _ else _)) = _; rw [if_neg hov, if_neg t0, if_neg t1, if_neg t2])
        rw [e D, e D.data, ev1_data D, put_data D, hr]
theorem goP_data (D : PD) (t : Sx) : ∀ (l : List (Int × Int)) (S : PSt), goP D t l S = goP D.data t l S
  | [], _ => rfl
  | x :: l, S => by
    have e : ptOne D t S x = ptOne D.data t S x := stP_data D _ t (Nat.le_refl _) _
    rw [goP, goP, e, goP_data D t l]
/-- What Paint answers. -/
def PntOut (w : World) (sw sh : Int) (xs ys : List Int) (src : ByteArray) (e : Ending) (w' : World) : Prop :=
  (shapeE sw sh xs ys ≠ 0 ∧ Below w.heap.size w w' ∧ e = .returned (.tuple #[emptyR, .int .i64 (shapeE sw sh xs ys), .int .i64 0])) ∨
  (shapeE sw sh xs ys = 0 ∧ (readF src).1 ≠ 0 ∧ Below w.heap.size w w' ∧ e = .returned (.tuple #[emptyR, .int .i64 (readF src).1, .int .i64 (readF src).2])) ∨
  (shapeE sw sh xs ys = 0 ∧ readF src = (0, 0) ∧ ∃ ds t, IsTree src ds t ∧ PicOut w (goP (pdOf sw sh xs ys) t (ptsOf sw.toNat sh.toNat) (startP (sw.toNat * sh.toNat))) e w')
theorem pscene_any (w : World) (sw sh : Int) (so sd : Option Addr) (c1 c2 : Nat) (xs ys : List Int) (src : ByteArray) (hx : IntsAt w.heap.size w so xs) (hy : IntsAt w.heap.size w sd ys) (hlx : xs.length ≤ maxLen) (hly : ys.length ≤ maxLen) (hsrc : src.size ≤ maxLen) :
    Calls Try.prog 40 #[scV sw sh so sd c1 c2 xs ys src] w (PntOut w sw sh xs ys src) := by
  by_cases h1 : shapeE sw sh xs ys = 0
  · by_cases h2 : (readF src).1 = 0
    · obtain ⟨ds, t, hT, hR⟩ := tree_is h2
      obtain ⟨wf, sz, wt⟩ := tree_wf hT
      obtain ⟨⟨a1, a2⟩, ⟨b1, b2⟩, _, _⟩ := shape_ok h1
      obtain ⟨pw, hpw⟩ : ∃ pw : Nat, sw = pw := ⟨sw.toNat, by omega⟩
      obtain ⟨ph, hph⟩ : ∃ ph : Nat, sh = ph := ⟨sh.toNat, by omega⟩
      subst hpw
      subst hph
      refine (scene_paint w pw ph so sd c1 c2 xs ys src hx hy hlx hly h1 hsrc hR ds t hT wf sz wt).mono ?_
      rintro e w' ⟨D, d1, d2, d3, d4, ho⟩
      refine .inr (.inr ⟨h1, hR, ds, t, hT, ?_⟩)
      rw [goP_data] at ho
      have e : D.data = pdOf pw ph xs ys := by unfold PD.data; rw [d1, d2, d3, d4]
      rw [e] at ho
      exact ho
    · exact (scene_read w sw sh so sd c1 c2 xs ys src hx hy hlx hly h1 hsrc h2).mono fun e w' ⟨a, b⟩ => .inr (.inl ⟨h1, h2, a, b⟩)
  · exact (scene_shape w sw sh so sd c1 c2 xs ys src hx hy hlx hly h1).mono fun e w' ⟨a, b⟩ => .inl ⟨h1, a, b⟩
/-- What a picture's answer is in memory. -/
def PntRes (w : World) (E P : Int) (r : Option PSt) (e : Ending) (w' : World) : Prop := Below w.heap.size w w' ∧ match r with
  | none => e = .returned (.tuple #[emptyR, .int .i64 E, .int .i64 P])
  | some S => ∃ ob hb rv, e = .returned (.tuple #[.agg #[.slice (some ⟨ob, 0, none⟩) S.opn.length S.opn.length, .slice (some ⟨hb, 0, none⟩) S.hid.length S.hid.length, .int .i64 S.steps, .int .i64 S.touched, rv], .int .i64 E, .int .i64 P]) ∧ w'.heap[ob]? = some (picO S.opn) ∧ w'.heap[hb]? = some (picO S.hid) ∧ w'.ownsRow w.heap.size 74 2 rv S.trace.length (tchsC S.trace) ∧ w.heap.size ≤ ob ∧ w.heap.size ≤ hb ∧ ob ≠ hb ∧ rv.ownBlock ≠ some ob ∧ rv.ownBlock ≠ some hb
/-- Which answer it is: the error, its place, what was painted. -/
def Ans (sw sh : Int) (xs ys : List Int) (src : ByteArray) (E P : Int) (r : Option PSt) : Prop :=
  (shapeE sw sh xs ys ≠ 0 ∧ E = shapeE sw sh xs ys ∧ P = 0 ∧ r = none) ∨
  (shapeE sw sh xs ys = 0 ∧ (readF src).1 ≠ 0 ∧ E = (readF src).1 ∧ P = (readF src).2 ∧ r = none) ∨
  (shapeE sw sh xs ys = 0 ∧ readF src = (0, 0) ∧ P = 0 ∧ ∃ ds t, IsTree src ds t ∧ r = goP (pdOf sw sh xs ys) t (ptsOf sw.toNat sh.toNat) (startP (sw.toNat * sh.toNat)) ∧ E = if r.isSome then 0 else 12)
theorem pnt_res {w : World} {sw sh : Int} {xs ys : List Int} {src : ByteArray} {e : Ending} {w' : World} (h : PntOut w sw sh xs ys src e w') : ∃ E P r, Ans sw sh xs ys src E P r ∧ PntRes w E P r e w' := by
  rcases h with ⟨h1, hb, he⟩ | ⟨h1, h2, hb, he⟩ | ⟨h1, h2, ds, t, hT, ho⟩
  · exact ⟨_, _, none, .inl ⟨h1, rfl, rfl, rfl⟩, hb, he⟩
  · exact ⟨_, _, none, .inr (.inl ⟨h1, h2, rfl, rfl, rfl⟩), hb, he⟩
  · cases hg : goP (pdOf sw sh xs ys) t (ptsOf sw.toNat sh.toNat) (startP (sw.toNat * sh.toNat)) with
    | none =>
      rw [hg] at ho
      exact ⟨12, 0, none, .inr (.inr ⟨h1, h2, rfl, ds, t, hT, hg.symm, rfl⟩), ho.1, ho.2⟩
    | some S =>
      rw [hg] at ho
      exact ⟨0, 0, some S, .inr (.inr ⟨h1, h2, rfl, ds, t, hT, hg.symm, rfl⟩), ho.1, ho.2⟩
/-- Its values. -/
theorem PntRes.form {w : World} {E P : Int} {r : Option PSt} {e : Ending} {w' : World} (h : PntRes w E P r e w') : ∃ ao n c bo m d i j to k f, e = .returned (.tuple #[.agg #[.slice ao n c, .slice bo m d, .int .i64 i, .int .i64 j, .slice to k f], .int .i64 E, .int .i64 P]) := by
  cases r with
  | none => exact ⟨none, 0, 0, none, 0, 0, 0, 0, none, 0, 0, h.2⟩
  | some S =>
    obtain ⟨hb, ob, hb', rv, he, _, _, hr, _⟩ := h
    rcases hr.2 with ⟨h1, h0⟩ | ⟨g, cap, cur, rfl, _⟩
    · rw [h1] at he; exact ⟨_, _, _, _, _, _, _, _, _, _, _, he⟩
    · exact ⟨_, _, _, _, _, _, _, _, _, _, _, he⟩
/-- A block lower than all that is new is written. -/
theorem PntRes.later {w w1 : World} {E P : Int} {r : Option PSt} {e : Ending} {w' w3 : World} (h : PntRes w1 E P r e w') (hb : Below w.heap.size w w1) (hk : ∀ k, w1.heap.size ≤ k → w3.heap[k]? = w'.heap[k]?) (h3 : Below w.heap.size w w3) : PntRes w E P r e w3 := by
  have hsz := hb.size
  cases r with
  | none => exact ⟨h3, h.2⟩
  | some S =>
    obtain ⟨hb', ob, hb2, rv, he, a1, a2, a3, a4, a5, a6, a7, a8⟩ := h
    refine ⟨h3, ob, hb2, rv, he, (hk _ a4).trans a1, (hk _ a5).trans a2, ?_, by omega, by omega, a6, a7, a8⟩
    exact own_base (own_sameP a3 (fun k e => hk k (a3.lt k e).1)) hsz
set_option maxHeartbeats 1000000 in
theorem paint_any (w : World) (sw sh : Int) (so sd : Option Addr) (c1 c2 : Nat) (xs ys : List Int) (src : ByteArray) (hx : IntsAt w.heap.size w so xs) (hy : IntsAt w.heap.size w sd ys) (hlx : xs.length ≤ maxLen) (hly : ys.length ≤ maxLen) (hsrc : src.size ≤ maxLen) :
    Calls Try.prog 28 #[scV sw sh so sd c1 c2 xs ys src] w fun e w' => ∃ E P r, Ans sw sh xs ys src E P r ∧ PntRes w E P r e w' := by
  obtain ⟨w1, hw1⟩ : ∃ w1, (w.alloc (.cells #[.int .i64 sw, .int .i64 sh, .slice so xs.length c1, .slice sd ys.length c2, .string src] 24)).alloc (.cells #[.slice none 0 0, .slice none 0 0, .int .i64 0, .int .i64 0, .slice none 0 0] 51) = w1 := ⟨_, rfl⟩
  have b1 : Below w.heap.size w w1 := by rw [← hw1]; exact ((Below.refl _ w).alloc (Nat.le_refl _) _).alloc (by simp) _
  have z1 : w1.heap.size = w.heap.size + 2 := by rw [← hw1]; simp
  have s1 : w1.heap[w.heap.size + 1]? = some (.cells #[.slice none 0 0, .slice none 0 0, .int .i64 0, .int .i64 0, .slice none 0 0] 51 (0, 0)) := by
    rw [← hw1]; exact (by simpa using heap_alloc_new (w.alloc _) (.cells #[.slice none 0 0, .slice none 0 0, .int .i64 0, .int .i64 0, .slice none 0 0] 51))
  have s0 : w1.heap[w.heap.size]? = some (.cells #[.int .i64 sw, .int .i64 sh, .slice so xs.length c1, .slice sd ys.length c2, .string src] 24 (0, 0)) := by
    rw [← hw1]; exact (Below.heap_alloc _ _ _ (by simp)).trans (heap_alloc_new w _)
  obtain ⟨x0, x1, x2, x3, x4⟩ := (bk5 s0).1
  have SC := hide (pscene_any w1 sw sh so sd c1 c2 xs ys src ((hx.later b1 (Nat.le_refl _)).mono (by omega)) ((hy.later b1 (Nat.le_refl _)).mono (by omega)) hlx hly hsrc)
  have HB1 := hide b1
  have HZ1 := hide z1
  clear hx hy hlx hly hsrc b1
  unfold scV at SC ⊢
  go_enter Try.func28, Try.ntmps28
  go_wp2_with fail
  clear hw1 z1 x0 x1 x2 x3 x4
  refine (unhide SC).mono ?_
  intro e w2 ho
  obtain ⟨E, P, r, hans, hres⟩ := pnt_res ho
  obtain ⟨ao, n, c, bo, m, d, i, j, to, k, f, he⟩ := hres.form
  have s2 := (hres.1.block _ (by have := unhide HZ1; omega)).trans s1
  obtain ⟨⟨y0, y1, y2, y3, y4⟩, yz⟩ := bk5 s2
  have s3 := set5 s2 (.slice ao n c) (.slice bo m d) (.int .i64 i) (.int .i64 j) (.slice to k f)
  have FIN : Hid (∃ E' P' r', Ans sw sh xs ys src E' P' r' ∧ PntRes w E' P' r' (.returned (.tuple #[.agg #[.slice ao n c, .slice bo m d, .int .i64 i, .int .i64 j, .slice to k f], .int .i64 E, .int .i64 P])) (((((w2.setCell ⟨w.heap.size + 1, 0, none⟩ (.slice ao n c)).setCell ⟨w.heap.size + 1, 1, none⟩ (.slice bo m d)).setCell ⟨w.heap.size + 1, 2, none⟩ (.int .i64 i)).setCell ⟨w.heap.size + 1, 3, none⟩ (.int .i64 j)).setCell ⟨w.heap.size + 1, 4, none⟩ (.slice to k f))) := by
    have hz := unhide HZ1
    refine ⟨E, P, r, hans, ?_⟩
    rw [← he]
    refine hres.later (unhide HB1) (fun q hq => ?_) ?_
    · have ne : q ≠ w.heap.size + 1 := by omega
      exact (Below.heap_setCell _ _ _ _ ne).trans ((Below.heap_setCell _ _ _ _ ne).trans ((Below.heap_setCell _ _ _ _ ne).trans ((Below.heap_setCell _ _ _ _ ne).trans (Below.heap_setCell _ _ _ _ ne))))
    · have b2 : Below w.heap.size w w2 := (unhide HB1).trans (hres.1.mono (by omega))
      exact ((((b2.setCell (p := ⟨w.heap.size + 1, 0, none⟩) (by simp) _).setCell (p := ⟨w.heap.size + 1, 1, none⟩) (by simp) _).setCell (p := ⟨w.heap.size + 1, 2, none⟩) (by simp) _).setCell (p := ⟨w.heap.size + 1, 3, none⟩) (by simp) _).setCell (p := ⟨w.heap.size + 1, 4, none⟩) (by simp) _
  obtain ⟨z0, z1, z2, z3, z4⟩ := (bk5 s3).1
  subst he
  have Z0 := hide z0
  have Z1 := hide z1
  have Z2 := hide z2
  have Z3 := hide z3
  have Z4 := hide z4
  clear z0 z1 z2 z3 z4 s3 s2 s1 s0 hres hans ho HB1 HZ1 SC
  go_wp2
  refine bodyPost_ret (v := .tuple #[.agg #[.slice ao n c, .slice bo m d, .int .i64 i, .int .i64 j, .slice to k f], .int .i64 E, .int .i64 P]) (by simp [results, Try.results28, go_sem, unhide Z0, unhide Z1, unhide Z2, unhide Z3, unhide Z4]) rfl (unhide FIN)
end Go.Proofs.Ythmmgiaobakilaa

/- What is hidden does not reach what is open: on data. -/
set_option maxRecDepth 100000
namespace Go.Proofs.Ythmmgiaobakilaa
open Go.RowKit Go.Deep

def inH (H : List ByteArray) (s : ByteArray) : Bool := H.any (fun u => s.toList == u.toList)
/-- Two states that are the same as far as they may be seen. -/
structure Lo (H : List ByteArray) (S T : PSt) : Prop where
  cx : S.cx = T.cx
  cy : S.cy = T.cy
  steps : S.steps = T.steps
  touched : S.touched = T.touched
  trace : S.trace = T.trace
  opn : S.opn = T.opn
  hid : S.hid.length = T.hid.length
  vals : ∀ s, inH H s = false → S.vals s = T.vals s
theorem Lo.refl (H : List ByteArray) (S : PSt) : Lo H S S := ⟨rfl, rfl, rfl, rfl, rfl, rfl, rfl, fun _ _ => rfl⟩
section
variable {H : List ByteArray} {D E : PD}
/-- Two scenes that differ in what is hidden alone. -/
structure PDLo (D E : PD) : Prop where
  sw : D.sw = E.sw
  sh : D.sh = E.sh
  opens : D.opens = E.opens
theorem Lo.step {S T : PSt} (h : Lo H S T) : Lo H (stepP S) (stepP T) := ⟨h.cx, h.cy, by show S.steps + 1 = T.steps + 1; rw [h.steps], h.touched, h.trace, h.opn, h.hid, h.vals⟩
theorem Lo.touch {S T : PSt} (h : Lo H S T) (a b : Int) : Lo H (touchP S a b) (touchP T a b) := by
  unfold touchP
  rw [h.trace]
  split
  · exact ⟨h.cx, h.cy, h.steps, by show S.touched + 1 = T.touched + 1; rw [h.touched], rfl, h.opn, h.hid, h.vals⟩
  · exact ⟨h.cx, h.cy, h.steps, by show S.touched + 1 = T.touched + 1; rw [h.touched], rfl, h.opn, h.hid, h.vals⟩
theorem Lo.set {S T : PSt} (h : Lo H S T) (nm : ByteArray) {v u : Int} (hv : inH H nm = false → v = u) : Lo H (setV S nm v) (setV T nm u) := ⟨h.cx, h.cy, h.steps, h.touched, h.trace, h.opn, h.hid, fun s hs => by
  show updR S.vals nm v s = updR T.vals nm u s
  unfold updR
  split
  · rename_i e
    have e2 : s = nm := bytes_eq (by simpa using e)
    exact hv (by rw [← e2]; exact hs)
  · exact h.vals s hs⟩
/-- Values side by side: what is not hidden is the same. -/
def Rv (H : List ByteArray) : Ex → List Int → List Int → Prop
  | .nil, a, b => a = [] ∧ b = []
  | .node _ _ t k r, a, b => ∃ x y a' b', a = x :: a' ∧ b = y :: b' ∧ ((hidH H t || hidE H k) = false → x = y) ∧ Rv H r a' b'
theorem Rv.same : ∀ {e : Ex} {a b : List Int}, Rv H e a b → hidE H e = false → a = b
  | .nil, _, _, h, _ => by rw [h.1, h.2]
  | .node _ _ t k r, _, _, h, hh => by
    obtain ⟨x, y, a', b', rfl, rfl, h1, h2⟩ := h
    have h3 : ((hidH H t || hidE H k) || hidE H r) = false := hh
    rw [Bool.or_eq_false_iff] at h3
    rw [h1 h3.1, Rv.same h2 h3.2]
theorem place_lo (hD : PDLo D E) (a b : Int) : placeV D a b = placeV E a b := by unfold placeV; rw [hD.sw, hD.sh]
/-- A head: the state as far as it may be seen; the value, where it isn't hidden. -/
theorem head_lo (hD : PDLo D E) (hE : inH H ⟨#[]⟩ = false) {S T : PSt} (h : Lo H S T) {t : Tok} {k : Ex} {a b : List Int} (hv : Rv H k a b) (htc : wdT t [sPEEK, sSPY] = true → hidE H k = false) (hk5 : kP t = 2 ∨ kP t = 3 ∨ kP t = 4 ∨ wP t = ⟨#[]⟩) :
    Lo H (headP D S t a).2 (headP E T t b).2 ∧ ((hidH H t || hidE H k) = false → (headP D S t a).1 = (headP E T t b).1) := by
  unfold headP
  split
  · exact ⟨h, fun _ => rfl⟩
  split
  · refine ⟨h, fun hh => ?_⟩
    rw [Bool.or_eq_false_iff] at hh
    rw [hv.same hh.2]
  · rename_i k3 k4
    have same : (hidH H t || hidE H k) = false → a = b := fun hh => by
      rw [Bool.or_eq_false_iff] at hh
      exact hv.same hh.2
    unfold wordP
    split
    · exact ⟨h, fun hh => by rw [same hh]⟩
    split
    · exact ⟨h, fun hh => by rw [same hh]⟩
    split
    · exact ⟨h, fun hh => by rw [same hh]⟩
    have kp : ∀ s, wP t = s → s ≠ ⟨#[]⟩ → kP t = 2 := fun s e hne => by
      rcases hk5 with e5 | e5 | e5 | e5
      · exact e5
      · exact absurd e5 k3
      · exact absurd e5 k4
      · exact absurd (e.symm.trans e5) hne
    split
    · rename_i hp
      have hw : wdT t [sPEEK, sSPY] = true := by unfold wdT; rw [kp _ hp (by unfold sPEEK; simp), hp]; simp
      have hs := hv.same (htc hw)
      rw [hs, place_lo hD, hD.opens]
      exact ⟨h.touch _ _, fun _ => rfl⟩
    split
    · rename_i hp
      have k2 := kp _ hp (by unfold sSPY; simp)
      have hw : wdT t [sPEEK, sSPY] = true := by unfold wdT; rw [k2, hp]; simp
      have hs := hv.same (htc hw)
      rw [hs, place_lo hD]
      refine ⟨h.touch _ _, fun hh => ?_⟩
      exfalso
      have : hidH H t = true := by unfold hidH wdT; rw [k2, hp]; simp
      rw [this] at hh
      cases hh
    · refine ⟨h, fun hh => h.vals _ ?_⟩
      rw [Bool.or_eq_false_iff] at hh
      rcases hk5 with e5 | e5 | e5 | e5
      · have h2 := hh.1
        unfold hidH at h2
        rw [Bool.or_eq_false_iff] at h2
        have h3 := h2.2
        unfold wdT at h3
        rw [e5] at h3
        simpa [inH] using h3
      · exact absurd e5 k3
      · exact absurd e5 k4
      · rw [e5]; exact hE
end
/-- A token of a tree is a word, a number, a sign, or has no text. -/
theorem kP_or (t : Tok) : kP t = 2 ∨ kP t = 3 ∨ kP t = 4 ∨ wP t = ⟨#[]⟩ := by
  unfold kP wP
  split
  · exact .inl rfl
  split
  · exact .inr (.inl rfl)
  split
  · exact .inr (.inr (.inl rfl))
  · exact .inr (.inr (.inr rfl))
theorem evE_lo {H : List ByteArray} {D E : PD} (hD : PDLo D E) (hE : inH H ⟨#[]⟩ = false) : ∀ (e : Ex) (S T : PSt), TcOK H e → Lo H S T → Lo H (evE D e S).2 (evE E e T).2 ∧ Rv H e (evE D e S).1 (evE E e T).1
  | .nil, _, _, _, h => ⟨h, rfl, rfl⟩
  | .node _ _ t k r, S, T, ht, h => by
    obtain ⟨t1, t2, t3⟩ := ht
    obtain ⟨a1, a2⟩ := evE_lo hD hE k S T t2 h
    obtain ⟨b1, b2⟩ := head_lo hD hE a1.step a2 t1 (kP_or t)
    obtain ⟨c1, c2⟩ := evE_lo hD hE r _ _ t3 b1
    exact ⟨c1, _, _, _, _, rfl, rfl, b2, c2⟩
theorem ev1_lo {H : List ByteArray} {D E : PD} (hD : PDLo D E) (hE : inH H ⟨#[]⟩ = false) {e : Ex} {S T : PSt} (ht : Tc1 H e) (h : Lo H S T) : Lo H (ev1 D e S).2 (ev1 E e T).2 ∧ (hid1 H e = false → (ev1 D e S).1 = (ev1 E e T).1) := by
  cases e with
  | nil => exact ⟨h, fun _ => rfl⟩
  | node b o t k r =>
    obtain ⟨t1, t2, _⟩ := ht
    obtain ⟨a1, a2⟩ := evE_lo hD hE k S T t2 h
    exact head_lo hD hE a1.step a2 t1 (kP_or t)
theorem put_lo {H : List ByteArray} {D E : PD} (hD : PDLo D E) {S T : PSt} (h : Lo H S T) (o : Bool) {v u : Int} (hv : o = true → v = u) : Lo H (putP D S o v) (putP E T o u) := by
  have hh : hereP D S = hereP E T := by unfold hereP; rw [h.cx, h.cy, hD.sw]
  unfold putP
  rw [hh]
  split
  · rename_i ho
    have g := h.touch 2 (hereP E T)
    exact ⟨g.cx, g.cy, g.steps, g.touched, g.trace, by show S.opn.set _ _ = T.opn.set _ _; rw [h.opn, hv ho], g.hid, g.vals⟩
  · have g := h.touch 3 (hereP E T)
    exact ⟨g.cx, g.cy, g.steps, g.touched, g.trace, g.opn, by show (S.hid.set _ _).length = (T.hid.set _ _).length; rw [List.length_set, List.length_set]; exact h.hid, g.vals⟩
theorem rounds_lo {H : List ByteArray} {f g : PSt → PSt} (hf : ∀ S T, Lo H S T → Lo H (f S) (g T)) (nm : ByteArray) : ∀ (q : Nat) (i : Int) (S T : PSt), Lo H S T → Lo H (roundsP f nm q i S) (roundsP g nm q i T)
  | 0, _, _, _, h => h
  | q + 1, i, _, _, h => rounds_lo hf nm q (i + 1) _ _ (hf _ _ (h.step.set nm (fun _ => rfl)))
theorem st_lo {H : List ByteArray} {D E : PD} {X : Ex → Prop} (hD : PDLo D E) (hE : inH H ⟨#[]⟩ = false) (n : Nat) : ∀ (s : Sx), szS s ≤ n → FlOK H s → ShS X s → ∀ (S T : PSt), Lo H S T → Lo H (stP D s S) (stP E s T) := by
  induction n with
  | zero =>
    intro s hs _ _ S T h
    cases s with
    | nil => exact h
    | node b o p k r => simp [szS] at hs
  | succ n ih =>
    intro s hs hf hsh S T h
    cases s with
    | nil => exact h
    | node b o p k r =>
      simp only [szS] at hs
      by_cases hov : 20000 < S.steps
      · rw [stP_over hov, stP_over (by rw [← h.steps]; exact hov)]; exact h
      have hov2 : ¬ 20000 < T.steps := by rw [← h.steps]; exact hov
      unfold FlOK at hf
      obtain ⟨fr, f0, f1, f2, f3⟩ := hf
      unfold ShS at hsh
      obtain ⟨shr, hsh⟩ := hsh
      have hr : ∀ S T, Lo H S T → Lo H (stP D r S) (stP E r T) := ih r (by omega) fr shr
      by_cases t0 : p.tag = 0
      · rw [stP_0 hov t0, stP_0 hov2 t0]
        obtain ⟨m, tc⟩ := f0 t0
        obtain ⟨a1, a2⟩ := ev1_lo hD hE tc h.step
        refine hr _ _ (a1.set _ (fun hn => a2 (m ?_)))
        unfold wdT
        have : H.any (fun u => (wP p.t).toList == u.toList) = false := hn
        rw [this]; simp
      by_cases t1 : p.tag = 1
      · cases k with
        | nil =>
          exfalso
          rcases hsh with ⟨e, _⟩ | ⟨_, _, hk⟩ | ⟨e, _⟩ | ⟨e, _⟩ | ⟨e, _⟩
          · omega
          · exact hk
          · omega
          · omega
          · omega
        | node b1 o1 q s u =>
          simp only [szS] at hs
          obtain ⟨⟨m, tc⟩, fs, fu⟩ := f1 t1
          have hkk : ShS X s ∧ ShS X u := by
            rcases hsh with ⟨e, _⟩ | ⟨_, _, hk⟩ | ⟨e, _⟩ | ⟨e, _⟩ | ⟨e, _⟩
            · omega
            · exact ⟨hk.2.2.1, hk.2.2.2⟩
            · omega
            · omega
            · omega
          obtain ⟨a1, a2⟩ := ev1_lo hD hE tc h.step
          rw [stP_1 hov t1, stP_1 hov2 t1, a2 (m rfl)]
          split
          · exact hr _ _ (ih s (by omega) fs hkk.1 _ _ a1)
          · exact hr _ _ (ih u (by omega) fu hkk.2 _ _ a1)
      by_cases t2 : p.tag = 2
      · rw [stP_2 hov t2, stP_2 hov2 t2]
        have hkk : ShS X k := by
          rcases hsh with ⟨e, _⟩ | ⟨e, _⟩ | ⟨_, _, _, _, _, hk⟩ | ⟨e, _⟩ | ⟨e, _⟩
          · omega
          · omega
          · exact hk
          · omega
          · omega
        exact hr _ _ (rounds_lo (ih k (by omega) (f2 t2) hkk) _ _ _ _ _ h.step)
      · have e : ∀ (G : PD) (S : PSt), ¬ 20000 < S.steps → stP G (.node b o p k r) S = stP G r (putP G (ev1 G p.e (stepP S)).2 (decide (wP p.t = sOUT)) (ev1 G p.e (stepP S)).1) := fun G S hS => by
          cases k <;> (show (if 20000 < S.steps then S else stP G r (if p.tag = 0 then _ else if p.tag = 1 then _ else if p.tag = 2 then _ else _)) = _; rw [if_neg hS, if_neg t0, if_neg t1, if_neg t2])
        rw [e D S hov, e E T hov2]
        obtain ⟨m, tc⟩ := f3 t0 t1 t2
        obtain ⟨a1, a2⟩ := ev1_lo hD hE tc h.step
        refine hr _ _ (put_lo hD a1 _ (fun ho => a2 (m ?_)))
        have ho' : wP p.t = sOUT := by simpa using ho
        unfold wdT
        rw [ho']
        have : ([sHIDE].any fun u => sOUT.toList == u.toList) = false := by simp only [ByteArray.toList_eq]; decide
        rw [this]; simp
/-- Two pictures that are the same as far as they may be seen. -/
def LoO (H : List ByteArray) : Option PSt → Option PSt → Prop
  | none, none => True
  | some S, some T => Lo H S T
  | _, _ => False
theorem go_lo {H : List ByteArray} {D E : PD} {X : Ex → Prop} (hD : PDLo D E) (hE : inH H ⟨#[]⟩ = false) {t : Sx} (hf : FlOK H t) (hsh : ShS X t) : ∀ (l : List (Int × Int)) (S T : PSt), Lo H S T → LoO H (goP D t l S) (goP E t l T)
  | [], _, _, h => h
  | x :: l, S, T, h => by
    have hb : Lo H (beginP S x.1 x.2) (beginP T x.1 x.2) := ⟨rfl, rfl, h.steps, h.touched, h.trace, h.opn, h.hid, fun _ _ => rfl⟩
    have h1 : Lo H (ptOne D t S x) (ptOne E t T x) := st_lo hD hE _ t (Nat.le_refl _) hf hsh _ _ hb
    rw [goP, goP, h1.steps]
    split
    · trivial
    · exact go_lo hD hE hf hsh l _ _ h1
theorem lex_named (s : ByteArray) (f : Nat) : ∀ (a : Nat) (acc l : List Tok) (p : Nat), (∀ t ∈ acc, t.kind = 1 → 0 < t.text.size) → lex s f a acc = (some l, p) → ∀ t ∈ l, t.kind = 1 → 0 < t.text.size := by
  induction f with
  | zero =>
    intro a acc l p h1 h
    simp only [lex, Prod.mk.injEq, Option.some.injEq] at h
    rw [← h.1]; exact h1
  | succ f ih =>
    intro a acc l p h1 h
    rw [lex] at h
    have sn : ∀ t : Tok, (t.kind = 1 → 0 < t.text.size) → ∀ u ∈ acc ++ [t], u.kind = 1 → 0 < u.text.size := fun t ht u hu => by
      rcases List.mem_append.1 hu with hu | hu
      · exact h1 u hu
      · simp only [List.mem_singleton] at hu; rw [hu]; exact ht
    split at h
    · split at h
      · exact ih _ _ l p h1 h
      split at h
      · rename_i hz
        exact ih _ _ l p (sn _ (fun _ => hz)) h
      split at h
      · split at h
        · cases h
        · exact ih _ _ l p (sn _ (fun h => by cases h)) h
      split at h
      · exact ih _ _ l p (sn _ (fun h => by cases h)) h
      · cases h
    · simp only [Prod.mk.injEq, Option.some.injEq] at h
      rw [← h.1]; exact h1
theorem seg_mem {T : List Tok} {i j : Nat} {l : List Tok} (h : Seg T i j l) : ∀ t ∈ l, ∃ x, t = tkAt T x ∧ x < j := by
  obtain ⟨xs, rfl, _, hb⟩ := h
  intro t ht
  obtain ⟨x, hx, rfl⟩ := List.mem_map.1 ht
  exact ⟨x, rfl, (hb x hx).2⟩
theorem tree_flow {src : ByteArray} {ds : List (Tok × Bool)} {t : Sx} (h : IsTree src ds t) : FlOK (hidDs ds) t ∧ inH (hidDs ds) ⟨#[]⟩ = false ∧ ShS GV t := by
  obtain ⟨hs, l, p, j, hl, hr, h0⟩ := h
  have hW := lex_tokW hs hl
  have hB := lex_tokB hs hl
  obtain ⟨t1, t2, t3⟩ := toks_ok hs hl
  have hj := source_lt t1 hr
  obtain ⟨seg, hk, hsh⟩ := od_source (X := GV) (fun n i e j h => (wv_XF hW hB n).1 i e j h) (fun i u h hu => by
    rcases hW.kinds i with e | e | e | e | e
    · exact e
    · exfalso; unfold isT at h; rw [e] at h; simp at h
    · exfalso; unfold isT at h; rw [e] at h; simp at h
    · exfalso
      have hm := hW.sign i e
      have ht : (tkAt (l ++ [overTok p]) i).text = u := bytes_eq (isT_key h)
      have hn := sign_not_key _ hm
      rw [ht] at hn
      rcases hu with rfl | rfl
      · exact absurd hn (by unfold memB kws sOUT; simp)
      · exact absurd hn (by unfold memB kws sHIDE; simp)
    · exfalso; unfold isT at h; rw [e] at h; simp at h) hr
  have hf0 : (flowF ds t).1 = 0 := by
    unfold treeF at h0
    split at h0
    · rename_i hne; exfalso; apply hne; rw [h0]
    · split at h0
      · rename_i hne; exfalso; apply hne; rw [h0]
      · rename_i hne; exact Classical.not_not.1 hne
  refine ⟨fl_ok _ t (Nat.le_refl _) _ hf0, ?_, hsh⟩
  unfold inH
  rw [List.any_eq_false]
  intro u hu e
  unfold hidDs at hu
  obtain ⟨d, hd, rfl⟩ := List.mem_map.1 hu
  have hdm := (List.mem_filter.1 hd).1
  have k1 := hk d hdm
  obtain ⟨x, hx, hxj⟩ := seg_mem seg d.1 (List.mem_append_left _ (List.mem_map.2 ⟨d, hdm, rfl⟩))
  have hnm := lex_named src src.size 0 [] l p (fun t ht => by cases ht) hl
  have hmem : d.1 ∈ l := by
    rw [hx] at k1 ⊢
    unfold tkAt at k1 ⊢
    have hi : x < (l ++ [overTok p]).length := by omega
    rw [List.getD, List.getElem?_eq_getElem hi, Option.getD_some] at k1 ⊢
    rcases List.mem_append.1 (List.getElem_mem hi) with hm | hm
    · exact hm
    · simp only [List.mem_singleton] at hm
      rw [hm] at k1
      cases k1
  have hz := hnm d.1 hmem k1
  have hw : wP d.1 = d.1.text := by unfold wP; rw [k1]; rfl
  rw [hw] at e
  have e2 : (⟨#[]⟩ : ByteArray) = d.1.text := bytes_eq (by simpa using e)
  rw [← e2] at hz
  exact absurd hz (by decide)
theorem tree_one {src : ByteArray} {ds ds' : List (Tok × Bool)} {t t' : Sx} (h : IsTree src ds t) (h' : IsTree src ds' t') : ds = ds' ∧ t = t' := by
  obtain ⟨_, l, p, j, hl, hr, _⟩ := h
  obtain ⟨_, l', p', j', hl', hr', _⟩ := h'
  rw [hl] at hl'
  cases hl'
  rw [hr] at hr'
  cases hr'
  exact ⟨rfl, rfl⟩
/-- What is hidden is not told: two answers. -/
theorem ans_lo {sw sh : Int} {xs ys zs : List Int} {src : ByteArray} {E P E' P' : Int} {r r' : Option PSt} (h : Ans sw sh xs ys src E P r) (h' : Ans sw sh xs zs src E' P' r') (hsame : shapeE sw sh xs ys = shapeE sw sh xs zs) : E = E' ∧ P = P' ∧ ∃ H, LoO H r r' := by
  rcases h with ⟨a1, rfl, rfl, rfl⟩ | ⟨a1, a2, rfl, rfl, rfl⟩ | ⟨a1, a2, rfl, ds, t, hT, hr, hE⟩
  · rcases h' with ⟨b1, rfl, rfl, rfl⟩ | ⟨b1, _⟩ | ⟨b1, _⟩
    · exact ⟨hsame, rfl, [], trivial⟩
    · exact absurd (hsame.trans b1) a1
    · exact absurd (hsame.trans b1) a1
  · rcases h' with ⟨b1, _⟩ | ⟨b1, b2, rfl, rfl, rfl⟩ | ⟨b1, b2, _⟩
    · exact absurd (hsame.symm.trans a1) b1
    · exact ⟨rfl, rfl, [], trivial⟩
    · rw [b2] at a2; exact absurd rfl a2
  · rcases h' with ⟨b1, _⟩ | ⟨b1, b2, _⟩ | ⟨b1, b2, rfl, ds', t', hT', hr', hE'⟩
    · exact absurd (hsame.symm.trans a1) b1
    · rw [a2] at b2; exact absurd rfl b2
    · obtain ⟨rfl, rfl⟩ := tree_one hT hT'
      obtain ⟨f1, f2, f3⟩ := tree_flow hT
      have hlo := go_lo (D := pdOf sw sh xs ys) (E := pdOf sw sh xs zs) ⟨rfl, rfl, rfl⟩ f2 f1 f3 (ptsOf sw.toNat sh.toNat) _ _ (Lo.refl (hidDs ds) (startP (sw.toNat * sh.toNat)))
      rw [← hr, ← hr'] at hlo
      refine ⟨?_, rfl, hidDs ds, hlo⟩
      rw [hE, hE']
      cases r with
      | none =>
        cases r' with
        | none => rfl
        | some T => cases hlo
      | some S =>
        cases r' with
        | none => cases hlo
        | some T => rfl
end Go.Proofs.Ythmmgiaobakilaa

/- The law's own functions: pick, texels. -/
set_option maxRecDepth 100000
namespace Go.Proofs.Ythmmgiaobakilaa
open Go.RowKit Go.Deep

def In64 (x : Int) : Prop := -9223372036854775808 ≤ x ∧ x ≤ 9223372036854775807
def pickV (c n : Int) : Int := (if c < 0 then -(c + 1) else c) % n
theorem pick_in {c n : Int} (hn : 0 < n) : 0 ≤ pickV c n ∧ pickV c n < n := by
  unfold pickV
  exact ⟨Int.emod_nonneg _ (by omega), Int.emod_lt_of_pos _ hn⟩
set_option maxHeartbeats 1000000 in
theorem pick_any' (w : World) (c n : Int) (hc : In64 c) (hn : n = 6 ∨ n = 256) : Calls Try.prog 26 #[.int .i64 c, .int .i64 n] w fun e w' => (∃ v, v = pickV c n ∧ e = .returned (.int .i64 v)) ∧ w' = w := by
  obtain ⟨h1, h2⟩ := hc
  by_cases h0 : c < 0
  · have e0 : Hid (pickV c n = -((c + 1).tmod n)) := by
      show pickV c n = _
      unfold pickV; rw [if_pos h0, ← Int.tmod_eq_emod_of_nonneg (by omega), Int.neg_tmod]
    have k1 : wrap64 (c + 1) = c + 1 := by unfold wrap64; omega
    have k2 : wrap64 (-(c + 1)) = -(c + 1) := by unfold wrap64; omega
    rcases hn with rfl | rfl
    · go_enter Try.func26, Try.ntmps26
      go_wp2
      go_ret
      first | exact ⟨⟨_, (unhide e0).symm, rfl⟩, rfl⟩ | exact ⟨ret_int (unhide e0).symm, rfl⟩
    · go_enter Try.func26, Try.ntmps26
      go_wp2
      go_ret
      first | exact ⟨⟨_, (unhide e0).symm, rfl⟩, rfl⟩ | exact ⟨ret_int (unhide e0).symm, rfl⟩
  · have e0 : Hid (pickV c n = c % n) := by
      show pickV c n = _
      unfold pickV; rw [if_neg h0]
    have h0' : decide (c < 0) = false := by simpa using h0
    rcases hn with rfl | rfl
    · go_enter Try.func26, Try.ntmps26
      go_wp2
      go_ret
      first | exact ⟨⟨_, (unhide e0).symm, rfl⟩, rfl⟩ | exact ⟨ret_int (unhide e0).symm, rfl⟩
    · go_enter Try.func26, Try.ntmps26
      go_wp2
      go_ret
      first | exact ⟨⟨_, (unhide e0).symm, rfl⟩, rfl⟩ | exact ⟨ret_int (unhide e0).symm, rfl⟩
theorem pick_any (w : World) (c n : Int) (hc : In64 c) (hn : n = 6 ∨ n = 256) : Calls Try.prog 26 #[.int .i64 c, .int .i64 n] w fun e w' => e = .returned (.int .i64 (pickV c n)) ∧ w' = w :=
  (pick_any' w c n hc hn).mono fun e w' ⟨⟨v, h1, h2⟩, h3⟩ => ⟨by rw [h2, h1], h3⟩
/-- The texels that the law makes of raw numbers. -/
def texV (raw : List Int) (i : Nat) : Int := pickV (if i < raw.length then raw.getD i 0 else 7 * (i : Int)) 256
def texsV (raw : List Int) (n : Nat) : List Int := (List.range n).map (texV raw)
theorem texs_snoc (raw : List Int) (j : Nat) : texsV raw (j + 1) = texsV raw j ++ [texV raw j] := by unfold texsV; rw [List.range_succ, List.map_append]; rfl
theorem texs_len (raw : List Int) (n : Nat) : (texsV raw n).length = n := by simp [texsV]
theorem texs_all (raw : List Int) (n : Nat) : (texsV raw n).all texelB = true := by
  rw [List.all_eq_true]
  intro x hx
  unfold texsV at hx
  obtain ⟨i, _, rfl⟩ := List.mem_map.1 hx
  have := pick_in (c := (if i < raw.length then raw.getD i 0 else 7 * (i : Int))) (n := 256) (by decide)
  have h2 : 0 ≤ texV raw i ∧ texV raw i < 256 := this
  unfold texelB
  rw [decide_eq_true h2.1, decide_eq_true (show texV raw i ≤ 255 by omega)]
  rfl
theorem infoIK : (Try.prog.info? 3).map (fun i => (i.zero, i.size, i.bytes)) = some (some (.int .i64 0), 1, 8) := by kernel_rfl
theorem cell_oneK (w : World) (v : Value) (T : TypeId) : ∀ j u, [v][j]? = some u → (w.alloc (.cells #[v] T)).cell? ((⟨w.heap.size, 0, none⟩ : Addr).add j) = some u := cell_newP w _ rfl [v] T
set_option maxHeartbeats 2000000 in
theorem texK_any (w : World) (ao : Option Addr) (c : Nat) (raw : List Int) (n : Nat) (hn : n ≤ 36) (hx : IntsAt w.heap.size w ao raw) (h64 : ∀ x ∈ raw, In64 x) :
    Calls Try.prog 38 #[.slice ao raw.length c, .int .i64 (n : Int)] w fun e w' => ∃ v, e = .returned v ∧ w'.ownsRow w.heap.size 3 1 v n ((texsV raw n).map (Value.int .i64)) ∧ Below w.heap.size w w' := by
  have hm : (maxLen : Int) ≤ 9223372036854775807 := by unfold maxLen; decide
  obtain ⟨i0, hi, hz0, hz1, hz2⟩ := info_parts infoIK
  go_enter Try.func38, Try.ntmps38
  go_wp2
  go_loopw [5, 6] (fun v i wr => ∃ j : Nat, j ≤ n ∧ i = .int .i64 j ∧ wr.ownsRow w.heap.size 3 1 v j ((texsV raw j).map (Value.int .i64)) ∧ Below w.heap.size w wr) (fun _ i _ => n - (intOf i).toNat)
  case atStart => exact ⟨0, Nat.zero_le _, rfl, World.ownsRow_nil w w.heap.size 3 1, Below.refl _ _⟩
  case round =>
    obtain ⟨j, hj, rfl, own, hnx⟩ := hrel
    have hwz := hnx.size
    by_cases hlt : j < n
    · have hlt' : (j : Int) < (n : Int) := by omega
      have NX : Hid (∀ (v' : Value) (w5 : World), w5.ownsRow w.heap.size 3 1 v' (j + 1) ((texsV raw j).map (Value.int .i64) ++ [.int .i64 (texV raw j)]) → w5.ownsRow w.heap.size 3 1 v' (j + 1) ((texsV raw (j + 1)).map (Value.int .i64))) := fun v' w5 h => by rw [texs_snoc, List.map_append]; exact h
      by_cases hr : j < raw.length
      · have hr' : (j : Int) < (raw.length : Int) := by omega
        have ev : texV raw j = pickV (raw.getD j 0) 256 := by unfold texV; rw [if_pos hr]
        have h6 : In64 (raw.getD j 0) := h64 _ (by rw [List.getD, List.getElem?_eq_getElem hr, Option.getD_some]; exact List.getElem_mem hr)
        rcases hx with hx | ⟨b, off, rfl, hbB, hcell⟩
        · simp [hx] at hr
        have hc1 := (hnx.cell (p := ⟨b, off + j, none⟩) hbB).trans (hcell j hr)
        clear hcell
        obtain ⟨x, hxe⟩ : ∃ x, raw.getD j 0 = x := ⟨_, rfl⟩
        rw [hxe] at hc1 ev h6
        have PK := hide (fun w => pick_any w x 256 h6 (.inr rfl))
        rw [← ev] at PK
        obtain ⟨tv, htv⟩ : ∃ tv, texV raw j = tv := ⟨_, rfl⟩
        rw [htv] at PK NX
        clear hxe ev h6 htv
        go_wp2_with fail
        refine (unhide PK _).mono ?_
        rintro e w9 ⟨rfl, h9⟩
        obtain rfl := h9.symm
        go_wp2_with (at_builtin; refine wpList_append_own _ rfl _ _ 22 rfl w.heap.size 3 i0 (.int .i64 0) 1 8 Try.underlying22 hi hz0 hz1 hz2 rfl (by decide) _ _ _ rfl (own.alloc _) ⟨wr.heap.size, 0, none⟩ 1 1 [.int .i64 tv] rfl rfl ?c1 ?c2 ?c3 ?c4 ?c5 ?_)
        case c1 => exact cell_oneK _ _ _
        case c2 => intro u hu; simp at hu; subst hu; rfl
        case c3 => unfold maxLen; omega
        case c4 => omega
        case c5 => simp; omega
        intro v' w1 h1 hg _
        have R := unhide NX v' w1 (by simpa using h1)
        have R2 : Below w.heap.size w w1 := (hnx.alloc (by omega) _).grown hg (by simp; omega) (fun q hq => (own.lt q hq).1)
        clear h1 hg own hnx NX PK hc1
        go_wp2
        go_roundw
        case rel => exact ⟨j + 1, by omega, by go_num, R, R2⟩
        case measure => simp [intOf]; omega
      · have hr' : decide ((j : Int) < (raw.length : Int)) = false := by simp; omega
        have ev : texV raw j = pickV (7 * (j : Int)) 256 := by unfold texV; rw [if_neg hr]
        have PK := hide (fun w => pick_any w (7 * (j : Int)) 256 ⟨by omega, by omega⟩ (.inr rfl))
        rw [← ev] at PK
        obtain ⟨tv, htv⟩ : ∃ tv, texV raw j = tv := ⟨_, rfl⟩
        rw [htv] at PK NX
        clear ev htv
        go_wp2_with fail
        refine (unhide PK _).mono ?_
        rintro e w9 ⟨rfl, h9⟩
        obtain rfl := h9.symm
        go_wp2_with (at_builtin; refine wpList_append_own _ rfl _ _ 22 rfl w.heap.size 3 i0 (.int .i64 0) 1 8 Try.underlying22 hi hz0 hz1 hz2 rfl (by decide) _ _ _ rfl (own.alloc _) ⟨wr.heap.size, 0, none⟩ 1 1 [.int .i64 tv] rfl rfl ?c1 ?c2 ?c3 ?c4 ?c5 ?_)
        case c1 => exact cell_oneK _ _ _
        case c2 => intro u hu; simp at hu; subst hu; rfl
        case c3 => unfold maxLen; omega
        case c4 => omega
        case c5 => simp; omega
        intro v' w1 h1 hg _
        have R := unhide NX v' w1 (by simpa using h1)
        have R2 : Below w.heap.size w w1 := (hnx.alloc (by omega) _).grown hg (by simp; omega) (fun q hq => (own.lt q hq).1)
        clear h1 hg own hnx NX PK
        go_wp2
        go_roundw
        case rel => exact ⟨j + 1, by omega, by go_num, R, R2⟩
        case measure => simp [intOf]; omega
    · have hge : decide ((j : Int) < (n : Int)) = false := by simp; omega
      have hj' : j = n := by omega
      subst hj'
      go_wp2
      go_ret
      exact ⟨_, rfl, own, hnx⟩
end Go.Proofs.Ythmmgiaobakilaa

/- The law's own functions: digits, root. -/
set_option maxRecDepth 100000
namespace Go.Proofs.Ythmmgiaobakilaa
open Go.RowKit Go.Deep

def dgF : Nat → Nat → List Int → List Int
  | 0, _, l => l
  | f + 1, m, l => if m = 0 ∧ l ≠ [] then l else dgF f (m / 10) ((48 + (m : Int) % 10) :: l)
/-- A number's digits (below 1000). -/
def dgL (n : Nat) : List Int := dgF 4 n []
def dgS (n : Nat) : ByteArray := strOfNums (dgL n)
theorem str_ne {l : List Int} (h : l ≠ []) : strOfNums l ≠ ⟨#[]⟩ := by
  intro e
  have := congrArg ByteArray.size e
  rw [strOfNums_size] at this
  exact h (List.eq_nil_of_length_eq_zero this)
theorem str_emp {l : List Int} (h : l ≠ []) : (strOfNums l).toList.isEmpty = false := by
  cases hs : (strOfNums l).toList with
  | nil => exact absurd (bytes_eq (hs.trans (by decide +kernel))) (str_ne h)
  | cons a b => rfl
def p10 : Nat → Nat
  | 0 => 1
  | 1 => 1
  | 2 => 10
  | 3 => 100
  | _ => 1000
set_option maxHeartbeats 2000000 in
theorem digits_any (w : World) (n : Nat) (hn : n < 1000) : Calls Try.prog 27 #[.int .i64 (n : Int)] w fun e w' => e = .returned (.string (dgS n)) ∧ Below w.heap.size w w' := by
  go_enter Try.func27, Try.ntmps27
  go_wp2
  go_loopw [0, 3] (fun i s wr => ∃ (f m : Nat) (l : List Int), i = .int .i64 (m : Int) ∧ s = .string (strOfNums l) ∧ 1 ≤ f ∧ f ≤ 4 ∧ m < p10 f ∧ (l = [] → f = 4) ∧ l.length ≤ 4 ∧ f + l.length = 4 ∧ dgF f m l = dgL n ∧ Below w.heap.size w wr) (fun _ s _ => 10 - (match s with | .string b => b.size | _ => 0))
  case atStart => exact ⟨4, n, [], rfl, rfl, by omega, by omega, hn, fun _ => rfl, by simp, by simp, rfl, Below.refl _ _⟩
  case round =>
    obtain ⟨f, m, l, rfl, rfl, f1, f2, hm, hl, hl4, hfl, hd, hnx⟩ := hrel
    have hm1 : m < 1000 := by unfold p10 at hm; split at hm <;> omega
    by_cases hc : m = 0 ∧ l ≠ []
    · obtain ⟨rfl, hne⟩ := hc
      have hS := str_emp hne
      have hE : Hid (strOfNums l = dgS n) := by
        show strOfNums l = strOfNums (dgL n)
        rw [← hd]
        cases f with
        | zero => rfl
        | succ f => rw [dgF, if_pos ⟨rfl, hne⟩]
      have hb := hide hnx
      clear hd hnx
      generalize strOfNums l = S at hS hE
      go_wp2
      go_ret
      exact ⟨congrArg (fun s => Ending.returned (.string s)) (unhide hE), unhide hb⟩
    · have hmr : 0 ≤ (m : Int) % 10 ∧ (m : Int) % 10 < 10 := ⟨Int.emod_nonneg _ (by decide), Int.emod_lt_of_pos _ (by decide)⟩
      have hmi : (m : Int) < 1000 := by omega
      have NX : Hid (∃ (f' m' : Nat) (l' : List Int), (m : Int) / 10 = (m' : Int) ∧ strOfNums [48 + (m : Int) % 10] ++ strOfNums l = strOfNums l' ∧ (strOfNums l').size = l.length + 1 ∧ 1 ≤ f' ∧ f' ≤ 4 ∧ m' < p10 f' ∧ (l' = [] → f' = 4) ∧ l'.length ≤ 4 ∧ f' + l'.length = 4 ∧ dgF f' m' l' = dgL n) := by
        have hf2 : 2 ≤ f := by
          rcases Nat.lt_or_ge f 2 with h | h
          · exfalso
            have hf : f = 1 := by omega
            subst hf
            have hm0 : m = 0 := by simp [p10] at hm; omega
            exact hc ⟨hm0, fun e => by have := hl e; omega⟩
          · exact h
        obtain ⟨g, rfl⟩ : ∃ g, f = g + 1 := ⟨f - 1, by omega⟩
        refine ⟨g, m / 10, (48 + (m : Int) % 10) :: l, by omega, ?_, ?_, by omega, by omega, ?_, (fun e => by cases e), (by simp; omega), (by simp; omega), ?_⟩
        · rw [← strOfNums_append]; rfl
        · rw [strOfNums_size]; rfl
        · rcases (show g = 1 ∨ g = 2 ∨ g = 3 by omega) with rfl | rfl | rfl <;> simp [p10] at hm ⊢ <;> omega
        · rw [← hd, dgF, if_neg hc]
      have hcv : (convert 58 9 (.slice (some ⟨wr.heap.size, 0, none⟩) 1 1)).run Try.prog (wr.alloc (.cells #[.int .u8 (48 + (m : Int) % 10)] 5)) = .ok (.string (strOfNums [48 + (m : Int) % 10])) (wr.alloc (.cells #[.int .u8 (48 + (m : Int) % 10)] 5)) :=
        conv_own (base := wr.heap.size) (n := 1) (World.ownsRow_lit wr #[.int .u8 (48 + (m : Int) % 10)] 1 (by omega) (by decide) rfl)
      have hsz : (strOfNums [48 + (m : Int) % 10]).size = 1 := strOfNums_size _
      have hsl : (strOfNums l).size = l.length := strOfNums_size _
      have R2 : Hid (Below w.heap.size w (wr.alloc (.cells #[.int .u8 (48 + (m : Int) % 10)] 5))) := hnx.alloc (by have := hnx.size; omega) _
      by_cases h0 : 0 < m
      · have h0' : (0 : Int) < (m : Int) := by omega
        clear hd hnx hc hl
        generalize strOfNums [48 + (m : Int) % 10] = S1 at hcv NX hsz
        generalize strOfNums l = S2 at NX hsl
        go_wp2
        go_roundw
        case rel =>
          obtain ⟨f', m', l', e1, e2, _, c1, c2, c3, c4, c5, c6, c7⟩ := unhide NX
          exact ⟨f', m', l', by rw [← e1], by rw [← e2], c1, c2, c3, c4, c5, c6, c7, unhide R2⟩
        case measure =>
          obtain ⟨f', m', l', e1, e2, e3, c1, c2, c3, c4, c5, c6, c7⟩ := unhide NX
          simp only [e2, e3, hsl]; omega
      · obtain rfl : m = 0 := by omega
        have hln : l = [] := Classical.not_not.1 fun hne => hc ⟨rfl, hne⟩
        have hE : (strOfNums l).toList.isEmpty = true := by rw [hln]; decide +kernel
        clear hd hnx hc hl hmr hmi
        obtain ⟨S1, hS1⟩ : ∃ S1, strOfNums [48 + ((0 : Nat) : Int) % 10] = S1 := ⟨_, rfl⟩
        rw [hS1] at hcv NX hsz
        have hcv' : (convert 58 9 (.slice (some ⟨wr.heap.size, 0, none⟩) 1 1)).run Try.prog (wr.alloc (.cells #[.int .u8 48] 5)) = .ok (.string S1) (wr.alloc (.cells #[.int .u8 48] 5)) := hcv
        have R3 : Hid (Below w.heap.size w (wr.alloc (.cells #[.int .u8 48] 5))) := R2
        clear hcv hS1 R2
        generalize strOfNums l = S2 at NX hsl hE
        go_wp2
        go_roundw
        case rel =>
          obtain ⟨f', m', l', e1, e2, _, c1, c2, c3, c4, c5, c6, c7⟩ := unhide NX
          have e1' : (0 : Int) = (m' : Int) := e1
          exact ⟨f', m', l', by rw [← e1'], by rw [← e2], c1, c2, c3, c4, c5, c6, c7, unhide R3⟩
        case measure =>
          obtain ⟨f', m', l', e1, e2, e3, c1, c2, c3, c4, c5, c6, c7⟩ := unhide NX
          simp only [e2, e3, hsl]; omega
end Go.Proofs.Ythmmgiaobakilaa

/- Numbers as tokens; the source of Looped: its tokens, its tree. -/
set_option maxRecDepth 100000
namespace Go.Proofs.Ythmmgiaobakilaa
open Go.RowKit Go.Deep

theorem tw_all {p : Int → Bool} : ∀ (L : List Int), (∀ y ∈ L, p y = true) → L.takeWhile p = L
  | [], _ => rfl
  | x :: L, h => by rw [List.takeWhile_cons, h x (List.mem_cons_self ..), tw_all L (fun y hy => h y (List.mem_cons_of_mem _ hy))]; rfl
theorem lx_num {x : Int} {L : List Int} (hd : ∀ y ∈ x :: L, digB y = true) (hv : numV (x :: L) ≤ 65535) (a : Nat) : lx (x :: L) a = (some [numTokL (x :: L) a], a + (L.length + 1)) := by
  have hx := hd x (List.mem_cons_self ..)
  have hx2 := hx
  unfold digB at hx2
  simp only [Bool.and_eq_true, decide_eq_true_eq] at hx2
  have hb : ¬ ((x :: L).headD 0 == 32 || (x :: L).headD 0 == 10) = true := by
    show ¬ (x == 32 || x == 10) = true
    rw [Bool.or_eq_true, beq_iff_eq, beq_iff_eq]; omega
  have hw : rowN false (x :: L) = 0 := by
    have : letB x = false := by
      unfold letB
      rw [Bool.and_eq_false_iff]; left; rw [decide_eq_false_iff_not]; omega
    unfold rowN
    rw [List.takeWhile_cons]
    simp [this]
  have hn : rowN true (x :: L) = L.length + 1 := by
    unfold rowN
    rw [show (x :: L).takeWhile (fun y => if true then digB y else letB y) = x :: L from tw_all _ (fun y hy => by simpa using hd y hy)]
    rfl
  show lexL (L.length + 1) (x :: L) a = _
  unfold lexL
  have hl : 0 < (x :: L).length := by simp
  have hw' : ¬ 0 < rowN false (x :: L) := by omega
  have hn' : 0 < rowN true (x :: L) := by omega
  have ht : (x :: L).take (rowN true (x :: L)) = x :: L := by rw [hn]; exact List.take_length (l := x :: L)
  have hdr : (x :: L).drop (rowN true (x :: L)) = [] := by rw [hn]; exact List.drop_length (l := x :: L)
  rw [if_pos hl, if_neg hb, if_neg hw', if_pos hn', ht, hdr, if_neg (by omega), hn]
  cases L.length <;> rfl
def dgT (n : Nat) : Bool := match dgL n with
  | [] => false
  | x :: L => (x :: L).all digB && decide (numV (x :: L) = (n : Int)) && decide (L.length ≤ 2)
theorem dg_table : ∀ n ∈ List.range 400, dgT n = true := by decide +kernel
/-- A number's token behind a blank. -/
theorem lx_dg {n : Nat} (hn : n < 400) : ∃ p, lx (32 :: dgL n) 0 = (some [⟨2, (n : Int), 1, dgS n⟩], p) := by
  have h := dg_table n (List.mem_range.2 hn)
  unfold dgT at h
  cases hl : dgL n with
  | nil => rw [hl] at h; cases h
  | cons x L =>
    rw [hl] at h
    simp only [Bool.and_eq_true, decide_eq_true_eq] at h
    have h1 := lx_num (List.all_eq_true.1 h.1.1) (by omega) 1
    refine ⟨1 + (L.length + 1), ?_⟩
    have e : lx (32 :: x :: L) 0 = lx (x :: L) 1 := by
      show lexL ((x :: L).length + 1) (32 :: x :: L) 0 = lexL (x :: L).length (x :: L) 1
      rw [lexL.eq_2]
      rfl
    rw [e, h1]
    unfold numTokL dgS
    rw [hl, h.1.2]
    rfl
def lp1 : ByteArray := ⟨#[111, 112, 101, 110, 32, 110, 59, 32, 102, 111, 114, 32, 105]⟩
def lp2 : ByteArray := ⟨#[32, 226, 128, 166]⟩
def lp3 : ByteArray := ⟨#[32, 123, 32, 102, 111, 114, 32, 106, 32, 48, 32, 226, 128, 166]⟩
def lp4 : ByteArray := ⟨#[32, 123, 32, 110, 32, 226, 134, 144, 32, 110, 32, 43, 32, 105, 59, 32, 125, 32, 125, 32, 111, 117, 116, 32, 110, 59]⟩
def lpL (a b c : Nat) : List Int := nums lp1 ++ ((32 :: dgL a) ++ (nums lp2 ++ ((32 :: dgL b) ++ (nums lp3 ++ ((32 :: dgL c) ++ nums lp4)))))
theorem bd_blank (L R : List Int) : BD L (32 :: R) := by
  intro h R' e
  cases e
  exact ⟨by decide, (fun h => absurd h (by decide)), (fun h => absurd h (by decide))⟩
theorem lp_1 : lx (nums lp1) 0 = (some [kT ⟨#[111, 112, 101, 110]⟩ 0, nT ⟨#[110]⟩ 5, sT ⟨#[59]⟩ 6, kT ⟨#[102, 111, 114]⟩ 8, nT ⟨#[105]⟩ 12], 13) := by kernel_rfl
theorem lp_2 : lx (nums lp2) 0 = (some [sT ⟨#[226, 128, 166]⟩ 1], 4) := by kernel_rfl
theorem lp_3 : lx (nums lp3) 0 = (some [sT ⟨#[123]⟩ 1, kT ⟨#[102, 111, 114]⟩ 3, nT ⟨#[106]⟩ 7, uT 0 ⟨#[48]⟩ 9, sT ⟨#[226, 128, 166]⟩ 11], 14) := by kernel_rfl
theorem lp_4 : lx (nums lp4) 0 = (some [sT ⟨#[123]⟩ 1, nT ⟨#[110]⟩ 3, sT ⟨#[226, 134, 144]⟩ 5, nT ⟨#[110]⟩ 9, sT ⟨#[43]⟩ 11, nT ⟨#[105]⟩ 13, sT ⟨#[59]⟩ 14, sT ⟨#[125]⟩ 16, sT ⟨#[125]⟩ 18, kT ⟨#[111, 117, 116]⟩ 20, nT ⟨#[110]⟩ 24, sT ⟨#[59]⟩ 25], 26) := by kernel_rfl
theorem lp_lex {a b c : Nat} (ha : a < 400) (hb : b < 400) (hc : c < 400) : ∃ q T, lx (lpL a b c) 0 = (some T, q) ∧ ∃ p0 p1 p2 p3 p4 p5 p6 p7 p8 p9 p10 p11 p12 p13 p14 p15 p16 p17 p18 p19 p20 p21 p22 p23 p24 p25, T =
    [kT ⟨#[111, 112, 101, 110]⟩ p0, nT ⟨#[110]⟩ p1, sT ⟨#[59]⟩ p2, kT ⟨#[102, 111, 114]⟩ p3, nT ⟨#[105]⟩ p4, uT a (dgS a) p5, sT ⟨#[226, 128, 166]⟩ p6, uT b (dgS b) p7,
     sT ⟨#[123]⟩ p8, kT ⟨#[102, 111, 114]⟩ p9, nT ⟨#[106]⟩ p10, uT 0 ⟨#[48]⟩ p11, sT ⟨#[226, 128, 166]⟩ p12, uT c (dgS c) p13,
     sT ⟨#[123]⟩ p14, nT ⟨#[110]⟩ p15, sT ⟨#[226, 134, 144]⟩ p16, nT ⟨#[110]⟩ p17, sT ⟨#[43]⟩ p18, nT ⟨#[105]⟩ p19, sT ⟨#[59]⟩ p20, sT ⟨#[125]⟩ p21, sT ⟨#[125]⟩ p22, kT ⟨#[111, 117, 116]⟩ p23, nT ⟨#[110]⟩ p24, sT ⟨#[59]⟩ p25] := by
  obtain ⟨q1, d1⟩ := lx_dg ha
  obtain ⟨q2, d2⟩ := lx_dg hb
  obtain ⟨q3, d3⟩ := lx_dg hc
  have b4 : ∀ L, BD L (nums lp4) := fun L => bd_blank L _
  have b3 : ∀ L R, BD L (nums lp3 ++ R) := fun L R => bd_blank L _
  have b2 : ∀ L R, BD L (nums lp2 ++ R) := fun L R => bd_blank L _
  have bd : ∀ L n R, BD L (32 :: dgL n ++ R) := fun L n R => bd_blank L _
  have x6 := lx_two (b4 _) d3 lp_4
  have x5 := lx_two (bd _ _ _) lp_3 x6
  have x4 := lx_two (b3 _ _) d2 x5
  have x3 := lx_two (bd _ _ _) lp_2 x4
  have x2 := lx_two (b2 _ _) d1 x3
  have x1 := lx_two (bd _ _ _) lp_1 x2
  exact ⟨_, _, x1, _, _, _, _, _, _, _, _, _, _, _, _, _, _, _, _, _, _, _, _, _, _, _, _, _, _, rfl⟩
end Go.Proofs.Ythmmgiaobakilaa

/- Looped's source: its tree. -/
set_option maxRecDepth 100000
namespace Go.Proofs.Ythmmgiaobakilaa
open Go.RowKit Go.Deep

def lpToks (n1 n2 n3 : Int) (x1 x2 x3 : ByteArray) (p0 p1 p2 p3 p4 p5 p6 p7 p8 p9 p10 p11 p12 p13 p14 p15 p16 p17 p18 p19 p20 p21 p22 p23 p24 p25 : Int) : List Tok :=
    [kT ⟨#[111, 112, 101, 110]⟩ p0, nT ⟨#[110]⟩ p1, sT ⟨#[59]⟩ p2, kT ⟨#[102, 111, 114]⟩ p3, nT ⟨#[105]⟩ p4, uT n1 x1 p5, sT ⟨#[226, 128, 166]⟩ p6, uT n2 x2 p7,
     sT ⟨#[123]⟩ p8, kT ⟨#[102, 111, 114]⟩ p9, nT ⟨#[106]⟩ p10, uT 0 ⟨#[48]⟩ p11, sT ⟨#[226, 128, 166]⟩ p12, uT n3 x3 p13,
     sT ⟨#[123]⟩ p14, nT ⟨#[110]⟩ p15, sT ⟨#[226, 134, 144]⟩ p16, nT ⟨#[110]⟩ p17, sT ⟨#[43]⟩ p18, nT ⟨#[105]⟩ p19, sT ⟨#[59]⟩ p20, sT ⟨#[125]⟩ p21, sT ⟨#[125]⟩ p22, kT ⟨#[111, 117, 116]⟩ p23, nT ⟨#[110]⟩ p24, sT ⟨#[59]⟩ p25]
/-- Its tree. -/
def lpTree (n1 n2 n3 : Int) (x1 x2 x3 : ByteArray) (p4 p5 p7 p10 p11 p13 p15 p17 p18 p19 p23 p24 : Int) : Sx :=
  .node 0 0 ⟨2, nT ⟨#[105]⟩ p4, uT n1 x1 p5, uT n2 x2 p7, .nil⟩
    (.node 0 0 ⟨2, nT ⟨#[106]⟩ p10, uT 0 ⟨#[48]⟩ p11, uT n3 x3 p13, .nil⟩
      (.node 0 0 ⟨0, nT ⟨#[110]⟩ p15, noTok, noTok, .node 0 0 (sT ⟨#[43]⟩ p18) (.node 0 0 (nT ⟨#[110]⟩ p17) .nil (.node 0 0 (nT ⟨#[105]⟩ p19) .nil .nil)) .nil⟩ .nil .nil) .nil)
    (.node 0 0 ⟨3, kT ⟨#[111, 117, 116]⟩ p23, noTok, noTok, leafE (nT ⟨#[110]⟩ p24)⟩ .nil .nil)
theorem lp_parse (n1 n2 n3 : Int) (x1 x2 x3 : ByteArray) (p0 p1 p2 p3 p4 p5 p6 p7 p8 p9 p10 p11 p12 p13 p14 p15 p16 p17 p18 p19 p20 p21 p22 p23 p24 p25 : Int) (q : Nat) :
    pSource 1000 (lpToks n1 n2 n3 x1 x2 x3 p0 p1 p2 p3 p4 p5 p6 p7 p8 p9 p10 p11 p12 p13 p14 p15 p16 p17 p18 p19 p20 p21 p22 p23 p24 p25 ++ [overTok q]) = some (.ok (([(nT ⟨#[110]⟩ p1, false)], lpTree n1 n2 n3 x1 x2 x3 p4 p5 p7 p10 p11 p13 p15 p17 p18 p19 p23 p24), 26)) := by
  kernel_rfl
end Go.Proofs.Ythmmgiaobakilaa

/- The law's own function sameTrace: of equal lists it answers true. -/
set_option maxRecDepth 100000
namespace Go.Proofs.Ythmmgiaobakilaa
open Go.RowKit Go.Deep

/-- A list of touches lies at an address, in blocks below B. -/
def TrAt (B : Nat) (w : World) (ao : Option Addr) (l : List (Int × Int)) : Prop :=
  l = [] ∨ ∃ g, ao = some ⟨g, 0, none⟩ ∧ g < B ∧ ∀ j, j < l.length → w.cell? ⟨g, j * 2, none⟩ = some (.int .i64 (l.getD j (0, 0)).1) ∧ w.cell? ⟨g, j * 2 + 1, none⟩ = some (.int .i64 (l.getD j (0, 0)).2)
theorem TrAt.later {B B' : Nat} {w w' : World} {ao : Option Addr} {l : List (Int × Int)} (h : TrAt B w ao l) (hb : Below B' w w') (hB : B ≤ B') : TrAt B w' ao l := by
  rcases h with h | ⟨g, h1, h2, h3⟩
  · exact .inl h
  · exact .inr ⟨g, h1, h2, fun j hj => ⟨(hb.cell (p := ⟨g, j * 2, none⟩) (by show g < B'; omega)).trans (h3 j hj).1, (hb.cell (p := ⟨g, j * 2 + 1, none⟩) (by show g < B'; omega)).trans (h3 j hj).2⟩⟩
set_option maxHeartbeats 1000000 in
theorem same_trace (ao bo : Option Addr) (c d : Nat) (l : List (Int × Int)) (w : World) (hx : TrAt w.heap.size w ao l) (hy : TrAt w.heap.size w bo l) (hm : l.length ≤ maxLen) :
    Calls Try.prog 39 #[.slice ao l.length c, .slice bo l.length d] w fun e w' => e = .returned (.bool true) ∧ Below w.heap.size w w' := by
  have hl : l.length ≤ 9223372036854775807 := by unfold maxLen at hm; omega
  clear hm
  go_enter Try.func39, Try.ntmps39
  go_wp2
  go_loopw [5] (fun i wr => ∃ k : Nat, k ≤ l.length ∧ i = .int .i64 k ∧ Below w.heap.size w wr) (fun i _ => l.length - (intOf i).toNat)
  case atStart => exact ⟨0, Nat.zero_le _, rfl, Below.refl _ _⟩
  case round =>
    obtain ⟨k, hk, rfl, hnx⟩ := hrel
    by_cases hlt : k < l.length
    · rcases hx with hx | ⟨g1, rfl, hb1, hc1⟩
      · simp [hx] at hlt
      rcases hy with hy | ⟨g2, rfl, hb2, hc2⟩
      · simp [hy] at hlt
      have x1 := (hnx.cell (p := ⟨g1, k * 2, none⟩) hb1).trans (hc1 k hlt).1
      have x2 := (hnx.cell (p := ⟨g1, k * 2 + 1, none⟩) hb1).trans (hc1 k hlt).2
      have x3 := (hnx.cell (p := ⟨g2, k * 2, none⟩) hb2).trans (hc2 k hlt).1
      have x4 := (hnx.cell (p := ⟨g2, k * 2 + 1, none⟩) hb2).trans (hc2 k hlt).2
      clear hc1 hc2
      generalize (l.getD k (0, 0)).1 = v1 at x1 x3
      generalize (l.getD k (0, 0)).2 = v2 at x2 x4
      have hi : (k : Int) < (l.length : Int) := by omega
      have R := hide hnx.drew
      clear hnx
      go_wp2
      go_region
      all_goals (try go_wp2)
      all_goals
        go_roundw
        case rel => exact ⟨k + 1, by omega, by go_num, unhide R⟩
        case measure => simp [intOf]; omega
    · go_wp2
      go_ret
      exact ⟨rfl, hnx⟩
end Go.Proofs.Ythmmgiaobakilaa

/- The law's own function scene: of raw numbers a scene whose shape is right. -/
set_option maxRecDepth 100000
namespace Go.Proofs.Ythmmgiaobakilaa
open Go.RowKit Go.Deep

theorem own_formK {w : World} {base n : Nat} {v : Value} {xs : List Value} (h : w.ownsRow base 3 1 v n xs) (hn : 0 < n) : ∃ g cap, v = .slice (some ⟨g, 0, none⟩) n cap := by
  rcases h.2 with ⟨rfl, h0⟩ | ⟨g, cap, cur, rfl, _⟩
  · omega
  · exact ⟨g, cap, rfl⟩
theorem IntsAt.of_ownK {w : World} {base g n cap : Nat} {xs : List Int} (h : w.ownsRow base 3 1 (.slice (some ⟨g, 0, none⟩) n cap) n (xs.map (Value.int .i64))) : IntsAt w.heap.size w (some ⟨g, 0, none⟩) xs := by
  have hl : xs.length = n := by simpa using h.1
  have hg := h.lt g rfl
  refine .inr ⟨g, 0, rfl, hg.2, fun j hj => ?_⟩
  rw [Nat.zero_add, h.cellAt j (by omega), List.getElem?_map, List.getElem?_eq_getElem hj]
  simp [List.getD, List.getElem?_eq_getElem hj]
/-- A block of a scene's five cells. -/
def SB (w : World) (b : Nat) (c0 c1 c2 c3 c4 : Value) : Prop := w.heap[b]? = some (.cells #[c0, c1, c2, c3, c4] 24 (0, 0))
section
variable {w w' : World} {b : Nat} {c0 c1 c2 c3 c4 : Value}
theorem SB.later {B : Nat} (h : SB w b c0 c1 c2 c3 c4) (hb : Below B w w') (hB : b < B) : SB w' b c0 c1 c2 c3 c4 := (hb.block b hB).trans h
theorem SB.other (h : SB w b c0 c1 c2 c3 c4) {a i : Nat} (hne : b ≠ a) (v : Value) : SB (w.setCell ⟨a, i, none⟩ v) b c0 c1 c2 c3 c4 := (Below.heap_setCell _ _ _ _ hne).trans h
theorem SB.set2 (h : SB w b c0 c1 c2 c3 c4) (v : Value) : SB (w.setCell ⟨b, 2, none⟩ v) b c0 c1 v c3 c4 := heap_setCell_same w b 2 _ _ v h
theorem SB.set3 (h : SB w b c0 c1 c2 c3 c4) (v : Value) : SB (w.setCell ⟨b, 3, none⟩ v) b c0 c1 c2 v c4 := heap_setCell_same w b 3 _ _ v h
theorem SB.set5 (h : SB w b c0 c1 c2 c3 c4) (v0 v1 v2 v3 v4 : Value) : SB (((((w.setCell ⟨b, 0, none⟩ v0).setCell ⟨b, 1, none⟩ v1).setCell ⟨b, 2, none⟩ v2).setCell ⟨b, 3, none⟩ v3).setCell ⟨b, 4, none⟩ v4) b v0 v1 v2 v3 v4 := Go.Proofs.Ythmmgiaobakilaa.set5 h _ _ _ _ _
theorem SB.new (w : World) (c0 c1 c2 c3 c4 : Value) : SB (w.alloc (.cells #[c0, c1, c2, c3, c4] 24)) w.heap.size c0 c1 c2 c3 c4 := heap_alloc_new w _
theorem SB.under (w : World) (c0 c1 c2 c3 c4 : Value) (o : Obj) : SB ((w.alloc (.cells #[c0, c1, c2, c3, c4] 24)).alloc o) w.heap.size c0 c1 c2 c3 c4 := (Below.heap_alloc _ _ _ (by simp)).trans (heap_alloc_new w _)
theorem SB.over (w : World) (c0 c1 c2 c3 c4 : Value) (o : Obj) : SB ((w.alloc o).alloc (.cells #[c0, c1, c2, c3, c4] 24)) (w.heap.size + 1) c0 c1 c2 c3 c4 := by
  have := SB.new (w.alloc o) c0 c1 c2 c3 c4
  simpa using this
end
/-- A texels' row, as a list that lies there. -/
theorem texK_some (w : World) (ao : Option Addr) (c : Nat) (raw : List Int) (n : Nat) (h1 : 1 ≤ n) (hn : n ≤ 36) (hx : IntsAt w.heap.size w ao raw) (h64 : ∀ x ∈ raw, In64 x) :
    Calls Try.prog 38 #[.slice ao raw.length c, .int .i64 (n : Int)] w fun e w' => ∃ g cap, e = .returned (.slice (some ⟨g, 0, none⟩) n cap) ∧ w.heap.size ≤ g ∧ IntsAt w'.heap.size w' (some ⟨g, 0, none⟩) (texsV raw n) ∧ Below w.heap.size w w' := by
  refine (texK_any w ao c raw n hn hx h64).mono ?_
  rintro e w' ⟨v, rfl, ho, hb⟩
  obtain ⟨g, cap, rfl⟩ := own_formK ho (by omega)
  exact ⟨g, cap, rfl, (ho.lt g rfl).1, IntsAt.of_ownK ho, hb⟩
theorem IntsAt.setK {B : Nat} {w : World} {ao : Option Addr} {xs : List Int} (h : IntsAt B w ao xs) {a i : Nat} {v : Value} (hne : ∀ p, ao = some p → p.block ≠ a) : IntsAt B (w.setCell ⟨a, i, none⟩ v) ao xs := by
  rcases h with h | ⟨b, off, rfl, h2, h3⟩
  · exact .inl h
  · refine .inr ⟨b, off, rfl, h2, fun j hj => ?_⟩
    exact (World.cell?_of_block (w := w) (Below.heap_setCell _ _ _ _ (hne _ rfl))).trans (h3 j hj)
theorem mulN {p q : Int} (hp : 0 ≤ p ∧ p < 6) (hq : 0 ≤ q ∧ q < 6) : ∃ n : Nat, (1 + p) * (1 + q) = (n : Int) ∧ 1 ≤ n ∧ n ≤ 36 := by
  obtain ⟨_, _, _, _, h5, h6⟩ := side_mul (W := 1 + p) (H := 1 + q) (by simp [sideB]; omega) (by simp [sideB]; omega)
  exact ⟨((1 + p) * (1 + q)).toNat, by omega, by omega, by omega⟩
set_option maxHeartbeats 2000000 in
theorem sceneK_any (w : World) (a b : Int) (ao bo : Option Addr) (c d : Nat) (xs ys : List Int) (src : ByteArray) (ha : In64 a) (hb : In64 b) (hx : IntsAt w.heap.size w ao xs) (hy : IntsAt w.heap.size w bo ys) (h64 : ∀ x ∈ xs, In64 x) (k64 : ∀ x ∈ ys, In64 x) :
    Calls Try.prog 24 #[.int .i64 a, .int .i64 b, .slice ao xs.length c, .slice bo ys.length d, .string src] w fun e w' => ∃ (n : Nat) (so sd : Option Addr) (c1 c2 : Nat), (1 + pickV a 6) * (1 + pickV b 6) = (n : Int) ∧ 1 ≤ n ∧ n ≤ 36 ∧ e = .returned (scV (1 + pickV a 6) (1 + pickV b 6) so sd c1 c2 (texsV xs n) (texsV ys n) src) ∧ IntsAt w'.heap.size w' so (texsV xs n) ∧ IntsAt w'.heap.size w' sd (texsV ys n) ∧ Below w.heap.size w w' := by
  have P1 := hide (fun w => pick_any w a 6 ha (.inl rfl))
  have P2 := hide (fun w => pick_any w b 6 hb (.inl rfl))
  have h1 := pick_in (c := a) (n := 6) (by decide)
  have h2 := pick_in (c := b) (n := 6) (by decide)
  obtain ⟨p, hp⟩ : ∃ p, pickV a 6 = p := ⟨_, rfl⟩
  obtain ⟨q, hq⟩ : ∃ q, pickV b 6 = q := ⟨_, rfl⟩
  rw [hp] at P1 h1 ⊢
  rw [hq] at P2 h2 ⊢
  clear hp hq ha hb
  obtain ⟨n, hn, n1, n2⟩ := mulN h1 h2
  have hN := hide hn
  obtain ⟨l1, l2⟩ := h1
  obtain ⟨l3, l4⟩ := h2
  obtain ⟨w1, hw1⟩ : ∃ w1, (w.alloc (.cells #[.int .i64 0, .int .i64 0, .slice none 0 0, .slice none 0 0, .string ⟨#[]⟩] 24)).alloc (.cells #[.int .i64 (1 + p), .int .i64 (1 + q), .slice none 0 0, .slice none 0 0, .string src] 24) = w1 := ⟨_, rfl⟩
  have b1 : Below w.heap.size w w1 := by rw [← hw1]; exact ((Below.refl _ w).alloc (Nat.le_refl _) _).alloc (by simp) _
  have z1 : Hid (w1.heap.size = w.heap.size + 2) := by show w1.heap.size = _; rw [← hw1]; simp
  have s0 := SB.under w (.int .i64 0) (.int .i64 0) (.slice none 0 0) (.slice none 0 0) (.string ⟨#[]⟩) (.cells #[.int .i64 (1 + p), .int .i64 (1 + q), .slice none 0 0, .slice none 0 0, .string src] 24)
  have s1 := SB.over w (.int .i64 (1 + p)) (.int .i64 (1 + q)) (.slice none 0 0) (.slice none 0 0) (.string src) (.cells #[.int .i64 0, .int .i64 0, .slice none 0 0, .slice none 0 0, .string ⟨#[]⟩] 24)
  rw [hw1] at s0 s1
  obtain ⟨x0, x1, x2, x3, x4⟩ := (bk5 s1).1
  have T1 := hide (texK_some w1 ao c xs n n1 n2 ((hx.later b1 (Nat.le_refl _)).mono (by have := unhide z1; omega)) h64)
  have B1 := hide b1
  have HW := hide hw1
  clear b1 hx
  go_enter Try.func24, Try.ntmps24
  go_wp2_with fail
  refine (unhide P1 _).mono ?_
  rintro e w9 ⟨rfl, h9⟩
  obtain rfl := h9.symm
  go_wp2_with fail
  refine (unhide P2 _).mono ?_
  rintro e w9 ⟨rfl, h9⟩
  obtain rfl := h9.symm
  go_wp2_with fail
  clear x0 x1 x2 x3 x4 P1 P2
  refine (unhide T1).mono ?_
  rintro e w2 ⟨g, cap, rfl, hg, hgi, hb2⟩
  have hz1 := unhide z1
  have t0 := s0.later hb2 (by omega)
  have t1 := s1.later hb2 (by omega)
  have u0 := t0.other (a := w.heap.size + 1) (i := 2) (by omega) (.slice (some ⟨g, 0, none⟩) n cap)
  have u1 := t1.set2 (.slice (some ⟨g, 0, none⟩) n cap)
  obtain ⟨⟨y0, y1, y2, y3, y4⟩, z0, z1', z2, z3, z4⟩ := bk5 t1
  obtain ⟨w3, hw3⟩ : ∃ w3, w2.setCell ⟨w.heap.size + 1, 2, none⟩ (.slice (some ⟨g, 0, none⟩) n cap) = w3 := ⟨_, rfl⟩
  have e3 : w3.heap.size = w2.heap.size := by rw [← hw3]; simp
  have b3 : Below w.heap.size w w3 := by rw [← hw3]; exact ((unhide B1).trans (hb2.mono (by omega))).setCell (p := ⟨w.heap.size + 1, 2, none⟩) (by simp) _
  have e2 : w1.heap.size ≤ w2.heap.size := hb2.size
  rw [hw3] at u0 u1
  have gi3 : IntsAt w3.heap.size w3 (some ⟨g, 0, none⟩) (texsV xs n) := by
    rw [e3, ← hw3]; exact hgi.setK (fun p hp => by cases hp; show g ≠ _; omega)
  have T2 := hide (texK_some w3 bo d ys n n1 n2 ((hy.later b3 (Nat.le_refl _)).mono (by omega)) k64)
  have E3 : Hid (w.heap.size + 2 ≤ w3.heap.size) := by show _ ≤ _; omega
  have E4 : Hid (w.heap.size + 2 ≤ g) := by show _ ≤ _; omega
  have HB3 := hide b3
  obtain ⟨⟨a0, a1, a2, a3, a4⟩, _⟩ := bk5 u1
  clear HW hw1 s0 s1 hz1 e3 b3 e2 hgi hb2 hy T1 B1 t0 t1 hg z1
  go_wp2_with fail
  refine (unhide T2).mono ?_
  rintro e w4 ⟨g', cap', rfl, hg, hgi, hb4⟩
  have e3 := unhide E3
  have t0 := u0.later hb4 (by omega)
  have t1 := u1.later hb4 (by omega)
  have gi4 := gi3.later hb4 (Nat.le_refl _)
  clear hw3
  obtain ⟨⟨y0, y1, y2, y3, y4⟩, z0, z1', z2, z3, z4⟩ := bk5 t1
  obtain ⟨w5, hw5⟩ : ∃ w5, w4.setCell ⟨w.heap.size + 1, 3, none⟩ (.slice (some ⟨g', 0, none⟩) n cap') = w5 := ⟨_, rfl⟩
  have v1 := t1.set3 (.slice (some ⟨g', 0, none⟩) n cap')
  have v0 := t0.other (a := w.heap.size + 1) (i := 3) (by omega) (.slice (some ⟨g', 0, none⟩) n cap')
  rw [hw5] at v0 v1
  have b4 : Below w.heap.size w w4 := (unhide HB3).trans (hb4.mono (by omega))
  have b5 : Below w.heap.size w w5 := by rw [← hw5]; exact b4.setCell (p := ⟨w.heap.size + 1, 3, none⟩) (by simp) _
  have g5 : IntsAt w5.heap.size w5 (some ⟨g, 0, none⟩) (texsV xs n) := by
    have e5 : w5.heap.size = w4.heap.size := by rw [← hw5]; simp
    rw [e5, ← hw5]; exact (gi4.mono hb4.size).setK (fun p hp => by cases hp; show g ≠ _; have := unhide E4; omega)
  have g5' : IntsAt w5.heap.size w5 (some ⟨g', 0, none⟩) (texsV ys n) := by
    have e5 : w5.heap.size = w4.heap.size := by rw [← hw5]; simp
    rw [e5, ← hw5]; exact hgi.setK (fun p hp => by cases hp; show g' ≠ _; omega)
  obtain ⟨⟨m0, m1, m2, m3, m4⟩, _⟩ := bk5 v1
  obtain ⟨_, f0, f1, f2, f3, f4⟩ := bk5 v0
  have v2 := v0.set5 (.int .i64 (1 + p)) (.int .i64 (1 + q)) (.slice (some ⟨g, 0, none⟩) n cap) (.slice (some ⟨g', 0, none⟩) n cap') (.string src)
  obtain ⟨w6, hw6⟩ : ∃ w6, ((((w5.setCell ⟨w.heap.size, 0, none⟩ (.int .i64 (1 + p))).setCell ⟨w.heap.size, 1, none⟩ (.int .i64 (1 + q))).setCell ⟨w.heap.size, 2, none⟩ (.slice (some ⟨g, 0, none⟩) n cap)).setCell ⟨w.heap.size, 3, none⟩ (.slice (some ⟨g', 0, none⟩) n cap')).setCell ⟨w.heap.size, 4, none⟩ (.string src) = w6 := ⟨_, rfl⟩
  have FIN : Hid (∃ (n' : Nat) (so sd : Option Addr) (c1 c2 : Nat), (1 + p) * (1 + q) = (n' : Int) ∧ 1 ≤ n' ∧ n' ≤ 36 ∧ Ending.returned (.agg #[.int .i64 (1 + p), .int .i64 (1 + q), .slice (some ⟨g, 0, none⟩) n cap, .slice (some ⟨g', 0, none⟩) n cap', .string src]) = .returned (scV (1 + p) (1 + q) so sd c1 c2 (texsV xs n') (texsV ys n') src) ∧ IntsAt w6.heap.size w6 so (texsV xs n') ∧ IntsAt w6.heap.size w6 sd (texsV ys n') ∧ Below w.heap.size w w6) := by
    have e4 := unhide E4
    refine ⟨n, some ⟨g, 0, none⟩, some ⟨g', 0, none⟩, cap, cap', unhide hN, n1, n2, ?_, ?_, ?_, ?_⟩
    · unfold scV; rw [texs_len, texs_len]
    · have e6 : w6.heap.size = w5.heap.size := by rw [← hw6]; simp
      rw [e6, ← hw6]
      have hne : ∀ p : Addr, some (⟨g, 0, none⟩ : Addr) = some p → p.block ≠ w.heap.size := fun p hp => by cases hp; show g ≠ _; omega
      exact ((((g5.setK hne).setK hne).setK hne).setK hne).setK hne
    · have e6 : w6.heap.size = w5.heap.size := by rw [← hw6]; simp
      rw [e6, ← hw6]
      have hne : ∀ p : Addr, some (⟨g', 0, none⟩ : Addr) = some p → p.block ≠ w.heap.size := fun p hp => by cases hp; show g' ≠ _; omega
      exact ((((g5'.setK hne).setK hne).setK hne).setK hne).setK hne
    · rw [← hw6]
      exact ((((b5.setCell (p := ⟨w.heap.size, 0, none⟩) (by simp) _).setCell (p := ⟨w.heap.size, 1, none⟩) (by simp) _).setCell (p := ⟨w.heap.size, 2, none⟩) (by simp) _).setCell (p := ⟨w.heap.size, 3, none⟩) (by simp) _).setCell (p := ⟨w.heap.size, 4, none⟩) (by simp) _
  rw [hw6] at v2
  obtain ⟨⟨q0, q1, q2, q3, q4⟩, _⟩ := bk5 v2
  clear g5 g5' b4 b5 v0 v1 v2 t0 t1 gi4 hgi hb4 hg e3 gi3 u0 u1 T2 HB3 E3 E4 hN hn
  go_wp2
  refine bodyPost_ret (v := .agg #[.int .i64 (1 + p), .int .i64 (1 + q), .slice (some ⟨g, 0, none⟩) n cap, .slice (some ⟨g', 0, none⟩) n cap', .string src]) (by simp [results, Try.results24, go_sem, q0, q1, q2, q3, q4]) rfl ?_
  first | exact unhide FIN | (rw [hw6]; exact unhide FIN)
end Go.Proofs.Ythmmgiaobakilaa
