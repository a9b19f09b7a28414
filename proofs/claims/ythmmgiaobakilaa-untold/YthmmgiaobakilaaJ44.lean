import Derived.Test.YthmmgiaobakilaaJ11
import Derived.Test.YthmmgiaobakilaaJ43
/- What is hidden does not reach what is open: on data. -/
set_option maxRecDepth 100000
namespace Go.Proofs.Ythmmgiaobakilaa
open Go.RowKit Go.Deep

def inH (H : List ByteArray) (s : ByteArray) : Bool := H.any (fun u => s.toList == u.toList)
/-- Two states that are the same as far as they may be seen. -/
structure Lo (H : List ByteArray) (S T : PSt) : Prop where
  cx : S.cx = T.cx
  cy : S.cy = T.cy
  steps : S.steps = T.steps
  touched : S.touched = T.touched
  trace : S.trace = T.trace
  opn : S.opn = T.opn
  hid : S.hid.length = T.hid.length
  vals : ∀ s, inH H s = false → S.vals s = T.vals s
theorem Lo.refl (H : List ByteArray) (S : PSt) : Lo H S S := ⟨rfl, rfl, rfl, rfl, rfl, rfl, rfl, fun _ _ => rfl⟩
section
variable {H : List ByteArray} {D E : PD}
/-- Two scenes that differ in what is hidden alone. -/
structure PDLo (D E : PD) : Prop where
  sw : D.sw = E.sw
  sh : D.sh = E.sh
  opens : D.opens = E.opens
theorem Lo.step {S T : PSt} (h : Lo H S T) : Lo H (stepP S) (stepP T) := ⟨h.cx, h.cy, by show S.steps + 1 = T.steps + 1; rw [h.steps], h.touched, h.trace, h.opn, h.hid, h.vals⟩
theorem Lo.touch {S T : PSt} (h : Lo H S T) (a b : Int) : Lo H (touchP S a b) (touchP T a b) := by
  unfold touchP
  rw [h.trace]
  split
  · exact ⟨h.cx, h.cy, h.steps, by show S.touched + 1 = T.touched + 1; rw [h.touched], rfl, h.opn, h.hid, h.vals⟩
  · exact ⟨h.cx, h.cy, h.steps, by show S.touched + 1 = T.touched + 1; rw [h.touched], rfl, h.opn, h.hid, h.vals⟩
theorem Lo.set {S T : PSt} (h : Lo H S T) (nm : ByteArray) {v u : Int} (hv : inH H nm = false → v = u) : Lo H (setV S nm v) (setV T nm u) := ⟨h.cx, h.cy, h.steps, h.touched, h.trace, h.opn, h.hid, fun s hs => by
  show updR S.vals nm v s = updR T.vals nm u s
  unfold updR
  split
  · rename_i e
    have e2 : s = nm := bytes_eq (by simpa using e)
    exact hv (by rw [← e2]; exact hs)
  · exact h.vals s hs⟩
/-- Values side by side: what is not hidden is the same. -/
def Rv (H : List ByteArray) : Ex → List Int → List Int → Prop
  | .nil, a, b => a = [] ∧ b = []
  | .node _ _ t k r, a, b => ∃ x y a' b', a = x :: a' ∧ b = y :: b' ∧ ((hidH H t || hidE H k) = false → x = y) ∧ Rv H r a' b'
theorem Rv.same : ∀ {e : Ex} {a b : List Int}, Rv H e a b → hidE H e = false → a = b
  | .nil, _, _, h, _ => by rw [h.1, h.2]
  | .node _ _ t k r, _, _, h, hh => by
    obtain ⟨x, y, a', b', rfl, rfl, h1, h2⟩ := h
    have h3 : ((hidH H t || hidE H k) || hidE H r) = false := hh
    rw [Bool.or_eq_false_iff] at h3
    rw [h1 h3.1, Rv.same h2 h3.2]
theorem place_lo (hD : PDLo D E) (a b : Int) : placeV D a b = placeV E a b := by unfold placeV; rw [hD.sw, hD.sh]
/-- A head: the state as far as it may be seen; the value, where it isn't hidden. -/
theorem head_lo (hD : PDLo D E) (hE : inH H ⟨#[]⟩ = false) {S T : PSt} (h : Lo H S T) {t : Tok} {k : Ex} {a b : List Int} (hv : Rv H k a b) (htc : wdT t [sPEEK, sSPY] = true → hidE H k = false) (hk5 : kP t = 2 ∨ kP t = 3 ∨ kP t = 4 ∨ wP t = ⟨#[]⟩) :
    Lo H (headP D S t a).2 (headP E T t b).2 ∧ ((hidH H t || hidE H k) = false → (headP D S t a).1 = (headP E T t b).1) := by
  unfold headP
  split
  · exact ⟨h, fun _ => rfl⟩
  split
  · refine ⟨h, fun hh => ?_⟩
    rw [Bool.or_eq_false_iff] at hh
    rw [hv.same hh.2]
  · rename_i k3 k4
    have same : (hidH H t || hidE H k) = false → a = b := fun hh => by
      rw [Bool.or_eq_false_iff] at hh
      exact hv.same hh.2
    unfold wordP
    split
    · exact ⟨h, fun hh => by rw [same hh]⟩
    split
    · exact ⟨h, fun hh => by rw [same hh]⟩
    split
    · exact ⟨h, fun hh => by rw [same hh]⟩
    have kp : ∀ s, wP t = s → s ≠ ⟨#[]⟩ → kP t = 2 := fun s e hne => by
      rcases hk5 with e5 | e5 | e5 | e5
      · exact e5
      · exact absurd e5 k3
      · exact absurd e5 k4
      · exact absurd (e.symm.trans e5) hne
    split
    · rename_i hp
      have hw : wdT t [sPEEK, sSPY] = true := by unfold wdT; rw [kp _ hp (by unfold sPEEK; simp), hp]; simp
      have hs := hv.same (htc hw)
      rw [hs, place_lo hD, hD.opens]
      exact ⟨h.touch _ _, fun _ => rfl⟩
    split
    · rename_i hp
      have k2 := kp _ hp (by unfold sSPY; simp)
      have hw : wdT t [sPEEK, sSPY] = true := by unfold wdT; rw [k2, hp]; simp
      have hs := hv.same (htc hw)
      rw [hs, place_lo hD]
      refine ⟨h.touch _ _, fun hh => ?_⟩
      exfalso
      have : hidH H t = true := by unfold hidH wdT; rw [k2, hp]; simp
      rw [this] at hh
      cases hh
    · refine ⟨h, fun hh => h.vals _ ?_⟩
      rw [Bool.or_eq_false_iff] at hh
      rcases hk5 with e5 | e5 | e5 | e5
      · have h2 := hh.1
        unfold hidH at h2
        rw [Bool.or_eq_false_iff] at h2
        have h3 := h2.2
        unfold wdT at h3
        rw [e5] at h3
        simpa [inH] using h3
      · exact absurd e5 k3
      · exact absurd e5 k4
      · rw [e5]; exact hE
end
/-- A token of a tree is a word, a number, a sign, or has no text. -/
theorem kP_or (t : Tok) : kP t = 2 ∨ kP t = 3 ∨ kP t = 4 ∨ wP t = ⟨#[]⟩ := by
  unfold kP wP
  split
  · exact .inl rfl
  split
  · exact .inr (.inl rfl)
  split
  · exact .inr (.inr (.inl rfl))
  · exact .inr (.inr (.inr rfl))
theorem evE_lo {H : List ByteArray} {D E : PD} (hD : PDLo D E) (hE : inH H ⟨#[]⟩ = false) : ∀ (e : Ex) (S T : PSt), TcOK H e → Lo H S T → Lo H (evE D e S).2 (evE E e T).2 ∧ Rv H e (evE D e S).1 (evE E e T).1
  | .nil, _, _, _, h => ⟨h, rfl, rfl⟩
  | .node _ _ t k r, S, T, ht, h => by
    obtain ⟨t1, t2, t3⟩ := ht
    obtain ⟨a1, a2⟩ := evE_lo hD hE k S T t2 h
    obtain ⟨b1, b2⟩ := head_lo hD hE a1.step a2 t1 (kP_or t)
    obtain ⟨c1, c2⟩ := evE_lo hD hE r _ _ t3 b1
    exact ⟨c1, _, _, _, _, rfl, rfl, b2, c2⟩
theorem ev1_lo {H : List ByteArray} {D E : PD} (hD : PDLo D E) (hE : inH H ⟨#[]⟩ = false) {e : Ex} {S T : PSt} (ht : Tc1 H e) (h : Lo H S T) : Lo H (ev1 D e S).2 (ev1 E e T).2 ∧ (hid1 H e = false → (ev1 D e S).1 = (ev1 E e T).1) := by
  cases e with
  | nil => exact ⟨h, fun _ => rfl⟩
  | node b o t k r =>
    obtain ⟨t1, t2, _⟩ := ht
    obtain ⟨a1, a2⟩ := evE_lo hD hE k S T t2 h
    exact head_lo hD hE a1.step a2 t1 (kP_or t)
theorem put_lo {H : List ByteArray} {D E : PD} (hD : PDLo D E) {S T : PSt} (h : Lo H S T) (o : Bool) {v u : Int} (hv : o = true → v = u) : Lo H (putP D S o v) (putP E T o u) := by
  have hh : hereP D S = hereP E T := by unfold hereP; rw [h.cx, h.cy, hD.sw]
  unfold putP
  rw [hh]
  split
  · rename_i ho
    have g := h.touch 2 (hereP E T)
    exact ⟨g.cx, g.cy, g.steps, g.touched, g.trace, by show S.opn.set _ _ = T.opn.set _ _; rw [h.opn, hv ho], g.hid, g.vals⟩
  · have g := h.touch 3 (hereP E T)
    exact ⟨g.cx, g.cy, g.steps, g.touched, g.trace, g.opn, by show (S.hid.set _ _).length = (T.hid.set _ _).length; rw [List.length_set, List.length_set]; exact h.hid, g.vals⟩
theorem rounds_lo {H : List ByteArray} {f g : PSt → PSt} (hf : ∀ S T, Lo H S T → Lo H (f S) (g T)) (nm : ByteArray) : ∀ (q : Nat) (i : Int) (S T : PSt), Lo H S T → Lo H (roundsP f nm q i S) (roundsP g nm q i T)
  | 0, _, _, _, h => h
  | q + 1, i, _, _, h => rounds_lo hf nm q (i + 1) _ _ (hf _ _ (h.step.set nm (fun _ => rfl)))
theorem st_lo {H : List ByteArray} {D E : PD} {X : Ex → Prop} (hD : PDLo D E) (hE : inH H ⟨#[]⟩ = false) (n : Nat) : ∀ (s : Sx), szS s ≤ n → FlOK H s → ShS X s → ∀ (S T : PSt), Lo H S T → Lo H (stP D s S) (stP E s T) := by
  induction n with
  | zero =>
    intro s hs _ _ S T h
    cases s with
    | nil => exact h
    | node b o p k r => simp [szS] at hs
  | succ n ih =>
    intro s hs hf hsh S T h
    cases s with
    | nil => exact h
    | node b o p k r =>
      simp only [szS] at hs
      by_cases hov : 20000 < S.steps
      · rw [stP_over hov, stP_over (by rw [← h.steps]; exact hov)]; exact h
      have hov2 : ¬ 20000 < T.steps := by rw [← h.steps]; exact hov
      unfold FlOK at hf
      obtain ⟨fr, f0, f1, f2, f3⟩ := hf
      unfold ShS at hsh
      obtain ⟨shr, hsh⟩ := hsh
      have hr : ∀ S T, Lo H S T → Lo H (stP D r S) (stP E r T) := ih r (by omega) fr shr
      by_cases t0 : p.tag = 0
      · rw [stP_0 hov t0, stP_0 hov2 t0]
        obtain ⟨m, tc⟩ := f0 t0
        obtain ⟨a1, a2⟩ := ev1_lo hD hE tc h.step
        refine hr _ _ (a1.set _ (fun hn => a2 (m ?_)))
        unfold wdT
        have : H.any (fun u => (wP p.t).toList == u.toList) = false := hn
        rw [this]; simp
      by_cases t1 : p.tag = 1
      · cases k with
        | nil =>
          exfalso
          rcases hsh with ⟨e, _⟩ | ⟨_, _, hk⟩ | ⟨e, _⟩ | ⟨e, _⟩ | ⟨e, _⟩
          · omega
          · exact hk
          · omega
          · omega
          · omega
        | node b1 o1 q s u =>
          simp only [szS] at hs
          obtain ⟨⟨m, tc⟩, fs, fu⟩ := f1 t1
          have hkk : ShS X s ∧ ShS X u := by
            rcases hsh with ⟨e, _⟩ | ⟨_, _, hk⟩ | ⟨e, _⟩ | ⟨e, _⟩ | ⟨e, _⟩
            · omega
            · exact ⟨hk.2.2.1, hk.2.2.2⟩
            · omega
            · omega
            · omega
          obtain ⟨a1, a2⟩ := ev1_lo hD hE tc h.step
          rw [stP_1 hov t1, stP_1 hov2 t1, a2 (m rfl)]
          split
          · exact hr _ _ (ih s (by omega) fs hkk.1 _ _ a1)
          · exact hr _ _ (ih u (by omega) fu hkk.2 _ _ a1)
      by_cases t2 : p.tag = 2
      · rw [stP_2 hov t2, stP_2 hov2 t2]
        have hkk : ShS X k := by
          rcases hsh with ⟨e, _⟩ | ⟨e, _⟩ | ⟨_, _, _, _, _, hk⟩ | ⟨e, _⟩ | ⟨e, _⟩
          · omega
          · omega
          · exact hk
          · omega
          · omega
        exact hr _ _ (rounds_lo (ih k (by omega) (f2 t2) hkk) _ _ _ _ _ h.step)
      · have e : ∀ (G : PD) (S : PSt), ¬ 20000 < S.steps → stP G (.node b o p k r) S = stP G r (putP G (ev1 G p.e (stepP S)).2 (decide (wP p.t = sOUT)) (ev1 G p.e (stepP S)).1) := fun G S hS => by
          cases k <;> (show (if 20000 < S.steps then S else stP G r (if p.tag = 0 then _ else if p.tag = 1 then _ else if p.tag = 2 then _ else _)) = _; rw [if_neg hS, if_neg t0, if_neg t1, if_neg t2])
        rw [e D S hov, e E T hov2]
        obtain ⟨m, tc⟩ := f3 t0 t1 t2
        obtain ⟨a1, a2⟩ := ev1_lo hD hE tc h.step
        refine hr _ _ (put_lo hD a1 _ (fun ho => a2 (m ?_)))
        have ho' : wP p.t = sOUT := by simpa using ho
        unfold wdT
        rw [ho']
        have : ([sHIDE].any fun u => sOUT.toList == u.toList) = false := by simp only [ByteArray.toList_eq]; decide
        rw [this]; simp
/-- Two pictures that are the same as far as they may be seen. -/
def LoO (H : List ByteArray) : Option PSt → Option PSt → Prop
  | none, none => True
  | some S, some T => Lo H S T
  | _, _ => False
theorem go_lo {H : List ByteArray} {D E : PD} {X : Ex → Prop} (hD : PDLo D E) (hE : inH H ⟨#[]⟩ = false) {t : Sx} (hf : FlOK H t) (hsh : ShS X t) : ∀ (l : List (Int × Int)) (S T : PSt), Lo H S T → LoO H (goP D t l S) (goP E t l T)
  | [], _, _, h => h
  | x :: l, S, T, h => by
    have hb : Lo H (beginP S x.1 x.2) (beginP T x.1 x.2) := ⟨rfl, rfl, h.steps, h.touched, h.trace, h.opn, h.hid, fun _ _ => rfl⟩
    have h1 : Lo H (ptOne D t S x) (ptOne E t T x) := st_lo hD hE _ t (Nat.le_refl _) hf hsh _ _ hb
    rw [goP, goP, h1.steps]
    split
    · trivial
    · exact go_lo hD hE hf hsh l _ _ h1
theorem lex_named (s : ByteArray) (f : Nat) : ∀ (a : Nat) (acc l : List Tok) (p : Nat), (∀ t ∈ acc, t.kind = 1 → 0 < t.text.size) → lex s f a acc = (some l, p) → ∀ t ∈ l, t.kind = 1 → 0 < t.text.size := by
  induction f with
  | zero =>
    intro a acc l p h1 h
    simp only [lex, Prod.mk.injEq, Option.some.injEq] at h
    rw [← h.1]; exact h1
  | succ f ih =>
    intro a acc l p h1 h
    rw [lex] at h
    have sn : ∀ t : Tok, (t.kind = 1 → 0 < t.text.size) → ∀ u ∈ acc ++ [t], u.kind = 1 → 0 < u.text.size := fun t ht u hu => by
      rcases List.mem_append.1 hu with hu | hu
      · exact h1 u hu
      · simp only [List.mem_singleton] at hu; rw [hu]; exact ht
    split at h
    · split at h
      · exact ih _ _ l p h1 h
      split at h
      · rename_i hz
        exact ih _ _ l p (sn _ (fun _ => hz)) h
      split at h
      · split at h
        · cases h
        · exact ih _ _ l p (sn _ (fun h => by cases h)) h
      split at h
      · exact ih _ _ l p (sn _ (fun h => by cases h)) h
      · cases h
    · simp only [Prod.mk.injEq, Option.some.injEq] at h
      rw [← h.1]; exact h1
theorem seg_mem {T : List Tok} {i j : Nat} {l : List Tok} (h : Seg T i j l) : ∀ t ∈ l, ∃ x, t = tkAt T x ∧ x < j := by
  obtain ⟨xs, rfl, _, hb⟩ := h
  intro t ht
  obtain ⟨x, hx, rfl⟩ := List.mem_map.1 ht
  exact ⟨x, rfl, (hb x hx).2⟩
theorem tree_flow {src : ByteArray} {ds : List (Tok × Bool)} {t : Sx} (h : IsTree src ds t) : FlOK (hidDs ds) t ∧ inH (hidDs ds) ⟨#[]⟩ = false ∧ ShS GV t := by
  obtain ⟨hs, l, p, j, hl, hr, h0⟩ := h
  have hW := lex_tokW hs hl
  have hB := lex_tokB hs hl
  obtain ⟨t1, t2, t3⟩ := toks_ok hs hl
  have hj := source_lt t1 hr
  obtain ⟨seg, hk, hsh⟩ := od_source (X := GV) (fun n i e j h => (wv_XF hW hB n).1 i e j h) (fun i u h hu => by
    rcases hW.kinds i with e | e | e | e | e
    · exact e
    · exfalso; unfold isT at h; rw [e] at h; simp at h
    · exfalso; unfold isT at h; rw [e] at h; simp at h
    · exfalso
      have hm := hW.sign i e
      have ht : (tkAt (l ++ [overTok p]) i).text = u := bytes_eq (isT_key h)
      have hn := sign_not_key _ hm
      rw [ht] at hn
      rcases hu with rfl | rfl
      · exact absurd hn (by unfold memB kws sOUT; simp)
      · exact absurd hn (by unfold memB kws sHIDE; simp)
    · exfalso; unfold isT at h; rw [e] at h; simp at h) hr
  have hf0 : (flowF ds t).1 = 0 := by
    unfold treeF at h0
    split at h0
    · rename_i hne; exfalso; apply hne; rw [h0]
    · split at h0
      · rename_i hne; exfalso; apply hne; rw [h0]
      · rename_i hne; exact Classical.not_not.1 hne
  refine ⟨fl_ok _ t (Nat.le_refl _) _ hf0, ?_, hsh⟩
  unfold inH
  rw [List.any_eq_false]
  intro u hu e
  unfold hidDs at hu
  obtain ⟨d, hd, rfl⟩ := List.mem_map.1 hu
  have hdm := (List.mem_filter.1 hd).1
  have k1 := hk d hdm
  obtain ⟨x, hx, hxj⟩ := seg_mem seg d.1 (List.mem_append_left _ (List.mem_map.2 ⟨d, hdm, rfl⟩))
  have hnm := lex_named src src.size 0 [] l p (fun t ht => by cases ht) hl
  have hmem : d.1 ∈ l := by
    rw [hx] at k1 ⊢
    unfold tkAt at k1 ⊢
    have hi : x < (l ++ [overTok p]).length := by omega
    rw [List.getD, List.getElem?_eq_getElem hi, Option.getD_some] at k1 ⊢
    rcases List.mem_append.1 (List.getElem_mem hi) with hm | hm
    · exact hm
    · simp only [List.mem_singleton] at hm
      rw [hm] at k1
      cases k1
  have hz := hnm d.1 hmem k1
  have hw : wP d.1 = d.1.text := by unfold wP; rw [k1]; rfl
  rw [hw] at e
  have e2 : (⟨#[]⟩ : ByteArray) = d.1.text := bytes_eq (by simpa using e)
  rw [← e2] at hz
  exact absurd hz (by decide)
theorem tree_one {src : ByteArray} {ds ds' : List (Tok × Bool)} {t t' : Sx} (h : IsTree src ds t) (h' : IsTree src ds' t') : ds = ds' ∧ t = t' := by
  obtain ⟨_, l, p, j, hl, hr, _⟩ := h
  obtain ⟨_, l', p', j', hl', hr', _⟩ := h'
  rw [hl] at hl'
  cases hl'
  rw [hr] at hr'
  cases hr'
  exact ⟨rfl, rfl⟩
/-- What is hidden is not told: two answers. -/
theorem ans_lo {sw sh : Int} {xs ys zs : List Int} {src : ByteArray} {E P E' P' : Int} {r r' : Option PSt} (h : Ans sw sh xs ys src E P r) (h' : Ans sw sh xs zs src E' P' r') (hsame : shapeE sw sh xs ys = shapeE sw sh xs zs) : E = E' ∧ P = P' ∧ ∃ H, LoO H r r' := by
  rcases h with ⟨a1, rfl, rfl, rfl⟩ | ⟨a1, a2, rfl, rfl, rfl⟩ | ⟨a1, a2, rfl, ds, t, hT, hr, hE⟩
  · rcases h' with ⟨b1, rfl, rfl, rfl⟩ | ⟨b1, _⟩ | ⟨b1, _⟩
    · exact ⟨hsame, rfl, [], trivial⟩
    · exact absurd (hsame.trans b1) a1
    · exact absurd (hsame.trans b1) a1
  · rcases h' with ⟨b1, _⟩ | ⟨b1, b2, rfl, rfl, rfl⟩ | ⟨b1, b2, _⟩
    · exact absurd (hsame.symm.trans a1) b1
    · exact ⟨rfl, rfl, [], trivial⟩
    · rw [b2] at a2; exact absurd rfl a2
  · rcases h' with ⟨b1, _⟩ | ⟨b1, b2, _⟩ | ⟨b1, b2, rfl, ds', t', hT', hr', hE'⟩
    · exact absurd (hsame.symm.trans a1) b1
    · rw [a2] at b2; exact absurd rfl b2
    · obtain ⟨rfl, rfl⟩ := tree_one hT hT'
      obtain ⟨f1, f2, f3⟩ := tree_flow hT
      have hlo := go_lo (D := pdOf sw sh xs ys) (E := pdOf sw sh xs zs) ⟨rfl, rfl, rfl⟩ f2 f1 f3 (ptsOf sw.toNat sh.toNat) _ _ (Lo.refl (hidDs ds) (startP (sw.toNat * sh.toNat)))
      rw [← hr, ← hr'] at hlo
      refine ⟨?_, rfl, hidDs ds, hlo⟩
      rw [hE, hE']
      cases r with
      | none =>
        cases r' with
        | none => rfl
        | some T => cases hlo
      | some S =>
        cases r' with
        | none => cases hlo
        | some T => rfl
end Go.Proofs.Ythmmgiaobakilaa
