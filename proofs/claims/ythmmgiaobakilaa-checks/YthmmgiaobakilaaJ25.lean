import Derived.Test.YthmmgiaobakilaaJ23
import Derived.Test.YthmmgiaobakilaaJ24
/- Both looks at what is hidden find the same fault first. -/
set_option maxRecDepth 100000
namespace Go.Proofs.Ythmmgiaobakilaa
open Go.RowKit Go.Deep

/-- The names that are hidden. -/
structure HidIs (H : List ByteArray) (l : List CellR) : Prop where
  eq : ∀ s, hidName l s = H.any (fun u => s.toList == u.toList)
  key : ∀ u ∈ H, memB u kws = false
theorem HidIs.of {H : List ByteArray} {l l' : List CellR} (h : HidIs H l) (e : ∀ s, hidName l' s = hidName l s) : HidIs H l' := ⟨fun s => by rw [e]; exact h.eq s, h.key⟩
theorem hid_snoc (l : List CellR) (c : CellR) (s : ByteArray) : hidName (l ++ [c]) s = if findN l s < 0 then (decide (c.name = s) && c.hid) else hidName l s := by
  unfold hidName
  rw [find_snoc]
  by_cases h : findN l s < 0
  · rw [if_pos h, if_pos h]
    by_cases e : c.name = s
    · rw [if_pos e, if_neg (by omega)]
      simp [List.getD, e]
    · rw [if_neg e, if_pos (by omega)]
      simp [e]
  · rw [if_neg h, if_neg h, if_neg h, if_neg h, cell_snoc h]
theorem hid_none {l : List CellR} {s : ByteArray} (h : findN l s < 0) : hidName l s = false := by unfold hidName; rw [if_pos h]
theorem hid_open (l : List CellR) (c : CellR) (hc : c.hid = false) (s : ByteArray) : hidName (l ++ [c]) s = hidName l s := by
  rw [hid_snoc]
  by_cases h : findN l s < 0
  · rw [if_pos h, hid_none h, hc]; simp
  · rw [if_neg h]
/-- A token that is a word and one of a list. -/
theorem wd_name {t : Tok} (h : t.kind = 1) (l : List ByteArray) : wdT t l = l.any (fun u => t.text.toList == u.toList) := by
  unfold wdT; rw [wP_name h]; unfold kP; rw [h]; rfl
theorem wd_key {t : Tok} (h : t.kind = 0) (l : List ByteArray) : wdT t l = l.any (fun u => t.text.toList == u.toList) := by
  unfold wdT
  have : wP t = t.text := by unfold wP; rw [h]; rfl
  rw [this]; unfold kP; rw [h]; rfl
theorem wd_not {t : Tok} (h : t.kind ≠ 0) (h1 : t.kind ≠ 1) (l : List ByteArray) : wdT t l = false := by
  have : (kP t == 2) = false := by
    unfold kP
    rw [if_neg (by simp [h, h1])]
    split
    · rfl
    split <;> rfl
  unfold wdT; rw [this]; rfl
theorem key_any {s : ByteArray} (h : memB s kws = true) {H : List ByteArray} (hk : ∀ u ∈ H, memB u kws = false) : H.any (fun u => s.toList == u.toList) = false := by
  rw [List.any_eq_false]
  intro u hu e
  have e' : s = u := bytes_eq (by simpa using e)
  rw [e', hk u hu] at h
  cases h
theorem hidH_eq {H : List ByteArray} {l : List CellR} (hH : HidIs H l) {t : Tok} (hn : TokN t) : hidH H t = (((t.kind == 1) && hidName l t.text) || (isOp t && txt t sSPY)) := by
  unfold hidH isOp
  rcases hn.kinds with e | e | e | e | e
  · rw [wd_key e, wd_key e, key_any (hn.key e) hH.key, e]
    simp [txt]
  · rw [wd_name e, wd_name e, ← hH.eq, e]
    have := (hn.peek (by rw [e]; decide)).2
    simp [this]
  all_goals
    rw [wd_not (by rw [e]; decide) (by rw [e]; decide), wd_not (by rw [e]; decide) (by rw [e]; decide), e]
    have := (hn.peek (by rw [e]; decide)).2
    simp [txt_beq, this]
theorem hidE_eq {H : List ByteArray} {l : List CellR} (hH : HidIs H l) : ∀ (e : Ex), AllE TokN e → hidE H e = exH l e
  | .nil, _ => rfl
  | .node _ _ t k r, ⟨a, b, c⟩ => by
    show ((hidH H t || hidE H k) || hidE H r) = (((t.kind == 1) && hidName l t.text) || (isOp t && txt t sSPY) || exH l k || exH l r)
    rw [hidH_eq hH a, hidE_eq hH k b, hidE_eq hH r c]
/-- Is an expression hidden? (hH, under a name of its own.) -/
def hHe (l : List CellR) (e : Ex) : Bool := hH l e
theorem hid1_eq {H : List ByteArray} {l : List CellR} (hH : HidIs H l) {e : Ex} (h : AllE TokN e) : hid1 H e = hHe l e := by
  cases e with
  | nil => rfl
  | node b o t k r =>
    obtain ⟨a, c, d⟩ := h
    unfold hHe
    rw [hH_node]
    show (hidH H t || hidE H k) = _
    rw [hidH_eq hH a, hidE_eq hH k c]
theorem wd_peek {t : Tok} (hn : TokN t) : wdT t [sPEEK, sSPY] = (isOp t && (txt t sPEEK || txt t sSPY)) := by
  unfold isOp
  rcases hn.kinds with e | e | e | e | e
  · rw [wd_key e, e]; simp [txt]
  · rw [wd_name e, e]
    obtain ⟨p1, p2⟩ := hn.peek (by rw [e]; decide)
    simp [p1, p2]
  all_goals
    rw [wd_not (by rw [e]; decide) (by rw [e]; decide), e]
    obtain ⟨p1, p2⟩ := hn.peek (by rw [e]; decide)
    simp [txt_beq, p1, p2]
theorem tcH_stuck {H : List ByteArray} {t : Tok} {k : Ex} {F : Flt} (hf : F.1 ≠ 0) : tcH H t k F = F := by
  unfold tcH; split
  · exact note_not hf _ _
  · rfl
theorem tcE_stuck {H : List ByteArray} {F : Flt} (hf : F.1 ≠ 0) : ∀ e : Ex, tcE H e F = F
  | .nil => rfl
  | .node _ _ t k r => by
    show tcE H r (tcE H k (tcH H t k F)) = F
    rw [tcH_stuck hf, tcE_stuck hf k, tcE_stuck hf r]
theorem tc1_eq (H : List ByteArray) (e : Ex) (F : Flt) : tcE H (besideE e .nil) F = tc1 H e F := by
  cases e <;> rfl
theorem tc1_stuck {H : List ByteArray} {F : Flt} (hf : F.1 ≠ 0) (e : Ex) : tc1 H e F = F := by rw [← tc1_eq]; exact tcE_stuck hf _
theorem ldF_stuck {H : List ByteArray} {t : Tok} {e : Ex} {m : Bool} {F : Flt} (hf : F.1 ≠ 0) : ldF H t e m F = F := by
  unfold ldF; split
  · rw [note_not hf]; exact tc1_stuck hf e
  · exact tc1_stuck hf e
theorem flS_stuck {H : List ByteArray} (n : Nat) : ∀ (s : Sx), szS s ≤ n → ∀ (F : Flt), F.1 ≠ 0 → flS H s F = F := by
  induction n with
  | zero =>
    intro s hs F _
    cases s with
    | nil => rfl
    | node b o p k r => simp [szS] at hs
  | succ n ih =>
    intro s hs F hf
    cases s with
    | nil => rfl
    | node b o p k r =>
      simp only [szS] at hs
      have hr : ∀ G : Flt, G = F → flS H r G = F := fun G e => by rw [e]; exact ih r (by omega) F hf
      by_cases t0 : p.tag = 0
      · rw [flS_0 t0]; exact hr _ (ldF_stuck hf)
      by_cases t1 : p.tag = 1
      · cases k with
        | nil =>
          show flS H r (if p.tag = 0 then _ else if p.tag = 1 then _ else _) = F
          rw [if_neg t0, if_pos t1]
          exact hr _ rfl
        | node b1 o1 q s u =>
          simp only [szS] at hs
          rw [flS_1 t1]
          refine hr _ ?_
          rw [ldF_stuck hf, ih s (by omega) F hf, ih u (by omega) F hf]
      by_cases t2 : p.tag = 2
      · rw [flS_2 t2]
        exact hr _ (ih k (by omega) F hf)
      · cases k <;> (show flS H r (if p.tag = 0 then _ else if p.tag = 1 then _ else if p.tag = 2 then _ else _) = F; rw [if_neg t0, if_neg t1, if_neg t2]; exact hr _ (ldF_stuck hf))
section
variable {E : Env}
theorem used_2 (hm : E.mode = 2) (σ : St) (t : Tok) : usedT E σ t = σ := by unfold usedT; rw [hm]; rfl
theorem lead_2 (hm : E.mode = 2) (σ : St) (t : Tok) : leadT E σ t = σ := by unfold leadT; rw [used_2 hm, hm]; rfl
theorem num_2 (hm : E.mode = 2) (σ : St) (a b : Tok) : numT E σ a b = σ := by unfold numT; rw [hm]; rfl
theorem decl_2 (hm : E.mode = 2) (σ : St) (t : Tok) (a b : Bool) : declT E σ t a b = addC σ t a b := by unfold declT; rw [hm]; rfl
theorem exF (hm : E.mode = 2) {H : List ByteArray} : ∀ (e : Ex) (v : List Tok) (F : Flt) (σ : St), AllE TokN e → WF e → HidIs H σ.cells → Rl v F σ → Inc (v ++ preE e) → Rl (v ++ preE e) (tcE H e F) (exS E e σ)
  | .nil, v, F, σ, _, _, _, hr, _ => by
    show Rl (v ++ []) F σ
    rw [List.append_nil]; exact hr
  | .node b o t k r, v, F, σ, hn, hw, hH, hr, hi => by
    by_cases hf : σ.fault = 0
    · obtain ⟨n1, n2, n3⟩ := hn
      obtain ⟨w1, w2, w3⟩ := hw
      have hF : F.1 = 0 := by rw [hr.1, hf]
      have e1 : v ++ (hdL t ++ (preE k ++ preE r)) = v ++ hdL t ++ preE k ++ preE r := by simp [List.append_assoc]
      rw [preE, e1] at hi
      have i2 : Inc (v ++ hdL t ++ preE k) := hi.sublist (List.sublist_append_left _ _)
      have key : Rl (v ++ hdL t ++ preE k) (tcE H k (tcH H t k F)) (hdS E t (exH σ.cells k) (exS E k σ)) := by
        by_cases hp : (wdT t [sPEEK, sSPY] && hidE H k) = true
        · have hp2 := hp
          rw [hidE_eq hH k n2, wd_peek n1] at hp2
          simp only [Bool.and_eq_true] at hp2
          obtain ⟨⟨ho, hx⟩, hh⟩ := hp2
          have hl := fa_peek n1 hx
          have ez : tcH H t k F = (11, t.place) := by unfold tcH; rw [if_pos hp, note_eq hF]
          have ek : hdS E t (exH σ.cells k) (exS E k σ) = wrongT (exS E k σ) t 11 := by
            unfold hdS
            rw [op_kind ho, if_neg (by simp), ho, hx, if_pos (by rfl)]
            unfold flowT
            rw [hm, hh]; rfl
          rw [ez, ek, tcE_stuck (show (11 : Int) ≠ 0 by decide) k, hl]
          have hr0 : Rl ([] ++ preE k) (tcE H k F) (exS E k σ) := exF hm k [] F σ n2 w2 hH (Rl.zero hF hf) (i2.sublist (List.sublist_append_right _ _))
          have hlt : (exS E k σ).fault = 0 ∨ t.place < (exS E k σ).place := by
            by_cases h0 : (exS E k σ).fault = 0
            · exact .inl h0
            · obtain ⟨_, x, hx, ex⟩ := hr0.2 h0
              refine .inr ?_
              rw [ex]
              rw [hl] at i2
              exact (List.pairwise_append.1 i2).2.2 t (by simp) x hx
          have := Rl.wrong (v := v) hF t (e := 11) hlt
          rw [note_eq hF] at this
          exact this.app
        · have ez : tcH H t k F = F := by unfold tcH; rw [if_neg hp]
          have ek : hdS E t (exH σ.cells k) (exS E k σ) = exS E k σ := by
            unfold hdS
            split
            · exact used_2 hm _ _
            split
            · rename_i _ hq
              rw [hidE_eq hH k n2, wd_peek n1, hq, Bool.true_and] at hp
              unfold flowT
              rw [if_neg (by simp [hp])]
            · rfl
          rw [ez, ek]
          exact exF hm k (v ++ hdL t) F σ n2 w2 hH hr.app i2
      show Rl (v ++ (hdL t ++ (preE k ++ preE r))) (tcE H r (tcE H k (tcH H t k F))) (exS E r (hdS E t (exH σ.cells k) (exS E k σ)))
      rw [e1]
      refine exF hm r _ _ _ n3 w3 ?_ key hi
      rw [((exS_same E k σ).trans (hdS_same E t _ _)).cells]
      exact hH
    · have g := hr.gt hi hf
      rw [ex_stuck hf _ hn g, tcE_stuck (by rw [hr.1]; exact hf)]
      exact hr.app
theorem hF1 (hm : E.mode = 2) {H : List ByteArray} {e : Ex} (hg : GE e) {v : List Tok} {F : Flt} {σ : St} (hn : AllE TokN e) (hH : HidIs H σ.cells) (hr : Rl v F σ) (hi : Inc (v ++ pre1 e)) : Rl (v ++ pre1 e) (tc1 H e F) (hS E e σ) := by
  have := exF hm (besideE e .nil) v F σ (all_beside hn) (wf_beside hg.2 trivial) hH hr (by rw [pre1_eq]; exact hi)
  rw [pre1_eq, tc1_eq] at this
  exact this
/-- What an expression leads to. -/
theorem leadF (hm : E.mode = 2) {H : List ByteArray} {e : Ex} {t : Tok} (hg : GE e) {v : List Tok} {F : Flt} {σ : St} (hf : σ.fault = 0) (hn : AllE TokN e) (hH : HidIs H σ.cells) (hr : Rl v F σ) (hi : Inc (v ++ [t] ++ pre1 e)) (m : Bool) :
    Rl (v ++ [t] ++ pre1 e) (ldF H t e m F) (if (!m && hHe σ.cells e) then wrongT (hS E e σ) t 11 else hS E e σ) := by
  have hF : F.1 = 0 := by rw [hr.1, hf]
  unfold ldF
  rw [hid1_eq hH hn]
  by_cases hc : (!m && hHe σ.cells e) = true
  · rw [if_pos hc, if_pos hc, note_eq hF, tc1_stuck (show (11 : Int) ≠ 0 by decide)]
    have hr0 : Rl ([] ++ pre1 e) (tc1 H e F) (hS E e σ) := hF1 hm hg hn hH (Rl.zero hF hf) (hi.sublist (List.sublist_append_right _ _))
    have hlt : (hS E e σ).fault = 0 ∨ t.place < (hS E e σ).place := by
      by_cases h0 : (hS E e σ).fault = 0
      · exact .inl h0
      · obtain ⟨_, x, hx, ex⟩ := hr0.2 h0
        refine .inr ?_
        rw [ex]
        exact (List.pairwise_append.1 hi).2.2 t (by simp) x hx
    have := Rl.wrong (v := v) hF t (e := 11) hlt
    rw [note_eq hF] at this
    exact this.app
  · rw [if_neg hc, if_neg hc]
    exact hF1 hm hg hn hH hr.app hi
theorem stFl (hm : E.mode = 2) {H : List ByteArray} (n : Nat) : ∀ (s : Sx), szS s ≤ n → ∀ (v : List Tok) (F : Flt) (σ : St), AllS TokN s → ShS GE s → HidIs H σ.cells → Rl v F σ → Inc (v ++ ordS s) → Rl (v ++ ordS s) (flS H s F) (stS E s σ) := by
  induction n with
  | zero =>
    intro s hs v F σ _ _ _ hr _
    cases s with
    | nil => exact hr.app
    | node b o p k r => simp [szS] at hs
  | succ n ih =>
    intro s hs v F σ hn hsh hH hr hi
    cases s with
    | nil => exact hr.app
    | node b o p k r =>
      by_cases hf : σ.fault = 0
      · simp only [szS] at hs
        obtain ⟨n1, n2, n3, n4, n5, n6⟩ := hn
        unfold ShS at hsh
        obtain ⟨shr, hsh⟩ := hsh
        have eo : v ++ ordS (.node b o p k r) = v ++ hdP p ++ pre1 p.e ++ ordS k ++ ordS r := by simp [ordS, List.append_assoc]
        rw [eo] at hi ⊢
        have i4 : Inc (v ++ hdP p ++ pre1 p.e ++ ordS k) := hi.sublist (List.sublist_append_left _ _)
        have i3 : Inc (v ++ hdP p ++ pre1 p.e) := i4.sublist (List.sublist_append_left _ _)
        have hc : (stF E p (stS E k) σ).cells = σ.cells := (stS_same E (.node 0 0 p k .nil) σ).cells
        have fin : ∀ (F' : Flt), flS H (.node b o p k r) F = flS H r F' → Rl (v ++ hdP p ++ pre1 p.e ++ ordS k) F' (stF E p (stS E k) σ) → Rl (v ++ hdP p ++ pre1 p.e ++ ordS k ++ ordS r) (flS H (.node b o p k r) F) (stS E (.node b o p k r) σ) := fun F' e h1 => by
          have := ih r (by omega) _ F' (stF E p (stS E k) σ) n6 shr (by rw [hc]; exact hH) h1 hi
          rw [e]
          exact this
        rcases hsh with ⟨t0, tk, te, rfl⟩ | ⟨t1, te, hk⟩ | ⟨t2, tk, ak, bk, pe, hk⟩ | ⟨t3, tk, th, te, rfl⟩ | ⟨t4, tk, th, te, rfl⟩
        · have eh : hdP p = [p.t] := by unfold hdP; rw [if_neg (by omega), if_neg (by omega)]
          refine fin _ (flS_0 t0) ?_
          have es : stF E p (stS E .nil) σ = if (!(wdT p.t H) && hHe σ.cells p.e) then wrongT (hS E p.e σ) p.t 11 else hS E p.e σ := by
            unfold stF assignS
            rw [if_pos t0, lead_2 hm, wd_name tk, ← hH.eq]
            unfold outT hHe
            rw [hm, Bool.and_comm]
            simp only [BEq.rfl, Bool.true_and]
          rw [es, eh, show ordS (.nil : Sx) = [] from rfl, List.append_nil]
          rw [eh] at i3
          exact leadF hm te hf n4 hH hr i3 _
        · cases k with
          | nil => cases hk
          | node b1 o1 q s u =>
            obtain ⟨q5, qe, hs1, hs2⟩ := hk
            obtain ⟨_, _, _, _, m5, m6⟩ := n5
            simp only [szS] at hs
            have eh : hdP p = [p.t] := by unfold hdP; rw [if_neg (by omega), if_neg (by omega)]
            have ek : ordS (.node b1 o1 q s u) = ordS s ++ ordS u := by
              rw [ordS, qe]
              unfold hdP
              rw [if_pos q5]
              rfl
            have es : stF E p (stS E (.node b1 o1 q s u)) σ = stS E u (stS E s (flowT E (hS E p.e σ) p.t (hHe σ.cells p.e))) := by
              unfold stF
              rw [if_neg (by omega), if_pos t1]
              show stS E u (stF E q (stS E s) _) = _
              congr 1
              unfold stF
              rw [if_neg (by omega), if_neg (by omega), if_neg (by omega), if_neg (by omega), if_neg (by omega)]
              rfl
            rw [ek, ← List.append_assoc] at i4
            have i5 : Inc (v ++ hdP p ++ pre1 p.e ++ ordS s) := i4.sublist (List.sublist_append_left _ _)
            rw [eh] at i3
            have r1 : Rl (v ++ hdP p ++ pre1 p.e) (ldF H p.t p.e false F) (flowT E (hS E p.e σ) p.t (hHe σ.cells p.e)) := by
              have := leadF hm te hf n4 hH hr i3 false
              rw [eh]
              unfold flowT
              rw [hm]
              exact this
            have c1 := ((hS_same E p.e σ).trans (flowT_same E _ p.t (hHe σ.cells p.e))).cells
            have r2 := ih s (by omega) _ _ _ m5 hs1 (by rw [c1]; exact hH) r1 i5
            have c2 := (stS_same E s (flowT E (hS E p.e σ) p.t (hHe σ.cells p.e))).cells
            have r3 := ih u (by omega) _ _ _ m6 hs2 (by rw [c2, c1]; exact hH) r2 i4
            refine fin _ (flS_1 t1) ?_
            rw [es, ek, ← List.append_assoc]
            exact r3
        · have es : stF E p (stS E k) σ = popS (stS E k (addC σ p.t false false)) := by
            unfold stF
            rw [if_neg (by omega), if_neg (by omega), if_pos t2, num_2 hm, decl_2 hm]
          have r1 : Rl (v ++ hdP p ++ pre1 p.e) F (addC σ p.t false false) := ((hr.app).app).of rfl rfl
          have r2 := ih k (by omega) _ _ _ n5 hk (hH.of (fun x => hid_open σ.cells ⟨p.t.text, 0, false, false⟩ rfl x)) r1 i4
          refine fin _ (flS_2 t2) ?_
          rw [es]
          exact r2.of rfl rfl
        · have eh : hdP p = [p.t] := by unfold hdP; rw [if_neg (by omega), if_neg (by omega)]
          refine fin _ (flS_3 (.inl t3)) ?_
          have ew : wdT p.t [sHIDE] = false := by rw [wd_key tk]; simp [th]
          have es : stF E p (stS E .nil) σ = if (!false && hHe σ.cells p.e) then wrongT (hS E p.e σ) p.t 11 else hS E p.e σ := by
            unfold stF
            rw [if_neg (by omega), if_neg (by omega), if_neg (by omega), if_pos t3]
            unfold outT hHe
            rw [hm, Bool.and_comm]
            simp only [BEq.rfl, Bool.true_and]
          rw [ew, es, eh, show ordS (.nil : Sx) = [] from rfl, List.append_nil]
          rw [eh] at i3
          exact leadF hm te hf n4 hH hr i3 _
        · have eh : hdP p = [p.t] := by unfold hdP; rw [if_neg (by omega), if_neg (by omega)]
          refine fin _ (flS_3 (.inr t4)) ?_
          have ew : wdT p.t [sHIDE] = true := by rw [wd_key tk]; simp [th]
          have es : stF E p (stS E .nil) σ = if (!true && hHe σ.cells p.e) then wrongT (hS E p.e σ) p.t 11 else hS E p.e σ := by
            unfold stF
            rw [if_neg (by omega), if_neg (by omega), if_neg (by omega), if_neg (by omega), if_pos t4]
            unfold outT
            simp
          rw [ew, es, eh, show ordS (.nil : Sx) = [] from rfl, List.append_nil]
          rw [eh] at i3
          exact leadF hm te hf n4 hH hr i3 _
      · have g := hr.gt hi hf
        obtain ⟨a1, a2⟩ := st_stuck (E := E) _ σ hf hn g
        rw [flS_stuck _ _ (Nat.le_refl _) F (by rw [hr.1]; exact hf)]
        exact (hr.app).of a1 a2
end
end Go.Proofs.Ythmmgiaobakilaa
