import Derived.Test.YthmmgiaobakilaaJ08
/- The reference's first look at statements. -/
set_option maxRecDepth 100000
namespace Go.Proofs.Ythmmgiaobakilaa
open Go.RowKit Go.Deep

theorem chkR_ok {E : Env} {r : SR} (h : GoodR E r) : chkR E r = some r := by rw [chkR, if_pos h]
theorem end0_ok {α : Type} {E : Env} {σ : St} (hm : M0 E σ) (r : Except Nat (α × Nat)) : OkS (end0 E σ r).2 := by
  cases r with
  | error k => exact (hm.stop9 k).2.2
  | ok xj => exact hm.2.2
section
variable {E : Env} {σ : St}
theorem S0.chkR (hT : TokOK E) (h : S0 E σ) : chkR E ⟨E.toks.length - 1, σ⟩ = some ⟨E.toks.length - 1, σ⟩ := chkR_ok ⟨last_lt hT, h.2.2⟩
theorem M0.chkR (h : M0 E σ) {j : Nat} (hj : j < E.toks.length) : chkR E ⟨j, σ⟩ = some ⟨j, σ⟩ := chkR_ok ⟨hj, h.2.2⟩
theorem S0.semi (hT : TokOK E) (h : S0 E σ) (i : Nat) : semiM E σ i = some ⟨E.toks.length - 1, σ⟩ := by
  unfold semiM
  rw [(h.need _ _).1, (h.need _ _).2, h.chkR hT]
theorem M0.semi {α : Type} (hT : TokOK E) (hm : M0 E σ) {j : Nat} (hj : j < E.toks.length) {g : α} {r : Except Nat (α × Nat)} (h : andThen (pNeed E.toks sSC j) (fun _ k => got g k) = some r) : semiM E σ j = some ⟨(end0 E σ r).1, (end0 E σ r).2⟩ := by
  unfold semiM
  obtain ⟨r1, e1⟩ := need_some E.toks sSC j
  have f1 := need_fwd (s := sSC) hT.last hj
  rw [e1] at h f1
  obtain ⟨n1, n2⟩ := hm.need e1
  rw [n1, n2]
  cases r1 with
  | error k => cases h; exact (hm.stop9 k).chkR hT
  | ok xj => obtain ⟨_, j1⟩ := xj; cases h; exact hm.chkR f1.2
theorem M0.of (h : M0 E σ) {i : Nat} {k : Int} {r : Except Nat (Tok × Nat)} (hr : pKind E.toks k i = some r) : ofI E σ i k = (end0 E σ r).1 ∧ ofS E σ i k = (end0 E σ r).2 := by
  unfold pKind at hr
  unfold ofI ofS
  rw [h.stop]
  split at hr
  · rename_i hs
    cases hr
    have hs' : ((tokAt E i).kind == k) = true := hs
    simp [hs', end0]
  · rename_i hs
    cases hr
    have hs' : ((tokAt E i).kind == k) = false := Bool.eq_false_iff.2 hs
    simp [hs', end0, h.wrong]
theorem S0.of (h : S0 E σ) (i : Nat) (k : Int) : ofI E σ i k = E.toks.length - 1 ∧ ofS E σ i k = σ := by
  unfold ofI ofS
  rw [h.stop]
  simp
end

def Rel0S (E : Env) (M : MS) (P : PS) : Prop := ∀ σ i live r, M0 E σ → i < E.toks.length → P E.toks i = some r → M E σ i live = some ⟨(end0 E σ r).1, (end0 E σ r).2⟩
def Stop0S (E : Env) (M : MS) : Prop := ∀ σ i live, S0 E σ → i < E.toks.length → M E σ i live = some ⟨E.toks.length - 1, σ⟩

section
variable {X : MX} {P : PE} {B : MS} {Q : PS} {E : Env}
theorem assign_rel (hT : TokOK E) (hR : Rel0 E X P) (hS : Stop0 E X) (hF : FwdP P) {σ : St} {i : Nat} {live : Bool} {r : Except Nat (Sx × Nat)} (hm : M0 E σ) (hi : i + 1 < E.toks.length) (h : pAssign P E.toks i = some r) : assignM X E σ i live = some ⟨(end0 E σ r).1, (end0 E σ r).2⟩ := by
  have l0 : leadS E σ i = σ := by simp [leadS, hm.1]
  unfold assignM
  rw [l0, step0 hm.1]
  generalize stepB E σ live = s
  unfold assignGo
  unfold pAssign at h
  obtain ⟨r1, e1⟩ := need_some E.toks sAR (i + 1)
  have f1 := need_fwd (s := sAR) hT.last hi
  rw [e1] at h f1
  obtain ⟨n1, n2⟩ := hm.need e1
  rw [n1, n2, if_pos ⟨hi, end0_lt hT f1⟩]
  have fin : ∀ a : Ans, assignEnd E i s (leadK E σ i) a = semiM E a.σ a.to := fun a => by
    unfold assignEnd
    rw [if_neg (by simp [hm.1]), lives0 hm.1, if_neg (by simp)]
  cases r1 with
  | error k =>
    cases h
    obtain ⟨v, b, hv, hM⟩ := hS _ _ s (hm.stop9 k) (last_lt hT)
    simp only [end0]
    rw [hM, Option.bind_some, fin]
    exact (hm.stop9 k).semi hT _
  | ok xj =>
  obtain ⟨_, j1⟩ := xj
  simp only [end0]
  simp only [andThen] at h
  cases e2 : P E.toks j1 with
  | none => rw [e2] at h; cases h
  | some r2 =>
  have f2 := hF E.toks j1 hT.last f1.2
  rw [e2] at h f2
  obtain ⟨va, ba, hva, hMa⟩ := hR σ j1 s r2 hm f1.2 e2
  rw [hMa, Option.bind_some, fin]
  cases r2 with
  | error k => cases h; exact (hm.stop9 k).semi hT _
  | ok xj =>
    obtain ⟨xa, j2⟩ := xj
    exact hm.semi hT f2.2 h
theorem put_rel (hT : TokOK E) (hR : Rel0 E X P) (hF : FwdP P) (hid : Bool) (tag : Nat) {σ : St} {i : Nat} {live : Bool} {r : Except Nat (Sx × Nat)} (hm : M0 E σ) (hi : i + 1 < E.toks.length) (h : pPut P tag E.toks i = some r) : putM X hid E σ i live = some ⟨(end0 E σ r).1, (end0 E σ r).2⟩ := by
  unfold putM
  rw [if_pos hi, step0 hm.1]
  generalize stepB E σ live = s
  unfold pPut at h
  have fin : ∀ a : Ans, putEnd E i s hid a = semiM E a.σ a.to := fun a => by
    unfold putEnd
    have o : outS E a.σ i a.h hid = a.σ := by simp [outS, hm.1]
    rw [o, lives0 hm.1, if_neg (by simp)]
  cases e2 : P E.toks (i + 1) with
  | none => rw [e2] at h; cases h
  | some r2 =>
  have f2 := hF E.toks (i + 1) hT.last hi
  rw [e2] at h f2
  obtain ⟨va, ba, hva, hMa⟩ := hR σ (i + 1) s r2 hm hi e2
  rw [hMa, Option.bind_some, fin]
  cases r2 with
  | error k => cases h; exact (hm.stop9 k).semi hT _
  | ok xj =>
    obtain ⟨xa, j2⟩ := xj
    exact hm.semi hT f2.2 h
theorem choiceEnd_stop {s : Bool} {a : Ans} {q : SR} (h : S0 E q.σ) : choiceEnd B E s a q = some q := by
  unfold choiceEnd
  rw [h.is, if_neg (by simp)]
theorem choice_rel (hT : TokOK E) (hR : Rel0 E X P) (hF : FwdP P) (hB : Rel0S E B Q) (hSB : Stop0S E B) (hFB : FwdP Q) {σ : St} {i : Nat} {live : Bool} {r : Except Nat (Sx × Nat)} (hm : M0 E σ) (hi : i + 1 < E.toks.length) (h : pIf P Q E.toks i = some r) : choiceM X B E σ i live = some ⟨(end0 E σ r).1, (end0 E σ r).2⟩ := by
  unfold choiceM
  rw [if_pos hi, step0 hm.1]
  generalize stepB E σ live = s
  unfold pIf at h
  cases e2 : P E.toks (i + 1) with
  | none => rw [e2] at h; cases h
  | some r2 =>
  have f2 := hF E.toks (i + 1) hT.last hi
  rw [e2] at h f2
  obtain ⟨va, ba, hva, hMa⟩ := hR σ (i + 1) s r2 hm hi e2
  rw [hMa, Option.bind_some]
  simp only
  rw [flow0 hm.1]
  cases r2 with
  | error k =>
    cases h
    simp only [end0]
    rw [hSB _ _ _ (hm.stop9 k) (last_lt hT), Option.bind_some]
    exact choiceEnd_stop (hm.stop9 k)
  | ok xj =>
  obtain ⟨xa, j2⟩ := xj
  simp only [end0]
  simp only [andThen] at h
  cases e3 : Q E.toks j2 with
  | none => rw [e3] at h; cases h
  | some r3 =>
  have f3 := hFB E.toks j2 hT.last f2.2
  rw [e3] at h f3
  rw [hB σ j2 _ r3 hm f2.2 e3, Option.bind_some]
  cases r3 with
  | error k => cases h; exact choiceEnd_stop (hm.stop9 k)
  | ok xj =>
  obtain ⟨xs, j3⟩ := xj
  simp only [end0]
  simp only at h
  unfold choiceEnd
  simp only
  rw [hm.is]
  unfold pElse at h
  split at h
  · rename_i hs
    have h4 := isT_next hT.last f3.2 hs
    rw [if_pos hs, if_pos h4]
    cases e4 : Q E.toks (j3 + 1) with
    | none => rw [e4] at h; cases h
    | some r4 =>
    rw [e4] at h
    rw [hB σ (j3 + 1) _ r4 hm h4 e4]
    cases r4 with
    | error k => cases h; rfl
    | ok xj => obtain ⟨xu, j4⟩ := xj; cases h; rfl
  · rename_i hs
    cases h
    rw [if_neg hs]
theorem loop_rel (hT : TokOK E) (hB : Rel0S E B Q) {σ : St} {i : Nat} {live : Bool} {r : Except Nat (Sx × Nat)} (hm : M0 E σ) (hi : i + 1 < E.toks.length) (h : pFor Q E.toks i = some r) : loopM B E σ i live = some ⟨(end0 E σ r).1, (end0 E σ r).2⟩ := by
  have hs : stepB E σ live = false := by simp [stepB, lives0 hm.1]
  unfold loopM
  rw [if_pos hi, step0 hm.1, hs]
  unfold pFor at h
  -- what is wrong stays so
  have d4 : ∀ τ a b c d, S0 E τ → loopTo B E false a b c d τ = some ⟨E.toks.length - 1, τ⟩ := fun τ a b c d ht => by
    unfold loopTo
    rw [if_pos ht.stop, ht.chkR hT]
  have d3 : ∀ τ a b, S0 E τ → loop3 B E false a b (E.toks.length - 1) τ = some ⟨E.toks.length - 1, τ⟩ := fun τ a b ht => by
    unfold loop3
    rw [(ht.need _ _).1, (ht.need _ _).2, if_pos ⟨last_lt hT, last_lt hT⟩, (ht.of _ _).1, (ht.of _ _).2]
    exact d4 _ _ _ _ _ ht
  have d2 : ∀ τ a, S0 E τ → loop2 B E false a (E.toks.length - 1) τ = some ⟨E.toks.length - 1, τ⟩ := fun τ a ht => by
    unfold loop2
    rw [if_pos (last_lt hT), (ht.of _ _).1, (ht.of _ _).2]
    exact d3 _ _ _ ht
  obtain ⟨r1, e1⟩ := kind_some E.toks 1 (i + 1)
  have f1 := kind_fwd hT.last (k := 1) (by decide) hi
  rw [e1] at h f1
  rw [(hm.of e1).1, (hm.of e1).2]
  cases r1 with
  | error k => cases h; exact d2 _ _ (hm.stop9 k)
  | ok xj =>
  obtain ⟨xn, j1⟩ := xj
  simp only [end0]
  simp only [andThen] at h
  unfold loop2
  rw [if_pos f1.2]
  obtain ⟨r2, e2⟩ := kind_some E.toks 2 j1
  have f2 := kind_fwd hT.last (k := 2) (by decide) f1.2
  rw [e2] at h f2
  rw [(hm.of e2).1, (hm.of e2).2]
  cases r2 with
  | error k => cases h; exact d3 _ _ _ (hm.stop9 k)
  | ok xj =>
  obtain ⟨xa, j2⟩ := xj
  simp only [end0]
  simp only at h
  unfold loop3
  obtain ⟨r3, e3⟩ := need_some E.toks sDT j2
  have f3 := need_fwd (s := sDT) hT.last f2.2
  rw [e3] at h f3
  rw [(hm.need e3).1, (hm.need e3).2, if_pos ⟨f2.2, end0_lt hT f3⟩]
  cases r3 with
  | error k =>
    cases h
    simp only [end0]
    rw [((hm.stop9 k).of _ _).1, ((hm.stop9 k).of _ _).2]
    exact d4 _ _ _ _ _ (hm.stop9 k)
  | ok xj =>
  obtain ⟨_, j3⟩ := xj
  simp only [end0]
  simp only at h
  obtain ⟨r4, e4⟩ := kind_some E.toks 2 j3
  have f4 := kind_fwd hT.last (k := 2) (by decide) f3.2
  rw [e4] at h f4
  rw [(hm.of e4).1, (hm.of e4).2]
  cases r4 with
  | error k => cases h; exact d4 _ _ _ _ _ (hm.stop9 k)
  | ok xj =>
  obtain ⟨xb, j4⟩ := xj
  simp only [end0]
  simp only at h
  unfold loopTo
  have hd : declS E σ (i + 1) false false = σ := by simp [declS, hm.1]
  have hn : loopNum E σ j1 j3 = σ := by simp [loopNum, hm.1]
  rw [hm.stop, if_neg (by simp), hd, if_pos ⟨f4.2, hm.2.2⟩, hn]
  unfold loopBody
  rw [if_neg (by simp)]
  cases e5 : Q E.toks j4 with
  | none => rw [e5] at h; cases h
  | some r5 =>
  rw [e5] at h
  rw [hB σ j4 false r5 hm f4.2 e5, Option.bind_some]
  have he : ∀ q : SR, loopEnd E q = some q := fun q => by
    unfold loopEnd
    rw [if_pos (by simp [hm.1])]
    simp [dropS, hm.1]
  rw [he]
  cases r5 with
  | error k => cases h; rfl
  | ok xj => obtain ⟨xs, j5⟩ := xj; cases h; rfl
theorem statement_rel (hT : TokOK E) (hR : Rel0 E X P) (hS : Stop0 E X) (hF : FwdP P) (hB : Rel0S E B Q) (hSB : Stop0S E B) (hFB : FwdP Q) : Rel0S E (statementM X B) (pStatement P Q) := by
  intro σ i live r hm hi h
  unfold statementM
  rw [hm.stop, if_neg (by simp), hm.is, hm.is, hm.is, hm.is]
  unfold pStatement at h
  split at h
  · rename_i hk
    have hk' : ((tokAt E i).kind == 1) = true := hk
    rw [if_pos hk']
    exact assign_rel hT hR hS hF hm (next_lt hT.last hi (by have e : (tkAt E.toks i).kind = 1 := by simpa using hk
                                                            rw [e]; decide)) h
  rename_i hk
  rw [if_neg (show ¬ ((tokAt E i).kind == 1) = true from hk)]
  split at h
  · rename_i hs
    rw [if_pos hs]
    exact choice_rel hT hR hF hB hSB hFB hm (isT_next hT.last hi hs) h
  rename_i h1
  rw [if_neg h1]
  split at h
  · rename_i hs
    rw [if_pos hs]
    exact loop_rel hT hB hm (isT_next hT.last hi hs) h
  rename_i h2
  rw [if_neg h2]
  split at h
  · rename_i hs
    rw [if_pos (by rw [hs]; rfl)]
    exact put_rel hT hR hF _ 3 hm (isT_next hT.last hi hs) h
  rename_i h3
  split at h
  · rename_i hs
    rw [if_pos (by rw [hs]; simp)]
    exact put_rel hT hR hF _ 4 hm (isT_next hT.last hi hs) h
  rename_i h4
  cases h
  rw [if_neg (by simp [h3, h4]), hm.wrong]
  exact (hm.stop9 i).chkR hT
theorem statement_stop (hT : TokOK E) : Stop0S E (statementM X B) := by
  intro σ i live hs hi
  unfold statementM
  rw [if_pos hs.stop, hs.chkR hT]
end

section
variable {S : MS} {P : PS} {E : Env}
theorem blockGo_stop (hT : TokOK E) {live : Bool} {m : Nat} {q : SR} (h : S0 E q.σ) : blockGo S E live (m + 1) q = some ⟨E.toks.length - 1, q.σ⟩ := by
  rw [blockGo, if_pos (by rw [h.stop]; simp), (h.need _ _).1, (h.need _ _).2, h.chkR hT]
theorem blockGo_rel (hT : TokOK E) (hR : Rel0S E S P) (hF : FwdP P) {live : Bool} (m : Nat) : ∀ σ j r, M0 E σ → j < E.toks.length → pItems P E.toks m j = some r → blockGo S E live (m + 1) ⟨j, σ⟩ = some ⟨(end0 E σ r).1, (end0 E σ r).2⟩ := by
  induction m with
  | zero => intro σ j r _ _ h; cases h
  | succ m ih =>
    intro σ j r hm hj h
    rw [pItems] at h
    rw [blockGo]
    simp only
    rw [hm.is, hm.stop]
    split at h
    · rename_i hs
      cases h
      rw [if_pos (by rw [hs]; rfl)]
      have n := hm.need (i := j) (s := sCC) (r := .ok ((), j + 1)) (by unfold pNeed; rw [if_pos hs]; rfl)
      rw [n.1, n.2]
      exact hm.chkR (isT_next hT.last hj hs)
    · rename_i hs
      rw [if_neg (by simp [hs])]
      cases e1 : P E.toks j with
      | none => rw [e1] at h; cases h
      | some r1 =>
      have f1 := hF E.toks j hT.last hj
      rw [e1] at h f1
      rw [hR σ j live r1 hm hj e1, Option.bind_some]
      cases r1 with
      | error k => cases h; exact blockGo_stop hT (hm.stop9 k)
      | ok xj =>
      obtain ⟨xs, j1⟩ := xj
      simp only [andThen] at h
      cases e2 : pItems P E.toks m j1 with
      | none => rw [e2] at h; cases h
      | some r2 =>
      rw [e2] at h
      have := ih σ j1 r2 hm f1.2 e2
      simp only [end0]
      rw [this]
      cases r2 with
      | error k => cases h; rfl
      | ok xj => obtain ⟨xu, j2⟩ := xj; cases h; rfl
theorem block_rel (hT : TokOK E) (hR : Rel0S E S P) (hF : FwdP P) (n : Nat) : Rel0S E (blockM S (n + 1)) (pBlock P n) := by
  intro σ i live r hm hi h
  unfold pBlock at h
  split at h
  · cases h
  unfold blockM
  obtain ⟨r1, e1⟩ := need_some E.toks sCO i
  have f1 := need_fwd (s := sCO) hT.last hi
  rw [e1] at h f1
  rw [(hm.need e1).1, (hm.need e1).2, if_pos (end0_lt hT f1)]
  cases r1 with
  | error k => cases h; exact blockGo_stop hT (hm.stop9 k)
  | ok xj =>
    obtain ⟨_, j1⟩ := xj
    exact blockGo_rel hT hR hF n σ j1 r hm f1.2 h
theorem block_stop (hT : TokOK E) (n : Nat) : Stop0S E (blockM S (n + 1)) := by
  intro σ i live hs hi
  unfold blockM
  rw [(hs.need _ _).1, (hs.need _ _).2, if_pos (last_lt hT)]
  exact blockGo_stop hT hs
end
theorem SB_rel {E : Env} (hT : TokOK E) (n : Nat) : Rel0S E (SB n).1 (pSB n).1 ∧ Rel0S E (SB n).2 (pSB n).2 := by
  induction n with
  | zero => exact ⟨fun σ i live r _ _ h => by (cases h), fun σ i live r _ _ h => by (cases h)⟩
  | succ n ih =>
    rw [pSB]
    split
    · exact ⟨fun σ i live r _ _ h => by (cases h), fun σ i live r _ _ h => by (cases h)⟩
    rename_i hn
    obtain ⟨m, rfl⟩ : ∃ m, n = m + 2 := ⟨n - 2, by omega⟩
    rw [SB]
    have sb : Stop0S E (SB (m + 2)).2 := by rw [SB]; exact block_stop hT m
    exact ⟨statement_rel hT (XF_rel hT (m + 2)).1 (XF_stop hT m) (pXF_fwd (m + 2)).1 ih.2 sb (pSB_fwd (m + 2)).2, block_rel hT ih.1 (pSB_fwd (m + 2)).1 (m + 1)⟩

end Go.Proofs.Ythmmgiaobakilaa

/- The reference's first look at a source. -/
set_option maxRecDepth 100000
namespace Go.Proofs.Ythmmgiaobakilaa
open Go.RowKit Go.Deep

section
variable {E : Env}
theorem decl0 {σ : St} (hm : E.mode = 0) (i : Nat) (hd fr : Bool) : declS E σ i hd fr = σ := by simp [declS, hm]
theorem names_rel (hT : TokOK E) (hd : Bool) (n : Nat) : ∀ σ i r, M0 E σ → i < E.toks.length → pNames E.toks hd n i = some r → declGo E hd n ⟨i, σ⟩ = some ⟨(end0 E σ r).1, (end0 E σ r).2⟩ := by
  induction n with
  | zero => intro σ i r _ _ h; cases h
  | succ n ih =>
    intro σ i r hm hi h
    rw [pNames] at h
    rw [declGo]
    simp only
    obtain ⟨r1, e1⟩ := kind_some E.toks 1 i
    have f1 := kind_fwd hT.last (k := 1) (by decide) hi
    rw [e1] at h f1
    cases r1 with
    | error k =>
      cases h
      have o2 : ofS E σ i 1 = stop9 E σ k := (hm.of e1).2
      rw [o2, if_pos (hm.stop9 k).stop, (hm.stop9 k).chkR hT]
      rfl
    | ok xj =>
    obtain ⟨xn, j⟩ := xj
    have o1 : ofI E σ i 1 = j := (hm.of e1).1
    have o2 : ofS E σ i 1 = σ := (hm.of e1).2
    rw [o1, o2]
    simp only [andThen] at h
    rw [hm.stop, if_neg (by simp), decl0 hm.1, if_pos ⟨f1.2, hm.2.2⟩, hm.is]
    split at h
    · rename_i hs
      have h1 := isT_next hT.last f1.2 hs
      rw [if_pos hs, if_pos h1]
      cases e2 : pNames E.toks hd n (j + 1) with
      | none => rw [e2] at h; cases h
      | some r2 =>
      rw [e2] at h
      rw [ih σ (j + 1) r2 hm h1 e2]
      cases r2 with
      | error k => cases h; rfl
      | ok xj => obtain ⟨xl, j2⟩ := xj; cases h; rfl
    · rename_i hs
      rw [if_neg hs]
      exact hm.semi hT f1.2 h
theorem decls_stop {f k : Nat} {q : SR} (h : S0 E q.σ) : declsM E f (k + 1) q = some q := by
  rw [declsM, h.is, h.is, if_neg (by simp)]
theorem decls_rel (hT : TokOK E) (f n : Nat) : ∀ σ i r, M0 E σ → i < E.toks.length → pDecls E.toks f n i = some r → declsM E f (n + 1) ⟨i, σ⟩ = some ⟨(end0 E σ r).1, (end0 E σ r).2⟩ := by
  induction n with
  | zero => intro σ i r _ _ h; cases h
  | succ n ih =>
    intro σ i r hm hi h
    rw [pDecls] at h
    rw [declsM]
    simp only
    rw [hm.is, hm.is]
    split at h
    · rename_i hs
      have h1 : i + 1 < E.toks.length := by
        have hs' := hs
        simp only [Bool.or_eq_true] at hs'
        rcases hs' with hs' | hs' <;> exact isT_next hT.last hi hs'
      rw [if_pos hs, if_pos h1]
      cases e1 : pNames E.toks (isT E.toks i sHIDDEN) f (i + 1) with
      | none => rw [e1] at h; cases h
      | some r1 =>
      have f1 := names_fwd (isT E.toks i sHIDDEN) hT.last f (i + 1) h1
      rw [e1] at h f1
      rw [names_rel hT _ f σ (i + 1) r1 hm h1 e1, Option.bind_some]
      cases r1 with
      | error k => cases h; exact decls_stop (hm.stop9 k)
      | ok xj =>
      obtain ⟨xl, j⟩ := xj
      simp only [andThen] at h
      cases e2 : pDecls E.toks f n j with
      | none => rw [e2] at h; cases h
      | some r2 =>
      rw [e2] at h
      simp only [end0]
      rw [ih σ j r2 hm f1.2 e2]
      cases r2 with
      | error k => cases h; rfl
      | ok xj => obtain ⟨xm, j2⟩ := xj; cases h; rfl
    · rename_i hs
      cases h
      rw [if_neg hs]
      rfl
theorem body_stop {S : MS} {k : Nat} {q : SR} (h : S0 E q.σ) : bodyM S E (k + 1) q = some q.σ := by
  rw [bodyM, h.stop, if_pos (by simp)]
theorem body_rel {S : MS} {P : PS} (hT : TokOK E) (hR : Rel0S E S P) (hF : FwdP P) (n : Nat) : ∀ σ i r, M0 E σ → σ.dead = false → i < E.toks.length → pBody P E.toks n i = some r → bodyM S E (n + 1) ⟨i, σ⟩ = some (end0 E σ r).2 := by
  induction n with
  | zero => intro σ i r _ _ _ h; cases h
  | succ n ih =>
    intro σ i r hm hd hi h
    rw [pBody] at h
    rw [bodyM]
    simp only
    rw [hm.stop, hd]
    split at h
    · rename_i hs
      cases h
      have hs' : ((tokAt E i).kind == 4) = true := hs
      rw [hs', if_pos (by simp)]
      rfl
    · rename_i hs
      have hs' : ((tokAt E i).kind == 4) = false := Bool.eq_false_iff.2 hs
      rw [hs', if_neg (by simp)]
      cases e1 : P E.toks i with
      | none => rw [e1] at h; cases h
      | some r1 =>
      have f1 := hF E.toks i hT.last hi
      rw [e1] at h f1
      rw [hR σ i true r1 hm hi e1, Option.bind_some]
      cases r1 with
      | error k => cases h; exact body_stop (hm.stop9 k)
      | ok xj =>
      obtain ⟨xs, j⟩ := xj
      simp only [andThen] at h
      cases e2 : pBody P E.toks n j with
      | none => rw [e2] at h; cases h
      | some r2 =>
      rw [e2] at h
      simp only [end0]
      rw [ih σ j r2 hm hd f1.2 e2]
      cases r2 with
      | error k => cases h; rfl
      | ok xj => obtain ⟨xu, j2⟩ := xj; cases h; rfl
theorem source_rel (hT : TokOK E) (m : Nat) {σ : St} {r : Except Nat ((List (Tok × Bool) × Sx) × Nat)} (hm : E.mode = 0) (hf : σ.fault = 0) (hok : OkS σ) (hd : σ.dead = false) (h : pSource (m + 1) E.toks = some r) : sourceM (m + 1) E σ = some (end0 E (startS E σ) r).2 := by
  have hs : M0 E (startS E σ) := ⟨hm, hf, by simp [startS], hok.2⟩
  unfold sourceM
  rw [if_neg (by simp [hm])]
  unfold pSource at h
  have hi := hT.last.1
  simp only [Nat.add_sub_cancel] at h
  cases e1 : pDecls E.toks (m + 1) m 0 with
  | none => rw [e1] at h; cases h
  | some r1 =>
  have f1 := decls_fwd hT.last (m + 1) m 0 hi
  rw [e1] at h f1
  rw [decls_rel hT (m + 1) m _ 0 r1 hs hi e1, Option.bind_some]
  cases r1 with
  | error k => cases h; exact body_stop (hs.stop9 k)
  | ok xj =>
  obtain ⟨xl, j⟩ := xj
  simp only [andThen] at h
  cases e2 : pBody (pSB (m + 1)).1 E.toks m j with
  | none => rw [e2] at h; cases h
  | some r2 =>
  rw [e2] at h
  simp only [end0]
  rw [body_rel hT (SB_rel hT (m + 1)).1 (pSB_fwd (m + 1)).1 m _ j r2 hs hd f1.2 e2]
  cases r2 with
  | error k => cases h; rfl
  | ok xj => obtain ⟨xu, j2⟩ := xj; cases h; rfl
end

end Go.Proofs.Ythmmgiaobakilaa

/- What the reference does with an expression, by its tree (modes 1 to 3). -/
set_option maxRecDepth 100000
namespace Go.Proofs.Ythmmgiaobakilaa
open Go.RowKit Go.Deep

abbrev VR := Int × Bool × St
def wrongT (σ : St) (t : Tok) (e : Int) : St := if σ.fault = 0 ∨ t.place < σ.place then { σ with fault := e, place := t.place } else σ
def usedKT (σ : St) (t : Tok) : Int := findN σ.cells t.text
def usedT (E : Env) (σ : St) (t : Tok) : St := if (E.mode == 1) && decide (usedKT σ t < 0) then wrongT σ t 10 else σ
def flowT (E : Env) (σ : St) (t : Tok) (b : Bool) : St := if (E.mode == 2) && b then wrongT σ t 11 else σ
def namedT (E : Env) (σ : St) (t : Tok) (live : Bool) : VR :=
  if t.kind == 2 then (t.num, false, stepS E σ live)
  else if E.mode == 0 then (0, false, stepS E σ live)
  else if usedKT (stepS E σ live) t < 0 then (0, false, usedT E (stepS E σ live) t)
  else (if stepB E σ live then (cellOf (usedT E (stepS E σ live) t) (usedKT (stepS E σ live) t)).val else 0, (cellOf (usedT E (stepS E σ live) t) (usedKT (stepS E σ live) t)).hid, usedT E (stepS E σ live) t)
def okV (r : VR) : Option VR := if OkS r.2.2 ∧ In32 r.1 then some r else none
/-- peek, spy behind both places. -/
def texT (E : Env) (t : Tok) (live hid : Bool) (a b : VR) : Option VR :=
  if livesB E (flowT E b.2.2 t (a.2.1 || b.2.1)) live then
    (if 1 ≤ E.sw ∧ E.sw ≤ 6 ∧ 1 ≤ E.sh ∧ E.sh ≤ 6 ∧ 0 ≤ placeV E a.1 b.1 ∧ placeV E a.1 b.1 < E.opens.length ∧ placeV E a.1 b.1 < E.hids.length then
      okV ((if hid then E.hids else E.opens).getD (placeV E a.1 b.1).toNat 0, hid, touchS (flowT E b.2.2 t (a.2.1 || b.2.1)) (truthV hid) (placeV E a.1 b.1))
    else none)
  else okV (0, hid || a.2.1 || b.2.1, flowT E b.2.2 t (a.2.1 || b.2.1))
def txt (t : Tok) (s : ByteArray) : Bool := t.text.toList == s.toList
def negT (a : VR) : Option VR := okV (wrapV (-a.1), a.2.1, a.2.2)
def bothT (t : Tok) (a b : VR) : Option VR := if In32 a.1 ∧ In32 b.1 then okV (doesV t.text a.1 b.1, a.2.1 || b.2.1, b.2.2) else none
def binT (t : Tok) (a b : VR) : Option VR := some (doesV t.text a.1 b.1, a.2.1 || b.2.1, b.2.2)
def selT (a b c : VR) : Option VR := if a.1 = 0 then okV (c.1, a.2.1 || b.2.1 || c.2.1, c.2.2) else okV (b.1, a.2.1 || b.2.1 || c.2.1, c.2.2)
/-- Two operands, by what is worked out of each. -/
def twoT (E : Env) (live : Bool) (t : Tok) (A B : St → Option VR) (σ : St) : Option VR :=
  if txt t sPEEK then (A (stepS E σ live)).bind fun a => (B a.2.2).bind fun b => texT E t live false a b else
  if txt t sSPY then (A (stepS E σ live)).bind fun a => (B a.2.2).bind fun b => texT E t live true a b else
  if txt t sMIN then (A (stepS E σ live)).bind fun a => (B a.2.2).bind fun b => bothT t a b else
  if txt t sMAX then (A (stepS E σ live)).bind fun a => (B a.2.2).bind fun b => bothT t a b else
  (A σ).bind fun a => (B (stepS E a.2.2 live)).bind fun b => binT t a b
/-- A head and what is worked out of its operands. -/
def headF (E : Env) (live : Bool) (t : Tok) (ks : List (St → Option VR)) (σ : St) : Option VR :=
  if (t.kind == 2) || (t.kind == 1) then okV (namedT E σ t live) else
  match ks with
  | [A] => (A (stepS E σ live)).bind negT
  | [A, B] => twoT E live t A B σ
  | [A, B, C] => (A (stepS E σ live)).bind fun a => (B a.2.2).bind fun b => (C b.2.2).bind fun c => selT a b c
  | _ => none
def evs (E : Env) (live : Bool) : Ex → List (St → Option VR)
  | .nil => []
  | .node _ _ t k r => headF E live t (evs E live k) :: evs E live r
/-- An expression: its head alone counts, what stands beside it does not. -/
def wkX (E : Env) (live : Bool) (e : Ex) (σ : St) : Option VR := match e with
  | .nil => none
  | .node _ _ t k _ => headF E live t (evs E live k) σ

def isN : Ex → Prop
  | .nil => False
  | .node _ _ _ _ _ => True
section
variable {E : Env} {live : Bool}
theorem evs_nil : evs E live .nil = [] := rfl
theorem evs_beside {a : Ex} (ha : isN a) (r : Ex) : evs E live (besideE a r) = wkX E live a :: evs E live r := by
  cases a with
  | nil => cases ha
  | node b o t k r' => rfl
theorem wkX_leaf (t : Tok) (h : ((t.kind == 2) || (t.kind == 1)) = true) (σ : St) : wkX E live (leafE t) σ = okV (namedT E σ t live) := by
  show headF E live t (evs E live .nil) σ = _
  unfold headF
  rw [if_pos h]
theorem wkX_one (t : Tok) (h : ((t.kind == 2) || (t.kind == 1)) = false) {a : Ex} (ha : isN a) (σ : St) : wkX E live (node1 t a) σ = (wkX E live a (stepS E σ live)).bind negT := by
  show headF E live t (evs E live (besideE a .nil)) σ = _
  rw [evs_beside ha, evs_nil]
  unfold headF
  rw [if_neg (by rw [h]; simp)]
theorem wkX_two (t : Tok) (h : ((t.kind == 2) || (t.kind == 1)) = false) {a b : Ex} (ha : isN a) (hb : isN b) (σ : St) : wkX E live (node2 t a b) σ = twoT E live t (wkX E live a) (wkX E live b) σ := by
  show headF E live t (evs E live (besideE a (besideE b .nil))) σ = _
  rw [evs_beside ha, evs_beside hb, evs_nil]
  unfold headF
  rw [if_neg (by rw [h]; simp)]
theorem wkX_three (t : Tok) (h : ((t.kind == 2) || (t.kind == 1)) = false) {a b c : Ex} (ha : isN a) (hb : isN b) (hc : isN c) (σ : St) : wkX E live (node3 t a b c) σ = (wkX E live a (stepS E σ live)).bind fun x => (wkX E live b x.2.2).bind fun y => (wkX E live c y.2.2).bind fun z => selT x y z := by
  show headF E live t (evs E live (besideE a (besideE b (besideE c .nil)))) σ = _
  rw [evs_beside ha, evs_beside hb, evs_beside hc, evs_nil]
  unfold headF
  rw [if_neg (by rw [h]; simp)]
end

end Go.Proofs.Ythmmgiaobakilaa

/- The reference's later looks at an expression that the grammar has: by its tree. -/
set_option maxRecDepth 100000
namespace Go.Proofs.Ythmmgiaobakilaa
open Go.RowKit Go.Deep

def toA (j : Nat) (x : VR) : Ans := ⟨x.1, x.2.1, j, x.2.2⟩
theorem need_okR {T : List Tok} {s : ByteArray} {i j : Nat} {u : Unit} (h : pNeed T s i = some (.ok (u, j))) : isT T i s = true ∧ j = i + 1 := by
  unfold pNeed at h
  split at h
  · rename_i hs; cases h; exact ⟨hs, rfl⟩
  · cases h
section
variable {E : Env}
theorem stop1R (hN : E.mode ≠ 0) (σ : St) : stopB E σ = false := by simp [stopB, hN]
theorem is1 (hN : E.mode ≠ 0) (σ : St) (i : Nat) (s : ByteArray) : isB E σ i s = isT E.toks i s := by simp [isB, stop1R hN, isT, tokAt, tkAt]
theorem need1 (hN : E.mode ≠ 0) (σ : St) {i j : Nat} {s : ByteArray} {u : Unit} (h : pNeed E.toks s i = some (.ok (u, j))) : needI E σ i s = j ∧ needS E σ i s = σ := by
  obtain ⟨hs, rfl⟩ := need_okR h
  unfold needI needS
  rw [is1 hN, hs]
  simp
theorem any1 (hN : E.mode ≠ 0) (σ : St) (i : Nat) (ops : List ByteArray) : ops.any (isB E σ i) = ops.any (isT E.toks i) := by
  congr 1
  funext s
  exact is1 hN _ _ _
theorem chk1 {j : Nat} (hj : j < E.toks.length) (x : VR) : chk E (toA j x) = (okV x).map (toA j) := by
  unfold chk okV
  by_cases h : OkS x.2.2 ∧ In32 x.1
  · rw [if_pos h, if_pos ⟨hj, h.1, h.2⟩]; rfl
  · rw [if_neg h, if_neg (fun g => h ⟨g.2.1, g.2.2⟩)]; rfl
end
/-- The operator that is found is the token's own text. -/
theorem op_text {E : Env} (hN : E.mode ≠ 0) {σ : St} {i : Nat} {ops : List ByteArray} (h : ops.any (isT E.toks i) = true) : opF E σ i ops = (tkAt E.toks i).text := by
  unfold opF
  cases hf : ops.find? (isB E σ i) with
  | none =>
    obtain ⟨s, hs, ht⟩ := List.any_eq_true.1 h
    have := List.find?_eq_none.1 hf s hs
    rw [is1 hN, ht] at this
    simp at this
  | some t =>
    have ht := List.find?_some hf
    rw [is1 hN] at ht
    exact (isT_text ht).symm
def plainOp (s : ByteArray) : Prop := s.toList ≠ [] ∧ (s.toList == sPEEK.toList) = false ∧ (s.toList == sSPY.toList) = false ∧ (s.toList == sMIN.toList) = false ∧ (s.toList == sMAX.toList) = false
theorem twoT_plain {E : Env} {live : Bool} {t : Tok} (h : plainOp t.text) (A B : St → Option VR) (σ : St) : twoT E live t A B σ = (A σ).bind fun a => (B (stepS E a.2.2 live)).bind fun b => binT t a b := by
  unfold twoT txt
  rw [h.2.1, h.2.2.1, h.2.2.2.1, h.2.2.2.2]
  rfl
theorem plainT : ∀ s ∈ opsT, plainOp s := by
  intro s hs
  simp only [opsT, List.mem_cons, List.not_mem_nil, or_false] at hs
  rcases hs with rfl | rfl <;> (unfold plainOp; simp only [ByteArray.toList_eq]; decide)
theorem plainS : ∀ s ∈ opsS, plainOp s := by
  intro s hs
  simp only [opsS, List.mem_cons, List.not_mem_nil, or_false] at hs
  rcases hs with rfl | rfl <;> (unfold plainOp; simp only [ByteArray.toList_eq]; decide)
theorem plainE : ∀ s ∈ opsE, plainOp s := by
  intro s hs
  simp only [opsE, List.mem_cons, List.not_mem_nil, or_false] at hs
  rcases hs with rfl | rfl | rfl | rfl <;> (unfold plainOp; simp only [ByteArray.toList_eq]; decide)

def Rel1 (E : Env) (M : MX) (P : PE) : Prop := ∀ i t j, i < E.toks.length → P E.toks i = some (.ok (t, j)) → isN t ∧ ∀ σ live, M E σ i live = (wkX E live t σ).map (toA j)
section
variable {E : Env} {M : MX} {P : PE}
theorem fwd_ok (hF : FwdP P) (hT : TokOK E) {i j : Nat} {t : Ex} (hi : i < E.toks.length) (h : P E.toks i = some (.ok (t, j))) : i < j ∧ j < E.toks.length := by
  have := hF E.toks i hT.last hi
  rw [h] at this
  exact ⟨this.1, this.2⟩
theorem chain_go (hN : E.mode ≠ 0) {ops : List ByteArray} (hne : ∀ s ∈ ops, s.toList ≠ []) {live : Bool} {n : Nat} (q : Ans) (hany : ops.any (isT E.toks q.to) = true) (hi : q.to + 1 < E.toks.length) :
    chainM M ops E live (n + 1) q = (M E (stepS E q.σ live) (q.to + 1) live).bind fun x => chainM M ops E live n ⟨doesV (tkAt E.toks q.to).text q.v x.v, q.h || x.h, x.to, x.σ⟩ := by
  rw [chainM, op_none hne, any1 hN, hany, if_neg (by simp), if_pos hi, op_text hN hany]
theorem chain_end (hN : E.mode ≠ 0) {ops : List ByteArray} (hne : ∀ s ∈ ops, s.toList ≠ []) {live : Bool} {n : Nat} (q : Ans) (hany : ops.any (isT E.toks q.to) = false) : chainM M ops E live (n + 1) q = some q := by
  rw [chainM, op_none hne, any1 hN, hany, if_pos (by simp)]
theorem pair_go (hN : E.mode ≠ 0) {live : Bool} (q : Ans) (hany : opsE.any (isT E.toks q.to) = true) (hi : q.to + 1 < E.toks.length) :
    pairM M E live q = (M E (stepS E q.σ live) (q.to + 1) live).bind fun x => some ⟨doesV (tkAt E.toks q.to).text q.v x.v, q.h || x.h, x.to, x.σ⟩ := by
  rw [pairM, op_none ne_opsE, any1 hN, hany, if_neg (by simp), if_pos hi, op_text hN hany]
theorem pair_end (hN : E.mode ≠ 0) {live : Bool} (q : Ans) (hany : opsE.any (isT E.toks q.to) = false) : pairM M E live q = some q := by
  rw [pairM, op_none ne_opsE, any1 hN, hany, if_pos (by simp)]
theorem chain_rel1 (hN : E.mode ≠ 0) (hT : TokOK E) (hR : Rel1 E M P) (hF : FwdP P) {ops : List ByteArray} (hp : ∀ s ∈ ops, plainOp s) (n : Nat) : ∀ e i t j, i < E.toks.length → isN e → pChain P ops E.toks n e i = some (.ok (t, j)) →
    isN t ∧ ∀ σ live, (wkX E live e σ).bind (fun x => chainM M ops E live (n + 1) (toA i x)) = (wkX E live t σ).map (toA j) := by
  have hne : ∀ s ∈ ops, s.toList ≠ [] := fun s hs => (hp s hs).1
  induction n with
  | zero => intro e i t j _ _ h; cases h
  | succ n ih =>
    intro e i t j hi he h
    rw [pChain] at h
    split at h
    · rename_i hany
      obtain ⟨x, j1, h1, h2⟩ := then_ok h
      obtain ⟨s, hs, hst⟩ := List.any_eq_true.1 hany
      have hi1 := isT_next hT.last hi hst
      obtain ⟨hx, hMx⟩ := hR (i + 1) x j1 hi1 h1
      have f1 := fwd_ok hF hT hi1 h1
      obtain ⟨ht, hrest⟩ := ih (node2 (tkAt E.toks i) e x) j1 t j f1.2 trivial h2
      refine ⟨ht, fun σ live => ?_⟩
      rw [← hrest σ live, wkX_two _ (isT_leaf hst) he hx, twoT_plain (by rw [isT_text hst]; exact hp s hs)]
      rw [Option.bind_assoc]
      congr 1
      funext a
      rw [chain_go hN hne (toA i a) hany hi1]
      show (M E (stepS E a.2.2 live) (i + 1) live).bind _ = _
      rw [hMx, Option.bind_map, Option.bind_assoc]
      rfl
    · rename_i hany
      cases h
      refine ⟨he, fun σ live => ?_⟩
      have hany' : ops.any (isT E.toks i) = false := Bool.eq_false_iff.2 hany
      have : (fun x => chainM M ops E live (n + 1 + 1) (toA i x)) = fun x => some (toA i x) := by
        funext a
        exact chain_end hN hne (toA i a) hany'
      rw [this]
      cases wkX E live e σ <;> rfl
theorem level_rel1 (hN : E.mode ≠ 0) (hT : TokOK E) (hR : Rel1 E M P) (hF : FwdP P) {ops : List ByteArray} (hp : ∀ s ∈ ops, plainOp s) (n : Nat) : Rel1 E (levelM M ops (n + 1)) (pLevel P ops n) := by
  intro i t j hi h
  unfold pLevel at h
  split at h
  · cases h
  obtain ⟨x, j1, h1, h2⟩ := then_ok h
  obtain ⟨hx, hMx⟩ := hR i x j1 hi h1
  have f1 := fwd_ok hF hT hi h1
  obtain ⟨ht, hrest⟩ := chain_rel1 hN hT hR hF hp n x j1 t j f1.2 hx h2
  refine ⟨ht, fun σ live => ?_⟩
  unfold levelM
  rw [hMx, ← hrest σ live, Option.bind_map]
  rfl
theorem expr_rel1 (hN : E.mode ≠ 0) (hT : TokOK E) (hR : Rel1 E M P) (hF : FwdP P) : Rel1 E (exprM M) (pExpr P) := by
  intro i t j hi h
  unfold pExpr at h
  obtain ⟨x, j1, h1, h2⟩ := then_ok h
  obtain ⟨hx, hMx⟩ := hR i x j1 hi h1
  have f1 := fwd_ok hF hT hi h1
  unfold pPair at h2
  split at h2
  · rename_i hany
    obtain ⟨y, j2, h3, h4⟩ := then_ok h2
    cases h4
    obtain ⟨s, hs, hst⟩ := List.any_eq_true.1 hany
    have hi1 := isT_next hT.last f1.2 hst
    obtain ⟨hy, hMy⟩ := hR (j1 + 1) y j hi1 h3
    refine ⟨trivial, fun σ live => ?_⟩
    rw [wkX_two _ (isT_leaf hst) hx hy, twoT_plain (by rw [isT_text hst]; exact plainE s hs)]
    unfold exprM
    rw [hMx, Option.bind_map]
    rw [Option.map_bind]
    congr 1
    funext a
    show pairM M E live (toA j1 a) = _
    rw [pair_go hN (toA j1 a) hany hi1]
    show (M E (stepS E a.2.2 live) (j1 + 1) live).bind _ = _
    rw [hMy, Option.bind_map]
    show _ = Option.map (toA j) ((wkX E live y (stepS E a.2.2 live)).bind fun b => binT (tkAt E.toks j1) a b)
    rw [Option.map_bind]
    rfl
  · rename_i hany
    cases h2
    refine ⟨hx, fun σ live => ?_⟩
    have hany' : opsE.any (isT E.toks j) = false := Bool.eq_false_iff.2 hany
    unfold exprM
    rw [hMx, Option.bind_map]
    have : (pairM M E live ∘ toA j) = fun x => some (toA j x) := by
      funext a
      exact pair_end hN (toA j a) hany'
    rw [this]
    cases wkX E live t σ <;> rfl
end

end Go.Proofs.Ythmmgiaobakilaa

/- The reference's later looks at a factor that the grammar has; at all expressions. -/
set_option maxRecDepth 100000
namespace Go.Proofs.Ythmmgiaobakilaa
open Go.RowKit Go.Deep

section
variable {E : Env} {X F : MX} {P Q : PE}
theorem chk2 {j : Nat} (hj : j < E.toks.length) (v : Int) (b : Bool) (σ : St) : chk E ⟨v, b, j, σ⟩ = (okV (v, b, σ)).map (toA j) := chk1 hj (v, b, σ)
theorem named1 (σ : St) (i : Nat) (live : Bool) : namedA E σ i live = toA (i + 1) (namedT E σ (tokAt E i) live) := by
  unfold namedA namedT
  split
  · rfl
  split
  · rfl
  split
  · rename_i h
    rw [if_pos (show usedKT (stepS E σ live) (tokAt E i) < 0 from h)]
    rfl
  · rename_i h
    rw [if_neg (show ¬ usedKT (stepS E σ live) (tokAt E i) < 0 from h)]
    rfl
theorem tex1_rel1 (hN : E.mode ≠ 0) {i j : Nat} {live hid : Bool} {a b : VR} {ja jb : Nat} {u : Unit} (hj : j < E.toks.length) (hc : pNeed E.toks sBC jb = some (.ok (u, j))) : texEnd E i live hid (toA ja a) (toA jb b) = (texT E (tokAt E i) live hid a b).map (toA j) := by
  unfold texT
  change (if livesB E (flowS E (needS E b.2.2 jb sBC) i (a.2.1 || b.2.1)) live then
    (if 1 ≤ E.sw ∧ E.sw ≤ 6 ∧ 1 ≤ E.sh ∧ E.sh ≤ 6 ∧ 0 ≤ placeV E a.1 b.1 ∧ placeV E a.1 b.1 < E.opens.length ∧ placeV E a.1 b.1 < E.hids.length then
      chk E ⟨(if hid then E.hids else E.opens).getD (placeV E a.1 b.1).toNat 0, hid, needI E b.2.2 jb sBC, touchS (flowS E (needS E b.2.2 jb sBC) i (a.2.1 || b.2.1)) (truthV hid) (placeV E a.1 b.1)⟩
    else none)
    else chk E ⟨0, hid || a.2.1 || b.2.1, needI E b.2.2 jb sBC, flowS E (needS E b.2.2 jb sBC) i (a.2.1 || b.2.1)⟩) = _
  rw [(need1 hN _ hc).1, (need1 hN _ hc).2]
  have ef : flowS E b.2.2 i (a.2.1 || b.2.1) = flowT E b.2.2 (tokAt E i) (a.2.1 || b.2.1) := rfl
  rw [ef]
  cases hl : livesB E (flowT E b.2.2 (tokAt E i) (a.2.1 || b.2.1)) live
  · rw [if_neg (by simp), if_neg (by simp)]
    exact chk1 hj (0, hid || a.2.1 || b.2.1, flowT E b.2.2 (tokAt E i) (a.2.1 || b.2.1))
  · rw [if_pos rfl, if_pos rfl]
    split
    · exact chk2 hj _ _ _
    · rfl
theorem tex1_go {i j : Nat} {live hid : Bool} (q : Ans) (h1 : needI E q.σ q.to sCM = j) (h2 : needS E q.σ q.to sCM = q.σ) (hj : j < E.toks.length) : tex1 X hid E i live q = (X E q.σ j live).bind fun b => texEnd E i live hid q b := by
  unfold tex1
  rw [h1, h2, if_pos hj]
theorem texel_rel1 (hN : E.mode ≠ 0) (hT : TokOK E) (hR : Rel1 E X P) (hF : FwdP P) (hid : Bool) {i j : Nat} {t : Ex} (hi : i + 1 < E.toks.length) (hl : (((tkAt E.toks i).kind == 2) || ((tkAt E.toks i).kind == 1)) = false) (h : pTwo P sBO sBC E.toks i = some (.ok (t, j)))
    (ht : ∀ (A B : St → Option VR) (live : Bool) (σ : St), twoT E live (tkAt E.toks i) A B σ = (A (stepS E σ live)).bind fun a => (B a.2.2).bind fun b => texT E (tkAt E.toks i) live hid a b) :
    isN t ∧ ∀ σ live, texelM X hid E σ i live = (wkX E live t σ).map (toA j) := by
  unfold pTwo at h
  obtain ⟨u1, j1, h1, h⟩ := then_ok h
  obtain ⟨a, j2, h2, h⟩ := then_ok h
  obtain ⟨u3, j3, h3, h⟩ := then_ok h
  obtain ⟨b, j4, h4, h⟩ := then_ok h
  obtain ⟨u5, j5, h5, h⟩ := then_ok h
  cases h
  have l1 : j1 < E.toks.length := by have := need_fwd (s := sBO) hT.last hi; rw [h1] at this; exact this.2
  obtain ⟨ha, hMa⟩ := hR j1 a j2 l1 h2
  have l2 := (fwd_ok hF hT l1 h2).2
  have l3 : j3 < E.toks.length := by have := need_fwd (s := sCM) hT.last l2; rw [h3] at this; exact this.2
  obtain ⟨hb, hMb⟩ := hR j3 b j4 l3 h4
  have l4 := (fwd_ok hF hT l3 h4).2
  have l5 : j < E.toks.length := by have := need_fwd (s := sBC) hT.last l4; rw [h5] at this; exact this.2
  refine ⟨trivial, fun σ live => ?_⟩
  rw [wkX_two _ hl ha hb, ht, texel_eq, (need1 hN _ h1).1, (need1 hN _ h1).2, if_pos ⟨hi, l1⟩, hMa, Option.bind_map, Option.map_bind]
  congr 1
  funext x
  show tex1 X hid E i live (toA j2 x) = _
  rw [tex1_go (toA j2 x) (need1 hN _ h3).1 (need1 hN _ h3).2 l3]
  show (X E x.2.2 j3 live).bind _ = _
  rw [hMb, Option.bind_map]
  show _ = Option.map (toA j) ((wkX E live b x.2.2).bind fun y => texT E (tkAt E.toks i) live hid x y)
  rw [Option.map_bind]
  congr 1
  funext y
  exact tex1_rel1 hN l5 h5
/-- The items of a list, one behind the other. -/
theorem items1 {live : Bool} {m j : Nat} {vs : List Int} {h : Bool} {σ : St} {a : Ex} {j2 : Nat} (pre : preI E ⟨vs, h, j, σ⟩ < E.toks.length) (hM : X E (preS E ⟨vs, h, j, σ⟩) (preI E ⟨vs, h, j, σ⟩) live = (wkX E live a (preS E ⟨vs, h, j, σ⟩)).map (toA j2)) :
    itemsM X E live (m + 1) ⟨vs, h, j, σ⟩ = (wkX E live a (preS E ⟨vs, h, j, σ⟩)).bind fun x => itemsM X E live m ⟨vs ++ [x.1], h || x.2.1, j2, x.2.2⟩ := by
  rw [itemsM, if_pos pre, hM, Option.bind_map]
  rfl
theorem pre_first (h : Bool) (j : Nat) (σ : St) : preI E ⟨[], h, j, σ⟩ = j ∧ preS E ⟨[], h, j, σ⟩ = σ := ⟨rfl, rfl⟩
theorem pre_next (hN : E.mode ≠ 0) {vs : List Int} {h : Bool} {j j1 : Nat} {σ : St} {u : Unit} (hv : vs.length ≠ 0) (hc : pNeed E.toks sCM j = some (.ok (u, j1))) : preI E ⟨vs, h, j, σ⟩ = j1 ∧ preS E ⟨vs, h, j, σ⟩ = σ := by
  unfold preI preS
  rw [if_neg hv, if_neg hv]
  exact need1 hN _ hc
theorem two_rel1 (hN : E.mode ≠ 0) (hT : TokOK E) (hR : Rel1 E X P) (hF : FwdP P) {i j : Nat} {t : Ex} (hi : i + 1 < E.toks.length) (hl : (((tkAt E.toks i).kind == 2) || ((tkAt E.toks i).kind == 1)) = false) (h : pTwo P sPO sPC E.toks i = some (.ok (t, j)))
    (ht : ∀ (A B : St → Option VR) (live : Bool) (σ : St), twoT E live (tkAt E.toks i) A B σ = (A (stepS E σ live)).bind fun a => (B a.2.2).bind fun b => bothT (tkAt E.toks i) a b) :
    isN t ∧ ∀ σ live, (listM X 2 E σ i live).bind (bothM E (tkAt E.toks i).text) = (wkX E live t σ).map (toA j) := by
  unfold pTwo at h
  obtain ⟨u1, j1, h1, h⟩ := then_ok h
  obtain ⟨a, j2, h2, h⟩ := then_ok h
  obtain ⟨u3, j3, h3, h⟩ := then_ok h
  obtain ⟨b, j4, h4, h⟩ := then_ok h
  obtain ⟨u5, j5, h5, h⟩ := then_ok h
  cases h
  have l1 : j1 < E.toks.length := by have := need_fwd (s := sPO) hT.last hi; rw [h1] at this; exact this.2
  obtain ⟨ha, hMa⟩ := hR j1 a j2 l1 h2
  have l2 := (fwd_ok hF hT l1 h2).2
  have l3 : j3 < E.toks.length := by have := need_fwd (s := sCM) hT.last l2; rw [h3] at this; exact this.2
  obtain ⟨hb, hMb⟩ := hR j3 b j4 l3 h4
  have l4 := (fwd_ok hF hT l3 h4).2
  have l5 : j < E.toks.length := by have := need_fwd (s := sPC) hT.last l4; rw [h5] at this; exact this.2
  refine ⟨trivial, fun σ live => ?_⟩
  rw [wkX_two _ hl ha hb, ht]
  unfold listM
  rw [(need1 hN _ h1).1, (need1 hN _ h1).2, if_pos ⟨hi, l1⟩]
  rw [items1 (a := a) (j2 := j2) (show preI E ⟨[], false, j1, stepS E σ live⟩ < E.toks.length from l1) (hMa _ _), Option.map_bind]
  simp only [Option.bind_assoc]
  show (wkX E live a (stepS E σ live)).bind _ = _
  congr 1
  funext x
  have p2 := pre_next (vs := [x.1]) (h := false || x.2.1) (σ := x.2.2) hN (by simp) h3
  show (itemsM X E live 1 ⟨[x.1], false || x.2.1, j2, x.2.2⟩).bind _ = Option.map (toA j) ((wkX E live b x.2.2).bind fun y => bothT (tkAt E.toks i) x y)
  rw [items1 (a := b) (j2 := j4) (by rw [p2.1]; exact l3) (by rw [p2.1, p2.2]; exact hMb _ _), Option.map_bind, p2.2, Option.bind_assoc]
  congr 1
  funext y
  show ((some _ : Option LS).bind _) = _
  rw [Option.bind_some]
  dsimp only
  rw [(need1 hN _ h5).1, (need1 hN _ h5).2, Option.bind_some]
  unfold bothM
  show (if ([x.1] ++ [y.1]).length = 2 ∧ In32 x.1 ∧ In32 y.1 then chk E ⟨doesV (tkAt E.toks i).text x.1 y.1, false || x.2.1 || y.2.1, j, y.2.2⟩ else none) = Option.map (toA j) (bothT (tkAt E.toks i) x y)
  unfold bothT
  by_cases hg : In32 x.1 ∧ In32 y.1
  · rw [if_pos ⟨rfl, hg⟩, if_pos hg, Bool.false_or]
    exact chk2 l5 _ _ _
  · rw [if_neg (fun g => hg g.2), if_neg hg]
    rfl
theorem three_rel1 (hN : E.mode ≠ 0) (hT : TokOK E) (hR : Rel1 E X P) (hF : FwdP P) {i j : Nat} {t : Ex} (hi : i + 1 < E.toks.length) (hl : (((tkAt E.toks i).kind == 2) || ((tkAt E.toks i).kind == 1)) = false) (h : pThree P sPO sPC E.toks i = some (.ok (t, j))) :
    isN t ∧ ∀ σ live, (listM X 3 E σ i live).bind (selM E) = (wkX E live t σ).map (toA j) := by
  unfold pThree at h
  obtain ⟨u1, j1, h1, h⟩ := then_ok h
  obtain ⟨a, j2, h2, h⟩ := then_ok h
  obtain ⟨u3, j3, h3, h⟩ := then_ok h
  obtain ⟨b, j4, h4, h⟩ := then_ok h
  obtain ⟨u5, j5, h5, h⟩ := then_ok h
  obtain ⟨c, j6, h6, h⟩ := then_ok h
  obtain ⟨u7, j7, h7, h⟩ := then_ok h
  cases h
  have l1 : j1 < E.toks.length := by have := need_fwd (s := sPO) hT.last hi; rw [h1] at this; exact this.2
  obtain ⟨ha, hMa⟩ := hR j1 a j2 l1 h2
  have l2 := (fwd_ok hF hT l1 h2).2
  have l3 : j3 < E.toks.length := by have := need_fwd (s := sCM) hT.last l2; rw [h3] at this; exact this.2
  obtain ⟨hb, hMb⟩ := hR j3 b j4 l3 h4
  have l4 := (fwd_ok hF hT l3 h4).2
  have l5 : j5 < E.toks.length := by have := need_fwd (s := sCM) hT.last l4; rw [h5] at this; exact this.2
  obtain ⟨hc, hMc⟩ := hR j5 c j6 l5 h6
  have l6 := (fwd_ok hF hT l5 h6).2
  have l7 : j < E.toks.length := by have := need_fwd (s := sPC) hT.last l6; rw [h7] at this; exact this.2
  refine ⟨trivial, fun σ live => ?_⟩
  rw [wkX_three _ hl ha hb hc]
  unfold listM
  rw [(need1 hN _ h1).1, (need1 hN _ h1).2, if_pos ⟨hi, l1⟩]
  rw [items1 (a := a) (j2 := j2) (show preI E ⟨[], false, j1, stepS E σ live⟩ < E.toks.length from l1) (hMa _ _), Option.map_bind]
  simp only [Option.bind_assoc]
  show (wkX E live a (stepS E σ live)).bind _ = _
  congr 1
  funext x
  have p2 := pre_next (vs := [x.1]) (h := false || x.2.1) (σ := x.2.2) hN (by simp) h3
  show (itemsM X E live 2 ⟨[x.1], false || x.2.1, j2, x.2.2⟩).bind _ = Option.map (toA j) ((wkX E live b x.2.2).bind fun y => (wkX E live c y.2.2).bind fun z => selT x y z)
  rw [items1 (a := b) (j2 := j4) (by rw [p2.1]; exact l3) (by rw [p2.1, p2.2]; exact hMb _ _), Option.map_bind, p2.2, Option.bind_assoc]
  congr 1
  funext y
  have p3 := pre_next (vs := [x.1] ++ [y.1]) (h := false || x.2.1 || y.2.1) (σ := y.2.2) hN (by simp) h5
  show (itemsM X E live 1 ⟨[x.1] ++ [y.1], false || x.2.1 || y.2.1, j4, y.2.2⟩).bind _ = Option.map (toA j) ((wkX E live c y.2.2).bind fun z => selT x y z)
  rw [items1 (a := c) (j2 := j6) (by rw [p3.1]; exact l5) (by rw [p3.1, p3.2]; exact hMc _ _), Option.map_bind, p3.2, Option.bind_assoc]
  congr 1
  funext z
  show ((some _ : Option LS).bind _) = _
  rw [Option.bind_some]
  dsimp only
  rw [(need1 hN _ h7).1, (need1 hN _ h7).2, Option.bind_some]
  have e : selM E ⟨[x.1] ++ [y.1] ++ [z.1], false || x.2.1 || y.2.1 || z.2.1, j, z.2.2⟩ = if x.1 = 0 then chk E ⟨z.1, false || x.2.1 || y.2.1 || z.2.1, j, z.2.2⟩ else chk E ⟨y.1, false || x.2.1 || y.2.1 || z.2.1, j, z.2.2⟩ := by simp [selM]
  rw [e, Bool.false_or]
  show _ = Option.map (toA j) (selT x y z)
  unfold selT
  split
  · exact chk2 l7 _ _ _
  · exact chk2 l7 _ _ _
theorem opF1 (hN : E.mode ≠ 0) (σ : St) (i : Nat) {s : ByteArray} {L : List UInt8} (hs : s ∈ opsF) (hL : s.toList = L) (hne : L ≠ []) : ((opF E σ i opsF).toList == L) = isT E.toks i s := by
  rw [← hL, op_is hs (by rw [hL]; exact hne), is1 hN]
theorem opF1_text (hN : E.mode ≠ 0) (σ : St) (i : Nat) {s : ByteArray} (hs : s ∈ opsF) (h : isT E.toks i s = true) : opF E σ i opsF = (tkAt E.toks i).text := op_text hN (List.any_eq_true.2 ⟨s, hs, h⟩)
theorem txt_of {T : List Tok} {i : Nat} {s u : ByteArray} (h : isT T i s = true) : txt (tkAt T i) u = (s.toList == u.toList) := by
  unfold txt
  rw [isT_text h]
theorem factor_rel1 (hN : E.mode ≠ 0) (hT : TokOK E) (hR : Rel1 E X P) (gX : SubGood X) (hF : FwdP P) (hR2 : Rel1 E F Q) (hF2 : FwdP Q) : Rel1 E (factorM X F) (pFactor P Q) := by
  intro i t j hi h
  have fw : j < E.toks.length := (fwd_ok (factor_fwd hF hF2) hT hi h).2
  have un : ∀ σ live, factorM X F E σ i live = if (tkAt E.toks i).kind == 2 then chk E (namedA E σ i live) else if (tkAt E.toks i).kind == 1 then chk E (namedA E σ i live) else signM X F E σ i live (opF E σ i opsF) := fun σ live => by
    unfold factorM
    rw [if_neg (by rw [stop1R hN]; simp)]
    rfl
  unfold pFactor at h
  split at h
  · rename_i hk
    cases h
    refine ⟨trivial, fun σ live => ?_⟩
    rw [un, if_pos hk, named1, chk1 fw, wkX_leaf _ (by rw [hk]; rfl)]
    rfl
  rename_i hk2
  split at h
  · rename_i hk
    cases h
    refine ⟨trivial, fun σ live => ?_⟩
    rw [un, if_neg hk2, if_pos hk, named1, chk1 fw, wkX_leaf _ (by rw [hk]; simp)]
    rfl
  rename_i hk1
  have hl : (((tkAt E.toks i).kind == 2) || ((tkAt E.toks i).kind == 1)) = false := by simp [hk2, hk1]
  have un2 : ∀ σ live, factorM X F E σ i live = signM X F E σ i live (opF E σ i opsF) := fun σ live => by rw [un, if_neg hk2, if_neg hk1]
  have sg : ∀ σ live, signM X F E σ i live (opF E σ i opsF) =
      if isT E.toks i sPO then (if i + 1 < E.toks.length then (X E σ (i + 1) live).bind fun r => chk E ⟨r.v, r.h, needI E r.σ r.to sPC, needS E r.σ r.to sPC⟩ else none) else
      if isT E.toks i sNEG then (if i + 1 < E.toks.length then (F E (stepS E σ live) (i + 1) live).bind fun r => chk E ⟨wrapV (-r.v), r.h, r.to, r.σ⟩ else none) else
      if isT E.toks i sPEEK then texelM X false E σ i live else
      if isT E.toks i sSPY then texelM X true E σ i live else
      if isT E.toks i sMIN then (listM X 2 E σ i live).bind (bothM E (opF E σ i opsF)) else
      if isT E.toks i sMAX then (listM X 2 E σ i live).bind (bothM E (opF E σ i opsF)) else
      if isT E.toks i sSEL then (listM X 3 E σ i live).bind (selM E) else
      chk E ⟨0, false, E.toks.length - 1, wrongS E σ i 9⟩ := fun σ live => by
    unfold signM
    rw [opF1 hN σ i (s := sPO) (by simp [opsF, sPO]) (by rw [ByteArray.toList_eq]; rfl) (by simp), opF1 hN σ i (s := sNEG) (by simp [opsF, sNEG]) (by rw [ByteArray.toList_eq]; rfl) (by simp),
      opF1 hN σ i (s := sPEEK) (by simp [opsF, sPEEK]) (by rw [ByteArray.toList_eq]; rfl) (by simp), opF1 hN σ i (s := sSPY) (by simp [opsF, sSPY]) (by rw [ByteArray.toList_eq]; rfl) (by simp),
      opF1 hN σ i (s := sMIN) (by simp [opsF, sMIN]) (by rw [ByteArray.toList_eq]; rfl) (by simp), opF1 hN σ i (s := sMAX) (by simp [opsF, sMAX]) (by rw [ByteArray.toList_eq]; rfl) (by simp),
      opF1 hN σ i (s := sSEL) (by simp [opsF, sSEL]) (by rw [ByteArray.toList_eq]; rfl) (by simp)]
  split at h
  · rename_i hs
    have h1 := isT_next hT.last hi hs
    obtain ⟨e, j1, e1, h⟩ := then_ok h
    obtain ⟨u, j2, e2, h⟩ := then_ok h
    cases h
    obtain ⟨he, hM⟩ := hR (i + 1) t j1 h1 e1
    refine ⟨he, fun σ live => ?_⟩
    rw [un2, sg, if_pos hs, if_pos h1, hM, Option.bind_map]
    have good := gX E σ (i + 1) live
    rw [hM] at good
    cases hw : wkX E live t σ with
    | none => rfl
    | some x =>
      rw [hw] at good
      have g := good (toA j1 x) rfl
      show chk E ⟨x.1, x.2.1, needI E x.2.2 j1 sPC, needS E x.2.2 j1 sPC⟩ = _
      rw [(need1 hN _ e2).1, (need1 hN _ e2).2]
      exact chk_ok ⟨fw, g.2.1, g.2.2⟩
  rename_i hs0
  split at h
  · rename_i hs
    have h1 := isT_next hT.last hi hs
    obtain ⟨e, j1, e1, h⟩ := then_ok h
    cases h
    obtain ⟨he, hM⟩ := hR2 (i + 1) e j h1 e1
    refine ⟨trivial, fun σ live => ?_⟩
    rw [un2, sg, if_neg hs0, if_pos hs, if_pos h1, hM, Option.bind_map, wkX_one _ hl he, Option.map_bind]
    congr 1
    funext x
    exact chk2 fw _ _ _
  rename_i hs1
  split at h
  · rename_i hs
    have := texel_rel1 hN hT hR hF false (isT_next hT.last hi hs) hl h (fun A B live σ => by unfold twoT; rw [if_pos (by rw [txt_of hs]; simp)])
    exact ⟨this.1, fun σ live => by rw [un2, sg, if_neg hs0, if_neg hs1, if_pos hs]; exact this.2 σ live⟩
  rename_i hs2
  split at h
  · rename_i hs
    have := texel_rel1 hN hT hR hF true (isT_next hT.last hi hs) hl h (fun A B live σ => by unfold twoT; rw [txt_of hs, txt_of hs, if_neg (by simp only [ByteArray.toList_eq]; decide), if_pos (by simp)])
    exact ⟨this.1, fun σ live => by rw [un2, sg, if_neg hs0, if_neg hs1, if_neg hs2, if_pos hs]; exact this.2 σ live⟩
  rename_i hs3
  split at h
  · rename_i hs
    have := two_rel1 hN hT hR hF (isT_next hT.last hi hs) hl h (fun A B live σ => by unfold twoT; rw [txt_of hs, txt_of hs, txt_of hs, if_neg (by simp only [ByteArray.toList_eq]; decide), if_neg (by simp only [ByteArray.toList_eq]; decide), if_pos (by simp)])
    exact ⟨this.1, fun σ live => by rw [un2, sg, if_neg hs0, if_neg hs1, if_neg hs2, if_neg hs3, if_pos hs, opF1_text hN σ i (s := sMIN) (by simp [opsF, sMIN]) hs]; exact this.2 σ live⟩
  rename_i hs4
  split at h
  · rename_i hs
    have := two_rel1 hN hT hR hF (isT_next hT.last hi hs) hl h (fun A B live σ => by unfold twoT; rw [txt_of hs, txt_of hs, txt_of hs, txt_of hs, if_neg (by simp only [ByteArray.toList_eq]; decide), if_neg (by simp only [ByteArray.toList_eq]; decide), if_neg (by simp only [ByteArray.toList_eq]; decide), if_pos (by simp)])
    exact ⟨this.1, fun σ live => by rw [un2, sg, if_neg hs0, if_neg hs1, if_neg hs2, if_neg hs3, if_neg hs4, if_pos hs, opF1_text hN σ i (s := sMAX) (by simp [opsF, sMAX]) hs]; exact this.2 σ live⟩
  rename_i hs5
  split at h
  · rename_i hs
    have := three_rel1 hN hT hR hF (isT_next hT.last hi hs) hl h
    exact ⟨this.1, fun σ live => by rw [un2, sg, if_neg hs0, if_neg hs1, if_neg hs2, if_neg hs3, if_neg hs4, if_neg hs5, if_pos hs]; exact this.2 σ live⟩
  · cases h
theorem XF_rel1 (hN : E.mode ≠ 0) (hT : TokOK E) (n : Nat) : Rel1 E (XF n).1 (pXF n).1 ∧ Rel1 E (XF n).2 (pXF n).2 := by
  induction n with
  | zero => exact ⟨fun i t j _ h => by (cases h), fun i t j _ h => by (cases h)⟩
  | succ n ih =>
    rw [pXF]
    split
    · exact ⟨fun i t j _ h => by (cases h), fun i t j _ h => by (cases h)⟩
    rename_i hn
    obtain ⟨m, rfl⟩ : ∃ m, n = m + 2 := ⟨n - 2, by omega⟩
    have fw := pXF_fwd (m + 2)
    have f := factor_rel1 hN hT ih.1 (XF_ok (m + 2)).1.2 fw.1 ih.2 fw.2
    have ff := factor_fwd fw.1 fw.2
    rw [XF]
    have t := level_rel1 hN hT f ff plainT (m + 1)
    have tf := level_fwd ff opsT (m + 1)
    have s := level_rel1 hN hT t tf plainS (m + 1)
    have sf := level_fwd tf opsS (m + 1)
    exact ⟨expr_rel1 hN hT s sf, f⟩
end

end Go.Proofs.Ythmmgiaobakilaa

/- Names and flows of an expression (modes 1 and 2), by its tree. -/
set_option maxRecDepth 100000
namespace Go.Proofs.Ythmmgiaobakilaa
open Go.RowKit Go.Deep

def M12 (E : Env) : Prop := E.mode = 1 ∨ E.mode = 2
section
variable {E : Env} (h : M12 E)
theorem M12.ne0 (h : M12 E) : E.mode ≠ 0 := by rcases h with h | h <;> rw [h] <;> decide
theorem M12.ne3 (h : M12 E) : (E.mode == 3) = false := by rcases h with h | h <;> rw [h] <;> rfl
theorem M12.lives (h : M12 E) (σ : St) (live : Bool) : livesB E σ live = false := by simp [livesB, h.ne3]
theorem M12.step (h : M12 E) (σ : St) (live : Bool) : stepS E σ live = σ := by simp [stepS, h.lives]
theorem M12.stepB (h : M12 E) (σ : St) (live : Bool) : stepB E σ live = false := by simp [Go.Proofs.Ythmmgiaobakilaa.stepB, h.lives]
end

/-- Is the name there, and hidden? -/
def hidName (l : List CellR) (s : ByteArray) : Bool := if findN l s < 0 then false else (l.getD (findN l s).toNat noCell).hid
def isOp (t : Tok) : Bool := !((t.kind == 2) || (t.kind == 1))
/-- What is hidden in expressions side by side. -/
def exH (l : List CellR) : Ex → Bool
  | .nil => false
  | .node _ _ t k r => ((t.kind == 1) && hidName l t.text) || (isOp t && txt t sSPY) || exH l k || exH l r
/-- What is found at a head behind its operands. -/
def hdS (E : Env) (t : Tok) (b : Bool) (σ : St) : St := if t.kind == 1 then usedT E σ t else if isOp t && (txt t sPEEK || txt t sSPY) then flowT E σ t b else σ
def exS (E : Env) : Ex → St → St
  | .nil, σ => σ
  | .node _ _ t k r, σ => exS E r (hdS E t (exH σ.cells k) (exS E k σ))
def WF : Ex → Prop
  | .nil => True
  | .node _ _ t k r => ((isOp t = false ∧ k = .nil ∧ In32 t.num) ∨ (isOp t = true ∧ (lenE k = 2 ∨ ((lenE k = 1 ∨ lenE k = 3) ∧ txt t sPEEK = false ∧ txt t sSPY = false)))) ∧ WF k ∧ WF r
/-- One alone. -/
def hH (l : List CellR) (e : Ex) : Bool := exH l (besideE e .nil)
def hS (E : Env) (e : Ex) (σ : St) : St := exS E (besideE e .nil) σ

/-- Only what is wrong, and where, has turned. -/
def SameSt (σ τ : St) : Prop := τ = { σ with fault := τ.fault, place := τ.place }
theorem SameSt.refl (σ : St) : SameSt σ σ := rfl
theorem SameSt.trans {a b c : St} (h1 : SameSt a b) (h2 : SameSt b c) : SameSt a c := by
  unfold SameSt at *
  rw [h2, h1]
theorem SameSt.cells {a b : St} (h : SameSt a b) : b.cells = a.cells := by rw [h]
theorem SameSt.ok {a b : St} (h : SameSt a b) (ha : OkS a) : OkS b := by rw [h]; exact ha
theorem wrongT_same (σ : St) (t : Tok) (e : Int) : SameSt σ (wrongT σ t e) := by unfold wrongT; split <;> rfl
theorem usedT_same (E : Env) (σ : St) (t : Tok) : SameSt σ (usedT E σ t) := by
  unfold usedT
  split
  · exact wrongT_same _ _ _
  · rfl
theorem flowT_same (E : Env) (σ : St) (t : Tok) (b : Bool) : SameSt σ (flowT E σ t b) := by
  unfold flowT
  split
  · exact wrongT_same _ _ _
  · rfl
theorem hdS_same (E : Env) (t : Tok) (b : Bool) (σ : St) : SameSt σ (hdS E t b σ) := by
  unfold hdS
  split
  · exact usedT_same _ _ _
  split
  · exact flowT_same _ _ _ _
  · rfl
theorem exS_same (E : Env) : ∀ (e : Ex) (σ : St), SameSt σ (exS E e σ)
  | .nil, _ => rfl
  | .node _ _ t k r, σ => ((exS_same E k σ).trans (hdS_same E t _ _)).trans (exS_same E r _)

theorem hH_node (l : List CellR) (b o : Nat) (t : Tok) (k r : Ex) : hH l (.node b o t k r) = (((t.kind == 1) && hidName l t.text) || (isOp t && txt t sSPY) || exH l k) := by
  show exH l (.node b o t k .nil) = _
  rw [exH, exH]
  simp
theorem hS_node (E : Env) (b o : Nat) (t : Tok) (k r : Ex) (σ : St) : hS E (.node b o t k r) σ = hdS E t (exH σ.cells k) (exS E k σ) := rfl

theorem lenE_one {k : Ex} (h : lenE k = 1) : ∃ b o t j, k = .node b o t j .nil := by
  match k, h with
  | .node b o t j .nil, _ => exact ⟨b, o, t, j, rfl⟩
  | .node _ _ _ _ (.node _ _ _ _ _), h => simp [lenE] at h
theorem lenE_two {k : Ex} (h : lenE k = 2) : ∃ b o t j r, k = .node b o t j r ∧ lenE r = 1 := by
  match k, h with
  | .node b o t j r, h => exact ⟨b, o, t, j, r, rfl, by simpa [lenE] using h⟩
theorem lenE_three {k : Ex} (h : lenE k = 3) : ∃ b o t j r, k = .node b o t j r ∧ lenE r = 2 := by
  match k, h with
  | .node b o t j r, h => exact ⟨b, o, t, j, r, rfl, by simpa [lenE] using h⟩

theorem okV_ok {r : VR} (h1 : OkS r.2.2) (h2 : In32 r.1) : okV r = some r := by rw [okV, if_pos ⟨h1, h2⟩]
theorem named12 {E : Env} (hm : M12 E) (σ : St) (t : Tok) (live : Bool) (hk : t.kind = 1) : namedT E σ t live = (0, hidName σ.cells t.text, usedT E σ t) := by
  unfold namedT
  rw [if_neg (by rw [hk]; decide), if_neg (by simp [hm.ne0]), hm.step, hm.stepB]
  unfold hidName
  show (if findN σ.cells t.text < 0 then _ else _) = _
  split
  · rfl
  · simp only [cellOf, (usedT_same E σ t).cells]
    rfl
theorem txt_peek_spy {t : Tok} (h : txt t sPEEK = true) : txt t sSPY = false := by
  have e : t.text.toList = sPEEK.toList := by simpa [txt] using h
  unfold txt
  rw [e]
  simp only [ByteArray.toList_eq]
  decide
theorem tex12 {E : Env} (hm : M12 E) {t : Tok} {live hid : Bool} {a b : VR} (hok : OkS b.2.2) : texT E t live hid a b = some (0, hid || a.2.1 || b.2.1, flowT E b.2.2 t (a.2.1 || b.2.1)) := by
  unfold texT
  rw [hm.lives, if_neg (by simp), okV_ok ((flowT_same _ _ _ _).ok hok) in0]
/-- What is worked out of a head: that it is hidden, what is found. -/
theorem head12 {E : Env} (hm : M12 E) (live : Bool) : ∀ (k : Ex) (b o : Nat) (t : Tok) (r : Ex) (σ : St), WF (.node b o t k r) → OkS σ → ∃ v, In32 v ∧ wkX E live (.node b o t k r) σ = some (v, hH σ.cells (.node b o t k r), hS E (.node b o t k r) σ)
  | k, b, o, t, r, σ, hw, hok => by
    rw [hH_node, hS_node]
    obtain ⟨hsh, hk, _⟩ := hw
    show ∃ v, In32 v ∧ headF E live t (evs E live k) σ = _
    rcases hsh with ⟨ho, rfl, hn⟩ | ⟨ho, hlen⟩
    · have hl : ((t.kind == 2) || (t.kind == 1)) = true := by
        unfold isOp at ho
        cases h : ((t.kind == 2) || (t.kind == 1))
        · rw [h] at ho; cases ho
        · rfl
      unfold headF
      rw [if_pos hl]
      have hop : isOp t = false := ho
      cases hk2 : (t.kind == 2)
      · have hk1 : t.kind = 1 := by rw [hk2] at hl; simpa using hl
        refine ⟨0, in0, ?_⟩
        rw [named12 hm σ t live hk1, okV_ok ((usedT_same E σ t).ok hok) in0]
        simp [exH, exS, hdS, hk1, hop]
      · have hk2' : t.kind = 2 := by simpa using hk2
        refine ⟨t.num, hn, ?_⟩
        have e : namedT E σ t live = (t.num, false, σ) := by
          unfold namedT
          rw [if_pos hk2, hm.step]
        rw [e, okV_ok hok hn]
        simp [exH, exS, hdS, hk2', hop]
    · have hl : ((t.kind == 2) || (t.kind == 1)) = false := by
        unfold isOp at ho
        cases h : ((t.kind == 2) || (t.kind == 1))
        · rfl
        · rw [h] at ho; cases ho
      have hk1 : (t.kind == 1) = false := by
        cases h : (t.kind == 1)
        · rfl
        · rw [h] at hl; simp at hl
      have hf : ∀ ks, headF E live t ks σ = match ks with
          | [A] => (A (stepS E σ live)).bind negT
          | [A, B] => twoT E live t A B σ
          | [A, B, C] => (A (stepS E σ live)).bind fun a => (B a.2.2).bind fun b => (C b.2.2).bind fun c => selT a b c
          | _ => none := fun ks => by
        unfold headF
        rw [if_neg (by rw [hl]; simp)]
        all_goals rfl
      rw [hf]
      have hd : ∀ bb τ, hdS E t bb τ = if txt t sPEEK || txt t sSPY then flowT E τ t bb else τ := fun bb τ => by
        unfold hdS
        rw [hk1, ho]
        simp
      rw [hd, hk1, ho]
      match k, hlen, hk with
      | .nil, hlen, _ => simp [lenE] at hlen
      | .node b1 o1 t1 k1 .nil, hlen, hk =>
        obtain ⟨_, np, ns⟩ : _ ∧ txt t sPEEK = false ∧ txt t sSPY = false := by
          rcases hlen with h | ⟨_, h⟩
          · simp [lenE] at h
          · exact ⟨trivial, h⟩
        obtain ⟨v, hv, e⟩ := head12 hm live k1 b1 o1 t1 .nil σ hk hok
        refine ⟨wrapV (-v), wrapV_in _, ?_⟩
        show (wkX E live (.node b1 o1 t1 k1 .nil) (stepS E σ live)).bind negT = _
        rw [hm.step, e, Option.bind_some, negT, np, ns]
        have s1 : SameSt σ (hS E (.node b1 o1 t1 k1 .nil) σ) := exS_same E _ σ
        rw [okV_ok (s1.ok hok) (wrapV_in _)]
        rfl
      | .node b1 o1 t1 k1 (.node b2 o2 t2 k2 .nil), hlen, hk =>
        obtain ⟨va, hva, ea⟩ := head12 hm live k1 b1 o1 t1 (.node b2 o2 t2 k2 .nil) σ hk hok
        have s1 : SameSt σ (hS E (.node b1 o1 t1 k1 (.node b2 o2 t2 k2 .nil)) σ) := exS_same E _ σ
        obtain ⟨vb, hvb, eb⟩ := head12 hm live k2 b2 o2 t2 .nil (hS E (.node b1 o1 t1 k1 (.node b2 o2 t2 k2 .nil)) σ) hk.2.2 (s1.ok hok)
        have s2 := s1.trans (exS_same E (besideE (.node b2 o2 t2 k2 .nil) .nil) (hS E (.node b1 o1 t1 k1 (.node b2 o2 t2 k2 .nil)) σ))
        rw [s1.cells] at eb
        have eS : exS E (.node b1 o1 t1 k1 (.node b2 o2 t2 k2 .nil)) σ = hS E (.node b2 o2 t2 k2 .nil) (hS E (.node b1 o1 t1 k1 (.node b2 o2 t2 k2 .nil)) σ) := rfl
        have eH : exH σ.cells (.node b1 o1 t1 k1 (.node b2 o2 t2 k2 .nil)) = (hH σ.cells (.node b1 o1 t1 k1 (.node b2 o2 t2 k2 .nil)) || hH σ.cells (.node b2 o2 t2 k2 .nil)) := by
          rw [hH_node]
          rfl
        rw [eS, eH]
        show ∃ v, In32 v ∧ twoT E live t (wkX E live (.node b1 o1 t1 k1 (.node b2 o2 t2 k2 .nil))) (wkX E live (.node b2 o2 t2 k2 .nil)) σ = _
        generalize hS E (.node b1 o1 t1 k1 (.node b2 o2 t2 k2 .nil)) σ = σa at *
        have okb := s2.ok hok
        change OkS (hS E (.node b2 o2 t2 k2 .nil) σa) at okb
        generalize hS E (.node b2 o2 t2 k2 .nil) σa = σb at *
        generalize hH σ.cells (.node b1 o1 t1 k1 (.node b2 o2 t2 k2 .nil)) = ba at *
        generalize hH σ.cells (.node b2 o2 t2 k2 .nil) = bb at *
        have run : ∀ f : VR → VR → Option VR, ((wkX E live (.node b1 o1 t1 k1 (.node b2 o2 t2 k2 .nil)) (stepS E σ live)).bind fun a => (wkX E live (.node b2 o2 t2 k2 .nil) a.2.2).bind fun b => f a b) = f (va, ba, σa) (vb, bb, σb) := fun f => by
          rw [hm.step, ea, Option.bind_some, eb, Option.bind_some]
        have run2 : ((wkX E live (.node b1 o1 t1 k1 (.node b2 o2 t2 k2 .nil)) σ).bind fun a => (wkX E live (.node b2 o2 t2 k2 .nil) (stepS E a.2.2 live)).bind fun b => binT t a b) = binT t (va, ba, σa) (vb, bb, σb) := by
          rw [ea, Option.bind_some, hm.step, eb, Option.bind_some]
        unfold twoT
        cases hp : txt t sPEEK
        · cases hs : txt t sSPY
          · have both : bothT t (va, ba, σa) (vb, bb, σb) = some (doesV t.text va vb, ba || bb, σb) := by
              unfold bothT
              rw [if_pos ⟨hva, hvb⟩, okV_ok okb (doesV_in hva hvb)]
            refine ⟨doesV t.text va vb, doesV_in hva hvb, ?_⟩
            rw [if_neg (by simp), if_neg (by simp)]
            split
            · rw [run, both]; simp
            split
            · rw [run, both]; simp
            · rw [run2]; simp [binT]
          · refine ⟨0, in0, ?_⟩
            rw [if_neg (by simp), if_pos rfl, run, tex12 hm okb]
            simp
        · have hs := txt_peek_spy hp
          refine ⟨0, in0, ?_⟩
          rw [if_pos rfl, run, tex12 hm okb, hs]
          simp
      | .node b1 o1 t1 k1 (.node b2 o2 t2 k2 (.node b3 o3 t3 k3 .nil)), hlen, hk =>
        obtain ⟨_, np, ns⟩ : _ ∧ txt t sPEEK = false ∧ txt t sSPY = false := by
          rcases hlen with h | ⟨_, h⟩
          · simp [lenE] at h
          · exact ⟨trivial, h⟩
        obtain ⟨va, hva, ea⟩ := head12 hm live k1 b1 o1 t1 (.node b2 o2 t2 k2 (.node b3 o3 t3 k3 .nil)) σ hk hok
        have s1 : SameSt σ (hS E (.node b1 o1 t1 k1 (.node b2 o2 t2 k2 (.node b3 o3 t3 k3 .nil))) σ) := exS_same E _ σ
        obtain ⟨vb, hvb, eb⟩ := head12 hm live k2 b2 o2 t2 (.node b3 o3 t3 k3 .nil) (hS E (.node b1 o1 t1 k1 (.node b2 o2 t2 k2 (.node b3 o3 t3 k3 .nil))) σ) hk.2.2 (s1.ok hok)
        have s2 : SameSt σ (hS E (.node b2 o2 t2 k2 (.node b3 o3 t3 k3 .nil)) (hS E (.node b1 o1 t1 k1 (.node b2 o2 t2 k2 (.node b3 o3 t3 k3 .nil))) σ)) := s1.trans (exS_same E _ _)
        obtain ⟨vc, hvc, ec⟩ := head12 hm live k3 b3 o3 t3 .nil (hS E (.node b2 o2 t2 k2 (.node b3 o3 t3 k3 .nil)) (hS E (.node b1 o1 t1 k1 (.node b2 o2 t2 k2 (.node b3 o3 t3 k3 .nil))) σ)) hk.2.2.2.2 (s2.ok hok)
        rw [s1.cells] at eb
        rw [s2.cells] at ec
        have eS : exS E (.node b1 o1 t1 k1 (.node b2 o2 t2 k2 (.node b3 o3 t3 k3 .nil))) σ = hS E (.node b3 o3 t3 k3 .nil) (hS E (.node b2 o2 t2 k2 (.node b3 o3 t3 k3 .nil)) (hS E (.node b1 o1 t1 k1 (.node b2 o2 t2 k2 (.node b3 o3 t3 k3 .nil))) σ)) := rfl
        have eH : exH σ.cells (.node b1 o1 t1 k1 (.node b2 o2 t2 k2 (.node b3 o3 t3 k3 .nil))) = (hH σ.cells (.node b1 o1 t1 k1 (.node b2 o2 t2 k2 (.node b3 o3 t3 k3 .nil))) || hH σ.cells (.node b2 o2 t2 k2 (.node b3 o3 t3 k3 .nil)) || hH σ.cells (.node b3 o3 t3 k3 .nil)) := by
          rw [hH_node, hH_node, Bool.or_assoc]
          rfl
        have s3 : SameSt σ (hS E (.node b3 o3 t3 k3 .nil) (hS E (.node b2 o2 t2 k2 (.node b3 o3 t3 k3 .nil)) (hS E (.node b1 o1 t1 k1 (.node b2 o2 t2 k2 (.node b3 o3 t3 k3 .nil))) σ))) := s2.trans (exS_same E _ _)
        have okc := s3.ok hok
        rw [eS, eH, np, ns]
        show ∃ v, In32 v ∧ ((wkX E live (.node b1 o1 t1 k1 (.node b2 o2 t2 k2 (.node b3 o3 t3 k3 .nil))) (stepS E σ live)).bind fun a => (wkX E live (.node b2 o2 t2 k2 (.node b3 o3 t3 k3 .nil)) a.2.2).bind fun b => (wkX E live (.node b3 o3 t3 k3 .nil) b.2.2).bind fun c => selT a b c) = _
        rw [hm.step, ea, Option.bind_some, eb, Option.bind_some, ec, Option.bind_some]
        unfold selT
        split
        · refine ⟨vc, hvc, ?_⟩
          rw [okV_ok okc hvc]
          simp
        · refine ⟨vb, hvb, ?_⟩
          rw [okV_ok okc hvb]
          simp
      | .node _ _ _ _ (.node _ _ _ _ (.node _ _ _ _ (.node _ _ _ _ _))), hlen, _ => simp [lenE] at hlen

end Go.Proofs.Ythmmgiaobakilaa
