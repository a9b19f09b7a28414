import Derived.Test.YthmmgiaobakilaaGreatK12
set_option maxRecDepth 100000
namespace Go.Proofs.YthmmgiaobakilaaGreat
open Go.RowKit Go.Deep
theorem note_eq {F:Flt} (h:F.1=0) (e p:Int):noteF F e p=(e,p):=by unfold noteF;rw [if_pos h]
theorem note_not {F:Flt} (h:F.1≠0) (e p:Int):noteF F e p=F:=by unfold noteF;rw [if_neg h]
theorem nxH_stuck {R:ByteArray→Int} {t:Tok} {F:Flt} (hf:F.1≠0):nxH R t F=F:=by
 unfold nxH;split
 ·exact note_not hf _ _
 ·rfl
theorem nxE_stuck {R:ByteArray→Int} {F:Flt} (hf:F.1≠0):∀e:Ex,nxE R e F=F
 | .nil=>rfl
 | .node _ _ t k r=>by
  show nxE R r (nxE R k (nxH R t F))=F
  rw [nxH_stuck hf,nxE_stuck hf k,nxE_stuck hf r]
theorem nx1_eq (R:ByteArray→Int) (e:Ex) (F:Flt):nxE R (besideE e .nil) F=nx1 R e F:=by
 cases e <;> rfl
theorem nx1_stuck {R:ByteArray→Int} {F:Flt} (hf:F.1≠0) (e:Ex):nx1 R e F=F:=by rw [←nx1_eq];exact nxE_stuck hf _
theorem nbr_stuck {σ:NSt} {t:Tok} {c:Int} (hf:σ.2.1≠0):(nbr σ t c).2=σ.2:=by
 unfold nbr;dsimp only;split
 ·exact note_not hf _ _
 ·rfl
theorem nxN_stuck {σ:NSt} {a b:Tok} (hf:σ.2.1≠0):(nxN a b σ).2=σ.2:=by
 unfold nxN;dsimp only;split
 ·exact note_not hf _ _
 ·rfl
theorem nxS_stuck (n:Nat):∀(s:Sx),szS s≤n→∀(σ:NSt),σ.2.1≠0→(nxS s σ).2=σ.2:=by
 induction n with
 | zero=>
  intro s hs σ _
  cases s with
  | nil=>rfl
  | node b o p k r=>simp [szS] at hs
 | succ n ih=>
  intro s hs σ hf
  cases s with
  | nil=>rfl
  | node b o p k r=>
   simp only [szS] at hs
   have hr:∀τ:NSt,τ.2=σ.2→(nxS r τ).2=σ.2:=fun τ e=>by rw [ih r (by omega) τ (by rw [e];exact hf),e]
   have hx:∀e:Ex,nx1 σ.1 e σ.2=σ.2:=fun e=>nx1_stuck hf e
   by_cases t0:p.tag=0
   ·rw [nxS_0 t0]
    refine hr _ ?_
    show nx1 _ _ (if _ then _ else _)=σ.2
    split
    ·rw [note_not hf];exact hx _
    ·exact hx _
   by_cases t1:p.tag=1
   ·cases k with
    | nil=>
     show (nxS r (if p.tag=0 then _ else if p.tag=1 then _ else _)).2=σ.2
     rw [if_neg t0,if_pos t1]
     exact hr _ rfl
    | node b1 o1 q s u=>
     simp only [szS] at hs
     rw [nxS_1 t1]
     refine hr _ ?_
     have e1:(nxS s (σ.1,nx1 σ.1 p.e σ.2)).2=σ.2:=by
      rw [hx]
      exact ih s (by omega) σ hf
     rw [ih u (by omega) _ (by rw [e1];exact hf),e1]
   by_cases t2:p.tag=2
   ·rw [nxS_2 t2]
    refine hr _ ?_
    show (nxS k _).2=σ.2
    have e1:(nxN p.a p.b (nbr σ p.t 2)).2=σ.2:=by
     have:=nbr_stuck (t:=p.t) (c:=2) hf
     rw [nxN_stuck (by rw [this];exact hf),this]
    rw [ih k (by omega) _ (by rw [e1];exact hf),e1]
   ·cases k <;> (show (nxS r (if p.tag=0 then _ else if p.tag=1 then _ else if p.tag=2 then _ else _)).2=σ.2;rw [if_neg t0,if_neg t1,if_neg t2];exact hr _ (hx _))
def NumS:Sx→Prop
 | .nil=>True
 | .node _ _ p k r=>NumS r∧(p.tag=1→(match k with
  | .nil=>True
  | .node _ _ _ s u=>NumS s∧NumS u))∧(p.tag=2→nP p.b≤20∧NumS k)
theorem nx_zero {σ:NSt} {s:Sx} (h:(nxS s σ).2.1=0):σ.2.1=0:=Classical.byContradiction fun hn=>by
 have:=nxS_stuck _ s (Nat.le_refl _) σ hn
 rw [this] at h
 exact hn h
theorem nums_ok (n:Nat):∀(s:Sx),szS s≤n→∀(σ:NSt),(nxS s σ).2.1=0→NumS s:=by
 induction n with
 | zero=>
  intro s hs σ _
  cases s with
  | nil=>trivial
  | node b o p k r=>simp [szS] at hs
 | succ n ih=>
  intro s hs σ h
  cases s with
  | nil=>trivial
  | node b o p k r=>
   simp only [szS] at hs
   unfold NumS
   by_cases t1:p.tag=1
   ·cases k with
    | nil=>
     have e:nxS (.node b o p .nil r) σ=nxS r σ:=by
      show nxS r (if p.tag=0 then _ else if p.tag=1 then _ else _)=_
      rw [if_neg (by omega),if_pos t1]
     rw [e] at h
     exact ⟨ih r (by omega) _ h,fun _=>trivial,fun e=>by omega⟩
    | node b1 o1 q s u=>
     simp only [szS] at hs
     rw [nxS_1 t1] at h
     have h1:=nx_zero h
     have h2:=nx_zero h1
     exact ⟨ih r (by omega) _ h,fun _=>⟨ih s (by omega) _ h2,ih u (by omega) _ h1⟩,fun e=>by omega⟩
   by_cases t2:p.tag=2
   ·rw [nxS_2 t2] at h
    have h0:=nx_zero h
    have h1:(nxS k (nxN p.a p.b (nbr σ p.t 2))).2.1=0:=h0
    have h2:=nx_zero h1
    refine ⟨ih r (by omega) _ h,fun e=>absurd e t1,fun _=>⟨?_,ih k (by omega) _ h1⟩⟩
    unfold nxN at h2
    dsimp only at h2
    split at h2
    ·exfalso
     unfold noteF at h2
     split at h2
     ·cases h2
     ·rename_i hn;exact hn h2
    ·rename_i hn
     simp at hn
     omega
   ·have e:∃τ,nxS (.node b o p k r) σ=nxS r τ:=by
     cases k
     ·exact ⟨_,rfl⟩
     ·exact ⟨_,rfl⟩
    obtain ⟨τ,e⟩:=e
    rw [e] at h
    exact ⟨ih r (by omega) _ h,fun e=>absurd e t1,fun e=>absurd e t2⟩
theorem tcH_stuck {H:List ByteArray} {t:Tok} {k:Ex} {F:Flt} (hf:F.1≠0):tcH H t k F=F:=by
 unfold tcH;split
 ·exact note_not hf _ _
 ·rfl
theorem tcE_stuck {H:List ByteArray} {F:Flt} (hf:F.1≠0):∀e:Ex,tcE H e F=F
 | .nil=>rfl
 | .node _ _ t k r=>by
  show tcE H r (tcE H k (tcH H t k F))=F
  rw [tcH_stuck hf,tcE_stuck hf k,tcE_stuck hf r]
theorem tc1_eq (H:List ByteArray) (e:Ex) (F:Flt):tcE H (besideE e .nil) F=tc1 H e F:=by
 cases e <;> rfl
theorem tc1_stuck {H:List ByteArray} {F:Flt} (hf:F.1≠0) (e:Ex):tc1 H e F=F:=by rw [←tc1_eq];exact tcE_stuck hf _
theorem ldF_stuck {H:List ByteArray} {t:Tok} {e:Ex} {m:Bool} {F:Flt} (hf:F.1≠0):ldF H t e m F=F:=by
 unfold ldF;split
 ·rw [note_not hf];exact tc1_stuck hf e
 ·exact tc1_stuck hf e
theorem flS_stuck {H:List ByteArray} (n:Nat):∀(s:Sx),szS s≤n→∀(F:Flt),F.1≠0→flS H s F=F:=by
 induction n with
 | zero=>
  intro s hs F _
  cases s with
  | nil=>rfl
  | node b o p k r=>simp [szS] at hs
 | succ n ih=>
  intro s hs F hf
  cases s with
  | nil=>rfl
  | node b o p k r=>
   simp only [szS] at hs
   have hr:∀G:Flt,G=F→flS H r G=F:=fun G e=>by rw [e];exact ih r (by omega) F hf
   by_cases t0:p.tag=0
   ·rw [flS_0 t0];exact hr _ (ldF_stuck hf)
   by_cases t1:p.tag=1
   ·cases k with
    | nil=>
     show flS H r (if p.tag=0 then _ else if p.tag=1 then _ else _)=F
     rw [if_neg t0,if_pos t1]
     exact hr _ rfl
    | node b1 o1 q s u=>
     simp only [szS] at hs
     rw [flS_1 t1]
     refine hr _ ?_
     rw [ldF_stuck hf,ih s (by omega) F hf,ih u (by omega) F hf]
   by_cases t2:p.tag=2
   ·rw [flS_2 t2]
    exact hr _ (ih k (by omega) F hf)
   ·cases k <;> (show flS H r (if p.tag=0 then _ else if p.tag=1 then _ else if p.tag=2 then _ else _)=F;rw [if_neg t0,if_neg t1,if_neg t2];exact hr _ (ldF_stuck hf))
end Go.Proofs.YthmmgiaobakilaaGreat
