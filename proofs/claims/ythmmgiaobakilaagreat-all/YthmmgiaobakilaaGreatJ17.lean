import Derived.Test.YthmmgiaobakilaaGreatJ12
set_option maxRecDepth 100000
set_option maxHeartbeats 8000000
set_option linter.all false
namespace Go.Proofs.YthmmgiaobakilaaGreat
open Go.RowKit Go.Deep
variable {F:sj} {H:List ByteArray} {R:ByteArray->Int} {m:Bool} {t:aH} {σ:Fh}
theorem CZ (h:F.1=0) (e p:Int):jL F e p=(e,p):=by unfold jL;rw[ag h]
theorem yc (h:F.1≠0) (e p:Int):jL F e p=F:=by unfold jL;rw[ae h]
theorem Tj (hf:F.1≠0):Ct R t F=F:=by
 unfold Ct;split
 .exact yc hf _ _
 .rfl
theorem Bf {R:ByteArray->Int} {F:sj} (hf:F.1≠0):∀e:Ex,Eh R e F=F
 | .nil=>rfl
 | .node _ _ t k r=>by
  show Eh R r (Eh R k (Ct R t F))=F;rw[Tj hf,Bf hf k,Bf hf r]
theorem Yx (R:ByteArray->Int) (e:Ex) (F:sj):Eh R (bD e .nil) F=zH R e F:=by
 cases e<;>rfl
theorem Uc (hf:F.1≠0) (e:Ex):zH R e F=F:=by rw[<-Yx];exact Bf hf _
theorem JQ {c:Int} (hf:σ.2.1≠0):(uC σ t c).2=σ.2:=by
 unfold uC;dsimp only;split
 .exact yc hf _ _
 .rfl
theorem JZ {a b:aH} (hf:σ.2.1≠0):(ED a b σ).2=σ.2:=by
 unfold ED;dsimp only;split
 .exact yc hf _ _
 .rfl
theorem Jv (n:Nat):∀(s:Sx),dS s<=n->∀(σ:Fh),σ.2.1≠0->(nM s σ).2=σ.2:=by
 induction n with
 | zero=>
  intro s hs σ _
  cases s with
  | nil=>rfl
  | node b o p k r=>simp[dS]at hs
 | succ n ih=>
  intro s hs σ hf
  cases s with
  | nil=>rfl
  | node b o p k r=>
   simp only[dS]at hs;have hr:∀τ:Fh,τ.2=σ.2->(nM r τ).2=σ.2:=λτ e=>by rw[ih r (by omega) τ (by rw[e];exact hf),e]
   have hx:∀e:Ex,zH σ.1 e σ.2=σ.2:=λe=>Uc hf e;by_cases t0:p.tag=0
   .rw[WU t0];refine hr _ ?_;show zH _ _ (if _ then _ else _)=σ.2;split
    .rw[yc hf];exact hx _
    .exact hx _
   by_cases t1:p.tag=1
   .cases k with
    | nil=>
     show(nM r (if p.tag=0 then _ else if p.tag=1 then _ else _)).2=σ.2;rw[ae t0,ag t1];exact hr _ rfl
    | node b1 o1 q s u=>
     simp only[dS]at hs;rw[QO t1];refine hr _ ?_;have e1:(nM s (σ.1,zH σ.1 p.e σ.2)).2=σ.2:=by
      rw[hx];exact ih s (by omega) σ hf
     rw[ih u (by omega) _ (by rw[e1];exact hf),e1]
   by_cases t2:p.tag=2
   .rw[RZ t2];refine hr _ ?_;show(nM k _).2=σ.2;have e1:(ED p.a p.b (uC σ p.t 2)).2=σ.2:=by
     have:=JQ (t:=p.t) (c:=2) hf;rw[JZ (by rw[this];exact hf),this]
    rw[ih k (by omega) _ (by rw[e1];exact hf),e1]
   .cases k<;>(show(nM r (if p.tag=0 then _ else if p.tag=1 then _ else if p.tag=2 then _ else _)).2=σ.2;rw[ae t0,ae t1,ae t2];exact hr _ (hx _))
def Ls:Sx->Prop
 | .nil=>True
 | .node _ _ p k r=>Ls r/\(p.tag=1->(match k with
  | .nil=>True
  | .node _ _ _ s u=>Ls s/\Ls u))/\(p.tag=2->nP p.b<=20/\Ls k)
theorem FT {s:Sx} (h:(nM s σ).2.1=0):σ.2.1=0:=Classical.byContradiction λhn=>by
 have:=Jv _ s (af _) σ hn;rw[this]at h;exact hn h
theorem Qa9 (n:Nat):∀(s:Sx),dS s<=n->∀(σ:Fh),(nM s σ).2.1=0->Ls s:=by
 induction n with
 | zero=>
  intro s hs σ _
  cases s with
  | nil=>trivial
  | node b o p k r=>simp[dS]at hs
 | succ n ih=>
  intro s hs σ h
  cases s with
  | nil=>trivial
  | node b o p k r=>
   simp only[dS]at hs;unfold Ls;by_cases t1:p.tag=1
   .cases k with
    | nil=>
     have e:nM (.node b o p .nil r) σ=nM r σ:=by
      show nM r (if p.tag=0 then _ else if p.tag=1 then _ else _)=_;rw[ae (by omega),ag t1]
     rw[e]at h;exact⟨ih r (by omega) _ h,λ_=>trivial,λe=>by omega⟩
    | node b1 o1 q s u=>
     simp only[dS]at hs;rw[QO t1]at h;have h1:=FT h;have h2:=FT h1;exact⟨ih r (by omega) _ h,λ_=>⟨ih s (by omega) _ h2,ih u (by omega) _ h1⟩,λe=>by omega⟩
   by_cases t2:p.tag=2
   .rw[RZ t2]at h;have h0:=FT h;have h1:(nM k (ED p.a p.b (uC σ p.t 2))).2.1=0:=h0;have h2:=FT h1;refine⟨ih r (by omega) _ h,λe=>absurd e t1,λ_=>⟨?_,ih k (by omega) _ h1⟩⟩;unfold ED at h2;dsimp only at h2;split at h2
    .exfalso;unfold jL at h2;split at h2
     .cases h2
     .rename_i hn;exact hn h2
    .rename_i hn;simp at hn;omega
   .have e:∃τ,nM (.node b o p k r) σ=nM r τ:=by
     cases k
     .exact⟨_,rfl⟩
     .exact⟨_,rfl⟩
    obtain⟨τ,e⟩:=e;rw[e]at h;exact⟨ih r (by omega) _ h,λe=>absurd e t1,λe=>absurd e t2⟩
theorem Uf {k:Ex} (hf:F.1≠0):Es H t k F=F:=by
 unfold Es;split
 .exact yc hf _ _
 .rfl
theorem yx {H:List ByteArray} {F:sj} (hf:F.1≠0):∀e:Ex,DC H e F=F
 | .nil=>rfl
 | .node _ _ t k r=>by
  show DC H r (DC H k (Es H t k F))=F;rw[Uf hf,yx hf k,yx hf r]
theorem Vu (H:List ByteArray) (e:Ex) (F:sj):DC H (bD e .nil) F=Ll H e F:=by
 cases e<;>rfl
theorem Ec (hf:F.1≠0) (e:Ex):Ll H e F=F:=by rw[<-Vu];exact yx hf _
theorem Ej {e:Ex} (hf:F.1≠0):KM H t e m F=F:=by
 unfold KM;split
 .rw[yc hf];exact Ec hf e
 .exact Ec hf e
theorem Tn (n:Nat):∀(s:Sx),dS s<=n->∀(F:sj),F.1≠0->vo H s F=F:=by
 induction n with
 | zero=>
  intro s hs F _
  cases s with
  | nil=>rfl
  | node b o p k r=>simp[dS]at hs
 | succ n ih=>
  intro s hs F hf
  cases s with
  | nil=>rfl
  | node b o p k r=>
   simp only[dS]at hs;have hr:∀G:sj,G=F->vo H r G=F:=λG e=>by rw[e];exact ih r (by omega) F hf
   by_cases t0:p.tag=0
   .rw[XE t0];exact hr _ (Ej hf)
   by_cases t1:p.tag=1
   .cases k with
    | nil=>
     show vo H r (if p.tag=0 then _ else if p.tag=1 then _ else _)=F;rw[ae t0,ag t1];exact hr _ rfl
    | node b1 o1 q s u=>
     simp only[dS]at hs;rw[XD t1];refine hr _ ?_;rw[Ej hf,ih s (by omega) F hf,ih u (by omega) F hf]
   by_cases t2:p.tag=2
   .rw[Yn t2];exact hr _ (ih k (by omega) F hf)
   .cases k<;>(show vo H r (if p.tag=0 then _ else if p.tag=1 then _ else if p.tag=2 then _ else _)=F;rw[ae t0,ae t1,ae t2];exact hr _ (Ej hf))
end Go.Proofs.YthmmgiaobakilaaGreat
