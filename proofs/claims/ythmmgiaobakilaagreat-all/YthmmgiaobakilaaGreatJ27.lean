import Derived.Test.YthmmgiaobakilaaGreatJ15
import Derived.Test.YthmmgiaobakilaaGreatJ17
import Derived.Test.YthmmgiaobakilaaGreatJ26
set_option maxRecDepth 100000
set_option maxHeartbeats 8000000
set_option linter.all false
namespace Go.Proofs.YthmmgiaobakilaaGreat
open Go.RowKit Go.Deep
variable {E:bB} {F:sj} {H:List ByteArray} {R:ByteArray->Int} {b:Bool} {c:bQ} {e:Ex} {l:List bQ} {p:aH->Prop} {s:ByteArray} {t:aH} {u v:List aH} {σ:St}
def Rl (v:List aH) (F:sj) (σ:St):Prop:=F.1=σ.fault/\(σ.fault≠0->F.2=σ.place/\∃t∈v,σ.place=t.place)
theorem Rl.mono {v':List aH} (h:Rl v F σ) (hv:∀t∈v,t∈v'):Rl v' F σ:=⟨h.1,λhf=>by
 obtain⟨a,t,ht,e⟩:=h.2 hf;exact⟨a,t,hv t ht,e⟩⟩
theorem Rl.app (h:Rl v F σ):Rl (v++u) F σ:=h.mono (λ_ ht=>List.mem_append_left _ ht)
theorem Rl.of {τ:St} (h:Rl v F σ) (h1:τ.fault=σ.fault) (h2:τ.place=σ.place):Rl v F τ:=by
 unfold Rl at *;rw[h1,h2];exact h
theorem Rl.gt (h:Rl v F σ) (hi:BZ (v++u)) (hf:σ.fault≠0):∀t∈u,σ.place<t.place:=by
 obtain⟨_,t,ht,e⟩:=h.2 hf;intro x hx;rw[e];exact(List.pairwise_append.1 hi).2.2 t ht x hx
theorem Rl.zero (h1:F.1=0) (h2:σ.fault=0):Rl v F σ:=⟨by rw[h1,h2],λh=>absurd h2 h⟩
theorem VK (σ:St) (t:aH) (e:Int) (h:σ.fault=0∨t.place<σ.place):(jZ σ t e).fault=e/\(jZ σ t e).place=t.place:=by
 unfold jZ;rw[ag h];exact⟨rfl,rfl⟩
theorem uZ (σ:St) (t:aH) (e:Int) (h:σ.fault≠0) (h2:σ.place<t.place):jZ σ t e=σ:=by
 unfold jZ;rw[ae (λh'=>h'.elim h (λh'=>by omega))]
theorem Rl.wrong (hF:F.1=0) (t:aH) {e:Int} (h:σ.fault=0∨t.place<σ.place):Rl (v++[t]) (jL F e t.place) (jZ σ t e):=by
 obtain⟨a,b⟩:=VK σ t e h;rw[CZ hF];refine⟨by rw[a],λ_=>⟨by rw[b],t,by simp,b⟩⟩
theorem H8 (hf:σ.fault≠0) (h:σ.place<t.place):lH E σ t=σ:=by
 unfold lH;split
 .exact uZ _ _ _ hf h
 .rfl
theorem He (hf:σ.fault≠0) (h:σ.place<t.place):lG E σ t b=σ:=by
 unfold lG;split
 .exact uZ _ _ _ hf h
 .rfl
theorem RF (h:t.kind=1):DI t=[t]:=by unfold DI fa;rw[h];rfl
theorem Ar (t:aH) (s:ByteArray):zn t s=(t.text.toList==s.toList):=rfl
theorem RX (hn:uT t) (h:(zn t bf||zn t cz)=true):DI t=[t]:=by
 have hk:t.kind=0:=Classical.byContradiction λhk=>by
  obtain⟨a,b⟩:=hn.peek hk;rw[Ar,Ar,a,b]at h
  cases h
 unfold DI fa;rw[Ar,Ar]at h;rw[hk,h];rfl
theorem VD (hn:uT t) (hf:σ.fault≠0) (h:∀u∈DI t,σ.place<u.place):Bv E t b σ=σ:=by
 unfold Bv;split
 .rename_i hk;exact H8 hf (h t (by rw[RF (by simpa using hk)];simp))
 split
 .rename_i _ hk;simp only[dC]at hk;exact He hf (h t (by rw[RX hn hk.2];simp))
 .rfl
theorem Ae {E:bB} {σ:St} (hf:σ.fault≠0):∀(e:Ex),uE uT e->(∀t∈lJ e,σ.place<t.place)->zo E e σ=σ
 | .nil,_,_=>rfl
 | .node _ _ t k r,⟨a,b,c⟩,h=>by
  show zo E r (Bv E t (Cu σ.cells k) (zo E k σ))=σ;rw[lJ]at h;rw[Ae hf k b (λu hu=>h u (by simp[hu])),VD a hf (λu hu=>h u (by simp[hu])),Ae hf r c (λu hu=>h u (by simp[hu]))]
theorem Co (h:uE p e):uE p (bD e .nil):=kH h trivial
theorem CJ (e:Ex):lJ (bD e .nil)=nL e:=by
 cases e with
 | nil=>rfl
 | node b o t k r=>simp[bD,lJ,nL]
theorem Fx (hf:σ.fault≠0) (e:Ex) (ha:uE uT e) (h:∀t∈nL e,σ.place<t.place):hS E e σ=σ:=Ae hf _ (Co ha) (by rw[CJ];exact h)
theorem Qq (hf:σ.fault≠0) (h:σ.place<t.place):rY E σ t=σ:=by
 unfold rY;rw[H8 hf h];split
 .exact uZ _ _ _ hf h
 .rfl
theorem DT {a:Bool} (hf:σ.fault≠0) (h:σ.place<t.place):zh E σ t a b=σ:=by
 unfold zh;split
 .exact uZ _ _ _ hf h
 .rfl
theorem JN {a b:aH} (hf:σ.fault≠0) (h:σ.place<a.place):xA E σ a b=σ:=by
 unfold xA;split
 .exact uZ _ _ _ hf h
 .rfl
theorem GQ {a:Bool} (hf:σ.fault≠0) (h:σ.place<t.place):dN E σ t a b=qU σ t a b:=by
 unfold dN;split
 .rw[uZ _ _ _ hf h]
 .rfl
theorem yw {E:bB} : ∀(s:Sx) (σ:St),σ.fault≠0->uR uT s->(∀t∈eU s,σ.place<t.place)->(oP E s σ).fault=σ.fault/\(oP E s σ).place=σ.place
 | .nil,_,_,_,_=>⟨rfl,rfl⟩
 | .node _ _ p k r,σ,hf,hs,h=>by
  obtain⟨h1,h2,h3,h4,h5,h6⟩:=hs;rw[eU]at h;have he:∀t∈nL p.e,σ.place<t.place:=λt ht=>h t (by simp[ht]);have hk:∀t∈eU k,σ.place<t.place:=λt ht=>h t (by simp[ht]);have hr:∀t∈eU r,σ.place<t.place:=λt ht=>h t (by simp[ht]);have ht:p.tag≠5->σ.place<p.t.place:=λh5=>h _ (by
   unfold yA;rw[ae h5];split<;>simp)
  have first:(uX E p (oP E k) σ).fault=σ.fault/\(uX E p (oP E k) σ).place=σ.place:=by
   unfold uX;split
   .rename_i e0;have:=ht (by omega);unfold Be;rw[Qq hf this,Fx hf _ h4 he,DT hf this];exact⟨rfl,rfl⟩
   split
   .rename_i e0;have:=ht (by omega);rw[Fx hf _ h4 he,He hf this];exact yw k σ hf h5 hk
   split
   .rename_i e0;have:=ht (by omega);have ha:σ.place<p.a.place:=h _ (by unfold yA;rw[ae (by omega),ag e0];simp);rw[GQ hf this];have hf2:(qU σ p.t false false).fault≠0:=hf;rw[JN hf2 ha];exact yw k (qU σ p.t false false) hf2 h5 hk
   split
   .rename_i e0;have:=ht (by omega);rw[Fx hf _ h4 he,DT hf this];exact⟨rfl,rfl⟩
   split
   .rename_i e0;have:=ht (by omega);rw[Fx hf _ h4 he,DT hf this];exact⟨rfl,rfl⟩
   .exact yw k σ hf h5 hk
  obtain⟨f1,f2⟩:=first
  have:=yw (E:=E) r (uX E p (oP E k) σ) (by rw[f1];exact hf) h6 (λt ht=>by rw[f2];exact hr t ht);rw[f1,f2]at this;exact this
def wH (l:List bQ) (s:ByteArray):Int:=if aN l s<0 then 0 else if(l.getD (aN l s).toNat kW).free then 1 else 2
theorem Yf : aN l s<0↔l.findIdx? (λc=>c.name.toList==s.toList)=none:=by
 unfold aN
 cases h:l.findIdx? (λc=>c.name.toList==s.toList) with
 | none=>simp
 | some k=>simp
theorem KA (l:List bQ) (c:bQ) (s:ByteArray):aN (l++[c]) s=if aN l s<0 then(if c.name=s then(l.length:Int) else -1) else aN l s:=by
 by_cases h:aN l s<0
 .rw[ag h];have hn:=Yf.1 h;unfold aN;rw[List.findIdx?_append,hn];by_cases e:c.name=s
  .rw[ag e];simp[e]
  .have:(c.name.toList==s.toList)=false:=by
    cases hb:(c.name.toList==s.toList)
    .rfl
    .exact absurd (gV (by simpa using hb)) e
   rw[ae e];simp[this]
 .rw[ae h];unfold aN at h ⊢;rw[List.findIdx?_append]
  cases hk:l.findIdx? (λc=>c.name.toList==s.toList) with
  | none=>rw[hk]at h;exact absurd (by decide) h
  | some k=>rfl
theorem YF (h:¬ aN l s<0):(aN l s).toNat<l.length:=by
 unfold aN at *
 cases hk:l.findIdx? (λc=>c.name.toList==s.toList) with
 | none=>rw[hk]at h;exact absurd (by decide) h
 | some k=>
  have:=(Ak.1 hk).1;simp;omega
theorem Ku (h:¬ aN l s<0):(l++[c]).getD (aN l s).toNat kW=l.getD (aN l s).toNat kW:=by
 have:=YF h;rw[List.getD,List.getD,pI this]
theorem AV (hc:aN l c.name<0) (s:ByteArray):wH (l++[c]) s=if c.name=s then(if c.free then 1 else 2) else wH l s:=by
 unfold wH;rw[KA];by_cases h:aN l s<0
 .rw[ag h];by_cases e:c.name=s
  .rw[ag e,ae (by omega),ag e];simp[List.getD]
  .rw[ae e,ae e,ag (by omega),ag h]
 .have e:¬ c.name=s:=λe=>h (by rw[<-e];exact hc);rw[ae h,ae h,ae e,ae h,Ku h]
theorem sS : wH l s=0↔aN l s<0:=by
 unfold wH;constructor
 .intro h;by_cases hf:aN l s<0
  .exact hf
  .rw[ae hf]at h;split at h<;>cases h
 .intro h;rw[ag h]
theorem N8 (s:ByteArray):uS.any (λu=>s.toList==u.toList)=dI s qg:=by
 rw[<-Vz];exact JS s uS
theorem Q0 (h:uT t):nmT t=(t.kind==1):=by
 unfold nmT;rcases h.kinds with e|e|e|e|e
 .have:wP t=t.text:=by unfold wP;rw[e];rfl
  rw[this,N8,h.key e,e];simp
 .have:wP t=t.text:=by unfold wP;rw[e];rfl
  rw[this,N8,h.name e];unfold kP;rw[e];rfl
 .unfold kP;rw[e];rfl
 .unfold kP;rw[e];rfl
 .unfold kP;rw[e];rfl
theorem AY (h:t.kind=1):wP t=t.text:=by unfold wP;rw[h];rfl
theorem Wn (h:t.kind=2):nP t=t.num:=by unfold nP;rw[h];rfl
def GE (e:Ex):Prop:=Fg e/\WF e
section
variable {E:bB}
theorem WZ (hm:E.mode=1) (σ:St) (t:aH) (b:Bool):lG E σ t b=σ:=by unfold lG;rw[hm];rfl
theorem Xh (hm:E.mode=1) (σ:St) (t:aH) (a b:Bool):zh E σ t a b=σ:=by unfold zh;rw[hm];rfl
theorem Sd (h:xM t=true):(t.kind==1)=false:=by
 unfold xM at h
 cases h1:(t.kind==1)
 .rfl
 .rw[h1]at h;simp at h
theorem Qh0 (h:xM t=false):t.kind=2∨t.kind=1:=by
 unfold xM at h;rw[Bool.not_eq_false']at h;simpa using h
theorem exN (hm:E.mode=1):∀(e:Ex) (v:List aH) (R:ByteArray->Int) (F:sj) (σ:St),uE uT e->WF e->(σ.fault=0->R=wH σ.cells)->Rl v F σ->BZ (v++lJ e)->Rl (v++lJ e) (Eh R e F) (zo E e σ)
 | .nil,v,R,F,σ,_,_,_,hr,_=>by
  show Rl (v++[]) F σ;rw[eP];exact hr
 | .node b o t k r,v,R,F,σ,hn,hw,hR,hr,hi=>by
  by_cases hf:σ.fault=0
  .obtain⟨n1,n2,n3⟩:=hn;obtain⟨w1,w2,w3⟩:=hw;have hF:F.1=0:=by rw[hr.1,hf]
   have key:Rl (v++DI t++lJ k) (Eh R k (Ct R t F)) (Bv E t (Cu σ.cells k) (zo E k σ)):=by
    rcases w1 with⟨ho,rfl,_⟩|⟨ho,_⟩
    .show Rl (v++DI t++[]) (Ct R t F) (Bv E t (Cu σ.cells .nil) σ);rw[eP];rcases Qh0 ho with e|e
     .have a:Bv E t (Cu σ.cells .nil) σ=σ:=by unfold Bv;rw[e,ho];rfl
      have c:Ct R t F=F:=by unfold Ct;rw[Q0 n1,e];rfl
      rw[a,c];exact hr.app
     .rw[RF e];have a:Bv E t (Cu σ.cells .nil) σ=lH E σ t:=by unfold Bv;rw[e];rfl
      rw[a];unfold lH Ct jr;rw[Q0 n1,e,hm,AY e,hR hf];by_cases hk:aN σ.cells t.text<0
      .rw[sS.2 hk,ag (by rfl),ag (by simp[hk])];exact Rl.wrong hF t (.inl hf)
      .have:(wH σ.cells t.text==0)=false:=by
        cases hb:(wH σ.cells t.text==0)
        .rfl
        .exact absurd (sS.1 (by simpa using hb)) hk
       rw[this,ae (by simp),ae (by simp[hk])];exact hr.app
    .have hk1:=Sd ho;have a:Bv E t (Cu σ.cells k) (zo E k σ)=zo E k σ:=by
      unfold Bv;rw[hk1,ae (by simp)];split
      .exact WZ hm _ _ _
      .rfl
     have c:Ct R t F=F:=by unfold Ct;rw[Q0 n1,hk1];rfl
     rw[a,c];refine exN hm k (v++DI t) R F σ n2 w2 hR hr.app ?_;refine hi.sublist ?_;rw[lJ,<-gJ,<-gJ];exact mX _ _
   show Rl (v++(DI t++(lJ k++lJ r))) (Eh R r (Eh R k (Ct R t F))) (zo E r (Bv E t (Cu σ.cells k) (zo E k σ)));have e1:v++(DI t++(lJ k++lJ r))=v++DI t++lJ k++lJ r:=by simp[gJ]
   rw[e1];refine exN hm r _ R _ _ n3 w3 (λ_=>?_) key ?_
   .rw[((mY E k σ).trans (Di E t _ _)).cells];exact hR hf
   .rw[<-e1];exact hi
  .have g:=hr.gt hi hf;rw[Ae hf _ hn g,Bf (by rw[hr.1];exact hf)];exact hr.app
theorem hN (hm:E.mode=1) (hg:GE e) (hn:uE uT e) (hR:σ.fault=0->R=wH σ.cells) (hr:Rl v F σ) (hi:BZ (v++nL e)):Rl (v++nL e) (zH R e F) (hS E e σ):=by
 have:=exN hm (bD e .nil) v R F σ (Co hn) (qM hg.2 trivial) hR hr (by rw[CJ];exact hi);rw[CJ,Yx]at this;exact this
theorem Qh3 (hm:E.mode=1) : rY E σ t=if wH σ.cells t.text != 1 then jZ σ t 10 else σ:=by
 by_cases hk:aN σ.cells t.text<0
 .have a:((E.mode==1)&&decide (0<=jr σ t))=false:=by unfold jr;simp;omega
  have b:((E.mode==1)&&decide (jr σ t<0))=true:=by unfold jr;simp[hm,hk]
  unfold rY lH;rw[a,ae (by simp),ag b,sS.2 hk,ag (by rfl)]
 .have a:((E.mode==1)&&decide (0<=jr σ t))=true:=by unfold jr;simp[hm];omega
  have b:lH E σ t=σ:=by unfold lH jr;rw[ae (by simp[hk])]
  unfold rY;rw[a,b];unfold wH mG jr;rw[ae hk]
  cases (σ.cells.getD (aN σ.cells t.text).toNat kW).free<;>rfl
theorem FM (R:ByteArray->Int) (s:ByteArray) (c:Int) (u:ByteArray):mU R s c u=if s=u then c else R u:=by
 unfold mU;by_cases e:s=u
 .rw[ag e,e];simp
 .rw[ae e];have:(u.toList==s.toList)=false:=by
   cases hb:(u.toList==s.toList)
   .rfl
   .exact absurd (gV (by simpa using hb)).symm e
  rw[this];rfl
theorem Qf0 (hm:E.mode=1) (ht:t.kind=1) (hid free:Bool) (hR:σ.fault=0->R=wH σ.cells) (hr:Rl v F σ) (hi:BZ (v++[t])) :
  Rl (v++[t]) (uC (R,F) t (if free then 1 else 2)).2 (dN E σ t hid free)/\((dN E σ t hid free).fault=0->aN σ.cells t.text<0/\(uC (R,F) t (if free then 1 else 2)).1=wH (dN E σ t hid free).cells):=by
 by_cases hf:σ.fault=0
 .have hF:F.1=0:=by rw[hr.1,hf]
  have hR':=hR hf;have hc:(dN E σ t hid free).cells=σ.cells++[⟨t.text,0,hid,free⟩]:=(mf E σ t hid free).cells;rw[hc];unfold uC;dsimp only;rw[AY ht];by_cases hw:(decide (6<t.text.size)||(R t.text != 0))=true
  .have hw2:((E.mode==1)&&(decide (0<=aN σ.cells t.text)||decide (6<t.text.size)))=true:=by
    rw[hm];rw[hR']at hw;simp only[pU,decide_eq_true_eq,bne_iff_ne,ne_eq]at hw;rcases hw with h|h
    .simp[h]
    .have:¬ aN σ.cells t.text<0:=λh2=>h (sS.2 h2);simp;omega
   have ed:dN E σ t hid free=qU (jZ σ t 10) t hid free:=by unfold dN;rw[ag hw2]
   rw[ag hw,ed];refine⟨(Rl.wrong hF t (.inl hf)).of rfl rfl,λh=>?_⟩;exact absurd h (lW (by decide))
  .have hw':¬ 6<t.text.size/\R t.text=0:=by simpa using hw
   have hn:aN σ.cells t.text<0:=sS.1 (by rw[<-hR'];exact hw'.2);have hw2:((E.mode==1)&&(decide (0<=aN σ.cells t.text)||decide (6<t.text.size)))=false:=by
    simp;omega
   have ed:dN E σ t hid free=qU σ t hid free:=by unfold dN;rw[hw2];rfl
   rw[ae hw,ed];refine⟨(hr.app).of rfl rfl,λ_=>⟨hn,?_⟩⟩;funext s;rw[FM,AV (c:=⟨t.text,0,hid,free⟩) hn s,hR']
 .have g:σ.place<t.place:=hr.gt hi hf t (by simp);rw[GQ hf g,JQ (by show F.1≠0;rw[hr.1];exact hf)];refine⟨(hr.app).of rfl rfl,λh=>absurd h hf⟩
theorem Qr7 (hm:E.mode=1) {a b:aH} (ha:a.kind=2) (hb:b.kind=2) (hr:Rl v F σ) (hi:BZ (v++[a])):Rl (v++[a]) (ED a b (R,F)).2 (xA E σ a b):=by
 by_cases hf:σ.fault=0
 .have hF:F.1=0:=by rw[hr.1,hf]
  unfold ED xA;dsimp only;rw[hm,Wn ha,Wn hb];simp only[BEq.rfl,qZ];split
  .exact Rl.wrong hF a (.inl hf)
  .exact hr.app
 .rw[JN hf (hr.gt hi hf a (by simp)),JZ (by show F.1≠0;rw[hr.1];exact hf)];exact hr.app
theorem stN (hm:E.mode=1) (n:Nat):∀(s:Sx),dS s<=n->∀(v:List aH) (R:ByteArray->Int) (F:sj) (σ:St),uR uT s->BO GE s->(σ.fault=0->R=wH σ.cells)->Rl v F σ->BZ (v++eU s) ->
  Rl (v++eU s) (nM s (R,F)).2 (oP E s σ)/\((oP E s σ).fault=0->(nM s (R,F)).1=wH σ.cells):=by
 induction n with
 | zero=>
  intro s hs v R F σ _ _ hR hr _
  cases s with
  | nil=>exact⟨hr.app,λh=>hR h⟩
  | node b o p k r=>simp[dS]at hs
 | succ n ih=>
  intro s hs v R F σ hn hsh hR hr hi
  cases s with
  | nil=>exact⟨hr.app,λh=>hR h⟩
  | node b o p k r=>
   by_cases hf:σ.fault=0
   .simp only[dS]at hs;obtain⟨n1,n2,n3,n4,n5,n6⟩:=hn;unfold BO at hsh;obtain⟨shr,hsh⟩:=hsh;have hR':=hR hf;have hF:F.1=0:=by rw[hr.1,hf]
    have eo:v++eU (.node b o p k r)=v++yA p++nL p.e++eU k++eU r:=by simp[eU,gJ]
    rw[eo]at hi ⊢;have i4:BZ (v++yA p++nL p.e++eU k):=hi.sublist (mX _ _);have i3:BZ (v++yA p++nL p.e):=i4.sublist (mX _ _);have i2:BZ (v++yA p):=i3.sublist (mX _ _);have hc:(uX E p (oP E k) σ).cells=σ.cells:=(lS E (.node 0 0 p k .nil) σ).cells;have fin:∀(R':ByteArray->Int) (F':sj),nM (.node b o p k r) (R,F)=nM r (R',F')->Rl (v++yA p++nL p.e++eU k) F' (uX E p (oP E k) σ)->((uX E p (oP E k) σ).fault=0->R'=wH σ.cells) ->
      Rl (v++yA p++nL p.e++eU k++eU r) (nM (.node b o p k r) (R,F)).2 (oP E (.node b o p k r) σ)/\((oP E (.node b o p k r) σ).fault=0->(nM (.node b o p k r) (R,F)).1=wH σ.cells):=λR' F' e h1 h2=>by
     have:=ih r (by omega) _ R' F' (uX E p (oP E k) σ) n6 shr (λh=>by rw[hc];exact h2 h) h1 hi;rw[hc]at this;rw[e];exact this
    rcases hsh with⟨t0,tk,te,rfl⟩|⟨t1,te,hk⟩|⟨t2,tk,ak,bk,pe,hk⟩|⟨t3,_,_,te,rfl⟩|⟨t4,_,_,te,rfl⟩
    .have eh:yA p=[p.t]:=by unfold yA;rw[ae (by omega),ae (by omega)]
     refine fin _ _ (WU t0) ?_ (λ_=>hR');have es:uX E p (oP E .nil) σ=hS E p.e (rY E σ p.t):=by
      unfold uX Be;rw[ag t0,Xh hm]
     rw[es,eh,show eU (.nil:Sx)=[] from rfl,eP];rw[eh]at i3;refine hN hm te n4 (λh=>?_) ?_ i3
     .rw[(yV E σ p.t).cells];exact hR'
     .rw[Qh3 hm,AY tk,hR'];show Rl _ (if _ then jL F 10 _ else F) _;split
      .exact Rl.wrong hF p.t (.inl hf)
      .exact hr.app
    .cases k with
     | nil=>cases hk
     | node b1 o1 q s u=>
      obtain⟨q5,qe,hs1,hs2⟩:=hk;obtain⟨_,_,_,_,m5,m6⟩:=n5;simp only[dS]at hs;have eh:yA p=[p.t]:=by unfold yA;rw[ae (by omega),ae (by omega)]
      have ek:eU (.node b1 o1 q s u)=eU s++eU u:=by
       rw[eU,qe];unfold yA;rw[ag q5];rfl
      have es:uX E p (oP E (.node b1 o1 q s u)) σ=oP E u (oP E s (hS E p.e σ)):=by
       unfold uX;rw[ae (by omega),ag t1,WZ hm];show oP E u (uX E q (oP E s) _)=_;congr 1;unfold uX;rw[ae (by omega),ae (by omega),ae (by omega),ae (by omega),ae (by omega)]
      rw[ek,<-gJ]at i4;have i5:BZ (v++yA p++nL p.e++eU s):=i4.sublist (mX _ _);have r1:Rl (v++yA p++nL p.e) (zH R p.e F) (hS E p.e σ):=hN hm te n4 (λ_=>by exact hR') hr.app i3;have c1:=(qW E p.e σ).cells;obtain⟨r2,q2⟩:=ih s (by omega) _ R _ (hS E p.e σ) m5 hs1 (λ_=>by rw[c1];exact hR') r1 i5;have c2:=(lS E s (hS E p.e σ)).cells;obtain⟨r3,q3⟩:=ih u (by omega) _ (nM s (R,zH R p.e F)).1 (nM s (R,zH R p.e F)).2 (oP E s (hS E p.e σ)) m6 hs2 (λh=>by rw[c2];exact q2 h) r2 i4;refine fin (nM u (nM s (R,zH R p.e F))).1 (nM u (nM s (R,zH R p.e F))).2 (QO t1) ?_ (λh=>?_)
      .rw[es,ek,<-gJ];exact r3
      .rw[es]at h;rw[q3 h,c2,c1]
    .have eh:yA p=[p.t,p.a]:=by unfold yA;rw[ae (by omega),ag t2]
     have es:uX E p (oP E k) σ=ZL (oP E k (xA E (dN E σ p.t false false) p.a p.b)):=by
      unfold uX;rw[ae (by omega),ae (by omega),ag t2]
     have e3:v++yA p++nL p.e=v++[p.t]++[p.a]:=by rw[eh,pe];simp[nL]
     rw[e3]at i3 i4;have i1:BZ (v++[p.t]):=i3.sublist (mX _ _);obtain⟨r1,q1⟩:=Qf0 hm tk false false hR hr i1;have r2:=Qr7 (R:=(uC (R,F) p.t 2).1) hm ak bk r1 i3;have c1:(dN E σ p.t false false).cells=σ.cells++[⟨p.t.text,0,false,false⟩]:=(mf E σ p.t false false).cells;have c2:=(xP E (dN E σ p.t false false) p.a p.b).cells;obtain⟨r3,q3⟩:=ih k (by omega) _ (uC (R,F) p.t 2).1 (ED p.a p.b (uC (R,F) p.t 2)).2 _ n5 hk (λh=>by
      rw[c2];exact(q1 (G5 h)).2) r2 i4
     refine fin (mU (nM k (ED p.a p.b (uC (R,F) p.t 2))).1 (wP p.t) 0) (nM k (ED p.a p.b (uC (R,F) p.t 2))).2 (RZ t2) ?_ (λh=>?_)
     .rw[es,e3];exact r3.of rfl rfl
     .rw[es]at h;have h':(oP E k (xA E (dN E σ p.t false false) p.a p.b)).fault=0:=h;have z1:=(yI hm k _ h').1;have z2:=q1 (G5 z1);have e4:=q3 h';rw[c2,c1]at e4;funext x;rw[FM,AY tk];have e5:(nM k (ED p.a p.b (uC (R,F) p.t 2))).1=wH (σ.cells++[⟨p.t.text,0,false,false⟩]):=e4;rw[e5,AV (c:=⟨p.t.text,0,false,false⟩) z2.1 x];dsimp only;by_cases ex:p.t.text=x
      .rw[ag ex,<-ex,sS.2 z2.1]
      .rw[ae ex,ae ex]
    .have eh:yA p=[p.t]:=by unfold yA;rw[ae (by omega),ae (by omega)]
     refine fin _ _ (Y9 (.inl t3)) ?_ (λ_=>hR');have es:uX E p (oP E .nil) σ=hS E p.e σ:=by
      unfold uX;rw[ae (by omega),ae (by omega),ae (by omega),ag t3,Xh hm]
     rw[es,show eU (.nil:Sx)=[] from rfl,eP];exact hN hm te n4 hR hr.app i3
    .refine fin _ _ (Y9 (.inr t4)) ?_ (λ_=>hR');have es:uX E p (oP E .nil) σ=hS E p.e σ:=by
      unfold uX;rw[ae (by omega),ae (by omega),ae (by omega),ae (by omega),ag t4,Xh hm]
     rw[es,show eU (.nil:Sx)=[] from rfl,eP];exact hN hm te n4 hR hr.app i3
   .have g:=hr.gt hi hf;obtain⟨a1,a2⟩:=yw (E:=E) _ σ hf hn g;refine⟨?_,λh=>absurd (by rw[<-a1];exact h) hf⟩;rw[Jv _ _ (af _) (R,F) (by show F.1≠0;rw[hr.1];exact hf)];exact(hr.app).of a1 a2
end
structure wB (H:List ByteArray) (l:List bQ):Prop where
 eq:∀s,iW l s=H.any (λu=>s.toList==u.toList)
 key:∀u∈H,dI u qg=false
theorem wB.of {l':List bQ} (h:wB H l) (e:∀s,iW l' s=iW l s):wB H l':=⟨λs=>by rw[e];exact h.eq s,h.key⟩
theorem Mf (l:List bQ) (c:bQ) (s:ByteArray):iW (l++[c]) s=if aN l s<0 then(decide (c.name=s)&&c.hid) else iW l s:=by
 unfold iW;rw[KA];by_cases h:aN l s<0
 .rw[ag h,ag h];by_cases e:c.name=s
  .rw[ag e,ae (by omega)];simp[List.getD,e]
  .rw[ae e,ag (by omega)];simp[e]
 .rw[ae h,ae h,ae h,ae h,Ku h]
theorem Ga (h:aN l s<0):iW l s=false:=by unfold iW;rw[ag h]
theorem Gg (l:List bQ) (c:bQ) (hc:c.hid=false) (s:ByteArray):iW (l++[c]) s=iW l s:=by
 rw[Mf];by_cases h:aN l s<0
 .rw[ag h,Ga h,hc];simp
 .rw[ae h]
theorem FK (h:t.kind=1) (l:List ByteArray):Ei t l=l.any (λu=>t.text.toList==u.toList):=by
 unfold Ei;rw[AY h];unfold kP;rw[h];rfl
theorem II (h:t.kind=0) (l:List ByteArray):Ei t l=l.any (λu=>t.text.toList==u.toList):=by
 unfold Ei;have:wP t=t.text:=by unfold wP;rw[h];rfl
 rw[this];unfold kP;rw[h];rfl
theorem OH (h:t.kind≠0) (h1:t.kind≠1) (l:List ByteArray):Ei t l=false:=by
 have:(kP t==2)=false:=by
  unfold kP;rw[ae (by simp[h,h1])];split
  .rfl
  split<;>rfl
 unfold Ei;rw[this];rfl
theorem Ze (h:dI s qg=true) (hk:∀u∈H,dI u qg=false):H.any (λu=>s.toList==u.toList)=false:=by
 rw[jw];intro u hu e;have e':s=u:=gV (by simpa using e);rw[e',hk u hu]at h
 cases h
theorem Si (hH:wB H l) (hn:uT t):Am H t=(((t.kind==1)&&iW l t.text)||(xM t&&zn t cz)):=by
 unfold Am xM;rcases hn.kinds with e|e|e|e|e
 .rw[II e,II e,Ze (hn.key e) hH.key,e];simp[zn]
 .rw[FK e,FK e,<-hH.eq,e];have:=(hn.peek (by rw[e];decide)).2;simp[this]
 all_goals
  rw[OH (by rw[e];decide) (by rw[e];decide),OH (by rw[e];decide) (by rw[e];decide),e];have:=(hn.peek (by rw[e];decide)).2;simp[Ar,this]
theorem Dw {H:List ByteArray} {l:List bQ} (hH:wB H l):∀(e:Ex),uE uT e->ry H e=Cu l e
 | .nil,_=>rfl
 | .node _ _ t k r,⟨a,b,c⟩=>by
  show((Am H t||ry H k)||ry H r)=(((t.kind==1)&&iW l t.text)||(xM t&&zn t cz)||Cu l k||Cu l r);rw[Si hH a,Dw hH k b,Dw hH r c]
def UT (l:List bQ) (e:Ex):Bool:=hH l e
theorem Qb5 (hH:wB H l) (h:uE uT e):Uu H e=UT l e:=by
 cases e with
 | nil=>rfl
 | node b o t k r=>
  obtain⟨a,c,d⟩:=h;unfold UT;rw[Dm];show(Am H t||ry H k)=_;rw[Si hH a,Dw hH k c]
theorem QT (hn:uT t):Ei t [bf,cz]=(xM t&&(zn t bf||zn t cz)):=by
 unfold xM;rcases hn.kinds with e|e|e|e|e
 .rw[II e,e];simp[zn]
 .rw[FK e,e];obtain⟨p1,p2⟩:=hn.peek (by rw[e];decide);simp[p1,p2]
 all_goals
  rw[OH (by rw[e];decide) (by rw[e];decide),e];obtain⟨p1,p2⟩:=hn.peek (by rw[e];decide);simp[Ar,p1,p2]
section
variable {E:bB}
theorem Yr (hm:E.mode=2) (σ:St) (t:aH):lH E σ t=σ:=by unfold lH;rw[hm];rfl
theorem Qg5 (hm:E.mode=2) (σ:St) (t:aH):rY E σ t=σ:=by unfold rY;rw[Yr hm,hm];rfl
theorem Qo7 (hm:E.mode=2) (σ:St) (a b:aH):xA E σ a b=σ:=by unfold xA;rw[hm];rfl
theorem Pw (hm:E.mode=2) (σ:St) (t:aH) (a b:Bool):dN E σ t a b=qU σ t a b:=by unfold dN;rw[hm];rfl
theorem exF (hm:E.mode=2) {H:List ByteArray} : ∀(e:Ex) (v:List aH) (F:sj) (σ:St),uE uT e->WF e->wB H σ.cells->Rl v F σ->BZ (v++lJ e)->Rl (v++lJ e) (DC H e F) (zo E e σ)
 | .nil,v,F,σ,_,_,_,hr,_=>by
  show Rl (v++[]) F σ;rw[eP];exact hr
 | .node b o t k r,v,F,σ,hn,hw,hH,hr,hi=>by
  by_cases hf:σ.fault=0
  .obtain⟨n1,n2,n3⟩:=hn;obtain⟨w1,w2,w3⟩:=hw;have hF:F.1=0:=by rw[hr.1,hf]
   have e1:v++(DI t++(lJ k++lJ r))=v++DI t++lJ k++lJ r:=by simp[gJ]
   rw[lJ,e1]at hi;have i2:BZ (v++DI t++lJ k):=hi.sublist (mX _ _);have key:Rl (v++DI t++lJ k) (DC H k (Es H t k F)) (Bv E t (Cu σ.cells k) (zo E k σ)):=by
    by_cases hp:(Ei t [bf,cz]&&ry H k)=true
    .have hp2:=hp;rw[Dw hH k n2,QT n1]at hp2;simp only[dC]at hp2;obtain⟨⟨ho,hx⟩,hh⟩:=hp2;have hl:=RX n1 hx;have ez:Es H t k F=(11,t.place):=by unfold Es;rw[ag hp,CZ hF]
     have ek:Bv E t (Cu σ.cells k) (zo E k σ)=jZ (zo E k σ) t 11:=by
      unfold Bv;rw[Sd ho,ae (by simp),ho,hx,ag (by rfl)];unfold lG;rw[hm,hh];rfl
     rw[ez,ek,yx (show(11:Int)≠0 by decide) k,hl];have hr0:Rl ([]++lJ k) (DC H k F) (zo E k σ):=exF hm k [] F σ n2 w2 hH (Rl.zero hF hf) (i2.sublist (List.sublist_append_right _ _));have hlt:(zo E k σ).fault=0∨t.place<(zo E k σ).place:=by
      by_cases h0:(zo E k σ).fault=0
      .exact .inl h0
      .obtain⟨_,x,hx,ex⟩:=hr0.2 h0;refine .inr ?_;rw[ex];rw[hl]at i2;exact(List.pairwise_append.1 i2).2.2 t (by simp) x hx
     have:=Rl.wrong (v:=v) hF t (e:=11) hlt;rw[CZ hF]at this;exact this.app
    .have ez:Es H t k F=F:=by unfold Es;rw[ae hp]
     have ek:Bv E t (Cu σ.cells k) (zo E k σ)=zo E k σ:=by
      unfold Bv;split
      .exact Yr hm _ _
      split
      .rename_i _ hq;rw[Dw hH k n2,QT n1,hq,qZ]at hp;unfold lG;rw[ae (by simp[hp])]
      .rfl
     rw[ez,ek];exact exF hm k (v++DI t) F σ n2 w2 hH hr.app i2
   show Rl (v++(DI t++(lJ k++lJ r))) (DC H r (DC H k (Es H t k F))) (zo E r (Bv E t (Cu σ.cells k) (zo E k σ)));rw[e1];refine exF hm r _ _ _ n3 w3 ?_ key hi;rw[((mY E k σ).trans (Di E t _ _)).cells];exact hH
  .have g:=hr.gt hi hf;rw[Ae hf _ hn g,yx (by rw[hr.1];exact hf)];exact hr.app
theorem hF1 (hm:E.mode=2) (hg:GE e) (hn:uE uT e) (hH:wB H σ.cells) (hr:Rl v F σ) (hi:BZ (v++nL e)):Rl (v++nL e) (Ll H e F) (hS E e σ):=by
 have:=exF hm (bD e .nil) v F σ (Co hn) (qM hg.2 trivial) hH hr (by rw[CJ];exact hi);rw[CJ,Vu]at this;exact this
theorem Sk (hm:E.mode=2) (hg:GE e) (hf:σ.fault=0) (hn:uE uT e) (hH:wB H σ.cells) (hr:Rl v F σ) (hi:BZ (v++[t]++nL e)) (m:Bool) :
  Rl (v++[t]++nL e) (KM H t e m F) (if(!m&&UT σ.cells e) then jZ (hS E e σ) t 11 else hS E e σ):=by
 have hF:F.1=0:=by rw[hr.1,hf]
 unfold KM;rw[Qb5 hH hn];by_cases hc:(!m&&UT σ.cells e)=true
 .rw[ag hc,ag hc,CZ hF,Ec (show(11:Int)≠0 by decide)];have hr0:Rl ([]++nL e) (Ll H e F) (hS E e σ):=hF1 hm hg hn hH (Rl.zero hF hf) (hi.sublist (List.sublist_append_right _ _));have hlt:(hS E e σ).fault=0∨t.place<(hS E e σ).place:=by
   by_cases h0:(hS E e σ).fault=0
   .exact .inl h0
   .obtain⟨_,x,hx,ex⟩:=hr0.2 h0;refine .inr ?_;rw[ex];exact(List.pairwise_append.1 hi).2.2 t (by simp) x hx
  have:=Rl.wrong (v:=v) hF t (e:=11) hlt;rw[CZ hF]at this;exact this.app
 .rw[ae hc,ae hc];exact hF1 hm hg hn hH hr.app hi
theorem Qr2 (hm:E.mode=2) (n:Nat):∀(s:Sx),dS s<=n->∀(v:List aH) (F:sj) (σ:St),uR uT s->BO GE s->wB H σ.cells->Rl v F σ->BZ (v++eU s)->Rl (v++eU s) (vo H s F) (oP E s σ):=by
 induction n with
 | zero=>
  intro s hs v F σ _ _ _ hr _
  cases s with
  | nil=>exact hr.app
  | node b o p k r=>simp[dS]at hs
 | succ n ih=>
  intro s hs v F σ hn hsh hH hr hi
  cases s with
  | nil=>exact hr.app
  | node b o p k r=>
   by_cases hf:σ.fault=0
   .simp only[dS]at hs;obtain⟨n1,n2,n3,n4,n5,n6⟩:=hn;unfold BO at hsh;obtain⟨shr,hsh⟩:=hsh;have eo:v++eU (.node b o p k r)=v++yA p++nL p.e++eU k++eU r:=by simp[eU,gJ]
    rw[eo]at hi ⊢;have i4:BZ (v++yA p++nL p.e++eU k):=hi.sublist (mX _ _);have i3:BZ (v++yA p++nL p.e):=i4.sublist (mX _ _);have hc:(uX E p (oP E k) σ).cells=σ.cells:=(lS E (.node 0 0 p k .nil) σ).cells;have fin:∀(F':sj),vo H (.node b o p k r) F=vo H r F'->Rl (v++yA p++nL p.e++eU k) F' (uX E p (oP E k) σ)->Rl (v++yA p++nL p.e++eU k++eU r) (vo H (.node b o p k r) F) (oP E (.node b o p k r) σ):=λF' e h1=>by
     have:=ih r (by omega) _ F' (uX E p (oP E k) σ) n6 shr (by rw[hc];exact hH) h1 hi;rw[e];exact this
    rcases hsh with⟨t0,tk,te,rfl⟩|⟨t1,te,hk⟩|⟨t2,tk,ak,bk,pe,hk⟩|⟨t3,tk,th,te,rfl⟩|⟨t4,tk,th,te,rfl⟩
    .have eh:yA p=[p.t]:=by unfold yA;rw[ae (by omega),ae (by omega)]
     refine fin _ (XE t0) ?_;have es:uX E p (oP E .nil) σ=if(!(Ei p.t H)&&UT σ.cells p.e) then jZ (hS E p.e σ) p.t 11 else hS E p.e σ:=by
      unfold uX Be;rw[ag t0,Qg5 hm,FK tk,<-hH.eq];unfold zh UT;rw[hm,Bool.and_comm];simp only[BEq.rfl,qZ]
     rw[es,eh,show eU (.nil:Sx)=[] from rfl,eP];rw[eh]at i3;exact Sk hm te hf n4 hH hr i3 _
    .cases k with
     | nil=>cases hk
     | node b1 o1 q s u=>
      obtain⟨q5,qe,hs1,hs2⟩:=hk;obtain⟨_,_,_,_,m5,m6⟩:=n5;simp only[dS]at hs;have eh:yA p=[p.t]:=by unfold yA;rw[ae (by omega),ae (by omega)]
      have ek:eU (.node b1 o1 q s u)=eU s++eU u:=by
       rw[eU,qe];unfold yA;rw[ag q5];rfl
      have es:uX E p (oP E (.node b1 o1 q s u)) σ=oP E u (oP E s (lG E (hS E p.e σ) p.t (UT σ.cells p.e))):=by
       unfold uX;rw[ae (by omega),ag t1];show oP E u (uX E q (oP E s) _)=_;congr 1;unfold uX;rw[ae (by omega),ae (by omega),ae (by omega),ae (by omega),ae (by omega)];rfl
      rw[ek,<-gJ]at i4;have i5:BZ (v++yA p++nL p.e++eU s):=i4.sublist (mX _ _);rw[eh]at i3;have r1:Rl (v++yA p++nL p.e) (KM H p.t p.e false F) (lG E (hS E p.e σ) p.t (UT σ.cells p.e)):=by
       have:=Sk hm te hf n4 hH hr i3 false;rw[eh];unfold lG;rw[hm];exact this
      have c1:=((qW E p.e σ).trans (qB E _ p.t (UT σ.cells p.e))).cells;have r2:=ih s (by omega) _ _ _ m5 hs1 (by rw[c1];exact hH) r1 i5;have c2:=(lS E s (lG E (hS E p.e σ) p.t (UT σ.cells p.e))).cells;have r3:=ih u (by omega) _ _ _ m6 hs2 (by rw[c2,c1];exact hH) r2 i4;refine fin _ (XD t1) ?_;rw[es,ek,<-gJ];exact r3
    .have es:uX E p (oP E k) σ=ZL (oP E k (qU σ p.t false false)):=by
      unfold uX;rw[ae (by omega),ae (by omega),ag t2,Qo7 hm,Pw hm]
     have r1:Rl (v++yA p++nL p.e) F (qU σ p.t false false):=((hr.app).app).of rfl rfl;have r2:=ih k (by omega) _ _ _ n5 hk (hH.of (λx=>Gg σ.cells ⟨p.t.text,0,false,false⟩ rfl x)) r1 i4;refine fin _ (Yn t2) ?_;rw[es];exact r2.of rfl rfl
    .have eh:yA p=[p.t]:=by unfold yA;rw[ae (by omega),ae (by omega)]
     refine fin _ (VW (.inl t3)) ?_;have ew:Ei p.t [dY]=false:=by rw[II tk];simp[th]
     have es:uX E p (oP E .nil) σ=if(!false&&UT σ.cells p.e) then jZ (hS E p.e σ) p.t 11 else hS E p.e σ:=by
      unfold uX;rw[ae (by omega),ae (by omega),ae (by omega),ag t3];unfold zh UT;rw[hm,Bool.and_comm];simp only[BEq.rfl,qZ]
     rw[ew,es,eh,show eU (.nil:Sx)=[] from rfl,eP];rw[eh]at i3;exact Sk hm te hf n4 hH hr i3 _
    .have eh:yA p=[p.t]:=by unfold yA;rw[ae (by omega),ae (by omega)]
     refine fin _ (VW (.inr t4)) ?_;have ew:Ei p.t [dY]=true:=by rw[II tk];simp[th]
     have es:uX E p (oP E .nil) σ=if(!true&&UT σ.cells p.e) then jZ (hS E p.e σ) p.t 11 else hS E p.e σ:=by
      unfold uX;rw[ae (by omega),ae (by omega),ae (by omega),ae (by omega),ag t4];unfold zh;simp
     rw[ew,es,eh,show eU (.nil:Sx)=[] from rfl,eP];rw[eh]at i3;exact Sk hm te hf n4 hH hr i3 _
   .have g:=hr.gt hi hf;obtain⟨a1,a2⟩:=yw (E:=E) _ σ hf hn g;rw[Tn _ _ (af _) F (by rw[hr.1];exact hf)];exact(hr.app).of a1 a2
end
end Go.Proofs.YthmmgiaobakilaaGreat
