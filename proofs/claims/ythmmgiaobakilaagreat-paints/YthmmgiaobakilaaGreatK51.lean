import Derived.Test.YthmmgiaobakilaaGreatK37
import Derived.Test.YthmmgiaobakilaaGreatK39
import Derived.Test.YthmmgiaobakilaaGreatK44
set_option maxRecDepth 100000
namespace Go.Proofs.YthmmgiaobakilaaGreat
open Go.RowKit Go.Deep
def Rl (v:List Tok) (F:Flt) (σ:St):Prop:=F.1=σ.fault∧(σ.fault≠0→F.2=σ.place∧∃t∈v,σ.place=t.place)
theorem Rl.mono {v v':List Tok} {F:Flt} {σ:St} (h:Rl v F σ) (hv:∀t∈v,t∈v'):Rl v' F σ:=⟨h.1,fun hf=>by
 obtain ⟨a,t,ht,e⟩:=h.2 hf
 exact ⟨a,t,hv t ht,e⟩⟩
theorem Rl.app {v u:List Tok} {F:Flt} {σ:St} (h:Rl v F σ):Rl (v++u) F σ:=h.mono (fun _ ht=>List.mem_append_left _ ht)
theorem Rl.of {v:List Tok} {F:Flt} {σ τ:St} (h:Rl v F σ) (h1:τ.fault=σ.fault) (h2:τ.place=σ.place):Rl v F τ:=by
 unfold Rl at *
 rw [h1,h2]
 exact h
theorem Rl.gt {v u:List Tok} {F:Flt} {σ:St} (h:Rl v F σ) (hi:Inc (v++u)) (hf:σ.fault≠0):∀t∈u,σ.place < t.place:=by
 obtain ⟨_,t,ht,e⟩:=h.2 hf
 intro x hx
 rw [e]
 exact (List.pairwise_append.1 hi).2.2 t ht x hx
theorem Rl.zero {v:List Tok} {F:Flt} {σ:St} (h1:F.1=0) (h2:σ.fault=0):Rl v F σ:=⟨by rw [h1,h2],fun h=>absurd h2 h⟩
theorem wrong_eq (σ:St) (t:Tok) (e:Int) (h:σ.fault=0∨t.place < σ.place):(wrongT σ t e).fault=e∧(wrongT σ t e).place=t.place:=by
 unfold wrongT;rw [if_pos h];exact ⟨rfl,rfl⟩
theorem wrong_not (σ:St) (t:Tok) (e:Int) (h:σ.fault≠0) (h2:σ.place < t.place):wrongT σ t e=σ:=by
 unfold wrongT;rw [if_neg (fun h'=>h'.elim h (fun h'=>by omega))]
theorem Rl.wrong {v:List Tok} {F:Flt} {σ:St} (hF:F.1=0) (t:Tok) {e:Int} (h:σ.fault=0∨t.place < σ.place):Rl (v++[t]) (noteF F e t.place) (wrongT σ t e):=by
 obtain ⟨a,b⟩:=wrong_eq σ t e h
 rw [note_eq hF]
 refine ⟨by rw [a],fun _=>⟨by rw [b],t,by simp,b⟩⟩
theorem used_stuck {E:Env} {σ:St} {t:Tok} (hf:σ.fault≠0) (h:σ.place < t.place):usedT E σ t=σ:=by
 unfold usedT;split
 ·exact wrong_not _ _ _ hf h
 ·rfl
theorem flow_stuck {E:Env} {σ:St} {t:Tok} {b:Bool} (hf:σ.fault≠0) (h:σ.place < t.place):flowT E σ t b=σ:=by
 unfold flowT;split
 ·exact wrong_not _ _ _ hf h
 ·rfl
theorem fa_name {t:Tok} (h:t.kind=1):hdL t=[t]:=by unfold hdL fa;rw [h];rfl
theorem txt_beq (t:Tok) (s:ByteArray):txt t s=(t.text.toList==s.toList):=rfl
theorem fa_peek {t:Tok} (hn:TokN t) (h:(txt t sPEEK||txt t sSPY)=true):hdL t=[t]:=by
 have hk:t.kind=0:=Classical.byContradiction fun hk=>by
  obtain ⟨a,b⟩:=hn.peek hk
  rw [txt_beq,txt_beq,a,b] at h
  cases h
 unfold hdL fa
 rw [txt_beq,txt_beq] at h
 rw [hk,h]
 rfl
theorem hd_stuck {E:Env} {σ:St} {t:Tok} {b:Bool} (hn:TokN t) (hf:σ.fault≠0) (h:∀u∈hdL t,σ.place < u.place):hdS E t b σ=σ:=by
 unfold hdS
 split
 ·rename_i hk
  exact used_stuck hf (h t (by rw [fa_name (by simpa using hk)];simp))
 split
 ·rename_i _ hk
  simp only [Bool.and_eq_true] at hk
  exact flow_stuck hf (h t (by rw [fa_peek hn hk.2];simp))
 ·rfl
theorem ex_stuck {E:Env} {σ:St} (hf:σ.fault≠0):∀(e:Ex),AllE TokN e→(∀t∈preE e,σ.place < t.place)→exS E e σ=σ
 | .nil,_,_=>rfl
 | .node _ _ t k r,⟨a,b,c⟩,h=>by
  show exS E r (hdS E t (exH σ.cells k) (exS E k σ))=σ
  rw [preE] at h
  rw [ex_stuck hf k b (fun u hu=>h u (by simp [hu])),hd_stuck a hf (fun u hu=>h u (by simp [hu])),ex_stuck hf r c (fun u hu=>h u (by simp [hu]))]
theorem all_beside {p:Tok→Prop} {e:Ex} (h:AllE p e):AllE p (besideE e .nil):=allE_beside h trivial
theorem pre1_eq (e:Ex):preE (besideE e .nil)=pre1 e:=by
 cases e with
 | nil=>rfl
 | node b o t k r=>simp [besideE,preE,pre1]
theorem h_stuck {E:Env} {σ:St} (hf:σ.fault≠0) (e:Ex) (ha:AllE TokN e) (h:∀t∈pre1 e,σ.place < t.place):hS E e σ=σ:=ex_stuck hf _ (all_beside ha) (by rw [pre1_eq];exact h)
theorem lead_stuck {E:Env} {σ:St} {t:Tok} (hf:σ.fault≠0) (h:σ.place < t.place):leadT E σ t=σ:=by
 unfold leadT
 rw [used_stuck hf h]
 split
 ·exact wrong_not _ _ _ hf h
 ·rfl
theorem out_stuck {E:Env} {σ:St} {t:Tok} {a b:Bool} (hf:σ.fault≠0) (h:σ.place < t.place):outT E σ t a b=σ:=by
 unfold outT;split
 ·exact wrong_not _ _ _ hf h
 ·rfl
theorem num_stuck {E:Env} {σ:St} {a b:Tok} (hf:σ.fault≠0) (h:σ.place < a.place):numT E σ a b=σ:=by
 unfold numT;split
 ·exact wrong_not _ _ _ hf h
 ·rfl
theorem decl_stuck {E:Env} {σ:St} {t:Tok} {a b:Bool} (hf:σ.fault≠0) (h:σ.place < t.place):declT E σ t a b=addC σ t a b:=by
 unfold declT;split
 ·rw [wrong_not _ _ _ hf h]
 ·rfl
theorem st_stuck {E:Env} : ∀(s:Sx) (σ:St),σ.fault≠0→AllS TokN s→(∀t∈ordS s,σ.place < t.place)→(stS E s σ).fault=σ.fault∧(stS E s σ).place=σ.place
 | .nil,_,_,_,_=>⟨rfl,rfl⟩
 | .node _ _ p k r,σ,hf,hs,h=>by
  obtain ⟨h1,h2,h3,h4,h5,h6⟩:=hs
  rw [ordS] at h
  have he:∀t∈pre1 p.e,σ.place < t.place:=fun t ht=>h t (by simp [ht])
  have hk:∀t∈ordS k,σ.place < t.place:=fun t ht=>h t (by simp [ht])
  have hr:∀t∈ordS r,σ.place < t.place:=fun t ht=>h t (by simp [ht])
  have ht:p.tag≠5→σ.place < p.t.place:=fun h5=>h _ (by
   unfold hdP
   rw [if_neg h5]
   split <;> simp)
  have first:(stF E p (stS E k) σ).fault=σ.fault∧(stF E p (stS E k) σ).place=σ.place:=by
   unfold stF
   split
   ·rename_i e0
    have:=ht (by omega)
    unfold assignS
    rw [lead_stuck hf this,h_stuck hf _ h4 he,out_stuck hf this]
    exact ⟨rfl,rfl⟩
   split
   ·rename_i e0
    have:=ht (by omega)
    rw [h_stuck hf _ h4 he,flow_stuck hf this]
    exact st_stuck k σ hf h5 hk
   split
   ·rename_i e0
    have:=ht (by omega)
    have ha:σ.place < p.a.place:=h _ (by unfold hdP;rw [if_neg (by omega),if_pos e0];simp)
    rw [decl_stuck hf this]
    have hf2:(addC σ p.t false false).fault≠0:=hf
    rw [num_stuck hf2 ha]
    exact st_stuck k (addC σ p.t false false) hf2 h5 hk
   split
   ·rename_i e0
    have:=ht (by omega)
    rw [h_stuck hf _ h4 he,out_stuck hf this]
    exact ⟨rfl,rfl⟩
   split
   ·rename_i e0
    have:=ht (by omega)
    rw [h_stuck hf _ h4 he,out_stuck hf this]
    exact ⟨rfl,rfl⟩
   ·exact st_stuck k σ hf h5 hk
  obtain ⟨f1,f2⟩:=first
  have:=st_stuck (E:=E) r (stF E p (stS E k) σ) (by rw [f1];exact hf) h6 (fun t ht=>by rw [f2];exact hr t ht)
  rw [f1,f2] at this
  exact this
def role (l:List CellR) (s:ByteArray):Int:=if findN l s < 0 then 0 else if (l.getD (findN l s).toNat noCell).free then 1 else 2
theorem find_neg {l:List CellR} {s:ByteArray} : findN l s < 0↔l.findIdx? (fun c=>c.name.toList==s.toList)=none:=by
 unfold findN
 cases h:l.findIdx? (fun c=>c.name.toList==s.toList) with
 | none=>simp
 | some k=>simp
theorem find_snoc (l:List CellR) (c:CellR) (s:ByteArray):findN (l++[c]) s=if findN l s < 0 then (if c.name=s then (l.length:Int) else -1) else findN l s:=by
 by_cases h:findN l s < 0
 ·rw [if_pos h]
  have hn:=find_neg.1 h
  unfold findN
  rw [List.findIdx?_append,hn]
  by_cases e:c.name=s
  ·rw [if_pos e];simp [e]
  ·have:(c.name.toList==s.toList)=false:=by
    cases hb:(c.name.toList==s.toList)
    ·rfl
    ·exact absurd (bytes_eq (by simpa using hb)) e
   rw [if_neg e];simp [this]
 ·rw [if_neg h]
  unfold findN at h ⊢
  rw [List.findIdx?_append]
  cases hk:l.findIdx? (fun c=>c.name.toList==s.toList) with
  | none=>rw [hk] at h;exact absurd (by decide) h
  | some k=>rfl
theorem find_lt {l:List CellR} {s:ByteArray} (h:¬ findN l s < 0):(findN l s).toNat < l.length:=by
 unfold findN at *
 cases hk:l.findIdx? (fun c=>c.name.toList==s.toList) with
 | none=>rw [hk] at h;exact absurd (by decide) h
 | some k=>
  have:=(List.findIdx?_eq_some_iff_getElem.1 hk).1
  simp;omega
theorem cell_snoc {l:List CellR} {c:CellR} {s:ByteArray} (h:¬ findN l s < 0):(l++[c]).getD (findN l s).toNat noCell=l.getD (findN l s).toNat noCell:=by
 have:=find_lt h
 rw [List.getD,List.getD,List.getElem?_append_left this]
theorem role_snoc {l:List CellR} {c:CellR} (hc:findN l c.name < 0) (s:ByteArray):role (l++[c]) s=if c.name=s then (if c.free then 1 else 2) else role l s:=by
 unfold role
 rw [find_snoc]
 by_cases h:findN l s < 0
 ·rw [if_pos h]
  by_cases e:c.name=s
  ·rw [if_pos e,if_neg (by omega),if_pos e]
   simp [List.getD]
  ·rw [if_neg e,if_neg e,if_pos (by omega),if_pos h]
 ·have e:¬ c.name=s:=fun e=>h (by rw [←e];exact hc)
  rw [if_neg h,if_neg h,if_neg e,if_neg h,cell_snoc h]
theorem role_none {l:List CellR} {s:ByteArray} : role l s=0↔findN l s < 0:=by
 unfold role
 constructor
 ·intro h
  by_cases hf:findN l s < 0
  ·exact hf
  ·rw [if_neg hf] at h
   split at h <;> cases h
 ·intro h;rw [if_pos h]
theorem kws_same (s:ByteArray):kwsP.any (fun u=>s.toList==u.toList)=memB s kws:=by
 rw [←kws_eq]
 exact memB_comm s kwsP
theorem nm_tok {t:Tok} (h:TokN t):nmT t=(t.kind==1):=by
 unfold nmT
 rcases h.kinds with e | e | e | e | e
 ·have:wP t=t.text:=by unfold wP;rw [e];rfl
  rw [this,kws_same,h.key e,e];simp
 ·have:wP t=t.text:=by unfold wP;rw [e];rfl
  rw [this,kws_same,h.name e];unfold kP;rw [e];rfl
 ·unfold kP;rw [e];rfl
 ·unfold kP;rw [e];rfl
 ·unfold kP;rw [e];rfl
theorem wP_name {t:Tok} (h:t.kind=1):wP t=t.text:=by unfold wP;rw [h];rfl
theorem nP_num {t:Tok} (h:t.kind=2):nP t=t.num:=by unfold nP;rw [h];rfl
def GE (e:Ex):Prop:=isN e∧WF e
section
variable {E:Env}
theorem flow_1 (hm:E.mode=1) (σ:St) (t:Tok) (b:Bool):flowT E σ t b=σ:=by unfold flowT;rw [hm];rfl
theorem out_1 (hm:E.mode=1) (σ:St) (t:Tok) (a b:Bool):outT E σ t a b=σ:=by unfold outT;rw [hm];rfl
theorem op_kind {t:Tok} (h:isOp t=true):(t.kind==1)=false:=by
 unfold isOp at h
 cases h1:(t.kind==1)
 ·rfl
 ·rw [h1] at h;simp at h
theorem op_not {t:Tok} (h:isOp t=false):t.kind=2∨t.kind=1:=by
 unfold isOp at h
 rw [Bool.not_eq_false'] at h
 simpa using h
theorem exN (hm:E.mode=1):∀(e:Ex) (v:List Tok) (R:ByteArray→Int) (F:Flt) (σ:St),AllE TokN e→WF e→(σ.fault=0→R=role σ.cells)→Rl v F σ→Inc (v++preE e)→Rl (v++preE e) (nxE R e F) (exS E e σ)
 | .nil,v,R,F,σ,_,_,_,hr,_=>by
  show Rl (v++[]) F σ
  rw [List.append_nil];exact hr
 | .node b o t k r,v,R,F,σ,hn,hw,hR,hr,hi=>by
  by_cases hf:σ.fault=0
  ·obtain ⟨n1,n2,n3⟩:=hn
   obtain ⟨w1,w2,w3⟩:=hw
   have hF:F.1=0:=by rw [hr.1,hf]
   have key:Rl (v++hdL t++preE k) (nxE R k (nxH R t F)) (hdS E t (exH σ.cells k) (exS E k σ)):=by
    rcases w1 with ⟨ho,rfl,_⟩ | ⟨ho,_⟩
    ·show Rl (v++hdL t++[]) (nxH R t F) (hdS E t (exH σ.cells .nil) σ)
     rw [List.append_nil]
     rcases op_not ho with e | e
     ·have a:hdS E t (exH σ.cells .nil) σ=σ:=by unfold hdS;rw [e,ho];rfl
      have c:nxH R t F=F:=by unfold nxH;rw [nm_tok n1,e];rfl
      rw [a,c]
      exact hr.app
     ·rw [fa_name e]
      have a:hdS E t (exH σ.cells .nil) σ=usedT E σ t:=by unfold hdS;rw [e];rfl
      rw [a]
      unfold usedT nxH usedKT
      rw [nm_tok n1,e,hm,wP_name e,hR hf]
      by_cases hk:findN σ.cells t.text < 0
      ·rw [role_none.2 hk,if_pos (by rfl),if_pos (by simp [hk])]
       exact Rl.wrong hF t (.inl hf)
      ·have:(role σ.cells t.text==0)=false:=by
        cases hb:(role σ.cells t.text==0)
        ·rfl
        ·exact absurd (role_none.1 (by simpa using hb)) hk
       rw [this,if_neg (by simp),if_neg (by simp [hk])]
       exact hr.app
    ·have hk1:=op_kind ho
     have a:hdS E t (exH σ.cells k) (exS E k σ)=exS E k σ:=by
      unfold hdS
      rw [hk1,if_neg (by simp)]
      split
      ·exact flow_1 hm _ _ _
      ·rfl
     have c:nxH R t F=F:=by unfold nxH;rw [nm_tok n1,hk1];rfl
     rw [a,c]
     refine exN hm k (v++hdL t) R F σ n2 w2 hR hr.app ?_
     refine hi.sublist ?_
     rw [preE,←List.append_assoc,←List.append_assoc]
     exact List.sublist_append_left _ _
   show Rl (v++(hdL t++(preE k++preE r))) (nxE R r (nxE R k (nxH R t F))) (exS E r (hdS E t (exH σ.cells k) (exS E k σ)))
   have e1:v++(hdL t++(preE k++preE r))=v++hdL t++preE k++preE r:=by simp [List.append_assoc]
   rw [e1]
   refine exN hm r _ R _ _ n3 w3 (fun _=>?_) key ?_
   ·rw [((exS_same E k σ).trans (hdS_same E t _ _)).cells]
    exact hR hf
   ·rw [←e1];exact hi
  ·have g:=hr.gt hi hf
   rw [ex_stuck hf _ hn g,nxE_stuck (by rw [hr.1];exact hf)]
   exact hr.app
theorem hN (hm:E.mode=1) {e:Ex} (hg:GE e) {v:List Tok} {R:ByteArray→Int} {F:Flt} {σ:St} (hn:AllE TokN e) (hR:σ.fault=0→R=role σ.cells) (hr:Rl v F σ) (hi:Inc (v++pre1 e)):Rl (v++pre1 e) (nx1 R e F) (hS E e σ):=by
 have:=exN hm (besideE e .nil) v R F σ (all_beside hn) (wf_beside hg.2 trivial) hR hr (by rw [pre1_eq];exact hi)
 rw [pre1_eq,nx1_eq] at this
 exact this
theorem lead_1 (hm:E.mode=1) {σ:St} {t:Tok} : leadT E σ t=if role σ.cells t.text != 1 then wrongT σ t 10 else σ:=by
 by_cases hk:findN σ.cells t.text < 0
 ·have a:((E.mode==1)&&decide (0≤usedKT σ t))=false:=by unfold usedKT;simp;omega
  have b:((E.mode==1)&&decide (usedKT σ t < 0))=true:=by unfold usedKT;simp [hm,hk]
  unfold leadT usedT
  rw [a,if_neg (by simp),if_pos b,role_none.2 hk,if_pos (by rfl)]
 ·have a:((E.mode==1)&&decide (0≤usedKT σ t))=true:=by unfold usedKT;simp [hm];omega
  have b:usedT E σ t=σ:=by unfold usedT usedKT;rw [if_neg (by simp [hk])]
  unfold leadT
  rw [a,b]
  unfold role cellOf usedKT
  rw [if_neg hk]
  cases (σ.cells.getD (findN σ.cells t.text).toNat noCell).free <;> rfl
theorem updR_at (R:ByteArray→Int) (s:ByteArray) (c:Int) (u:ByteArray):updR R s c u=if s=u then c else R u:=by
 unfold updR
 by_cases e:s=u
 ·rw [if_pos e,e];simp
 ·rw [if_neg e]
  have:(u.toList==s.toList)=false:=by
   cases hb:(u.toList==s.toList)
   ·rfl
   ·exact absurd (bytes_eq (by simpa using hb)).symm e
  rw [this];rfl
theorem declN (hm:E.mode=1) {t:Tok} (ht:t.kind=1) (hid free:Bool) {v:List Tok} {R:ByteArray→Int} {F:Flt} {σ:St} (hR:σ.fault=0→R=role σ.cells) (hr:Rl v F σ) (hi:Inc (v++[t])) :
  Rl (v++[t]) (nbr (R,F) t (if free then 1 else 2)).2 (declT E σ t hid free)∧((declT E σ t hid free).fault=0→findN σ.cells t.text < 0∧(nbr (R,F) t (if free then 1 else 2)).1=role (declT E σ t hid free).cells):=by
 by_cases hf:σ.fault=0
 ·have hF:F.1=0:=by rw [hr.1,hf]
  have hR':=hR hf
  have hc:(declT E σ t hid free).cells=σ.cells++[⟨t.text,0,hid,free⟩]:=(declT_eq E σ t hid free).cells
  rw [hc]
  unfold nbr
  dsimp only
  rw [wP_name ht]
  by_cases hw:(decide (6 < t.text.size)||(R t.text != 0))=true
  ·have hw2:((E.mode==1)&&(decide (0≤findN σ.cells t.text)||decide (6 < t.text.size)))=true:=by
    rw [hm]
    rw [hR'] at hw
    simp only [Bool.or_eq_true,decide_eq_true_eq,bne_iff_ne,ne_eq] at hw
    rcases hw with h | h
    ·simp [h]
    ·have:¬ findN σ.cells t.text < 0:=fun h2=>h (role_none.2 h2)
     simp;omega
   have ed:declT E σ t hid free=addC (wrongT σ t 10) t hid free:=by unfold declT;rw [if_pos hw2]
   rw [if_pos hw,ed]
   refine ⟨(Rl.wrong hF t (.inl hf)).of rfl rfl,fun h=>?_⟩
   exact absurd h (wrongT_ne (by decide))
  ·have hw':¬ 6 < t.text.size∧R t.text=0:=by simpa using hw
   have hn:findN σ.cells t.text < 0:=role_none.1 (by rw [←hR'];exact hw'.2)
   have hw2:((E.mode==1)&&(decide (0≤findN σ.cells t.text)||decide (6 < t.text.size)))=false:=by
    simp;omega
   have ed:declT E σ t hid free=addC σ t hid free:=by unfold declT;rw [hw2];rfl
   rw [if_neg hw,ed]
   refine ⟨(hr.app).of rfl rfl,fun _=>⟨hn,?_⟩⟩
   funext s
   rw [updR_at,role_snoc (c:=⟨t.text,0,hid,free⟩) hn s,hR']
 ·have g:σ.place < t.place:=hr.gt hi hf t (by simp)
  rw [decl_stuck hf g,nbr_stuck (by show F.1≠0;rw [hr.1];exact hf)]
  refine ⟨(hr.app).of rfl rfl,fun h=>absurd h hf⟩
theorem numN (hm:E.mode=1) {a b:Tok} (ha:a.kind=2) (hb:b.kind=2) {v:List Tok} {R:ByteArray→Int} {F:Flt} {σ:St} (hr:Rl v F σ) (hi:Inc (v++[a])):Rl (v++[a]) (nxN a b (R,F)).2 (numT E σ a b):=by
 by_cases hf:σ.fault=0
 ·have hF:F.1=0:=by rw [hr.1,hf]
  unfold nxN numT
  dsimp only
  rw [hm,nP_num ha,nP_num hb]
  simp only [BEq.rfl,Bool.true_and]
  split
  ·exact Rl.wrong hF a (.inl hf)
  ·exact hr.app
 ·rw [num_stuck hf (hr.gt hi hf a (by simp)),nxN_stuck (by show F.1≠0;rw [hr.1];exact hf)]
  exact hr.app
theorem stN (hm:E.mode=1) (n:Nat):∀(s:Sx),szS s≤n→∀(v:List Tok) (R:ByteArray→Int) (F:Flt) (σ:St),AllS TokN s→ShS GE s→(σ.fault=0→R=role σ.cells)→Rl v F σ→Inc (v++ordS s) →
  Rl (v++ordS s) (nxS s (R,F)).2 (stS E s σ)∧((stS E s σ).fault=0→(nxS s (R,F)).1=role σ.cells):=by
 induction n with
 | zero=>
  intro s hs v R F σ _ _ hR hr _
  cases s with
  | nil=>exact ⟨hr.app,fun h=>hR h⟩
  | node b o p k r=>simp [szS] at hs
 | succ n ih=>
  intro s hs v R F σ hn hsh hR hr hi
  cases s with
  | nil=>exact ⟨hr.app,fun h=>hR h⟩
  | node b o p k r=>
   by_cases hf:σ.fault=0
   ·simp only [szS] at hs
    obtain ⟨n1,n2,n3,n4,n5,n6⟩:=hn
    unfold ShS at hsh
    obtain ⟨shr,hsh⟩:=hsh
    have hR':=hR hf
    have hF:F.1=0:=by rw [hr.1,hf]
    have eo:v++ordS (.node b o p k r)=v++hdP p++pre1 p.e++ordS k++ordS r:=by simp [ordS,List.append_assoc]
    rw [eo] at hi ⊢
    have i4:Inc (v++hdP p++pre1 p.e++ordS k):=hi.sublist (List.sublist_append_left _ _)
    have i3:Inc (v++hdP p++pre1 p.e):=i4.sublist (List.sublist_append_left _ _)
    have i2:Inc (v++hdP p):=i3.sublist (List.sublist_append_left _ _)
    have hc:(stF E p (stS E k) σ).cells=σ.cells:=(stS_same E (.node 0 0 p k .nil) σ).cells
    have fin:∀(R':ByteArray→Int) (F':Flt),nxS (.node b o p k r) (R,F)=nxS r (R',F')→Rl (v++hdP p++pre1 p.e++ordS k) F' (stF E p (stS E k) σ)→((stF E p (stS E k) σ).fault=0→R'=role σ.cells) →
      Rl (v++hdP p++pre1 p.e++ordS k++ordS r) (nxS (.node b o p k r) (R,F)).2 (stS E (.node b o p k r) σ)∧((stS E (.node b o p k r) σ).fault=0→(nxS (.node b o p k r) (R,F)).1=role σ.cells):=fun R' F' e h1 h2=>by
     have:=ih r (by omega) _ R' F' (stF E p (stS E k) σ) n6 shr (fun h=>by rw [hc];exact h2 h) h1 hi
     rw [hc] at this
     rw [e]
     exact this
    rcases hsh with ⟨t0,tk,te,rfl⟩ | ⟨t1,te,hk⟩ | ⟨t2,tk,ak,bk,pe,hk⟩ | ⟨t3,_,_,te,rfl⟩ | ⟨t4,_,_,te,rfl⟩
    ·have eh:hdP p=[p.t]:=by unfold hdP;rw [if_neg (by omega),if_neg (by omega)]
     refine fin _ _ (nxS_0 t0) ?_ (fun _=>hR')
     have es:stF E p (stS E .nil) σ=hS E p.e (leadT E σ p.t):=by
      unfold stF assignS
      rw [if_pos t0,out_1 hm]
     rw [es,eh,show ordS (.nil:Sx)=[] from rfl,List.append_nil]
     rw [eh] at i3
     refine hN hm te n4 (fun h=>?_) ?_ i3
     ·rw [(leadT_same E σ p.t).cells];exact hR'
     ·rw [lead_1 hm,wP_name tk,hR']
      show Rl _ (if _ then noteF F 10 _ else F) _
      split
      ·exact Rl.wrong hF p.t (.inl hf)
      ·exact hr.app
    ·cases k with
     | nil=>cases hk
     | node b1 o1 q s u=>
      obtain ⟨q5,qe,hs1,hs2⟩:=hk
      obtain ⟨_,_,_,_,m5,m6⟩:=n5
      simp only [szS] at hs
      have eh:hdP p=[p.t]:=by unfold hdP;rw [if_neg (by omega),if_neg (by omega)]
      have ek:ordS (.node b1 o1 q s u)=ordS s++ordS u:=by
       rw [ordS,qe]
       unfold hdP
       rw [if_pos q5]
       rfl
      have es:stF E p (stS E (.node b1 o1 q s u)) σ=stS E u (stS E s (hS E p.e σ)):=by
       unfold stF
       rw [if_neg (by omega),if_pos t1,flow_1 hm]
       show stS E u (stF E q (stS E s) _)=_
       congr 1
       unfold stF
       rw [if_neg (by omega),if_neg (by omega),if_neg (by omega),if_neg (by omega),if_neg (by omega)]
      rw [ek,←List.append_assoc] at i4
      have i5:Inc (v++hdP p++pre1 p.e++ordS s):=i4.sublist (List.sublist_append_left _ _)
      have r1:Rl (v++hdP p++pre1 p.e) (nx1 R p.e F) (hS E p.e σ):=hN hm te n4 (fun _=>by exact hR') hr.app i3
      have c1:=(hS_same E p.e σ).cells
      obtain ⟨r2,q2⟩:=ih s (by omega) _ R _ (hS E p.e σ) m5 hs1 (fun _=>by rw [c1];exact hR') r1 i5
      have c2:=(stS_same E s (hS E p.e σ)).cells
      obtain ⟨r3,q3⟩:=ih u (by omega) _ (nxS s (R,nx1 R p.e F)).1 (nxS s (R,nx1 R p.e F)).2 (stS E s (hS E p.e σ)) m6 hs2 (fun h=>by rw [c2];exact q2 h) r2 i4
      refine fin (nxS u (nxS s (R,nx1 R p.e F))).1 (nxS u (nxS s (R,nx1 R p.e F))).2 (nxS_1 t1) ?_ (fun h=>?_)
      ·rw [es,ek,←List.append_assoc]
       exact r3
      ·rw [es] at h
       rw [q3 h,c2,c1]
    ·have eh:hdP p=[p.t,p.a]:=by unfold hdP;rw [if_neg (by omega),if_pos t2]
     have es:stF E p (stS E k) σ=popS (stS E k (numT E (declT E σ p.t false false) p.a p.b)):=by
      unfold stF
      rw [if_neg (by omega),if_neg (by omega),if_pos t2]
     have e3:v++hdP p++pre1 p.e=v++[p.t]++[p.a]:=by rw [eh,pe];simp [pre1]
     rw [e3] at i3 i4
     have i1:Inc (v++[p.t]):=i3.sublist (List.sublist_append_left _ _)
     obtain ⟨r1,q1⟩:=declN hm tk false false hR hr i1
     have r2:=numN (R:=(nbr (R,F) p.t 2).1) hm ak bk r1 i3
     have c1:(declT E σ p.t false false).cells=σ.cells++[⟨p.t.text,0,false,false⟩]:=(declT_eq E σ p.t false false).cells
     have c2:=(numT_same E (declT E σ p.t false false) p.a p.b).cells
     obtain ⟨r3,q3⟩:=ih k (by omega) _ (nbr (R,F) p.t 2).1 (nxN p.a p.b (nbr (R,F) p.t 2)).2 _ n5 hk (fun h=>by
      rw [c2]
      exact (q1 (numT_st h)).2) r2 i4
     refine fin (updR (nxS k (nxN p.a p.b (nbr (R,F) p.t 2))).1 (wP p.t) 0) (nxS k (nxN p.a p.b (nbr (R,F) p.t 2))).2 (nxS_2 t2) ?_ (fun h=>?_)
     ·rw [es,e3]
      exact r3.of rfl rfl
     ·rw [es] at h
      have h':(stS E k (numT E (declT E σ p.t false false) p.a p.b)).fault=0:=h
      have z1:=(stS_st hm k _ h').1
      have z2:=q1 (numT_st z1)
      have e4:=q3 h'
      rw [c2,c1] at e4
      funext x
      rw [updR_at,wP_name tk]
      have e5:(nxS k (nxN p.a p.b (nbr (R,F) p.t 2))).1=role (σ.cells++[⟨p.t.text,0,false,false⟩]):=e4
      rw [e5,role_snoc (c:=⟨p.t.text,0,false,false⟩) z2.1 x]
      dsimp only
      by_cases ex:p.t.text=x
      ·rw [if_pos ex,←ex,role_none.2 z2.1]
      ·rw [if_neg ex,if_neg ex]
    ·have eh:hdP p=[p.t]:=by unfold hdP;rw [if_neg (by omega),if_neg (by omega)]
     refine fin _ _ (nxS_3 (.inl t3)) ?_ (fun _=>hR')
     have es:stF E p (stS E .nil) σ=hS E p.e σ:=by
      unfold stF
      rw [if_neg (by omega),if_neg (by omega),if_neg (by omega),if_pos t3,out_1 hm]
     rw [es,show ordS (.nil:Sx)=[] from rfl,List.append_nil]
     exact hN hm te n4 hR hr.app i3
    ·refine fin _ _ (nxS_3 (.inr t4)) ?_ (fun _=>hR')
     have es:stF E p (stS E .nil) σ=hS E p.e σ:=by
      unfold stF
      rw [if_neg (by omega),if_neg (by omega),if_neg (by omega),if_neg (by omega),if_pos t4,out_1 hm]
     rw [es,show ordS (.nil:Sx)=[] from rfl,List.append_nil]
     exact hN hm te n4 hR hr.app i3
   ·have g:=hr.gt hi hf
    obtain ⟨a1,a2⟩:=st_stuck (E:=E) _ σ hf hn g
    refine ⟨?_,fun h=>absurd (by rw [←a1];exact h) hf⟩
    rw [nxS_stuck _ _ (Nat.le_refl _) (R,F) (by show F.1≠0;rw [hr.1];exact hf)]
    exact (hr.app).of a1 a2
end
end Go.Proofs.YthmmgiaobakilaaGreat

set_option maxRecDepth 100000
namespace Go.Proofs.YthmmgiaobakilaaGreat
open Go.RowKit Go.Deep
structure HidIs (H:List ByteArray) (l:List CellR):Prop where
 eq:∀s,hidName l s=H.any (fun u=>s.toList==u.toList)
 key:∀u∈H,memB u kws=false
theorem HidIs.of {H:List ByteArray} {l l':List CellR} (h:HidIs H l) (e:∀s,hidName l' s=hidName l s):HidIs H l':=⟨fun s=>by rw [e];exact h.eq s,h.key⟩
theorem hid_snoc (l:List CellR) (c:CellR) (s:ByteArray):hidName (l++[c]) s=if findN l s < 0 then (decide (c.name=s)&&c.hid) else hidName l s:=by
 unfold hidName
 rw [find_snoc]
 by_cases h:findN l s < 0
 ·rw [if_pos h,if_pos h]
  by_cases e:c.name=s
  ·rw [if_pos e,if_neg (by omega)]
   simp [List.getD,e]
  ·rw [if_neg e,if_pos (by omega)]
   simp [e]
 ·rw [if_neg h,if_neg h,if_neg h,if_neg h,cell_snoc h]
theorem hid_none {l:List CellR} {s:ByteArray} (h:findN l s < 0):hidName l s=false:=by unfold hidName;rw [if_pos h]
theorem hid_open (l:List CellR) (c:CellR) (hc:c.hid=false) (s:ByteArray):hidName (l++[c]) s=hidName l s:=by
 rw [hid_snoc]
 by_cases h:findN l s < 0
 ·rw [if_pos h,hid_none h,hc];simp
 ·rw [if_neg h]
theorem wd_name {t:Tok} (h:t.kind=1) (l:List ByteArray):wdT t l=l.any (fun u=>t.text.toList==u.toList):=by
 unfold wdT;rw [wP_name h];unfold kP;rw [h];rfl
theorem wd_key {t:Tok} (h:t.kind=0) (l:List ByteArray):wdT t l=l.any (fun u=>t.text.toList==u.toList):=by
 unfold wdT
 have:wP t=t.text:=by unfold wP;rw [h];rfl
 rw [this];unfold kP;rw [h];rfl
theorem wd_not {t:Tok} (h:t.kind≠0) (h1:t.kind≠1) (l:List ByteArray):wdT t l=false:=by
 have:(kP t==2)=false:=by
  unfold kP
  rw [if_neg (by simp [h,h1])]
  split
  ·rfl
  split <;> rfl
 unfold wdT;rw [this];rfl
theorem key_any {s:ByteArray} (h:memB s kws=true) {H:List ByteArray} (hk:∀u∈H,memB u kws=false):H.any (fun u=>s.toList==u.toList)=false:=by
 rw [List.any_eq_false]
 intro u hu e
 have e':s=u:=bytes_eq (by simpa using e)
 rw [e',hk u hu] at h
 cases h
theorem hidH_eq {H:List ByteArray} {l:List CellR} (hH:HidIs H l) {t:Tok} (hn:TokN t):hidH H t=(((t.kind==1)&&hidName l t.text)||(isOp t&&txt t sSPY)):=by
 unfold hidH isOp
 rcases hn.kinds with e | e | e | e | e
 ·rw [wd_key e,wd_key e,key_any (hn.key e) hH.key,e]
  simp [txt]
 ·rw [wd_name e,wd_name e,←hH.eq,e]
  have:=(hn.peek (by rw [e];decide)).2
  simp [this]
 all_goals
  rw [wd_not (by rw [e];decide) (by rw [e];decide),wd_not (by rw [e];decide) (by rw [e];decide),e]
  have:=(hn.peek (by rw [e];decide)).2
  simp [txt_beq,this]
theorem hidE_eq {H:List ByteArray} {l:List CellR} (hH:HidIs H l):∀(e:Ex),AllE TokN e→hidE H e=exH l e
 | .nil,_=>rfl
 | .node _ _ t k r,⟨a,b,c⟩=>by
  show ((hidH H t||hidE H k)||hidE H r)=(((t.kind==1)&&hidName l t.text)||(isOp t&&txt t sSPY)||exH l k||exH l r)
  rw [hidH_eq hH a,hidE_eq hH k b,hidE_eq hH r c]
def hHe (l:List CellR) (e:Ex):Bool:=hH l e
theorem hid1_eq {H:List ByteArray} {l:List CellR} (hH:HidIs H l) {e:Ex} (h:AllE TokN e):hid1 H e=hHe l e:=by
 cases e with
 | nil=>rfl
 | node b o t k r=>
  obtain ⟨a,c,d⟩:=h
  unfold hHe
  rw [hH_node]
  show (hidH H t||hidE H k)=_
  rw [hidH_eq hH a,hidE_eq hH k c]
theorem wd_peek {t:Tok} (hn:TokN t):wdT t [sPEEK,sSPY]=(isOp t&&(txt t sPEEK||txt t sSPY)):=by
 unfold isOp
 rcases hn.kinds with e | e | e | e | e
 ·rw [wd_key e,e];simp [txt]
 ·rw [wd_name e,e]
  obtain ⟨p1,p2⟩:=hn.peek (by rw [e];decide)
  simp [p1,p2]
 all_goals
  rw [wd_not (by rw [e];decide) (by rw [e];decide),e]
  obtain ⟨p1,p2⟩:=hn.peek (by rw [e];decide)
  simp [txt_beq,p1,p2]
section
variable {E:Env}
theorem used_2 (hm:E.mode=2) (σ:St) (t:Tok):usedT E σ t=σ:=by unfold usedT;rw [hm];rfl
theorem lead_2 (hm:E.mode=2) (σ:St) (t:Tok):leadT E σ t=σ:=by unfold leadT;rw [used_2 hm,hm];rfl
theorem num_2 (hm:E.mode=2) (σ:St) (a b:Tok):numT E σ a b=σ:=by unfold numT;rw [hm];rfl
theorem decl_2 (hm:E.mode=2) (σ:St) (t:Tok) (a b:Bool):declT E σ t a b=addC σ t a b:=by unfold declT;rw [hm];rfl
theorem exF (hm:E.mode=2) {H:List ByteArray} : ∀(e:Ex) (v:List Tok) (F:Flt) (σ:St),AllE TokN e→WF e→HidIs H σ.cells→Rl v F σ→Inc (v++preE e)→Rl (v++preE e) (tcE H e F) (exS E e σ)
 | .nil,v,F,σ,_,_,_,hr,_=>by
  show Rl (v++[]) F σ
  rw [List.append_nil];exact hr
 | .node b o t k r,v,F,σ,hn,hw,hH,hr,hi=>by
  by_cases hf:σ.fault=0
  ·obtain ⟨n1,n2,n3⟩:=hn
   obtain ⟨w1,w2,w3⟩:=hw
   have hF:F.1=0:=by rw [hr.1,hf]
   have e1:v++(hdL t++(preE k++preE r))=v++hdL t++preE k++preE r:=by simp [List.append_assoc]
   rw [preE,e1] at hi
   have i2:Inc (v++hdL t++preE k):=hi.sublist (List.sublist_append_left _ _)
   have key:Rl (v++hdL t++preE k) (tcE H k (tcH H t k F)) (hdS E t (exH σ.cells k) (exS E k σ)):=by
    by_cases hp:(wdT t [sPEEK,sSPY]&&hidE H k)=true
    ·have hp2:=hp
     rw [hidE_eq hH k n2,wd_peek n1] at hp2
     simp only [Bool.and_eq_true] at hp2
     obtain ⟨⟨ho,hx⟩,hh⟩:=hp2
     have hl:=fa_peek n1 hx
     have ez:tcH H t k F=(11,t.place):=by unfold tcH;rw [if_pos hp,note_eq hF]
     have ek:hdS E t (exH σ.cells k) (exS E k σ)=wrongT (exS E k σ) t 11:=by
      unfold hdS
      rw [op_kind ho,if_neg (by simp),ho,hx,if_pos (by rfl)]
      unfold flowT
      rw [hm,hh];rfl
     rw [ez,ek,tcE_stuck (show (11:Int)≠0 by decide) k,hl]
     have hr0:Rl ([]++preE k) (tcE H k F) (exS E k σ):=exF hm k [] F σ n2 w2 hH (Rl.zero hF hf) (i2.sublist (List.sublist_append_right _ _))
     have hlt:(exS E k σ).fault=0∨t.place < (exS E k σ).place:=by
      by_cases h0:(exS E k σ).fault=0
      ·exact .inl h0
      ·obtain ⟨_,x,hx,ex⟩:=hr0.2 h0
       refine .inr ?_
       rw [ex]
       rw [hl] at i2
       exact (List.pairwise_append.1 i2).2.2 t (by simp) x hx
     have:=Rl.wrong (v:=v) hF t (e:=11) hlt
     rw [note_eq hF] at this
     exact this.app
    ·have ez:tcH H t k F=F:=by unfold tcH;rw [if_neg hp]
     have ek:hdS E t (exH σ.cells k) (exS E k σ)=exS E k σ:=by
      unfold hdS
      split
      ·exact used_2 hm _ _
      split
      ·rename_i _ hq
       rw [hidE_eq hH k n2,wd_peek n1,hq,Bool.true_and] at hp
       unfold flowT
       rw [if_neg (by simp [hp])]
      ·rfl
     rw [ez,ek]
     exact exF hm k (v++hdL t) F σ n2 w2 hH hr.app i2
   show Rl (v++(hdL t++(preE k++preE r))) (tcE H r (tcE H k (tcH H t k F))) (exS E r (hdS E t (exH σ.cells k) (exS E k σ)))
   rw [e1]
   refine exF hm r _ _ _ n3 w3 ?_ key hi
   rw [((exS_same E k σ).trans (hdS_same E t _ _)).cells]
   exact hH
  ·have g:=hr.gt hi hf
   rw [ex_stuck hf _ hn g,tcE_stuck (by rw [hr.1];exact hf)]
   exact hr.app
theorem hF1 (hm:E.mode=2) {H:List ByteArray} {e:Ex} (hg:GE e) {v:List Tok} {F:Flt} {σ:St} (hn:AllE TokN e) (hH:HidIs H σ.cells) (hr:Rl v F σ) (hi:Inc (v++pre1 e)):Rl (v++pre1 e) (tc1 H e F) (hS E e σ):=by
 have:=exF hm (besideE e .nil) v F σ (all_beside hn) (wf_beside hg.2 trivial) hH hr (by rw [pre1_eq];exact hi)
 rw [pre1_eq,tc1_eq] at this
 exact this
theorem leadF (hm:E.mode=2) {H:List ByteArray} {e:Ex} {t:Tok} (hg:GE e) {v:List Tok} {F:Flt} {σ:St} (hf:σ.fault=0) (hn:AllE TokN e) (hH:HidIs H σ.cells) (hr:Rl v F σ) (hi:Inc (v++[t]++pre1 e)) (m:Bool) :
  Rl (v++[t]++pre1 e) (ldF H t e m F) (if (!m&&hHe σ.cells e) then wrongT (hS E e σ) t 11 else hS E e σ):=by
 have hF:F.1=0:=by rw [hr.1,hf]
 unfold ldF
 rw [hid1_eq hH hn]
 by_cases hc:(!m&&hHe σ.cells e)=true
 ·rw [if_pos hc,if_pos hc,note_eq hF,tc1_stuck (show (11:Int)≠0 by decide)]
  have hr0:Rl ([]++pre1 e) (tc1 H e F) (hS E e σ):=hF1 hm hg hn hH (Rl.zero hF hf) (hi.sublist (List.sublist_append_right _ _))
  have hlt:(hS E e σ).fault=0∨t.place < (hS E e σ).place:=by
   by_cases h0:(hS E e σ).fault=0
   ·exact .inl h0
   ·obtain ⟨_,x,hx,ex⟩:=hr0.2 h0
    refine .inr ?_
    rw [ex]
    exact (List.pairwise_append.1 hi).2.2 t (by simp) x hx
  have:=Rl.wrong (v:=v) hF t (e:=11) hlt
  rw [note_eq hF] at this
  exact this.app
 ·rw [if_neg hc,if_neg hc]
  exact hF1 hm hg hn hH hr.app hi
theorem stFl (hm:E.mode=2) {H:List ByteArray} (n:Nat):∀(s:Sx),szS s≤n→∀(v:List Tok) (F:Flt) (σ:St),AllS TokN s→ShS GE s→HidIs H σ.cells→Rl v F σ→Inc (v++ordS s)→Rl (v++ordS s) (flS H s F) (stS E s σ):=by
 induction n with
 | zero=>
  intro s hs v F σ _ _ _ hr _
  cases s with
  | nil=>exact hr.app
  | node b o p k r=>simp [szS] at hs
 | succ n ih=>
  intro s hs v F σ hn hsh hH hr hi
  cases s with
  | nil=>exact hr.app
  | node b o p k r=>
   by_cases hf:σ.fault=0
   ·simp only [szS] at hs
    obtain ⟨n1,n2,n3,n4,n5,n6⟩:=hn
    unfold ShS at hsh
    obtain ⟨shr,hsh⟩:=hsh
    have eo:v++ordS (.node b o p k r)=v++hdP p++pre1 p.e++ordS k++ordS r:=by simp [ordS,List.append_assoc]
    rw [eo] at hi ⊢
    have i4:Inc (v++hdP p++pre1 p.e++ordS k):=hi.sublist (List.sublist_append_left _ _)
    have i3:Inc (v++hdP p++pre1 p.e):=i4.sublist (List.sublist_append_left _ _)
    have hc:(stF E p (stS E k) σ).cells=σ.cells:=(stS_same E (.node 0 0 p k .nil) σ).cells
    have fin:∀(F':Flt),flS H (.node b o p k r) F=flS H r F'→Rl (v++hdP p++pre1 p.e++ordS k) F' (stF E p (stS E k) σ)→Rl (v++hdP p++pre1 p.e++ordS k++ordS r) (flS H (.node b o p k r) F) (stS E (.node b o p k r) σ):=fun F' e h1=>by
     have:=ih r (by omega) _ F' (stF E p (stS E k) σ) n6 shr (by rw [hc];exact hH) h1 hi
     rw [e]
     exact this
    rcases hsh with ⟨t0,tk,te,rfl⟩ | ⟨t1,te,hk⟩ | ⟨t2,tk,ak,bk,pe,hk⟩ | ⟨t3,tk,th,te,rfl⟩ | ⟨t4,tk,th,te,rfl⟩
    ·have eh:hdP p=[p.t]:=by unfold hdP;rw [if_neg (by omega),if_neg (by omega)]
     refine fin _ (flS_0 t0) ?_
     have es:stF E p (stS E .nil) σ=if (!(wdT p.t H)&&hHe σ.cells p.e) then wrongT (hS E p.e σ) p.t 11 else hS E p.e σ:=by
      unfold stF assignS
      rw [if_pos t0,lead_2 hm,wd_name tk,←hH.eq]
      unfold outT hHe
      rw [hm,Bool.and_comm]
      simp only [BEq.rfl,Bool.true_and]
     rw [es,eh,show ordS (.nil:Sx)=[] from rfl,List.append_nil]
     rw [eh] at i3
     exact leadF hm te hf n4 hH hr i3 _
    ·cases k with
     | nil=>cases hk
     | node b1 o1 q s u=>
      obtain ⟨q5,qe,hs1,hs2⟩:=hk
      obtain ⟨_,_,_,_,m5,m6⟩:=n5
      simp only [szS] at hs
      have eh:hdP p=[p.t]:=by unfold hdP;rw [if_neg (by omega),if_neg (by omega)]
      have ek:ordS (.node b1 o1 q s u)=ordS s++ordS u:=by
       rw [ordS,qe]
       unfold hdP
       rw [if_pos q5]
       rfl
      have es:stF E p (stS E (.node b1 o1 q s u)) σ=stS E u (stS E s (flowT E (hS E p.e σ) p.t (hHe σ.cells p.e))):=by
       unfold stF
       rw [if_neg (by omega),if_pos t1]
       show stS E u (stF E q (stS E s) _)=_
       congr 1
       unfold stF
       rw [if_neg (by omega),if_neg (by omega),if_neg (by omega),if_neg (by omega),if_neg (by omega)]
       rfl
      rw [ek,←List.append_assoc] at i4
      have i5:Inc (v++hdP p++pre1 p.e++ordS s):=i4.sublist (List.sublist_append_left _ _)
      rw [eh] at i3
      have r1:Rl (v++hdP p++pre1 p.e) (ldF H p.t p.e false F) (flowT E (hS E p.e σ) p.t (hHe σ.cells p.e)):=by
       have:=leadF hm te hf n4 hH hr i3 false
       rw [eh]
       unfold flowT
       rw [hm]
       exact this
      have c1:=((hS_same E p.e σ).trans (flowT_same E _ p.t (hHe σ.cells p.e))).cells
      have r2:=ih s (by omega) _ _ _ m5 hs1 (by rw [c1];exact hH) r1 i5
      have c2:=(stS_same E s (flowT E (hS E p.e σ) p.t (hHe σ.cells p.e))).cells
      have r3:=ih u (by omega) _ _ _ m6 hs2 (by rw [c2,c1];exact hH) r2 i4
      refine fin _ (flS_1 t1) ?_
      rw [es,ek,←List.append_assoc]
      exact r3
    ·have es:stF E p (stS E k) σ=popS (stS E k (addC σ p.t false false)):=by
      unfold stF
      rw [if_neg (by omega),if_neg (by omega),if_pos t2,num_2 hm,decl_2 hm]
     have r1:Rl (v++hdP p++pre1 p.e) F (addC σ p.t false false):=((hr.app).app).of rfl rfl
     have r2:=ih k (by omega) _ _ _ n5 hk (hH.of (fun x=>hid_open σ.cells ⟨p.t.text,0,false,false⟩ rfl x)) r1 i4
     refine fin _ (flS_2 t2) ?_
     rw [es]
     exact r2.of rfl rfl
    ·have eh:hdP p=[p.t]:=by unfold hdP;rw [if_neg (by omega),if_neg (by omega)]
     refine fin _ (flS_3 (.inl t3)) ?_
     have ew:wdT p.t [sHIDE]=false:=by rw [wd_key tk];simp [th]
     have es:stF E p (stS E .nil) σ=if (!false&&hHe σ.cells p.e) then wrongT (hS E p.e σ) p.t 11 else hS E p.e σ:=by
      unfold stF
      rw [if_neg (by omega),if_neg (by omega),if_neg (by omega),if_pos t3]
      unfold outT hHe
      rw [hm,Bool.and_comm]
      simp only [BEq.rfl,Bool.true_and]
     rw [ew,es,eh,show ordS (.nil:Sx)=[] from rfl,List.append_nil]
     rw [eh] at i3
     exact leadF hm te hf n4 hH hr i3 _
    ·have eh:hdP p=[p.t]:=by unfold hdP;rw [if_neg (by omega),if_neg (by omega)]
     refine fin _ (flS_3 (.inr t4)) ?_
     have ew:wdT p.t [sHIDE]=true:=by rw [wd_key tk];simp [th]
     have es:stF E p (stS E .nil) σ=if (!true&&hHe σ.cells p.e) then wrongT (hS E p.e σ) p.t 11 else hS E p.e σ:=by
      unfold stF
      rw [if_neg (by omega),if_neg (by omega),if_neg (by omega),if_neg (by omega),if_pos t4]
      unfold outT
      simp
     rw [ew,es,eh,show ordS (.nil:Sx)=[] from rfl,List.append_nil]
     rw [eh] at i3
     exact leadF hm te hf n4 hH hr i3 _
   ·have g:=hr.gt hi hf
    obtain ⟨a1,a2⟩:=st_stuck (E:=E) _ σ hf hn g
    rw [flS_stuck _ _ (Nat.le_refl _) F (by rw [hr.1];exact hf)]
    exact (hr.app).of a1 a2
end
end Go.Proofs.YthmmgiaobakilaaGreat
