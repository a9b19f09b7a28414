import Derived.Test.YthmmgiaobakilaaGreatK42
set_option maxRecDepth 100000
namespace Go.Proofs.YthmmgiaobakilaaGreat
open Go.RowKit Go.Deep
section
variable {E:Env} {D:PD}
theorem decl3 (hE:E3 E D) (σ:St) (i:Nat) (hd fr:Bool):declS E σ i hd fr=addC σ (tkAt E.toks i) hd fr:=by
 rw [decl12 hE.ne0]
 unfold declT
 rw [hE.m]
 rfl
theorem num3 (hE:E3 E D) (σ:St) (a b:Nat):loopNum E σ a b=σ:=by unfold loopNum;rw [hE.m];rfl
theorem pop_add (σ:St) (t:Tok) (hd fr:Bool):({ addC σ t hd fr with cells:=(addC σ t hd fr).cells.dropLast } : St)=σ:=by
 unfold addC
 simp
theorem loop3M {B:MS} {Q:PS} (hE:E3 E D) (hT:TokOK E) (hB:Re3 E D B Q) {i j:Nat} {t:Sx} (hi:i+1 < E.toks.length) (h:pFor Q E.toks i=some (.ok (t,j))) :
  (∀σ live,livesB E σ live=false→Bnd E σ i→loopM B E σ i live=some ⟨j,σ⟩)∧(∀l σ S,R3 E D l 0 0 σ S→Bnd E σ i→Found3 t l→∃σ',loopM B E σ i true=some ⟨j,σ'⟩∧OutS E D l σ' (stP D t S)):=by
 have hN:=hE.ne0
 unfold pFor at h
 obtain ⟨n,j1,h1,h⟩:=then_ok h
 obtain ⟨a,j2,h2,h⟩:=then_ok h
 obtain ⟨u,j3,h3,h⟩:=then_ok h
 obtain ⟨b,j4,h4,h⟩:=then_ok h
 obtain ⟨s,j5,h5,h⟩:=then_ok h
 cases h
 have l1:=kind_lt hT (by decide) hi h1
 have l2:=kind_lt hT (by decide) l1 h2
 have l3:=need_lt hT l2 h3
 have l4:=kind_lt hT (by decide) l3 h4
 obtain ⟨kn,en,e1⟩:=kind_okR h1
 obtain ⟨ka,ea,e2⟩:=kind_okR h2
 obtain ⟨_,e3⟩:=need_okR h3
 obtain ⟨kb,eb,e4⟩:=kind_okR h4
 obtain ⟨bo,bn⟩:=hB j4 s j l4 h5
 have run:∀σ live,OkS (addC (stepS E σ live) n false false)→loopM B E σ i live=(loopBody B E (stepB E σ live) j4 j1 j3 (addC (stepS E σ live) n false false)).bind (loopEnd E):=fun σ live ho=>by
  unfold loopM
  rw [if_pos hi,(of1 hN _ h1).1,(of1 hN _ h1).2]
  unfold loop2
  rw [if_pos l1,(of1 hN _ h2).1,(of1 hN _ h2).2]
  unfold loop3
  rw [(need1 hN _ h3).1,(need1 hN _ h3).2,if_pos ⟨l2,l3⟩,(of1 hN _ h4).1,(of1 hN _ h4).2]
  unfold loopTo
  rw [if_neg (by rw [stop1R hN];simp),decl3 hE,←en,if_pos ⟨l4,ho⟩,num3 hE]
 have okA:∀σ,Bnd E σ i→OkS (addC σ n false false)∧Bnd E (addC σ n false false) j4:=fun σ hb=>by
  have h2:=hb.2
  have ok:OkS (addC σ n false false):=⟨by show (σ.cells++[_]).length≤1000;simp;omega,hb.1.2⟩
  exact ⟨ok,ok,by show (σ.cells++[_]).length+_≤1000;simp;omega⟩
 have fin:∀τ:St,0 < τ.cells.length→loopEnd E ⟨j,τ⟩=some ⟨j,{ τ with cells:=τ.cells.dropLast }⟩:=fun τ hp=>by
  unfold loopEnd dropS
  rw [if_pos (by rw [decide_eq_true hp,Bool.or_true]),if_neg (by simp [hN])]
 have offR:∀σ,Bnd E σ i→(loopBody B E false j4 j1 j3 (addC σ n false false)).bind (loopEnd E)=some ⟨j,σ⟩:=fun σ hb=>by
  obtain ⟨_,b2⟩:=okA σ hb
  unfold loopBody
  rw [if_neg (by decide),bo _ false (off_false _) b2,Option.bind_some,fin _ (by show 0 < (σ.cells++[_]).length;simp),pop_add]
 refine ⟨fun σ live hl hb=>?_,fun l σ S hR hb hf=>?_⟩
 ·obtain ⟨s1,s2⟩:=step_off hl
  rw [run σ live (by rw [s1];exact (okA σ hb).1),s1,s2]
  exact offR σ hb
 ·rw [found3_node] at hf
  obtain ⟨d1,d2,d3,d4⟩:=hf.2.2.2.1 rfl
  have d1':findN l n.text < 0:=d1
  have d2':a.num≤b.num:=d2
  have d3':b.num≤20:=d3
  have d4':Found3 s (l++[⟨n.text,0,false,false⟩]):=d4
  have na:0≤a.num∧a.num≤65536:=by rw [ea];exact hT.nums j1
  have nb:0≤b.num∧b.num≤65536:=by rw [eb];exact hT.nums j3
  have pn:nP a=a.num∧nP b=b.num∧wP n=n.text:=by
   have ka':a.kind=2:=by rw [ea];simpa using ka
   have kb':b.kind=2:=by rw [eb];simpa using kb
   have kn':n.kind=1:=by rw [en];simpa using kn
   unfold nP wP
   rw [ka',kb',kn']
   exact ⟨rfl,rfl,rfl⟩
  have eS:stP D (.node 0 0 ⟨2,n,a,b,.nil⟩ s .nil) S=roundsP (stP D s) n.text (b.num-a.num+1).toNat a.num (stepP S):=by
   rw [stP_2 hR.lt rfl]
   show roundsP (stP D s) (wP n) (nP b-nP a+1).toNat (nP a) (stepP S)=_
   rw [pn.1,pn.2.1,pn.2.2]
  rw [eS]
  by_cases hs:σ.steps < 20000
  ·obtain ⟨x1,x2,x3⟩:=hR.on hE hs
   have r1:=x3.pay (Int.le_refl _)
   have hb1:Bnd E (stepS E σ true) i:=hb.cells x3.okS (by rw [x3.ce,hR.ce]) (Nat.le_refl _)
   obtain ⟨o1,o2⟩:=okA _ hb1
   rw [run σ true o1,x2]
   unfold loopBody
   rw [if_pos rfl]
   have ta:(tokAt E j1).num=a.num:=by rw [ea];rfl
   have tb:(tokAt E j3).num=b.num:=by rw [eb];rfl
   rw [ta,tb,if_pos ⟨by omega,by omega,by omega,by omega⟩]
   have ec:(addC (stepS E σ true) n false false).cells=l++[⟨n.text,0,false,false⟩]:=by show (stepS E σ true).cells++_=_;rw [x3.ce]
   have rr:R3 E D l 0 0 { addC (stepS E σ true) n false false with cells:=l } (stepP S):=by
    have:({ addC (stepS E σ true) n false false with cells:=l } : St)=stepS E σ true:=by
     have hc:=x3.ce
     show ({ stepS E σ true with cells:=l } : St)=_
     rw [←hc]
    rw [this];exact r1
   obtain ⟨σ',z1,l',c',z2,z3,z4,z5⟩:=rounds3 hE d3' i (by omega) (fun σ live hl hb=>bo σ live hl hb) bn 30 a.num j4 l ⟨n.text,0,false,false⟩ (addC (stepS E σ true) n false false) (stepP S) (by omega) na.1 d2' ec rfl d1' rr o2 d4'
   rw [z1,Option.bind_some,fin σ' (by rw [z2];simp),z2]
   have ed:(l'++[c']).dropLast=l':=by simp
   rw [ed]
   refine ⟨_,rfl,z3,?_,?_⟩
   ·refine ⟨?_,z4.2⟩
    have:=z4.1
    rw [z2] at this
    show l'.length≤1000
    simp at this
    omega
   ·rcases z5 with ⟨w1,w2⟩ | ⟨w1,w2⟩
    ·exact .inl ⟨w1,w2⟩
    ·exact .inr ⟨w1,w2⟩
  ·obtain ⟨x1,x2⟩:=hR.die hE hs
   have hb1:Bnd E (stepS E σ true) i:=by rw [x1];exact ⟨hb.1,hb.2⟩
   rw [run σ true (okA _ hb1).1,x2,offR _ hb1]
   refine ⟨_,rfl,?_,hb1.1,.inr ⟨?_,by rw [x1]⟩⟩
   ·rw [x1];show SameN l σ.cells;rw [hR.ce];exact SameN.refl _
   ·have h2:=hR.st
    have g:=rounds_mono (body:=stP D s) (nm:=n.text) (fun T=>st_mono D _ s (Nat.le_refl _) T) (b.num-a.num+1).toNat a.num (stepP S)
    have:(stepP S).steps=S.steps+1:=rfl
    omega
theorem stp_beside {s:Sx} (hs:oneS s) (r:Sx) (S:PSt):stP D (besideS s r) S=stP D r (stP D s S):=by
 obtain ⟨b,o,p,k,rfl⟩:=hs
 by_cases h:20000 < S.steps
 ·rw [stP_over h,stP_over h,stP_over h]
 ·show stP D (.node b o p k r) S=stP D r (stP D (.node b o p k .nil) S)
  cases k <;> (show (if 20000 < S.steps then S else stP D r _)=stP D r (if 20000 < S.steps then S else stP D .nil _);rw [if_neg h,if_neg h];rfl)
theorem found3_beside {s:Sx} (hs:oneS s) {r:Sx} {l:List CellR} (h:Found3 (besideS s r) l):Found3 s l∧Found3 r l:=by
 obtain ⟨b,o,p,k,rfl⟩:=hs
 have h':Found3 (.node b o p k r) l:=h
 rw [found3_node] at h'
 refine ⟨?_,h'.2.2.2.2⟩
 rw [found3_node]
 exact ⟨h'.1,h'.2.1,h'.2.2.1,h'.2.2.2.1,trivial⟩
theorem OutS.then {l:List CellR} {σ1:St} {S1:PSt} {r:Sx} {M:St→Option SR} {j:Nat} (h:OutS E D l σ1 S1) (off:livesB E σ1 true=false→M σ1=some ⟨j,σ1⟩) (on:R3 E D σ1.cells 0 0 σ1 S1→∃σ',M σ1=some ⟨j,σ'⟩∧OutS E D σ1.cells σ' (stP D r S1)):∃σ',M σ1=some ⟨j,σ'⟩∧OutS E D l σ' (stP D r S1):=by
 obtain ⟨h1,h2,h3⟩:=h
 rcases h3 with ⟨a,b⟩ | ⟨a,b⟩
 ·obtain ⟨σ',e,x1,x2,x3⟩:=on b
  exact ⟨σ',e,h1.trans x1,x2,x3⟩
 ·exact ⟨σ1,off (dead_off b),h1,h2,.inr ⟨by rw [stP_over a];exact a,b⟩⟩
section
variable {M:MS} {P:PS}
theorem blockGo3 (hE:E3 E D) (hT:TokOK E) (hR:Re3 E D M P) (hF:FwdP P) (hO:OneP P) (m:Nat):∀i t j,i < E.toks.length→pItems P E.toks m i=some (.ok (t,j)) →
  (∀σ live,livesB E σ live=false→Bnd E σ i→blockGo M E live (m+1) ⟨i,σ⟩=some ⟨j,σ⟩)∧(∀l σ S,R3 E D l 0 0 σ S→Bnd E σ i→Found3 t l→∃σ',blockGo M E true (m+1) ⟨i,σ⟩=some ⟨j,σ'⟩∧OutS E D l σ' (stP D t S)):=by
 have hN:=hE.ne0
 induction m with
 | zero=>intro i t j _ h;cases h
 | succ m ih=>
  intro i t j hi h
  rw [pItems] at h
  split at h
  ·rename_i hs
   cases h
   have n1:pNeed E.toks sCC i=some (.ok ((),i+1)):=by unfold pNeed;rw [if_pos hs];rfl
   have e:∀σ live,OkS σ→blockGo M E live (m+1+1) ⟨i,σ⟩=some ⟨i+1,σ⟩:=fun σ live ho=>by
    rw [blockGo]
    dsimp only
    rw [if_pos (by rw [is1 hN,hs];rfl),(need1 hN _ n1).1,(need1 hN _ n1).2]
    exact chkR_ok ⟨isT_next hT.last hi hs,ho⟩
   refine ⟨fun σ live _ hb=>e σ live hb.1,fun l σ S hRR hb _=>⟨σ,e σ true hb.1,by rw [hRR.ce];exact SameN.refl _,hb.1,.inl ⟨?_,by rw [hRR.ce];exact hRR⟩⟩⟩
   have:=hRR.lt
   show S.steps≤20000
   omega
  ·rename_i hs
   obtain ⟨s,j1,h1,h⟩:=then_ok h
   obtain ⟨r,j2,h2,h⟩:=then_ok h
   cases h
   have f1:=fwd_okS hF hT hi h1
   have ho:=hO _ _ _ _ h1
   obtain ⟨so,sn⟩:=hR i s j1 hi h1
   obtain ⟨io,in_⟩:=ih j1 r j f1.2 h2
   have e:∀σ live,blockGo M E live (m+1+1) ⟨i,σ⟩=(M E σ i live).bind (blockGo M E live (m+1)):=fun σ live=>by
    rw [blockGo]
    dsimp only
    rw [if_neg (by rw [is1 hN,stop1R hN];simpa using hs)]
   refine ⟨fun σ live hl hb=>?_,fun l σ S hRR hb hf=>?_⟩
   ·rw [e,so σ live hl hb,Option.bind_some]
    exact io σ live hl (hb.cells hb.1 rfl (by omega))
   ·obtain ⟨fs,fr⟩:=found3_beside ho hf
    obtain ⟨σ1,z1,z2⟩:=sn l σ S hRR hb fs
    rw [e,z1,Option.bind_some,stp_beside ho]
    have hb1:Bnd E σ1 j1:=hb.cells z2.2.1 (by rw [z2.1.len,hRR.ce]) (by omega)
    exact z2.then (M:=fun σ=>blockGo M E true (m+1) ⟨j1,σ⟩) (fun hl=>io σ1 true hl hb1) (fun r1=>in_ _ σ1 _ r1 hb1 (z2.1.found fr))
theorem block3 (hE:E3 E D) (hT:TokOK E) (hR:Re3 E D M P) (hF:FwdP P) (hO:OneP P) (n:Nat):Re3 E D (blockM M (n+1)) (pBlock P n):=by
 have hN:=hE.ne0
 intro i t j hi h
 unfold pBlock at h
 split at h
 ·cases h
 obtain ⟨u,j1,h1,h⟩:=then_ok h
 have l1:=need_lt hT hi h1
 obtain ⟨_,e1⟩:=need_okR h1
 obtain ⟨bo,bn⟩:=blockGo3 hE hT hR hF hO n j1 t j l1 h
 have e:∀σ live,blockM M (n+1) E σ i live=blockGo M E live (n+1) ⟨j1,σ⟩:=fun σ live=>by
  unfold blockM
  rw [(need1 hN _ h1).1,(need1 hN _ h1).2,if_pos l1]
 refine ⟨fun σ live hl hb=>?_,fun l σ S hRR hb hf=>?_⟩
 ·rw [e];exact bo σ live hl (hb.cells hb.1 rfl (by omega))
 ·rw [e];exact bn l σ S hRR (hb.cells hb.1 rfl (by omega)) hf
end
theorem word_out {T:List Tok} (hT:TokW T) {i:Nat} {s:ByteArray} (hs:memB s kws=true) (h:isT T i s=true):decide (wP (tkAt T i)=sOUT)=decide (s=sOUT):=by
 rw [(word_kind hT hs h).2]
theorem statement3 {X:MX} {P:PE} {B:MS} {Q:PS} (hE:E3 E D) (hT:TokOK E) (hTW:TokW E.toks) (hR:Rel1 E X P) (hW:W3P E.toks P) (hF:FwdP P) (hB:Re3 E D B Q) (hFB:FwdP Q):Re3 E D (statementM X B) (pStatement P Q):=by
 have hN:=hE.ne0
 intro i t j hi h
 have e:∀σ live,statementM X B E σ i live=if ((tkAt E.toks i).kind==1)=true then assignM X E σ i live else if isT E.toks i sIF=true then choiceM X B E σ i live else if isT E.toks i sFOR=true then loopM B E σ i live else if (isT E.toks i sOUT||isT E.toks i sHIDE)=true then putM X (isT E.toks i sHIDE) E σ i live else chkR E ⟨E.toks.length-1,wrongS E σ i 9⟩:=fun σ live=>by
  unfold statementM
  rw [stop1R hN,if_neg (by simp),is1 hN,is1 hN,is1 hN,is1 hN]
  rfl
 simp only [e]
 unfold pStatement at h
 split at h
 ·rename_i hk
  have ek:(tkAt E.toks i).kind=1:=by simpa using hk
  simp only [if_pos hk]
  exact assign3 hE hT hR hW hF (next_lt hT.last hi (by rw [ek];decide)) ek h
 rename_i hk
 simp only [if_neg hk]
 split at h
 ·rename_i hs
  simp only [if_pos hs]
  exact choice3 hE hT hR hW hF hB hFB (isT_next hT.last hi hs) h
 rename_i h1
 simp only [if_neg h1]
 split at h
 ·rename_i hs
  simp only [if_pos hs]
  exact loop3M hE hT hB (isT_next hT.last hi hs) h
 rename_i h2
 simp only [if_neg h2]
 split at h
 ·rename_i hs
  have hne:isT E.toks i sHIDE=false:=by
   have e:=isT_text hs
   cases h0:isT E.toks i sHIDE
   ·rfl
   ·have e2:=isT_text h0
    rw [e] at e2
    exact absurd (congrArg (fun x=>x.data) e2) (by decide)
  have c:(isT E.toks i sOUT||isT E.toks i sHIDE)=true:=by rw [hs];rfl
  simp only [if_pos c]
  rw [hne]
  exact put3 hE hT hR hW hF false rfl (isT_next hT.last hi hs) (by rw [word_out hTW (by unfold memB kws sOUT;simp) hs];rfl) h
 rename_i h3
 split at h
 ·rename_i hs
  have c:(isT E.toks i sOUT||isT E.toks i sHIDE)=true:=by rw [hs];simp
  simp only [if_pos c]
  rw [hs]
  exact put3 hE hT hR hW hF true rfl (isT_next hT.last hi hs) (by rw [word_out hTW (by unfold memB kws sHIDE;simp) hs];rfl) h
 ·cases h
theorem SB3 (hE:E3 E D) (hT:TokOK E) (hTW:TokW E.toks) (n:Nat):Re3 E D (SBR n).1 (pSB n).1∧Re3 E D (SBR n).2 (pSB n).2:=by
 induction n with
 | zero=>exact ⟨fun i t j _ h=>by (cases h),fun i t j _ h=>by (cases h)⟩
 | succ n ih=>
  rw [pSB]
  split
  ·exact ⟨fun i t j _ h=>by (cases h),fun i t j _ h=>by (cases h)⟩
  rename_i hn2
  obtain ⟨m,rfl⟩:∃m,n=m+2:=⟨n-2,by omega⟩
  rw [SBR]
  exact ⟨statement3 hE hT hTW (XF_rel1 hE.ne0 hT (m+2)).1 (w3_pXF hTW (m+2)).1 (pXF_fwd (m+2)).1 ih.2 (pSB_fwd (m+2)).2,block3 hE hT ih.1 (pSB_fwd (m+2)).1 (pSB_one (m+2)) (m+1)⟩
end
end Go.Proofs.YthmmgiaobakilaaGreat
