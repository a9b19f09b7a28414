import Derived.Test.YthmmgiaobakilaaGreatK43
import Derived.Test.YthmmgiaobakilaaGreatK44
import Derived.Test.YthmmgiaobakilaaGreatK46
set_option maxRecDepth 100000
namespace Go.Proofs.YthmmgiaobakilaaGreat
open Go.RowKit Go.Deep
theorem exS_found {E:Env} (hm:E.mode=1):∀(e:Ex) (σ:St),(exS E e σ).fault=0→FoundX σ.cells e
 | .nil,_,_=>trivial
 | .node _ _ t k r,σ,h=>by
  have h':(exS E r (hdS E t (exH σ.cells k) (exS E k σ))).fault=0:=h
  have h2:=exS_st r _ h'
  have h3:=hdS_st h2
  have c1:(exS E k σ).cells=σ.cells:=(exS_same E k σ).cells
  have c2:(hdS E t (exH σ.cells k) (exS E k σ)).cells=σ.cells:=((hdS_same E t _ _).cells).trans c1
  refine ⟨fun ht=>?_,exS_found hm k σ h3,?_⟩
  ·have e:hdS E t (exH σ.cells k) (exS E k σ)=usedT E (exS E k σ) t:=by unfold hdS;rw [ht];rfl
   rw [e] at h2
   have:=used_found hm h2
   rw [c1] at this
   exact this
  ·have:=exS_found hm r _ h'
   rw [c2] at this
   exact this
theorem decl_new {E:Env} (hm:E.mode=1) {σ:St} {t:Tok} {a b:Bool} (h:(declT E σ t a b).fault=0):findN σ.cells t.text < 0:=by
 unfold declT addC at h
 by_cases hk:0≤findN σ.cells t.text
 ·rw [if_pos (by rw [hm];simp [hk])] at h
  exact absurd h (wrongT_ne (by decide))
 ·omega
theorem num_ok {E:Env} (hm:E.mode=1) {σ:St} {a b:Tok} (h:(numT E σ a b).fault=0):a.num≤b.num∧b.num≤20:=by
 unfold numT at h
 by_cases hk:b.num < a.num∨20 < b.num
 ·rw [if_pos (by rw [hm];simp;exact hk)] at h
  exact absurd h (wrongT_ne (by decide))
 ·omega
theorem shS_node (X:Ex→Prop) (b o:Nat) (p:SP) (k r:Sx):ShS X (.node b o p k r)=(ShS X r∧((p.tag=0∧p.t.kind=1∧X p.e∧k = .nil)∨(p.tag=1∧X p.e∧(match k with
  | .nil=>False
  | .node _ _ q s u=>q.tag=5∧q.e = .nil∧ShS X s∧ShS X u))∨(p.tag=2∧p.t.kind=1∧p.a.kind=2∧p.b.kind=2∧p.e = .nil∧ShS X k)∨(p.tag=3∧p.t.kind=0∧(p.t.text.toList==sHIDE.toList)=false∧X p.e∧k = .nil)∨(p.tag=4∧p.t.kind=0∧(p.t.text.toList==sHIDE.toList)=true∧X p.e∧k = .nil))):=by cases k <;> rfl
theorem stS_found3 {E:Env} (hm:E.mode=1) {X:Ex→Prop} (n:Nat):∀(s:Sx),szS s≤n→ShS X s→∀σ:St,(stS E s σ).fault=0→Found3 s σ.cells:=by
 induction n with
 | zero=>
  intro s hs _ σ _
  cases s with
  | nil=>trivial
  | node b o p k r=>simp [szS] at hs
 | succ n ih=>
  intro s hs hsh σ h
  cases s with
  | nil=>trivial
  | node b o p k r=>
   simp only [szS] at hs
   have hc:(stF E p (stS E k) σ).cells=σ.cells:=(stS_same E (.node 0 0 p k .nil) σ).cells
   have hr0:(stS E r (stF E p (stS E k) σ)).fault=0:=h
   have h1:=(stS_st hm r _ hr0).1
   have shp:=hsh
   rw [shS_node] at shp
   have fr:=ih r (by omega) shp.1 _ hr0
   rw [hc] at fr
   rw [found3_node]
   rcases shp.2 with ⟨t0,_,_,rfl⟩ | ⟨t1,_,hk⟩ | ⟨t2,_,_,_,_,hk⟩ | ⟨t3,_,_,_,rfl⟩ | ⟨t4,_,_,_,rfl⟩
   ·unfold stF at h1
    rw [if_pos t0] at h1
    have h2:=outT_st h1
    have hu:=leadT_st (exS_st _ _ h2)
    have fx:=exS_found hm _ _ h2
    rw [(leadT_same E σ p.t).cells] at fx
    exact ⟨fun _=>used_found hm hu,fun _=>fx,fun e=>by omega,fun e=>by omega,fr⟩
   ·unfold stF at h1
    rw [if_neg (by omega),if_pos t1] at h1
    cases k with
    | nil=>cases hk
    | node b1 o1 q s u=>
     simp only [szS] at hs
     obtain ⟨q5,_,hs1,hu1⟩:=hk
     have sa:=(hS_same E p.e σ).trans (flowT_same E (hS E p.e σ) p.t (hH σ.cells p.e))
     have e5:∀τ,stS E (.node b1 o1 q s u) τ=stS E u (stS E s τ):=fun τ=>by
      show stS E u (stF E q (stS E s) τ)=_
      unfold stF
      rw [if_neg (by omega),if_neg (by omega),if_neg (by omega),if_neg (by omega),if_neg (by omega)]
     rw [e5] at h1
     have h2:=(stS_st hm u _ h1).1
     have h3:=(stS_st hm s _ h2).1
     have fx:=exS_found hm _ _ (flowT_st h3)
     have fs:=ih s (by omega) hs1 _ h2
     have fu:=ih u (by omega) hu1 _ h1
     rw [sa.cells] at fs
     rw [(stS_same E s _).cells,sa.cells] at fu
     exact ⟨fun e=>by omega,fun _=>fx,fun _=>⟨fs,fu⟩,fun e=>by omega,fr⟩
   ·unfold stF at h1
    rw [if_neg (by omega),if_neg (by omega),if_pos t2] at h1
    have h1':(stS E k (numT E (declT E σ p.t false false) p.a p.b)).fault=0:=h1
    have h2:=(stS_st hm k _ h1').1
    have fk:=ih k (by omega) hk _ h1'
    rw [(numT_same E _ p.a p.b).cells,(declT_eq E σ p.t false false).cells] at fk
    obtain ⟨n1,n2⟩:=num_ok hm h2
    exact ⟨fun e=>by omega,fun e=>absurd t2 e,fun e=>by omega,fun _=>⟨decl_new hm (numT_st h2),n1,n2,fk⟩,fr⟩
   ·unfold stF at h1
    rw [if_neg (by omega),if_neg (by omega),if_neg (by omega),if_pos t3] at h1
    have fx:=exS_found hm _ _ (outT_st h1)
    exact ⟨fun e=>by omega,fun _=>fx,fun e=>by omega,fun e=>by omega,fr⟩
   ·unfold stF at h1
    rw [if_neg (by omega),if_neg (by omega),if_neg (by omega),if_neg (by omega),if_pos t4] at h1
    have fx:=exS_found hm _ _ (outT_st h1)
    exact ⟨fun e=>by omega,fun _=>fx,fun e=>by omega,fun e=>by omega,fr⟩
section
variable {E:Env} {D:PD}
theorem names3 (hN:E.mode≠0) (hT:TokOK E) (hd:Bool) (n:Nat):∀σ i l j,i < E.toks.length→pNames E.toks hd n i=some (.ok (l,j))→Bnd E σ i→declGo E hd n ⟨i,σ⟩=some ⟨j,dcS E l σ⟩∧Bnd E (dcS E l σ) j:=by
 induction n with
 | zero=>intro σ i l j _ h;cases h
 | succ n ih=>
  intro σ i l j hi h hb
  rw [pNames] at h
  obtain ⟨t,j1,h1,h⟩:=then_ok h
  have l1:=kind_lt hT (by decide) hi h1
  obtain ⟨_,et,e1⟩:=kind_okR h1
  have b1:Bnd E (declT E σ t hd true) j1:=hb.decl (by omega) hi t hd true
  rw [declGo]
  dsimp only
  rw [(of1 hN _ h1).1,(of1 hN _ h1).2,stop1R hN,if_neg (by simp),decl12 hN,←et,if_pos ⟨l1,b1.1⟩,is1 hN]
  split at h
  ·rename_i hs
   obtain ⟨l',j2,h2,h⟩:=then_ok h
   cases h
   have l2:=isT_next hT.last l1 hs
   rw [if_pos hs,if_pos l2]
   exact ih _ (j1+1) l' j l2 h2 (b1.same (SameSt.refl _) (by omega))
  ·rename_i hs
   obtain ⟨u,j2,h2,h⟩:=then_ok h
   cases h
   rw [if_neg hs]
   have l2:=need_lt hT l1 h2
   obtain ⟨_,e2⟩:=need_okR h2
   refine ⟨?_,b1.same (SameSt.refl _) (by omega)⟩
   rw [(need1 hN _ h2).1,(need1 hN _ h2).2]
   exact chkR_ok ⟨l2,b1.1⟩
theorem decls3 (hN:E.mode≠0) (hT:TokOK E) (f n:Nat):∀σ i l j,i < E.toks.length→pDecls E.toks f n i=some (.ok (l,j))→Bnd E σ i→declsM E f (n+1) ⟨i,σ⟩=some ⟨j,dcS E l σ⟩∧Bnd E (dcS E l σ) j:=by
 induction n with
 | zero=>intro σ i l j _ h;cases h
 | succ n ih=>
  intro σ i l j hi h hb
  rw [pDecls] at h
  rw [declsM]
  dsimp only
  rw [is1 hN,is1 hN]
  split at h
  ·rename_i hs
   have h1:i+1 < E.toks.length:=by
    have hs':=hs
    simp only [Bool.or_eq_true] at hs'
    rcases hs' with hs' | hs' <;> exact isT_next hT.last hi hs'
   obtain ⟨a,j1,e1,h⟩:=then_ok h
   obtain ⟨b,j2,e2,h⟩:=then_ok h
   cases h
   obtain ⟨r1,b1⟩:=names3 hN hT _ f σ (i+1) a j1 h1 e1 (hb.same (SameSt.refl _) (by omega))
   have f1:=names_fwd (isT E.toks i sHIDDEN) hT.last f (i+1) h1
   rw [e1] at f1
   obtain ⟨r2,b2⟩:=ih (dcS E a σ) j1 b j f1.2 e2 b1
   rw [if_pos hs,if_pos h1,r1,Option.bind_some,dcS_append]
   exact ⟨r2,b2⟩
  ·rename_i hs
   cases h
   rw [if_neg hs]
   exact ⟨rfl,hb⟩
theorem body3 {M:MS} {P:PS} (hE:E3 E D) (hT:TokOK E) (hR:Re3 E D M P) (hF:FwdP P) (hO:OneP P) (n:Nat):∀i t j,i < E.toks.length→pBody P E.toks n i=some (.ok (t,j))→∀l σ S,R3 E D l 0 0 σ S→Bnd E σ i→Found3 t l→∃σ',bodyM M E (n+1) ⟨i,σ⟩=some σ'∧OutS E D l σ' (stP D t S):=by
 have hN:=hE.ne0
 induction n with
 | zero=>intro i t j _ h;cases h
 | succ n ih=>
  intro i t j hi h l σ S hRR hb hf
  rw [pBody] at h
  rw [bodyM]
  dsimp only
  rw [stop1R hN,hRR.al]
  split at h
  ·rename_i hs
   cases h
   have hs':((tokAt E i).kind==4)=true:=hs
   rw [hs',if_pos (by simp)]
   refine ⟨σ,rfl,by rw [hRR.ce];exact SameN.refl _,hb.1,.inl ⟨?_,by rw [hRR.ce];exact hRR⟩⟩
   have:=hRR.lt
   show S.steps≤20000
   omega
  ·rename_i hs
   have hs':((tokAt E i).kind==4)=false:=Bool.eq_false_iff.2 hs
   obtain ⟨s,j1,h1,h⟩:=then_ok h
   obtain ⟨r,j2,h2,h⟩:=then_ok h
   cases h
   have f1:=fwd_okS hF hT hi h1
   have ho:=hO _ _ _ _ h1
   obtain ⟨fs,fr⟩:=found3_beside ho hf
   obtain ⟨σ1,z1,x1,x2,x3⟩:=(hR i s j1 hi h1).2 l σ S hRR hb fs
   rw [hs',if_neg (by simp),z1,Option.bind_some,stp_beside ho]
   have hb1:Bnd E σ1 j1:=hb.cells x2 (by rw [x1.len,hRR.ce]) (by omega)
   rcases x3 with ⟨a,b⟩ | ⟨a,b⟩
   ·obtain ⟨σ2,e2,y1,y2,y3⟩:=ih j1 r j f1.2 h2 _ σ1 _ b hb1 (x1.found fr)
    exact ⟨σ2,e2,x1.trans y1,y2,y3⟩
   ·refine ⟨σ1,?_,x1,x2,.inr ⟨by rw [stP_over a];exact a,b⟩⟩
    rw [bodyM]
    dsimp only
    rw [b,if_pos (by simp)]
def dcC (ds:List (Tok×Bool)):List CellR:=ds.map (fun d=>⟨d.1.text,0,d.2,true⟩)
theorem dc3 (hE:E3 E D):∀(ds:List (Tok×Bool)) (σ:St),dcS E ds σ = { σ with cells:=σ.cells++dcC ds }
 | [],σ=>by show σ = { σ with cells:=σ.cells++[] };rw [List.append_nil]
 | d::ds,σ=>by
  have e:declT E σ d.1 d.2 true=addC σ d.1 d.2 true:=by unfold declT;rw [hE.m];rfl
  show dcS E ds (declT E σ d.1 d.2 true)=_
  rw [e,dc3 hE ds]
  unfold addC dcC
  simp
def cells0 (x y:Int) (ds:List (Tok×Bool)):List CellR:=[⟨sXR,x,false,false⟩,⟨sYR,y,false,false⟩]++dcC ds
theorem cells0_vl (x y:Int) (ds:List (Tok×Bool)) (s:ByteArray) (h:0≤findN (cells0 x y ds) s):((cells0 x y ds).getD (findN (cells0 x y ds) s).toNat noCell).val=updR (updR (fun _=>0) nmX x) nmY y s:=by
 obtain ⟨k,hk,hkl⟩:=findN_lt (l:=cells0 x y ds) (s:=s) (by omega)
 obtain ⟨_,hn⟩:=find_text hk
 rw [hk,Int.toNat_natCast]
 have xy:(sXR.toList==sYR.toList)=false:=by decide +kernel
 rcases k with _ | _ | k
 ·have e:sXR.toList=s.toList:=by
   have hn':(sXR.toList==s.toList)=true:=hn
   simpa using hn'
  show x=_
  unfold updR
  rw [show (s.toList==nmY.toList)=false by rw [←e];exact xy,show (s.toList==nmX.toList)=true by rw [←e];exact beq_self_eq_true _]
  rfl
 ·have e:sYR.toList=s.toList:=by
   have hn':(sYR.toList==s.toList)=true:=hn
   simpa using hn'
  show y=_
  unfold updR
  rw [show (s.toList==nmY.toList)=true by rw [←e];exact beq_self_eq_true _]
  rfl
 ·have no:∀j (hj:j < (cells0 x y ds).length),j < k+2→((cells0 x y ds)[j].name.toList==s.toList)=false:=fun j hj hjk=>by
   unfold findN at hk
   cases hf:(cells0 x y ds).findIdx? (fun c=>c.name.toList==s.toList) with
   | none=>rw [hf] at hk;simp at hk;omega
   | some m=>
    rw [hf] at hk
    have em:m=k+2:=by simp at hk;omega
    subst em
    rw [List.findIdx?_eq_some_iff_getElem] at hf
    obtain ⟨_,_,h3⟩:=hf
    simpa using h3 j hjk
  have n0:(sXR.toList==s.toList)=false:=no 0 (by show 0 < _;simp [cells0]) (by omega)
  have n1:(sYR.toList==s.toList)=false:=no 1 (by show 1 < _;simp [cells0]) (by omega)
  have f0:(s.toList==nmX.toList)=false:=by
   cases hc:(s.toList==nmX.toList) with
   | false=>rfl
   | true=>
    have e:s.toList=nmX.toList:=by simpa using hc
    rw [e] at n0
    exact absurd n0 (by decide +kernel)
  have f1:(s.toList==nmY.toList)=false:=by
   cases hc:(s.toList==nmY.toList) with
   | false=>rfl
   | true=>
    have e:s.toList=nmY.toList:=by simpa using hc
    rw [e] at n1
    exact absurd n1 (by decide +kernel)
  unfold updR
  rw [f0,f1]
  show ((cells0 x y ds).getD (k+2) noCell).val=0
  have eg:(cells0 x y ds).getD (k+2) noCell=(dcC ds).getD k noCell:=rfl
  rw [eg]
  unfold dcC
  rw [List.getD,List.getElem?_map]
  cases ds[k]? <;> rfl
structure P3 (E:Env) (D:PD) (σ:St) (S:PSt):Prop where
 al:σ.dead=false
 st:σ.steps=S.steps
 le:σ.steps≤20000
 t0:0≤σ.touched
 tk:σ.touched≤σ.steps
 tt:σ.touched=S.touched
 tr:σ.trace=S.trace
 op:σ.opn=S.opn
 hi:σ.hid=S.hid
 lo:(σ.opn.length:Int)=D.sw*D.sh
 lh:(σ.hid.length:Int)=D.sw*D.sh
theorem R3.out {l:List CellR} {σ:St} {S:PSt} (h:R3 E D l 0 0 σ S):P3 E D σ S:=
 ⟨h.al,by have:=h.st;omega,h.le,h.t0,by have:=h.tk;omega,h.tt,h.tr,h.op,h.hi,h.lo,h.lh⟩
theorem source3 (hE:E3 E D) (hT:TokOK E) (hTW:TokW E.toks) (hlen:E.toks.length≤900) (m:Nat) {ds:List (Tok×Bool)} {t:Sx} {j:Nat} (h:pSource (m+1) E.toks=some (.ok ((ds,t),j))) (hdl:ds.length≤900) (hf:Found3 t (cells0 0 0 ds)) {σ:St} {S:PSt} (hP:P3 E D σ S) :
  ∃σ',sourceM (m+1) E σ=some σ'∧OkS σ'∧(((ptOne D t S (E.point % D.sw,E.point / D.sw)).steps≤20000∧P3 E D σ' (ptOne D t S (E.point % D.sw,E.point / D.sw)))∨(20000 < (ptOne D t S (E.point % D.sw,E.point / D.sw)).steps∧σ'.dead=true)):=by
 have hN:=hE.ne0
 have hi:=hT.last.1
 have w1:=hE.ok.w1
 have w2:=hE.ok.w2
 have h1':=hE.ok.h1
 have p0:=hE.p0
 have p1:=hE.p1
 have hok:OkS (startS E σ):=⟨by simp [startS],by show 0≤σ.steps;have:=hP.t0;have:=hP.tk;omega,hP.t0,by show σ.touched≤_;have:=hP.tk;have:=hP.le;omega⟩
 have hs:Bnd E (startS E σ) 0:=⟨hok,by simp [startS];omega⟩
 unfold pSource at h
 simp only [Nat.add_sub_cancel] at h
 obtain ⟨ds',j1,h1,h⟩:=then_ok h
 obtain ⟨t',j2,h2,h⟩:=then_ok h
 cases h
 have f1:=decls_fwd hT.last (m+1) m 0 hi
 rw [h1] at f1
 obtain ⟨r1,b1⟩:=decls3 hN hT (m+1) m (startS E σ) 0 ds j1 hi h1 hs
 have e0:dcS E ds (startS E σ) = { σ with cells:=cells0 (E.point % D.sw) (E.point / D.sw) ds }:=by
  rw [dc3 hE]
  unfold startS cells0
  rw [hE.m,hE.w]
  rfl
 rw [e0] at r1 b1
 have x0:0≤E.point % D.sw:=Int.emod_nonneg _ (by omega)
 have x1:E.point % D.sw < D.sw:=Int.emod_lt_of_pos _ (by omega)
 have y0:0≤E.point / D.sw:=Int.ediv_nonneg p0 (by omega)
 have y1:E.point / D.sw≤E.point:=Int.ediv_le_self _ p0
 have pm:D.sw*D.sh≤36:=by
  have:=Int.mul_le_mul w2 hE.ok.h2 (by omega) (by decide)
  omega
 have rr:R3 E D (cells0 (E.point % D.sw) (E.point / D.sw) ds) 0 0 { σ with cells:=cells0 (E.point % D.sw) (E.point / D.sw) ds } (beginP S (E.point % D.sw) (E.point / D.sw)):=by
  refine ⟨hP.al,rfl,?_,by show σ.steps=S.steps+0;have:=hP.st;omega,hP.le,Int.le_refl _,Int.le_refl _,hP.t0,by have:=hP.tk;show σ.touched+0+0≤σ.steps;omega,hP.tt,hP.tr,hP.op,hP.hi,fun s hf=>cells0_vl _ _ _ s hf,fun s=>?_,?_,hP.lo,hP.lh⟩
  ·unfold cells0 dcC
   simp
   omega
  ·show In32 (updR (updR (fun _=>0) nmX (E.point % D.sw)) nmY (E.point / D.sw) s)
   unfold updR
   split
   ·exact ⟨by omega,by omega⟩
   ·split
    ·exact ⟨by omega,by omega⟩
    ·exact in0
  ·show (E.point / D.sw)*D.sw+E.point % D.sw=E.point
   rw [Int.mul_comm]
   exact Int.mul_ediv_add_emod _ _
 have ff:Found3 t (cells0 (E.point % D.sw) (E.point / D.sw) ds):=SameN.found (l:=cells0 0 0 ds) (by unfold SameN cells0;simp) hf
 obtain ⟨σ',z1,z2,z3,z4⟩:=body3 hE hT (SB3 hE hT hTW (m+1)).1 (pSB_fwd (m+1)).1 (pSB_one (m+1)) m j1 t j f1.2 h2 _ _ _ rr b1 ff
 refine ⟨σ',?_,z3,?_⟩
 ·unfold sourceM
  rw [if_neg (by rw [hE.m,hE.w,decide_eq_true w1,decide_eq_true w2,decide_eq_true p0,decide_eq_true (show E.point < 1000 by omega)];decide),r1,Option.bind_some]
  exact z1
 ·rcases z4 with ⟨a,b⟩ | ⟨a,b⟩
  ·exact .inl ⟨a,b.out⟩
  ·exact .inr ⟨a,b⟩
end
end Go.Proofs.YthmmgiaobakilaaGreat
