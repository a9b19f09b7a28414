import Derived.Test.YthmmgiaobakilaaGreatK17
import Derived.Test.YthmmgiaobakilaaGreatK40
import Derived.Test.YthmmgiaobakilaaGreatK41
set_option maxRecDepth 100000
namespace Go.Proofs.YthmmgiaobakilaaGreat
open Go.RowKit Go.Deep
structure E3 (E:Env) (D:PD):Prop where
 m:E.mode=3
 w:E.sw=D.sw
 h:E.sh=D.sh
 o:E.opens=D.opens
 d:E.hids=D.hids
 ok:D.Ok
 p0:0≤E.point
 p1:E.point < D.sw*D.sh
 to:∀i,In32 (D.opens.getD i 0)
 th:∀i,In32 (D.hids.getD i 0)
structure R3 (E:Env) (D:PD) (l:List CellR) (q k:Int) (σ:St) (S:PSt):Prop where
 al:σ.dead=false
 ce:σ.cells=l
 cl:l.length≤1000
 st:σ.steps=S.steps+k
 le:σ.steps≤20000
 k0:0≤k
 q0:0≤q
 t0:0≤σ.touched
 tk:σ.touched+k+q≤σ.steps
 tt:σ.touched=S.touched
 tr:σ.trace=S.trace
 op:σ.opn=S.opn
 hi:σ.hid=S.hid
 vl:∀s,0≤findN l s→(l.getD (findN l s).toNat noCell).val=S.vals s
 vb:∀s,In32 (S.vals s)
 pt:hereP D S=E.point
 lo:(σ.opn.length:Int)=D.sw*D.sh
 lh:(σ.hid.length:Int)=D.sw*D.sh
section
variable {E:Env} {D:PD} {l:List CellR} {q k:Int} {σ:St} {S:PSt}
theorem R3.okS (h:R3 E D l q k σ S):OkS σ:=by
 have:=h.le;have:=h.k0;have:=h.q0;have:=h.t0;have:=h.tk;have:=h.cl;have:=h.ce
 unfold OkS
 rw [h.ce]
 exact ⟨h.cl,by omega,h.t0,by omega⟩
theorem R3.lives (hE:E3 E D) (h:R3 E D l q k σ S):livesB E σ true=true:=by unfold livesB;rw [hE.m,h.al];rfl
theorem R3.on (hE:E3 E D) (h:R3 E D l q k σ S) (hs:σ.steps < 20000):stepS E σ true = { σ with steps:=σ.steps+1 }∧stepB E σ true=true∧R3 E D l q (k+1) (stepS E σ true) S:=by
 have e:stepS E σ true = { σ with steps:=σ.steps+1 }:=by
  unfold stepS;rw [h.lives hE,if_pos rfl,if_neg (by omega)]
 refine ⟨e,by unfold stepB;rw [h.lives hE,decide_eq_true hs];rfl,?_⟩
 rw [e]
 exact ⟨h.al,h.ce,h.cl,by show σ.steps+1=_;have:=h.st;omega,by show σ.steps+1≤_;omega,by have:=h.k0;omega,h.q0,h.t0,by show σ.touched+(k+1)+q≤σ.steps+1;have:=h.tk;omega,h.tt,h.tr,h.op,h.hi,h.vl,h.vb,h.pt,h.lo,h.lh⟩
theorem R3.die (hE:E3 E D) (h:R3 E D l q k σ S) (hs:¬ σ.steps < 20000):stepS E σ true = { σ with dead:=true }∧stepB E σ true=false:=by
 refine ⟨by unfold stepS;rw [h.lives hE,if_pos rfl,if_pos (by omega)],by unfold stepB;rw [decide_eq_false hs,Bool.and_false]⟩
theorem dead_off {live:Bool} (h:σ.dead=true):livesB E σ live=false:=by unfold livesB;rw [h];simp
theorem step_off {live:Bool} (h:livesB E σ live=false):stepS E σ live=σ∧stepB E σ live=false:=⟨by unfold stepS;rw [h];rfl,by unfold stepB;rw [h];rfl⟩
theorem used3 (hE:E3 E D) (σ:St) (t:Tok):usedT E σ t=σ:=by unfold usedT;rw [hE.m];rfl
theorem flow3 (hE:E3 E D) (σ:St) (t:Tok) (b:Bool):flowT E σ t b=σ:=by unfold flowT;rw [hE.m];rfl
theorem wrap_eq (x:Int):wrapV x=wrap32 x:=by unfold wrapV wrap32;omega
theorem wrap_in {x:Int} (h:In32 x):wrap32 x=x:=by unfold In32 at h;unfold wrap32;omega
theorem place_eq (hE:E3 E D) (a b:Int):placeR E a b=placeV D a b:=by
 unfold placeR placeV withinV
 rw [hE.w,hE.h,Int.mul_comm D.sw,Int.add_comm]
def Off (E:Env) (live:Bool) (f:St→Option VR):Prop:=∀σ,livesB E σ live=false→OkS σ→∃v h,f σ=some (v,h,σ)∧In32 v
def On (E:Env) (D:PD) (l:List CellR) (d:Int) (f:St→Option VR) (g:PSt→Int×PSt) (n:Nat):Prop:=∀(q k:Int) (σ:St) (S:PSt),R3 E D l q k σ S→∃v h σ',f σ=some (v,h,σ')∧In32 v∧OkS σ'∧σ'.cells=l ∧
 ((σ.steps+n+d≤20000∧v=(g S).1∧R3 E D l q (k+d) σ' (g S).2∧σ'.steps=σ.steps+n+d)∨(20000 < σ.steps+n+d∧σ'.dead=true))
theorem R3.pay (h:R3 E D l q (k+1) σ S) (hk:0≤k):R3 E D l q k σ (stepP S):=
 ⟨h.al,h.ce,h.cl,by show σ.steps=S.steps+1+k;have:=h.st;omega,h.le,hk,h.q0,h.t0,by have:=h.tk;omega,h.tt,h.tr,h.op,h.hi,h.vl,h.vb,h.pt,h.lo,h.lh⟩
theorem R3.touch (h:R3 E D l q (k+1) σ S) (hk:0≤k) (a b:Int):R3 E D l q k (touchS σ a b) (touchP (stepP S) a b):=by
 have ht:=h.tr
 have hl:σ.trace.length=S.trace.length:=by rw [ht]
 unfold touchS touchP
 have hl':(stepP S).trace.length=σ.trace.length:=hl.symm
 rw [hl']
 split
 ·exact ⟨h.al,h.ce,h.cl,by show σ.steps=S.steps+1+k;have:=h.st;omega,h.le,hk,h.q0,by show 0≤σ.touched+1;have:=h.t0;omega,by show σ.touched+1+k+q≤σ.steps;have:=h.tk;omega,by show σ.touched+1=S.touched+1;rw [h.tt],by show σ.trace++_=S.trace++_;rw [ht],h.op,h.hi,h.vl,h.vb,h.pt,h.lo,h.lh⟩
 ·exact ⟨h.al,h.ce,h.cl,by show σ.steps=S.steps+1+k;have:=h.st;omega,h.le,hk,h.q0,by show 0≤σ.touched+1;have:=h.t0;omega,by show σ.touched+1+k+q≤σ.steps;have:=h.tk;omega,by show σ.touched+1=S.touched+1;rw [h.tt],ht,h.op,h.hi,h.vl,h.vb,h.pt,h.lo,h.lh⟩
theorem on_pre (hE:E3 E D) {f:St→Option VR} {g:PSt→Int×PSt} {n:Nat} (h:On E D l 0 f g n) (ho:Off E true f):On E D l 1 (fun σ=>f (stepS E σ true)) g n:=by
 intro q k σ S hR
 by_cases hs:σ.steps < 20000
 ·obtain ⟨e,_,r⟩:=hR.on hE hs
  obtain ⟨v,hh,σ',e1,e2,e3,e4,e5⟩:=h q (k+1) (stepS E σ true) S r
  have es:(stepS E σ true).steps=σ.steps+1:=by rw [e]
  refine ⟨v,hh,σ',e1,e2,e3,e4,?_⟩
  rcases e5 with ⟨a,b,c,d⟩ | ⟨a,b⟩
  ·exact .inl ⟨by omega,b,by rw [Int.add_zero] at c;exact c,by omega⟩
  ·exact .inr ⟨by omega,b⟩
 ·obtain ⟨e,_⟩:=hR.die hE hs
  have od:OkS (stepS E σ true):=by rw [e];exact hR.okS
  have dd:(stepS E σ true).dead=true:=by rw [e]
  obtain ⟨v,hh,e1,e2⟩:=ho (stepS E σ true) (dead_off dd) od
  exact ⟨v,hh,_,e1,e2,od,by rw [e];exact hR.ce,.inr ⟨by omega,dd⟩⟩
theorem off_pre {live:Bool} {f:St→Option VR} (h:Off E live f):Off E live (fun σ=>f (stepS E σ live)):=by
 intro σ hl ho
 show ∃v h,f (stepS E σ live)=some (v,h,σ)∧In32 v
 rw [(step_off hl).1]
 exact h σ hl ho
theorem on_pair {A B:St→Option VR} {gA gB:PSt→Int×PSt} {nA nB:Nat} {dA dB:Int} (hA:On E D l dA A gA nA) (hB:On E D l dB B gB nB) (oB:Off E true B) (hd:0≤dB) (q k:Int) (σ:St) (S:PSt) (hR:R3 E D l q k σ S) :
  ∃a b:VR,A σ=some a∧B a.2.2=some b∧In32 a.1∧In32 b.1∧OkS b.2.2∧b.2.2.cells=l ∧
   ((σ.steps+(nA+nB:Nat)+(dA+dB)≤20000∧a.1=(gA S).1∧b.1=(gB (gA S).2).1∧R3 E D l q (k+(dA+dB)) b.2.2 (gB (gA S).2).2∧b.2.2.steps=σ.steps+(nA+nB:Nat)+(dA+dB))∨(20000 < σ.steps+(nA+nB:Nat)+(dA+dB)∧b.2.2.dead=true)):=by
 obtain ⟨v,hh,σ1,e1,e2,e3,e4,e5⟩:=hA q k σ S hR
 rcases e5 with ⟨a,b,c,d⟩ | ⟨a,b⟩
 ·obtain ⟨u,h2,σ2,f1,f2,f3,f4,f5⟩:=hB q (k+dA) σ1 _ c
  refine ⟨(v,hh,σ1),(u,h2,σ2),e1,f1,e2,f2,f3,f4,?_⟩
  rcases f5 with ⟨p,u2,r,s⟩ | ⟨p,u2⟩
  ·exact .inl ⟨by omega,b,u2,by rw [←Int.add_assoc];exact r,by show σ2.steps=_;omega⟩
  ·exact .inr ⟨by omega,u2⟩
 ·obtain ⟨u,h2,f1,f2⟩:=oB σ1 (dead_off b) e3
  exact ⟨(v,hh,σ1),(u,h2,σ1),e1,f1,e2,f2,e3,e4,.inr ⟨by omega,b⟩⟩
theorem off_pair {live:Bool} {A B:St→Option VR} (oA:Off E live A) (oB:Off E live B) {σ:St} (hl:livesB E σ live=false) (ho:OkS σ):∃a b:VR,A σ=some a∧B a.2.2=some b∧In32 a.1∧In32 b.1∧a.2.2=σ∧b.2.2=σ:=by
 obtain ⟨v,h,e1,e2⟩:=oA σ hl ho
 obtain ⟨u,h2,f1,f2⟩:=oB σ hl ho
 exact ⟨(v,h,σ),(u,h2,σ),e1,f1,e2,f2,rfl,rfl⟩
end
theorem rune8:∀s∈ops8,∀a b:Int,opV (runeOf s) a b=doesV s a b:=by
 intro s hs a b
 simp only [ops8,opsT,opsS,opsE,List.mem_append,List.mem_cons,List.not_mem_nil,or_false] at hs
 rcases hs with (rfl | rfl) | (rfl | rfl) | (rfl | rfl | rfl | rfl)
 all_goals kernel_rfl
end Go.Proofs.YthmmgiaobakilaaGreat

set_option maxRecDepth 100000
namespace Go.Proofs.YthmmgiaobakilaaGreat
open Go.RowKit Go.Deep
theorem On.congr {E:Env} {D:PD} {l:List CellR} {d:Int} {f:St→Option VR} {g g':PSt→Int×PSt} {n:Nat} (h:On E D l d f g n) (e:∀S,g' S=g S):On E D l d f g' n:=by
 rw [funext e];exact h
theorem On.same {E:Env} {D:PD} {l:List CellR} {d:Int} {f f':St→Option VR} {g:PSt→Int×PSt} {n:Nat} (h:On E D l d f g n) (e:∀σ,f' σ=f σ):On E D l d f' g n:=by
 rw [funext e];exact h
theorem Off.same {E:Env} {live:Bool} {f f':St→Option VR} (h:Off E live f) (e:∀σ,f' σ=f σ):Off E live f':=by
 rw [funext e];exact h
section
variable {E:Env} {D:PD} {l:List CellR} {t:Tok}
theorem off_num {live:Bool} (hk:t.kind=2) (hn:In32 t.num):Off E live (fun σ=>okV (namedT E σ t live)):=by
 intro σ hl ho
 refine ⟨t.num,false,?_,hn⟩
 show okV (namedT E σ t live)=_
 have e:namedT E σ t live=(t.num,false,σ):=by unfold namedT;rw [hk,(step_off hl).1];rfl
 rw [e,okV_ok ho hn]
theorem off_name (hE:E3 E D) {live:Bool} (hk:t.kind=1):Off E live (fun σ=>okV (namedT E σ t live)):=by
 intro σ hl ho
 have e:∃h,namedT E σ t live=(0,h,σ):=by
  unfold namedT
  rw [hk,if_neg (by decide),hE.m,if_neg (by decide),(step_off hl).1,(step_off hl).2,used3 hE]
  split
  ·exact ⟨_,rfl⟩
  ·exact ⟨_,rfl⟩
 obtain ⟨h,e⟩:=e
 exact ⟨0,h,by show okV (namedT E σ t live)=_;rw [e,okV_ok ho in0],in0⟩
theorem on_num (hE:E3 E D) (hk:t.kind=2) (hn:In32 t.num):On E D l 0 (fun σ=>okV (namedT E σ t true)) (fun S=>(t.num,stepP S)) 1:=by
 intro q k σ S hR
 have e:namedT E σ t true=(t.num,false,stepS E σ true):=by unfold namedT;rw [hk];rfl
 by_cases hs:σ.steps < 20000
 ·obtain ⟨e1,_,r⟩:=hR.on hE hs
  exact ⟨t.num,false,stepS E σ true,by show okV (namedT E σ t true)=_;rw [e,okV_ok r.okS hn],hn,r.okS,r.ce,.inl ⟨by omega,rfl,by rw [Int.add_zero];exact r.pay hR.k0,by rw [e1];show σ.steps+1=_;omega⟩⟩
 ·obtain ⟨e1,_⟩:=hR.die hE hs
  have od:OkS (stepS E σ true):=by rw [e1];exact hR.okS
  exact ⟨t.num,false,stepS E σ true,by show okV (namedT E σ t true)=_;rw [e,okV_ok od hn],hn,od,by rw [e1];exact hR.ce,.inr ⟨by omega,by rw [e1]⟩⟩
theorem on_name (hE:E3 E D) (hk:t.kind=1) (hf:0≤findN l t.text):On E D l 0 (fun σ=>okV (namedT E σ t true)) (fun S=>(S.vals t.text,stepP S)) 1:=by
 intro q k σ S hR
 have cs:(stepS E σ true).cells=l:=by
  unfold stepS
  split
  ·split <;> exact hR.ce
  ·exact hR.ce
 have e:namedT E σ t true=(if stepB E σ true then (l.getD (findN l t.text).toNat noCell).val else 0,(l.getD (findN l t.text).toNat noCell).hid,stepS E σ true):=by
  unfold namedT
  rw [hk,if_neg (by decide),hE.m,if_neg (by decide),used3 hE]
  unfold usedKT cellOf
  rw [cs,if_neg (by omega)]
 by_cases hs:σ.steps < 20000
 ·obtain ⟨e1,e2,r⟩:=hR.on hE hs
  have iv:=hR.vb t.text
  rw [←hR.vl _ hf] at iv
  refine ⟨(l.getD (findN l t.text).toNat noCell).val,(l.getD (findN l t.text).toNat noCell).hid,stepS E σ true,?_,iv,r.okS,r.ce,.inl ⟨by omega,hR.vl _ hf,by rw [Int.add_zero];exact r.pay hR.k0,by rw [e1];show σ.steps+1=_;omega⟩⟩
  show okV (namedT E σ t true)=_
  rw [e,e2,if_pos rfl,okV_ok r.okS iv]
 ·obtain ⟨e1,e2⟩:=hR.die hE hs
  have od:OkS (stepS E σ true):=by rw [e1];exact hR.okS
  refine ⟨0,(l.getD (findN l t.text).toNat noCell).hid,stepS E σ true,?_,in0,od,by rw [e1];exact hR.ce,.inr ⟨by omega,by rw [e1]⟩⟩
  show okV (namedT E σ t true)=_
  rw [e,e2,if_neg (by decide),okV_ok od in0]
theorem off_neg {live:Bool} {A:St→Option VR} (oA:Off E live A):Off E live (fun σ=>(A (stepS E σ live)).bind negT):=by
 intro σ hl ho
 obtain ⟨v,h,e1,_⟩:=off_pre oA σ hl ho
 refine ⟨wrapV (-v),h,?_,wrapV_in _⟩
 show (A (stepS E σ live)).bind negT=_
 have e1':A (stepS E σ live)=some (v,h,σ):=e1
 rw [e1',Option.bind_some]
 exact okV_ok ho (wrapV_in _)
theorem on_neg (hE:E3 E D) {A:St→Option VR} {gA:PSt→Int×PSt} {n:Nat} (hA:On E D l 0 A gA n) (oA:Off E true A):On E D l 0 (fun σ=>(A (stepS E σ true)).bind negT) (fun S=>(wrap32 (-(gA S).1),stepP (gA S).2)) (n+1):=by
 intro q k σ S hR
 obtain ⟨v,h,σ',e1,e2,e3,e4,e5⟩:=on_pre hE hA oA q k σ S hR
 have e1':A (stepS E σ true)=some (v,h,σ'):=e1
 refine ⟨wrapV (-v),h,σ',?_,wrapV_in _,e3,e4,?_⟩
 ·show (A (stepS E σ true)).bind negT=_
  rw [e1',Option.bind_some]
  exact okV_ok e3 (wrapV_in _)
 ·rcases e5 with ⟨a,b,c,d⟩ | ⟨a,b⟩
  ·exact .inl ⟨by omega,by rw [b,wrap_eq],by rw [Int.add_zero];exact c.pay hR.k0,by omega⟩
  ·exact .inr ⟨by omega,b⟩
theorem off_bin {live:Bool} {A B:St→Option VR} (oA:Off E live A) (oB:Off E live B):Off E live (fun σ=>(A σ).bind fun a=>(B (stepS E a.2.2 live)).bind fun b=>binT t a b):=by
 intro σ hl ho
 obtain ⟨a,b,e1,e2,i1,i2,e3,e4⟩:=off_pair oA (off_pre oB) hl ho
 refine ⟨doesV t.text a.1 b.1,a.2.1||b.2.1,?_,doesV_in i1 i2⟩
 show (A σ).bind _=_
 have e2':B (stepS E a.2.2 live)=some b:=e2
 rw [e1,Option.bind_some,e2',Option.bind_some]
 show some (doesV t.text a.1 b.1,a.2.1||b.2.1,b.2.2)=_
 rw [e4]
theorem on_bin (hE:E3 E D) {A B:St→Option VR} {gA gB:PSt→Int×PSt} {nA nB:Nat} (hA:On E D l 0 A gA nA) (hB:On E D l 0 B gB nB) (oB:Off E true B):On E D l 0 (fun σ=>(A σ).bind fun a=>(B (stepS E a.2.2 true)).bind fun b=>binT t a b) (fun S=>(doesV t.text (gA S).1 (gB (gA S).2).1,stepP (gB (gA S).2).2)) (nA+nB+1):=by
 intro q k σ S hR
 obtain ⟨a,b,e1,e2,i1,i2,e3,e4,e5⟩:=on_pair (E:=E) hA (on_pre hE hB oB) (off_pre oB) (by decide) q k σ S hR
 have e2':B (stepS E a.2.2 true)=some b:=e2
 refine ⟨doesV t.text a.1 b.1,a.2.1||b.2.1,b.2.2,?_,doesV_in i1 i2,e3,e4,?_⟩
 ·show (A σ).bind _=_
  rw [e1,Option.bind_some,e2',Option.bind_some]
  rfl
 ·rcases e5 with ⟨p,q1,r,s,u⟩ | ⟨p,q1⟩
  ·exact .inl ⟨by omega,by rw [q1,r],by rw [Int.add_zero];rw [Int.zero_add] at s;exact s.pay hR.k0,by omega⟩
  ·exact .inr ⟨by omega,q1⟩
theorem off_both {live:Bool} {A B:St→Option VR} (oA:Off E live A) (oB:Off E live B):Off E live (fun σ=>(A (stepS E σ live)).bind fun a=>(B a.2.2).bind fun b=>bothT t a b):=by
 intro σ hl ho
 obtain ⟨a,b,e1,e2,i1,i2,e3,e4⟩:=off_pair (off_pre oA) oB hl ho
 refine ⟨doesV t.text a.1 b.1,a.2.1||b.2.1,?_,doesV_in i1 i2⟩
 show (A (stepS E σ live)).bind _=_
 have e1':A (stepS E σ live)=some a:=e1
 rw [e1',Option.bind_some,e2,Option.bind_some]
 unfold bothT
 rw [if_pos ⟨i1,i2⟩,e4,okV_ok ho (doesV_in i1 i2)]
theorem on_both (hE:E3 E D) {A B:St→Option VR} {gA gB:PSt→Int×PSt} {nA nB:Nat} (hA:On E D l 0 A gA nA) (oA:Off E true A) (hB:On E D l 0 B gB nB) (oB:Off E true B):On E D l 0 (fun σ=>(A (stepS E σ true)).bind fun a=>(B a.2.2).bind fun b=>bothT t a b) (fun S=>(doesV t.text (gA S).1 (gB (gA S).2).1,stepP (gB (gA S).2).2)) (nA+nB+1):=by
 intro q k σ S hR
 obtain ⟨a,b,e1,e2,i1,i2,e3,e4,e5⟩:=on_pair (E:=E) (on_pre hE hA oA) hB oB (by decide) q k σ S hR
 have e1':A (stepS E σ true)=some a:=e1
 refine ⟨doesV t.text a.1 b.1,a.2.1||b.2.1,b.2.2,?_,doesV_in i1 i2,e3,e4,?_⟩
 ·show (A (stepS E σ true)).bind _=_
  rw [e1',Option.bind_some,e2,Option.bind_some]
  unfold bothT
  rw [if_pos ⟨i1,i2⟩]
  exact okV_ok (r:=(doesV t.text a.1 b.1,a.2.1||b.2.1,b.2.2)) e3 (doesV_in i1 i2)
 ·rcases e5 with ⟨p,q1,r,s,u⟩ | ⟨p,q1⟩
  ·exact .inl ⟨by omega,by rw [q1,r],by rw [Int.add_zero];exact s.pay hR.k0,by omega⟩
  ·exact .inr ⟨by omega,q1⟩
theorem off_tex (hE:E3 E D) {live:Bool} (hid:Bool) {A B:St→Option VR} (oA:Off E live A) (oB:Off E live B):Off E live (fun σ=>(A (stepS E σ live)).bind fun a=>(B a.2.2).bind fun b=>texT E t live hid a b):=by
 intro σ hl ho
 obtain ⟨a,b,e1,e2,i1,i2,e3,e4⟩:=off_pair (off_pre oA) oB hl ho
 refine ⟨0,hid||a.2.1||b.2.1,?_,in0⟩
 show (A (stepS E σ live)).bind _=_
 have e1':A (stepS E σ live)=some a:=e1
 rw [e1',Option.bind_some,e2,Option.bind_some]
 unfold texT
 rw [flow3 hE,e4,hl,if_neg (by decide),okV_ok ho in0]
theorem on_tex (hE:E3 E D) (hid:Bool) {A B:St→Option VR} {gA gB:PSt→Int×PSt} {nA nB:Nat} (hA:On E D l 0 A gA nA) (oA:Off E true A) (hB:On E D l 0 B gB nB) (oB:Off E true B):On E D l 0 (fun σ=>(A (stepS E σ true)).bind fun a=>(B a.2.2).bind fun b=>texT E t true hid a b) (fun S=>(wrap32 ((if hid then D.hids else D.opens).getD (placeV D (gA S).1 (gB (gA S).2).1).toNat 0),touchP (stepP (gB (gA S).2).2) (truthV hid) (placeV D (gA S).1 (gB (gA S).2).1))) (nA+nB+1):=by
 intro q k σ S hR
 obtain ⟨a,b,e1,e2,i1,i2,e3,e4,e5⟩:=on_pair (E:=E) (on_pre hE hA oA) hB oB (by decide) q k σ S hR
 have e1':A (stepS E σ true)=some a:=e1
 have run:((A (stepS E σ true)).bind fun a=>(B a.2.2).bind fun b=>texT E t true hid a b)=texT E t true hid a b:=by
  rw [e1',Option.bind_some,e2,Option.bind_some]
 rcases e5 with ⟨p,q1,r,s,u⟩ | ⟨p,q1⟩
 ·obtain ⟨p1,p2⟩:=place_in (D:=D) a.1 b.1 hE.ok.w1 hE.ok.h1
  have s':R3 E D l q (k+1) b.2.2 (gB (gA S).2).2:=s
  have tc:=s'.touch hR.k0 (truthV hid) (placeV D a.1 b.1)
  have iv:In32 ((if hid then D.hids else D.opens).getD (placeV D a.1 b.1).toNat 0):=by
   cases hid
   ·exact hE.to _
   ·exact hE.th _
  have lo:=hE.ok.lo
  have lh:=hE.ok.lh
  refine ⟨(if hid then D.hids else D.opens).getD (placeV D a.1 b.1).toNat 0,hid,touchS b.2.2 (truthV hid) (placeV D a.1 b.1),?_,iv,tc.okS,tc.ce,.inl ⟨by omega,?_,?_,?_⟩⟩
  ·show ((A (stepS E σ true)).bind fun a=>(B a.2.2).bind fun b=>texT E t true hid a b)=_
   rw [run]
   unfold texT
   rw [flow3 hE,s'.lives hE,if_pos rfl,place_eq hE,hE.w,hE.h,hE.o,hE.d,if_pos ⟨hE.ok.w1,hE.ok.w2,hE.ok.h1,hE.ok.h2,p1,by omega,by omega⟩,okV_ok tc.okS iv]
  ·show _=wrap32 ((if hid then D.hids else D.opens).getD (placeV D (gA S).1 (gB (gA S).2).1).toNat 0)
   rw [←q1,←r];exact (wrap_in iv).symm
  ·show R3 E D l q (k+0) _ (touchP (stepP (gB (gA S).2).2) (truthV hid) (placeV D (gA S).1 (gB (gA S).2).1))
   rw [←q1,←r,Int.add_zero];exact tc
  ·have:(touchS b.2.2 (truthV hid) (placeV D a.1 b.1)).steps=b.2.2.steps:=by unfold touchS;split <;> rfl
   omega
 ·refine ⟨0,hid||a.2.1||b.2.1,b.2.2,?_,in0,e3,e4,.inr ⟨by omega,q1⟩⟩
  show ((A (stepS E σ true)).bind fun a=>(B a.2.2).bind fun b=>texT E t true hid a b)=_
  rw [run]
  unfold texT
  rw [flow3 hE,dead_off q1,if_neg (by decide)]
  exact okV_ok (r:=(0,hid||a.2.1||b.2.1,b.2.2)) e3 in0
theorem off_sel {live:Bool} {A B C:St→Option VR} (oA:Off E live A) (oB:Off E live B) (oC:Off E live C):Off E live (fun σ=>(A (stepS E σ live)).bind fun a=>(B a.2.2).bind fun b=>(C b.2.2).bind fun c=>selT a b c):=by
 intro σ hl ho
 obtain ⟨a,b,e1,e2,i1,i2,e3,e4⟩:=off_pair (off_pre oA) oB hl ho
 obtain ⟨v,h,e5,i3⟩:=oC σ hl ho
 have e1':A (stepS E σ live)=some a:=e1
 have run:((A (stepS E σ live)).bind fun a=>(B a.2.2).bind fun b=>(C b.2.2).bind fun c=>selT a b c)=selT a b (v,h,σ):=by
  rw [e1',Option.bind_some,e2,Option.bind_some,e4,e5,Option.bind_some]
 have run':(fun σ=>(A (stepS E σ live)).bind fun a=>(B a.2.2).bind fun b=>(C b.2.2).bind fun c=>selT a b c) σ=selT a b (v,h,σ):=run
 rw [run']
 unfold selT
 split
 ·exact ⟨_,_,okV_ok ho i3,i3⟩
 ·exact ⟨_,_,okV_ok ho i2,i2⟩
theorem on_sel (hE:E3 E D) {A B C:St→Option VR} {gA gB gC:PSt→Int×PSt} {nA nB nC:Nat} (hA:On E D l 0 A gA nA) (oA:Off E true A) (hB:On E D l 0 B gB nB) (oB:Off E true B) (hC:On E D l 0 C gC nC) (oC:Off E true C):On E D l 0 (fun σ=>(A (stepS E σ true)).bind fun a=>(B a.2.2).bind fun b=>(C b.2.2).bind fun c=>selT a b c) (fun S=>(if (gA S).1≠0 then (gB (gA S).2).1 else (gC (gB (gA S).2).2).1,stepP (gC (gB (gA S).2).2).2)) (nA+nB+nC+1):=by
 intro q k σ S hR
 obtain ⟨a,b,e1,e2,i1,i2,e3,e4,e5⟩:=on_pair (E:=E) (on_pre hE hA oA) hB oB (by decide) q k σ S hR
 have e1':A (stepS E σ true)=some a:=e1
 have fin:∀c:VR,C b.2.2=some c→OkS c.2.2→In32 c.1→∃h,((A (stepS E σ true)).bind fun a=>(B a.2.2).bind fun b=>(C b.2.2).bind fun c=>selT a b c)=some (if a.1≠0 then b.1 else c.1,h,c.2.2)∧In32 (if a.1≠0 then b.1 else c.1):=fun c hc ho hi=>by
  rw [e1',Option.bind_some,e2,Option.bind_some,hc,Option.bind_some]
  unfold selT
  by_cases h0:a.1=0
  ·rw [if_pos h0,if_neg (by omega)];exact ⟨_,okV_ok (r:=(c.1,a.2.1||b.2.1||c.2.1,c.2.2)) ho hi,hi⟩
  ·rw [if_neg h0,if_pos h0];exact ⟨_,okV_ok (r:=(b.1,a.2.1||b.2.1||c.2.1,c.2.2)) ho i2,i2⟩
 rcases e5 with ⟨p,q1,r,s,u⟩ | ⟨p,q1⟩
 ·obtain ⟨v,h2,σ2,f1,f2,f3,f4,f5⟩:=hC _ _ b.2.2 _ s
  obtain ⟨h3,g1,g2⟩:=fin (v,h2,σ2) f1 f3 f2
  refine ⟨_,h3,σ2,g1,g2,f3,f4,?_⟩
  rcases f5 with ⟨p',q',r',s'⟩ | ⟨p',q'⟩
  ·refine .inl ⟨by omega,?_,by rw [Int.add_zero];rw [Int.add_zero] at r';exact r'.pay hR.k0,by omega⟩
   show (if a.1≠0 then b.1 else v)=(if (gA S).1≠0 then (gB (gA S).2).1 else (gC (gB (gA S).2).2).1)
   rw [←q1,←r,←q']
  ·exact .inr ⟨by omega,q'⟩
 ·obtain ⟨v,h2,f1,f2⟩:=oC b.2.2 (dead_off q1) e3
  obtain ⟨h3,g1,g2⟩:=fin (v,h2,b.2.2) f1 e3 f2
  exact ⟨_,h3,b.2.2,g1,g2,e3,e4,.inr ⟨by omega,q1⟩⟩
end
end Go.Proofs.YthmmgiaobakilaaGreat

set_option maxRecDepth 100000
namespace Go.Proofs.YthmmgiaobakilaaGreat
open Go.RowKit Go.Deep
def FoundX (l:List CellR):Ex→Prop
 | .nil=>True
 | .node _ _ t k r=>(t.kind=1→0≤findN l t.text)∧FoundX l k∧FoundX l r
section
variable {D:PD} {S:PSt} {t:Tok} {vs:List Int}
theorem hp_num (hk:t.kind=2):headP D S t vs=(t.num,S):=by
 unfold headP
 have e:kP t=3:=by unfold kP;rw [hk];rfl
 rw [if_pos e]
 unfold nP;rw [hk];rfl
theorem hp_word (hk:t.kind=0∨t.kind=1):headP D S t vs=wordP D S t.text vs:=by
 unfold headP
 have e:kP t=2∧wP t=t.text:=by unfold kP wP;rcases hk with hk | hk <;> rw [hk] <;> exact ⟨rfl,rfl⟩
 rw [if_neg (by rw [e.1];decide),if_neg (by rw [e.1];decide),e.2]
theorem hp_sign (hk:t.kind=3):headP D S t vs=(signV (runeOf t.text) vs,S):=by
 unfold headP
 have e:kP t=4∧sP t=runeOf t.text:=by unfold kP sP;rw [hk];exact ⟨rfl,rfl⟩
 rw [if_neg (by rw [e.1];decide),if_pos e.1,e.2]
theorem wp_name {u:ByteArray} (hm:memB u kws=false):wordP D S u vs=(S.vals u,S):=by
 have no:∀s,memB s kws=true→u≠s:=fun s hs e=>by rw [e,hs] at hm;cases hm
 unfold wordP
 rw [if_neg (no _ (by unfold memB kws sSEL;simp)),if_neg (no _ (by unfold memB kws sMIN;simp)),if_neg (no _ (by unfold memB kws sMAX;simp)),if_neg (no _ (by unfold memB kws sPEEK;simp)),if_neg (no _ (by unfold memB kws sSPY;simp))]
theorem wp_peek (a b:Int):wordP D S sPEEK [a,b]=(wrap32 (D.opens.getD (placeV D a b).toNat 0),touchP S 0 (placeV D a b)):=by kernel_rfl
theorem wp_spy (a b:Int):wordP D S sSPY [a,b]=(wrap32 (D.hids.getD (placeV D a b).toNat 0),touchP S 1 (placeV D a b)):=by kernel_rfl
theorem wp_min (a b:Int):wordP D S sMIN [a,b]=(doesV sMIN a b,S):=by kernel_rfl
theorem wp_max (a b:Int):wordP D S sMAX [a,b]=(doesV sMAX a b,S):=by kernel_rfl
theorem wp_sel (a b c:Int):wordP D S sSEL [a,b,c]=(if a≠0 then b else c,S):=by kernel_rfl
theorem sg_neg (a:Int):signV (runeOf sNEG) [a]=wrap32 (-a):=by kernel_rfl
theorem sg_two {s:ByteArray} (hs:s∈ops8) (a b:Int):signV (runeOf s) [a,b]=doesV s a b:=by
 rw [←rune8 s hs a b];rfl
end
theorem ops8_not:∀s∈ops8,(s.toList==sPEEK.toList)=false∧(s.toList==sSPY.toList)=false∧(s.toList==sMIN.toList)=false∧(s.toList==sMAX.toList)=false:=by
 intro s hs
 simp only [ops8,opsT,opsS,opsE,List.mem_append,List.mem_cons,List.not_mem_nil,or_false] at hs
 rcases hs with (rfl | rfl) | (rfl | rfl) | (rfl | rfl | rfl | rfl) <;> decide +kernel
section
variable {E:Env} {D:PD} {l:List CellR} {t:Tok} {live:Bool}
theorem hf_leaf (hk:t.kind=2∨t.kind=1) (ks:List (St→Option VR)) (σ:St):headF E live t ks σ=okV (namedT E σ t live):=by
 unfold headF
 rw [if_pos (by rcases hk with hk | hk <;> rw [hk] <;> rfl)]
theorem op_leaf (hk:t.kind=3∨t.kind=0):¬ ((t.kind==2)||(t.kind==1))=true:=by rcases hk with hk | hk <;> rw [hk] <;> decide
theorem hf_one (hk:t.kind=3∨t.kind=0) (A:St→Option VR) (σ:St):headF E live t [A] σ=(A (stepS E σ live)).bind negT:=by
 unfold headF;rw [if_neg (op_leaf hk)]
theorem hf_two (hk:t.kind=3∨t.kind=0) (A B:St→Option VR) (σ:St):headF E live t [A,B] σ=twoT E live t A B σ:=by
 unfold headF;rw [if_neg (op_leaf hk)]
theorem hf_three (hk:t.kind=3∨t.kind=0) (A B C:St→Option VR) (σ:St):headF E live t [A,B,C] σ=(A (stepS E σ live)).bind fun a=>(B a.2.2).bind fun b=>(C b.2.2).bind fun c=>selT a b c:=by
 unfold headF;rw [if_neg (op_leaf hk)]
theorem tw_op (h8:t.text∈ops8) (A B:St→Option VR) (σ:St):twoT E live t A B σ=(A σ).bind fun a=>(B (stepS E a.2.2 live)).bind fun b=>binT t a b:=by
 obtain ⟨n1,n2,n3,n4⟩:=ops8_not _ h8
 unfold twoT txt
 rw [n1,n2,n3,n4,if_neg (by decide),if_neg (by decide),if_neg (by decide),if_neg (by decide)]
theorem tw_peek (h:t.text=sPEEK) (A B:St→Option VR) (σ:St):twoT E live t A B σ=(A (stepS E σ live)).bind fun a=>(B a.2.2).bind fun b=>texT E t live false a b:=by
 unfold twoT txt;rw [h,if_pos (beq_self_eq_true _)]
theorem tw_spy (h:t.text=sSPY) (A B:St→Option VR) (σ:St):twoT E live t A B σ=(A (stepS E σ live)).bind fun a=>(B a.2.2).bind fun b=>texT E t live true a b:=by
 unfold twoT txt;rw [h,if_neg (by decide +kernel),if_pos (beq_self_eq_true _)]
theorem tw_min (h:t.text=sMIN) (A B:St→Option VR) (σ:St):twoT E live t A B σ=(A (stepS E σ live)).bind fun a=>(B a.2.2).bind fun b=>bothT t a b:=by
 unfold twoT txt;rw [h,if_neg (by decide +kernel),if_neg (by decide +kernel),if_pos (beq_self_eq_true _)]
theorem tw_max (h:t.text=sMAX) (A B:St→Option VR) (σ:St):twoT E live t A B σ=(A (stepS E σ live)).bind fun a=>(B a.2.2).bind fun b=>bothT t a b:=by
 unfold twoT txt;rw [h,if_neg (by decide +kernel),if_neg (by decide +kernel),if_neg (by decide +kernel),if_pos (beq_self_eq_true _)]
end
def Ev3 (E:Env) (D:PD) (l:List CellR) (b o:Nat) (t:Tok) (k r:Ex):Prop:=(∀live,Off E live (wkX E live (.node b o t k r)))∧((t.kind=1→0≤findN l t.text)→FoundX l k→On E D l 0 (wkX E true (.node b o t k r)) (ev1 D (.node b o t k r)) (szE k+1))
theorem ev_fuel {E:Env} {D:PD} (hE:E3 E D) (l:List CellR):∀(n:Nat) (k:Ex) (b o:Nat) (t:Tok) (r:Ex),szE k < n→WF3 (.node b o t k r)→Ev3 E D l b o t k r
 | 0,_,_,_,_,_,hn,_=>absurd hn (Nat.not_lt_zero _)
 | n+1,k,b,o,t,r,hn,hw=>by
  obtain ⟨hh,hk,_⟩:=hw
  rcases hh with ⟨h2,rfl,n0,n1⟩ | ⟨h1,rfl,hm⟩ | ⟨h3,ht,hl⟩ | ⟨h3,h8,hl⟩ | ⟨h0,h4,hl⟩ | ⟨h0,hs,hl⟩
  ·have hn:In32 t.num:=⟨by omega,by omega⟩
   refine ⟨fun live=>(off_num h2 hn).same (fun σ=>hf_leaf (.inl h2) [] σ),fun _ _=>?_⟩
   exact ((on_num hE h2 hn).same (f':=wkX E true (.node b o t .nil r)) (fun σ=>hf_leaf (.inl h2) [] σ)).congr (fun S=>show headP D (stepP S) t []=_ from hp_num h2)
  ·refine ⟨fun live=>(off_name hE h1).same (fun σ=>hf_leaf (.inr h1) [] σ),fun hf _=>?_⟩
   exact ((on_name hE h1 (hf h1)).same (f':=wkX E true (.node b o t .nil r)) (fun σ=>hf_leaf (.inr h1) [] σ)).congr (fun S=>show headP D (stepP S) t []=_ from (hp_word (.inr h1)).trans (wp_name hm))
  ·obtain ⟨b1,o1,t1,k1,rfl⟩:=lenE_one hl
   obtain ⟨i1,i2⟩:=ev_fuel hE l n k1 b1 o1 t1 .nil (by simp only [szE] at hn;omega) hk
   refine ⟨fun live=>(off_neg (i1 live)).same (hf_one (.inl h3) _),fun _ hf=>?_⟩
   refine ((on_neg hE (i2 hf.1 hf.2.1) (i1 true)).same (hf_one (.inl h3) _)).congr (fun S=>?_)
   show headP D (stepP (evE D (.node b1 o1 t1 k1 .nil) S).2) t (evE D (.node b1 o1 t1 k1 .nil) S).1=_
   rw [hp_sign h3,ht]
   show (signV (runeOf sNEG) [(ev1 D (.node b1 o1 t1 k1 .nil) S).1],_)=_
   rw [sg_neg]
   rfl
  ·obtain ⟨b1,o1,t1,k1,r1,rfl,hl1⟩:=lenE_two hl
   obtain ⟨b2,o2,t2,k2,rfl⟩:=lenE_one hl1
   obtain ⟨i1,i2⟩:=ev_fuel hE l n k1 b1 o1 t1 (.node b2 o2 t2 k2 .nil) (by simp only [szE] at hn;omega) hk
   obtain ⟨j1,j2⟩:=ev_fuel hE l n k2 b2 o2 t2 .nil (by simp only [szE] at hn;omega) hk.2.2
   have ef:∀live σ,wkX E live (.node b o t (.node b1 o1 t1 k1 (.node b2 o2 t2 k2 .nil)) r) σ=(wkX E live (.node b1 o1 t1 k1 (.node b2 o2 t2 k2 .nil)) σ).bind fun a=>(wkX E live (.node b2 o2 t2 k2 .nil) (stepS E a.2.2 live)).bind fun c=>binT t a c:=fun live σ=>(hf_two (.inl h3) _ _ σ).trans (tw_op h8 _ _ σ)
   refine ⟨fun live=>(off_bin (i1 live) (j1 live)).same (ef live),fun _ hf=>?_⟩
   have:=(on_bin (t:=t) hE (i2 hf.1 hf.2.1) (j2 hf.2.2.1 hf.2.2.2.1) (j1 true)).same (ef true)
   rw [show szE k1+1+(szE k2+1)+1=szE (.node b1 o1 t1 k1 (.node b2 o2 t2 k2 .nil))+1 by simp only [szE];omega] at this
   refine this.congr (fun S=>?_)
   show headP D (stepP (evE D (.node b1 o1 t1 k1 (.node b2 o2 t2 k2 .nil)) S).2) t (evE D (.node b1 o1 t1 k1 (.node b2 o2 t2 k2 .nil)) S).1=_
   rw [hp_sign h3]
   show (signV (runeOf t.text) [(ev1 D (.node b1 o1 t1 k1 (.node b2 o2 t2 k2 .nil)) S).1,(ev1 D (.node b2 o2 t2 k2 .nil) (ev1 D (.node b1 o1 t1 k1 (.node b2 o2 t2 k2 .nil)) S).2).1],_)=_
   rw [sg_two h8]
   rfl
  ·obtain ⟨b1,o1,t1,k1,r1,rfl,hl1⟩:=lenE_two hl
   obtain ⟨b2,o2,t2,k2,rfl⟩:=lenE_one hl1
   obtain ⟨i1,i2⟩:=ev_fuel hE l n k1 b1 o1 t1 (.node b2 o2 t2 k2 .nil) (by simp only [szE] at hn;omega) hk
   obtain ⟨j1,j2⟩:=ev_fuel hE l n k2 b2 o2 t2 .nil (by simp only [szE] at hn;omega) hk.2.2
   have sz:szE k1+1+(szE k2+1)+1=szE (.node b1 o1 t1 k1 (.node b2 o2 t2 k2 .nil))+1:=by simp only [szE];omega
   have hp:∀S,ev1 D (.node b o t (.node b1 o1 t1 k1 (.node b2 o2 t2 k2 .nil)) r) S=wordP D (stepP (ev1 D (.node b2 o2 t2 k2 .nil) (ev1 D (.node b1 o1 t1 k1 (.node b2 o2 t2 k2 .nil)) S).2).2) t.text [(ev1 D (.node b1 o1 t1 k1 (.node b2 o2 t2 k2 .nil)) S).1,(ev1 D (.node b2 o2 t2 k2 .nil) (ev1 D (.node b1 o1 t1 k1 (.node b2 o2 t2 k2 .nil)) S).2).1]:=fun S=>hp_word (.inl h0)
   rcases h4 with h4 | h4 | h4 | h4
   ·refine ⟨fun live=>(off_tex hE false (i1 live) (j1 live)).same (fun σ=>(hf_two (.inr h0) _ _ σ).trans (tw_peek h4 _ _ σ)),fun _ hf=>?_⟩
    have:=(on_tex (t:=t) hE false (i2 hf.1 hf.2.1) (i1 true) (j2 hf.2.2.1 hf.2.2.2.1) (j1 true)).same (fun σ=>(hf_two (.inr h0) _ _ σ).trans (tw_peek h4 _ _ σ))
    rw [sz] at this
    exact this.congr (fun S=>by rw [hp,h4,wp_peek];rfl)
   ·refine ⟨fun live=>(off_tex hE true (i1 live) (j1 live)).same (fun σ=>(hf_two (.inr h0) _ _ σ).trans (tw_spy h4 _ _ σ)),fun _ hf=>?_⟩
    have:=(on_tex (t:=t) hE true (i2 hf.1 hf.2.1) (i1 true) (j2 hf.2.2.1 hf.2.2.2.1) (j1 true)).same (fun σ=>(hf_two (.inr h0) _ _ σ).trans (tw_spy h4 _ _ σ))
    rw [sz] at this
    exact this.congr (fun S=>by rw [hp,h4,wp_spy];rfl)
   ·refine ⟨fun live=>(off_both (i1 live) (j1 live)).same (fun σ=>(hf_two (.inr h0) _ _ σ).trans (tw_min h4 _ _ σ)),fun _ hf=>?_⟩
    have:=(on_both (t:=t) hE (i2 hf.1 hf.2.1) (i1 true) (j2 hf.2.2.1 hf.2.2.2.1) (j1 true)).same (fun σ=>(hf_two (.inr h0) _ _ σ).trans (tw_min h4 _ _ σ))
    rw [sz] at this
    exact this.congr (fun S=>by rw [hp,h4,wp_min])
   ·refine ⟨fun live=>(off_both (i1 live) (j1 live)).same (fun σ=>(hf_two (.inr h0) _ _ σ).trans (tw_max h4 _ _ σ)),fun _ hf=>?_⟩
    have:=(on_both (t:=t) hE (i2 hf.1 hf.2.1) (i1 true) (j2 hf.2.2.1 hf.2.2.2.1) (j1 true)).same (fun σ=>(hf_two (.inr h0) _ _ σ).trans (tw_max h4 _ _ σ))
    rw [sz] at this
    exact this.congr (fun S=>by rw [hp,h4,wp_max])
  ·obtain ⟨b1,o1,t1,k1,r1,rfl,hl1⟩:=lenE_three hl
   obtain ⟨b2,o2,t2,k2,r2,rfl,hl2⟩:=lenE_two hl1
   obtain ⟨b3,o3,t3,k3,rfl⟩:=lenE_one hl2
   obtain ⟨i1,i2⟩:=ev_fuel hE l n k1 b1 o1 t1 (.node b2 o2 t2 k2 (.node b3 o3 t3 k3 .nil)) (by simp only [szE] at hn;omega) hk
   obtain ⟨j1,j2⟩:=ev_fuel hE l n k2 b2 o2 t2 (.node b3 o3 t3 k3 .nil) (by simp only [szE] at hn;omega) hk.2.2
   obtain ⟨m1,m2⟩:=ev_fuel hE l n k3 b3 o3 t3 .nil (by simp only [szE] at hn;omega) hk.2.2.2.2
   refine ⟨fun live=>(off_sel (i1 live) (j1 live) (m1 live)).same (fun σ=>hf_three (.inr h0) _ _ _ σ),fun _ hf=>?_⟩
   have:=(on_sel hE (i2 hf.1 hf.2.1) (i1 true) (j2 hf.2.2.1 hf.2.2.2.1) (j1 true) (m2 hf.2.2.2.2.1 hf.2.2.2.2.2.1) (m1 true)).same (f':=wkX E true (.node b o t (.node b1 o1 t1 k1 (.node b2 o2 t2 k2 (.node b3 o3 t3 k3 .nil))) r)) (fun σ=>hf_three (.inr h0) _ _ _ σ)
   rw [show szE k1+1+(szE k2+1)+(szE k3+1)+1=szE (.node b1 o1 t1 k1 (.node b2 o2 t2 k2 (.node b3 o3 t3 k3 .nil)))+1 by simp only [szE];omega] at this
   refine this.congr (fun S=>?_)
   show headP D (stepP (evE D (.node b1 o1 t1 k1 (.node b2 o2 t2 k2 (.node b3 o3 t3 k3 .nil))) S).2) t (evE D (.node b1 o1 t1 k1 (.node b2 o2 t2 k2 (.node b3 o3 t3 k3 .nil))) S).1=_
   rw [hp_word (.inl h0),hs]
   exact wp_sel _ _ _
theorem ev_all {E:Env} {D:PD} (hE:E3 E D) (l:List CellR) (k:Ex) (b o:Nat) (t:Tok) (r:Ex) (hw:WF3 (.node b o t k r)):Ev3 E D l b o t k r:=ev_fuel hE l (szE k+1) k b o t r (Nat.lt_succ_self _) hw
end Go.Proofs.YthmmgiaobakilaaGreat

set_option maxRecDepth 100000
namespace Go.Proofs.YthmmgiaobakilaaGreat
open Go.RowKit Go.Deep
def SameN (l l':List CellR):Prop:=l'.map (·.name)=l.map (·.name)
theorem SameN.refl (l:List CellR):SameN l l:=rfl
theorem SameN.trans {a b c:List CellR} (h:SameN a b) (g:SameN b c):SameN a c:=Eq.trans g h
theorem SameN.len {l l':List CellR} (h:SameN l l'):l'.length=l.length:=by
 have:=congrArg List.length h;simpa using this
theorem find_names (l:List CellR) (s:ByteArray):findN l s=match (l.map (·.name)).findIdx? (fun n=>n.toList==s.toList) with
  | some k=>(k:Int)
  | none=>-1:=by
 unfold findN
 rw [List.findIdx?_map]
 rfl
theorem SameN.find {l l':List CellR} (h:SameN l l') (s:ByteArray):findN l' s=findN l s:=by rw [find_names,find_names,h]
theorem SameN.foundX {l l':List CellR} (h:SameN l l'):∀e,FoundX l e→FoundX l' e
 | .nil,_=>trivial
 | .node _ _ t k r,⟨a,b,c⟩=>⟨fun e=>by rw [h.find];exact a e,h.foundX k b,h.foundX r c⟩
theorem Bnd.cells {E:Env} {σ τ:St} {i j:Nat} (h:Bnd E σ i) (ho:OkS τ) (hl:τ.cells.length=σ.cells.length) (hij:i≤j):Bnd E τ j:=⟨ho,by have:=h.2;rw [hl];omega⟩
def Found3:Sx→List CellR→Prop
 | .nil,_=>True
 | .node _ _ p k r,l=>(p.tag=0→0≤findN l p.t.text)∧(p.tag≠2→FoundX l (besideE p.e .nil)) ∧
   (p.tag=1→(match k with
    | .nil=>True
    | .node _ _ _ s u=>Found3 s l∧Found3 u l)) ∧
   (p.tag=2→findN l p.t.text < 0∧p.a.num≤p.b.num∧p.b.num≤20∧Found3 k (l++[⟨p.t.text,0,false,false⟩]))∧Found3 r l
theorem found3_node (b o:Nat) (p:SP) (k r:Sx) (l:List CellR):Found3 (.node b o p k r) l=((p.tag=0→0≤findN l p.t.text)∧(p.tag≠2→FoundX l (besideE p.e .nil)) ∧
   (p.tag=1→(match k with
    | .nil=>True
    | .node _ _ _ s u=>Found3 s l∧Found3 u l)) ∧
   (p.tag=2→findN l p.t.text < 0∧p.a.num≤p.b.num∧p.b.num≤20∧Found3 k (l++[⟨p.t.text,0,false,false⟩]))∧Found3 r l):=by cases k <;> rfl
def OutS (E:Env) (D:PD) (l:List CellR) (σ':St) (S':PSt):Prop:=SameN l σ'.cells∧OkS σ'∧((S'.steps≤20000∧R3 E D σ'.cells 0 0 σ' S')∨(20000 < S'.steps∧σ'.dead=true))
def Re3 (E:Env) (D:PD) (M:MS) (P:PS):Prop:=∀i t j,i < E.toks.length→P E.toks i=some (.ok (t,j)) →
 (∀σ live,livesB E σ live=false→Bnd E σ i→M E σ i live=some ⟨j,σ⟩) ∧
 (∀l σ S,R3 E D l 0 0 σ S→Bnd E σ i→Found3 t l→∃σ',M E σ i true=some ⟨j,σ'⟩∧OutS E D l σ' (stP D t S))
section
variable {E:Env} {D:PD} {l:List CellR} {q k:Int} {σ:St} {S:PSt}
theorem R3.more (h:R3 E D l q (k+1) σ S) (hk:0≤k):R3 E D l (q+1) k σ (stepP S):=
 ⟨h.al,h.ce,h.cl,by show σ.steps=S.steps+1+k;have:=h.st;omega,h.le,hk,by have:=h.q0;omega,h.t0,by have:=h.tk;omega,h.tt,h.tr,h.op,h.hi,h.vl,h.vb,h.pt,h.lo,h.lh⟩
theorem R3.less (h:R3 E D l (q+1) k σ S) (hq:0≤q):R3 E D l q k σ S:=
 ⟨h.al,h.ce,h.cl,h.st,h.le,h.k0,hq,h.t0,by have:=h.tk;omega,h.tt,h.tr,h.op,h.hi,h.vl,h.vb,h.pt,h.lo,h.lh⟩
theorem E3.ne0 (hE:E3 E D):E.mode≠0:=by rw [hE.m];decide
theorem off_false (σ:St):livesB E σ false=false:=rfl
theorem expr3 (hE:E3 E D) {e:Ex} (he:isN e) (hw:WF3 e) (hf:FoundX l (besideE e .nil)) (hR:R3 E D l 0 0 σ S) :
  ∃v h σ',wkX E (stepB E σ true) e (stepS E σ true)=some (v,h,σ')∧In32 v∧OkS σ'∧σ'.cells=l ∧
   (((ev1 D e (stepP S)).2.steps≤20000∧stepB E σ true=true∧v=(ev1 D e (stepP S)).1∧R3 E D l 1 0 σ' (ev1 D e (stepP S)).2)∨(20000 < (ev1 D e (stepP S)).2.steps∧σ'.dead=true)):=by
 cases e with
 | nil=>cases he
 | node b o t k r=>
  obtain ⟨e1,e2⟩:=ev_all hE l k b o t r hw
  have st:(ev1 D (.node b o t k r) (stepP S)).2.steps=S.steps+1+((szE k+1:Nat):Int):=(ev1_ev (b:=b) (o:=o) (t:=t) (k:=k) (r:=r) D (stepP S)).steps
  have s0:=hR.st
  by_cases hs:σ.steps < 20000
  ·obtain ⟨x1,x2,x3⟩:=hR.on hE hs
   rw [x2]
   obtain ⟨v,h,σ',y1,y2,y3,y4,y5⟩:=e2 hf.1 hf.2.1 1 0 (stepS E σ true) (stepP S) (x3.more (Int.le_refl _))
   have es:(stepS E σ true).steps=σ.steps+1:=by rw [x1]
   refine ⟨v,h,σ',y1,y2,y3,y4,?_⟩
   rcases y5 with ⟨a,b,c,d⟩ | ⟨a,b⟩
   ·exact .inl ⟨by rw [st];omega,rfl,b,by rw [Int.add_zero] at c;exact c⟩
   ·exact .inr ⟨by rw [st];omega,b⟩
  ·obtain ⟨x1,x2⟩:=hR.die hE hs
   rw [x2]
   have od:OkS (stepS E σ true):=by rw [x1];exact hR.okS
   obtain ⟨v,h,y1,y2⟩:=e1 false (stepS E σ true) (off_false _) od
   exact ⟨v,h,_,y1,y2,od,by rw [x1];exact hR.ce,.inr ⟨by rw [st];omega,by rw [x1]⟩⟩
theorem R3.lt (h:R3 E D l q k σ S):¬ 20000 < S.steps:=by have:=h.le;have:=h.st;have:=h.k0;omega
def setL (l:List CellR) (i:Nat) (v:Int):List CellR:=l.modify i fun c=>{ c with val:=v }
theorem setL_names (l:List CellR) (i:Nat) (v:Int):SameN l (setL l i v):=by
 unfold SameN setL
 apply List.ext_getElem?
 intro j
 rw [List.getElem?_map,List.getElem?_map,List.getElem?_modify]
 cases l[j]? with
 | none=>rfl
 | some c=>
  show some (if i=j then ({ c with val:=v } : CellR) else c).name=some c.name
  split <;> rfl
theorem setL_get (l:List CellR) (i j:Nat) (v:Int) (hi:i < l.length):((setL l i v).getD j noCell).val=if j=i then v else (l.getD j noCell).val:=by
 unfold setL
 simp only [List.getD,List.getElem?_modify]
 by_cases h:i=j
 ·subst h
  rw [List.getElem?_eq_getElem hi]
  simp
 ·have h':¬ j=i:=Ne.symm h
  cases l[j]? <;> simp [h,h']
theorem find_text {l:List CellR} {s:ByteArray} {k:Nat} (h:findN l s=(k:Int)):∃hk:k < l.length,(l[k].name.toList==s.toList)=true:=by
 unfold findN at h
 cases hf:l.findIdx? (fun c=>c.name.toList==s.toList) with
 | none=>rw [hf] at h;simp at h
 | some m=>
  rw [hf] at h
  have e:m=k:=by simp at h;omega
  subst e
  rw [List.findIdx?_eq_some_iff_getElem] at hf
  obtain ⟨hk,h1,_⟩:=hf
  exact ⟨hk,h1⟩
theorem R3.set (h:R3 E D l 0 0 σ S) {nm:ByteArray} {i:Nat} (hi:findN l nm=(i:Int)) {v:Int} (hv:In32 v):R3 E D (setL l i v) 0 0 (putVR σ i v) (setV S nm v):=by
 obtain ⟨hil,hnm⟩:=find_text hi
 have hs:=setL_names l i v
 refine ⟨h.al,by show σ.cells.modify i _=_;rw [h.ce];rfl,by rw [hs.len];exact h.cl,h.st,h.le,h.k0,h.q0,h.t0,h.tk,h.tt,h.tr,h.op,h.hi,fun s hf=>?_,fun s=>?_,h.pt,h.lo,h.lh⟩
 ·rw [hs.find] at hf ⊢
  obtain ⟨j,hj,_⟩:=findN_lt (l:=l) (s:=s) (by omega)
  rw [hj,Int.toNat_natCast,setL_get l i j v hil]
  obtain ⟨hjl,hsn⟩:=find_text hj
  show _=updR S.vals nm v s
  unfold updR
  by_cases hji:j=i
  ·subst hji
   have e1:l[j].name.toList=s.toList:=by simpa using hsn
   have e2:l[j].name.toList=nm.toList:=by simpa using hnm
   rw [if_pos rfl,show (s.toList==nm.toList)=true by rw [←e1,e2];exact beq_self_eq_true _]
   rfl
  ·rw [if_neg hji]
   have hne:(s.toList==nm.toList)=false:=by
    cases hc:(s.toList==nm.toList) with
    | false=>rfl
    | true=>
     exfalso
     have e:s.toList=nm.toList:=by simpa using hc
     have:findN l s=findN l nm:=by unfold findN;rw [e]
     rw [hj,hi] at this
     omega
   rw [hne]
   have:=h.vl s hf
   rw [hj,Int.toNat_natCast] at this
   exact this
 ·show In32 (updR S.vals nm v s)
  unfold updR
  split
  ·exact hv
  ·exact h.vb s
theorem lead3 (hE:E3 E D) (σ:St) (i:Nat):leadS E σ i=σ∧leadK E σ i=findN σ.cells (tkAt E.toks i).text:=by
 obtain ⟨a,b⟩:=lead12 hE.ne0 σ i
 refine ⟨a.trans ?_,b⟩
 unfold leadT
 rw [hE.m,used3 hE]
 rfl
theorem end3 (hE:E3 E D) {hid:Bool} (σ:St) (i:Nat) (h:Bool):outS E σ i h hid=σ:=by unfold outS;rw [hE.m];rfl
theorem assign3 {X:MX} {P:PE} (hE:E3 E D) (hT:TokOK E) (hR:Rel1 E X P) (hW:W3P E.toks P) (hF:FwdP P) {i j:Nat} {t:Sx} (hi:i+1 < E.toks.length) (hk1:(tkAt E.toks i).kind=1) (h:pAssign P E.toks i=some (.ok (t,j))) :
  (∀σ live,livesB E σ live=false→Bnd E σ i→assignM X E σ i live=some ⟨j,σ⟩)∧(∀l σ S,R3 E D l 0 0 σ S→Bnd E σ i→Found3 t l→∃σ',assignM X E σ i true=some ⟨j,σ'⟩∧OutS E D l σ' (stP D t S)):=by
 have hN:=hE.ne0
 unfold pAssign at h
 obtain ⟨u1,j1,h1,h⟩:=then_ok h
 obtain ⟨e,j2,h2,h⟩:=then_ok h
 obtain ⟨u3,j3,h3,h⟩:=then_ok h
 cases h
 have l1:=need_lt hT hi h1
 obtain ⟨he,hM⟩:=hR j1 e j2 l1 h2
 have hw:=(hW _ _ _ h2).2
 have l2:=(fwd_ok hF hT l1 h2).2
 have run:∀σ live,assignM X E σ i live=((wkX E (stepB E σ live) e (stepS E σ live)).map (toA j2)).bind (assignEnd E i (stepB E σ live) (findN σ.cells (tkAt E.toks i).text)):=fun σ live=>by
  unfold assignM
  rw [(lead3 hE σ i).1,(lead3 hE σ i).2]
  unfold assignGo
  rw [(need1 hN _ h1).1,(need1 hN _ h1).2,if_pos ⟨hi,l1⟩,hM]
 have m2:(E.mode==2)=false:=by rw [hE.m];rfl
 refine ⟨fun σ live hl hb=>?_,fun l σ S hRR hb hf=>?_⟩
 ·obtain ⟨s1,s2⟩:=step_off hl
  cases e with
  | nil=>cases he
  | node b o t k r=>
   obtain ⟨v,hh,y1,_⟩:=(ev_all hE σ.cells k b o t r hw).1 false σ (off_false _) hb.1
   rw [run,s1,s2,y1]
   show assignEnd E i false _ ⟨v,hh,j2,σ⟩=_
   unfold assignEnd
   rw [m2]
   show (if livesB E σ false=true then _ else semiM E σ j2)=_
   rw [off_false,if_neg (by decide)]
   exact semi1 hN hT hb.1 l2 h3
 ·obtain ⟨v,hh,σ',y1,y2,y3,y4,y5⟩:=expr3 hE he hw (hf.2.1 (by show (0:Nat)≠2;decide)) hRR
  have hfi:0≤findN l (tkAt E.toks i).text:=hf.1 rfl
  have eS:stP D (.node 0 0 ⟨0,tkAt E.toks i,noTok,noTok,e⟩ .nil .nil) S=setV (ev1 D e (stepP S)).2 (wP (tkAt E.toks i)) (ev1 D e (stepP S)).1:=stP_0 hRR.lt rfl
  have ew:wP (tkAt E.toks i)=(tkAt E.toks i).text:=by unfold wP;rw [hk1];rfl
  rw [eS,ew]
  have run2:assignM X E σ i true=assignEnd E i (stepB E σ true) (findN l (tkAt E.toks i).text) ⟨v,hh,j2,σ'⟩:=by
   rw [run,y1,hRR.ce];rfl
  rw [run2]
  unfold assignEnd
  rw [m2]
  show ∃σ'',(if livesB E σ' (stepB E σ true)=true then (if 0≤findN l (tkAt E.toks i).text∧findN l (tkAt E.toks i).text < σ'.cells.length then semiM E (putVR σ' (findN l (tkAt E.toks i).text).toNat v) j2 else none) else semiM E σ' j2)=_∧_
  rcases y5 with ⟨a1,a2,a3,a4⟩ | ⟨a1,a2⟩
  ·obtain ⟨m,hm,hml⟩:=findN_lt (l:=l) (s:=(tkAt E.toks i).text) (by omega)
   have a5:=(a4.less (Int.le_refl _)).set hm (v:=v) y2
   rw [a2,a4.lives hE,if_pos rfl,hm,y4,if_pos ⟨by omega,by omega⟩,Int.toNat_natCast]
   refine ⟨_,semi1 hN hT a5.okS l2 h3,?_,a5.okS,.inl ⟨a1,?_⟩⟩
   ·rw [a5.ce];exact setL_names l m v
   ·rw [a5.ce,←a3];exact a5
  ·rw [dead_off a2,if_neg (by decide)]
   exact ⟨_,semi1 hN hT y3 l2 h3,by rw [y4];exact SameN.refl _,y3,.inr ⟨a1,a2⟩⟩
end
theorem tone_tab3:∀c∈List.range 256,toneGo (c:Int) 300 0=(rootN (255*c):Int):=by decide +kernel
theorem tone_eq (v:Int):toneR v=toneV v:=by
 unfold toneR toneV clampV
 have:=tone_tab3 (min (max v 0) 255).toNat (List.mem_range.2 (by omega))
 rw [Int.toNat_of_nonneg (by omega)] at this
 exact this
section
variable {E:Env} {D:PD} {l:List CellR} {σ:St} {S:PSt}
theorem R3.paint (h:R3 E D l 1 0 σ S) (hid:Bool) (v:Int):R3 E D l 0 0 (paintS E σ hid v) (putP D S (!hid) v):=by
 have ht:=h.tr
 have hpt:=h.pt
 unfold paintS putP
 rw [tone_eq,hpt]
 have hl:(S.trace.length < 100)=(σ.trace.length < 100):=by rw [ht]
 cases hid
 ·show R3 E D l 0 0 (touchS { σ with opn:=σ.opn.set E.point.toNat (toneV v) } 2 E.point) { touchP S 2 E.point with opn:=S.opn.set E.point.toNat (toneV v) }
  unfold touchS touchP
  simp only [hl]
  split
  ·exact ⟨h.al,h.ce,h.cl,h.st,h.le,h.k0,Int.le_refl _,by show 0≤σ.touched+1;have:=h.t0;omega,by show σ.touched+1+0+0≤σ.steps;have:=h.tk;omega,by show σ.touched+1=S.touched+1;rw [h.tt],by show σ.trace++_=S.trace++_;rw [ht],by show σ.opn.set _ _=S.opn.set _ _;rw [h.op],h.hi,h.vl,h.vb,h.pt,by show ((σ.opn.set _ _).length:Int)=_;rw [List.length_set];exact h.lo,h.lh⟩
  ·exact ⟨h.al,h.ce,h.cl,h.st,h.le,h.k0,Int.le_refl _,by show 0≤σ.touched+1;have:=h.t0;omega,by show σ.touched+1+0+0≤σ.steps;have:=h.tk;omega,by show σ.touched+1=S.touched+1;rw [h.tt],ht,by show σ.opn.set _ _=S.opn.set _ _;rw [h.op],h.hi,h.vl,h.vb,h.pt,by show ((σ.opn.set _ _).length:Int)=_;rw [List.length_set];exact h.lo,h.lh⟩
 ·show R3 E D l 0 0 (touchS { σ with hid:=σ.hid.set E.point.toNat (toneV v) } 3 E.point) { touchP S 3 E.point with hid:=S.hid.set E.point.toNat (toneV v) }
  unfold touchS touchP
  simp only [hl]
  split
  ·exact ⟨h.al,h.ce,h.cl,h.st,h.le,h.k0,Int.le_refl _,by show 0≤σ.touched+1;have:=h.t0;omega,by show σ.touched+1+0+0≤σ.steps;have:=h.tk;omega,by show σ.touched+1=S.touched+1;rw [h.tt],by show σ.trace++_=S.trace++_;rw [ht],h.op,by show σ.hid.set _ _=S.hid.set _ _;rw [h.hi],h.vl,h.vb,h.pt,h.lo,by show ((σ.hid.set _ _).length:Int)=_;rw [List.length_set];exact h.lh⟩
  ·exact ⟨h.al,h.ce,h.cl,h.st,h.le,h.k0,Int.le_refl _,by show 0≤σ.touched+1;have:=h.t0;omega,by show σ.touched+1+0+0≤σ.steps;have:=h.tk;omega,by show σ.touched+1=S.touched+1;rw [h.tt],ht,h.op,by show σ.hid.set _ _=S.hid.set _ _;rw [h.hi],h.vl,h.vb,h.pt,h.lo,by show ((σ.hid.set _ _).length:Int)=_;rw [List.length_set];exact h.lh⟩
theorem put3 {X:MX} {P:PE} (hE:E3 E D) (hT:TokOK E) (hR:Rel1 E X P) (hW:W3P E.toks P) (hF:FwdP P) (hid:Bool) {tag:Nat} (htag:tag=if hid then 4 else 3) {i j:Nat} {t:Sx} (hi:i+1 < E.toks.length) (hw1:decide (wP (tkAt E.toks i)=sOUT) = !hid) (h:pPut P tag E.toks i=some (.ok (t,j))) :
  (∀σ live,livesB E σ live=false→Bnd E σ i→putM X hid E σ i live=some ⟨j,σ⟩)∧(∀l σ S,R3 E D l 0 0 σ S→Bnd E σ i→Found3 t l→∃σ',putM X hid E σ i true=some ⟨j,σ'⟩∧OutS E D l σ' (stP D t S)):=by
 have hN:=hE.ne0
 unfold pPut at h
 obtain ⟨e,j2,h2,h⟩:=then_ok h
 obtain ⟨u3,j3,h3,h⟩:=then_ok h
 cases h
 obtain ⟨he,hM⟩:=hR (i+1) e j2 hi h2
 have hw:=(hW _ _ _ h2).2
 have l2:=(fwd_ok hF hT hi h2).2
 have run:∀σ live,putM X hid E σ i live=((wkX E (stepB E σ live) e (stepS E σ live)).map (toA j2)).bind (fun a=>putEnd E i (stepB E σ live) hid a):=fun σ live=>by
  unfold putM
  rw [if_pos hi,hM]
 refine ⟨fun σ live hl hb=>?_,fun l σ S hRR hb hf=>?_⟩
 ·obtain ⟨s1,s2⟩:=step_off hl
  cases e with
  | nil=>cases he
  | node b o t k r=>
   obtain ⟨v,hh,y1,_⟩:=(ev_all hE σ.cells k b o t r hw).1 false σ (off_false _) hb.1
   rw [run,s1,s2,y1]
   show putEnd E i false hid ⟨v,hh,j2,σ⟩=_
   unfold putEnd
   rw [end3 hE]
   show (if livesB E σ false=true then _ else semiM E σ j2)=_
   rw [off_false,if_neg (by decide)]
   exact semi1 hN hT hb.1 l2 h3
 ·have htg:tag≠2:=by rw [htag];cases hid <;> decide
  obtain ⟨v,hh,σ',y1,y2,y3,y4,y5⟩:=expr3 hE he hw (hf.2.1 htg) hRR
  have eS:stP D (.node 0 0 ⟨tag,tkAt E.toks i,noTok,noTok,e⟩ .nil .nil) S=putP D (ev1 D e (stepP S)).2 (!hid) (ev1 D e (stepP S)).1:=by
   rw [stP_3 hRR.lt (by show tag=3∨tag=4;rw [htag];cases hid;exact .inl rfl;exact .inr rfl),hw1]
   rfl
  rw [eS]
  have run2:putM X hid E σ i true=putEnd E i (stepB E σ true) hid ⟨v,hh,j2,σ'⟩:=by
   rw [run,y1];rfl
  rw [run2]
  unfold putEnd
  rw [end3 hE]
  show ∃σ'',(if livesB E σ' (stepB E σ true)=true then (if 0≤E.point∧E.point < σ'.opn.length∧E.point < σ'.hid.length∧E.point < 1000 then semiM E (paintS E σ' hid v) j2 else none) else semiM E σ' j2)=_∧_
  have pst:(putP D (ev1 D e (stepP S)).2 (!hid) (ev1 D e (stepP S)).1).steps=(ev1 D e (stepP S)).2.steps:=by
   unfold putP
   split
   ·exact (touchP_steps _ _ _).1
   ·exact (touchP_steps _ _ _).1
  rcases y5 with ⟨a1,a2,a3,a4⟩ | ⟨a1,a2⟩
  ·have a5:=a4.paint hid v
   have b1:=a4.lo;have b2:=a4.lh;have b3:=hE.p0;have b4:=hE.p1
   have b5:D.sw*D.sh≤36:=by
    have:=Int.mul_le_mul hE.ok.w2 hE.ok.h2 (by have:=hE.ok.h1;omega) (by decide)
    omega
   rw [a2,a4.lives hE,if_pos rfl,if_pos ⟨b3,by omega,by omega,by omega⟩]
   refine ⟨_,semi1 hN hT a5.okS l2 h3,?_,a5.okS,.inl ⟨by rw [pst];exact a1,?_⟩⟩
   ·rw [a5.ce];exact SameN.refl _
   ·rw [a5.ce,←a3];exact a5
  ·rw [dead_off a2,if_neg (by decide)]
   exact ⟨_,semi1 hN hT y3 l2 h3,by rw [y4];exact SameN.refl _,y3,.inr ⟨by rw [pst];exact a1,a2⟩⟩
end
end Go.Proofs.YthmmgiaobakilaaGreat

set_option maxRecDepth 100000
namespace Go.Proofs.YthmmgiaobakilaaGreat
open Go.RowKit Go.Deep
section
variable {E:Env} {D:PD} {l:List CellR} {σ:St} {S:PSt}
theorem SameN.found3:∀(n:Nat) (t:Sx),szS t≤n→∀ {l l':List CellR},SameN l l'→Found3 t l→Found3 t l'
 | _,.nil,_,_,_,_,_=>trivial
 | 0,.node _ _ _ _ _,h,_,_,_,_=>by simp [szS] at h
 | n+1,.node b o p k r,hz,l,l',h,hf=>by
  rw [found3_node] at hf
  obtain ⟨a,b',c,d,e⟩:=hf
  rw [found3_node]
  have hr:szS r≤n:=by simp only [szS] at hz;omega
  have hk:szS k≤n:=by simp only [szS] at hz;omega
  refine ⟨fun t=>by rw [h.find];exact a t,fun t=>h.foundX _ (b' t),fun t=>?_,fun t=>?_,SameN.found3 n r hr h e⟩
  ·have c':=c t
   cases k with
   | nil=>trivial
   | node b1 o1 q s u=>
    have hs:szS s≤n:=by simp only [szS] at hk;omega
    have hu:szS u≤n:=by simp only [szS] at hk;omega
    exact ⟨SameN.found3 n s hs h c'.1,SameN.found3 n u hu h c'.2⟩
  ·obtain ⟨d1,d2,d3,d4⟩:=d t
   refine ⟨by rw [h.find];exact d1,d2,d3,SameN.found3 n k hk ?_ d4⟩
   unfold SameN at h ⊢
   rw [List.map_append,List.map_append,h]
theorem SameN.found {t:Sx} {l l':List CellR} (h:SameN l l') (hf:Found3 t l):Found3 t l':=SameN.found3 _ t (Nat.le_refl _) h hf
theorem OutS.dead {S':PSt} (hn:SameN l σ.cells) (ho:OkS σ) (hd:σ.dead=true) (hs:20000 < S'.steps):OutS E D l σ S':=⟨hn,ho,.inr ⟨hs,hd⟩⟩
theorem choice3 {X:MX} {P:PE} {B:MS} {Q:PS} (hE:E3 E D) (hT:TokOK E) (hR:Rel1 E X P) (hW:W3P E.toks P) (hF:FwdP P) (hB:Re3 E D B Q) (hFB:FwdP Q) {i j:Nat} {t:Sx} (hi:i+1 < E.toks.length) (h:pIf P Q E.toks i=some (.ok (t,j))) :
  (∀σ live,livesB E σ live=false→Bnd E σ i→choiceM X B E σ i live=some ⟨j,σ⟩)∧(∀l σ S,R3 E D l 0 0 σ S→Bnd E σ i→Found3 t l→∃σ',choiceM X B E σ i true=some ⟨j,σ'⟩∧OutS E D l σ' (stP D t S)):=by
 have hN:=hE.ne0
 unfold pIf at h
 obtain ⟨e,j1,h1,h⟩:=then_ok h
 obtain ⟨th,j2,h2,h⟩:=then_ok h
 obtain ⟨he,hM⟩:=hR (i+1) e j1 hi h1
 have hw:=(hW _ _ _ h1).2
 have f1:=fwd_ok hF hT hi h1
 have f2:j1 < j2∧j2 < E.toks.length:=by
  have:=hFB E.toks j1 hT.last f1.2
  rw [h2] at this
  exact ⟨this.1,this.2⟩
 obtain ⟨bo,bn⟩:=hB j1 th j2 f1.2 h2
 have fl:∀σ b,flowS E σ i b=σ:=fun σ b=>flow3 hE σ (tkAt E.toks i) b
 have run:∀σ live,choiceM X B E σ i live=((wkX E (stepB E σ live) e (stepS E σ live)).map (toA j1)).bind (fun a=>(B E a.σ a.to (stepB E σ live&&(a.v != 0))).bind fun r=>choiceEnd B E (stepB E σ live) a r):=fun σ live=>by
  unfold choiceM
  rw [if_pos hi,hM]
  congr 1
  funext a
  rw [fl]
 obtain ⟨el,hel,eo,en⟩:∃el,t = .node 0 0 ⟨1,tkAt E.toks i,noTok,noTok,e⟩ (.node 0 0 ⟨5,noTok,noTok,noTok,.nil⟩ th el) .nil ∧
   (∀σ s v hh σ0,livesB E σ (s&&(v==0))=false→Bnd E σ i→choiceEnd B E s ⟨v,hh,j1,σ0⟩ ⟨j2,σ⟩=some ⟨j,σ⟩) ∧
   (∀l σ S v hh σ0,(v==0)=true→R3 E D l 0 0 σ S→Bnd E σ i→Found3 el l→∃σ',choiceEnd B E true ⟨v,hh,j1,σ0⟩ ⟨j2,σ⟩=some ⟨j,σ'⟩∧OutS E D l σ' (stP D el S)):=by
  unfold pElse at h
  split at h
  ·rename_i hs
   obtain ⟨el,j3,h3,h⟩:=then_ok h
   cases h
   have l3:=isT_next hT.last f2.2 hs
   obtain ⟨co,cn⟩:=hB (j2+1) el j l3 h3
   have ce:∀σ s v hh σ0,choiceEnd B E s ⟨v,hh,j1,σ0⟩ ⟨j2,σ⟩=B E σ (j2+1) (s&&(v==0)):=fun σ s v hh σ0=>by
    unfold choiceEnd
    dsimp only
    rw [if_pos (by rw [is1 hN];exact hs),if_pos l3]
   refine ⟨el,rfl,fun σ s v hh σ0 hl hb=>?_,fun l σ S v hh σ0 hv hRR hb hf=>?_⟩
   ·rw [ce];exact co σ _ hl (hb.cells hb.1 rfl (by omega))
   ·rw [ce,hv];exact cn l σ S hRR (hb.cells hb.1 rfl (by omega)) hf
  ·rename_i hs
   cases h
   have ce:∀σ s v hh σ0,choiceEnd B E s ⟨v,hh,j1,σ0⟩ ⟨j,σ⟩=some ⟨j,σ⟩:=fun σ s v hh σ0=>by
    unfold choiceEnd
    dsimp only
    rw [if_neg (by rw [is1 hN];exact hs)]
   refine ⟨.nil,rfl,fun σ s v hh σ0 hl hb=>ce _ _ _ _ _,fun l σ S v hh σ0 hv hRR hb hf=>⟨σ,ce _ _ _ _ _,by rw [hRR.ce];exact SameN.refl _,hRR.okS,.inl ⟨?_,by rw [hRR.ce];exact hRR⟩⟩⟩
   have:=hRR.lt
   show S.steps≤20000
   omega
 subst hel
 refine ⟨fun σ live hl hb=>?_,fun l σ S hRR hb hf=>?_⟩
 ·obtain ⟨s1,s2⟩:=step_off hl
  cases e with
  | nil=>cases he
  | node b o t k r=>
   obtain ⟨v,hh,y1,_⟩:=(ev_all hE σ.cells k b o t r hw).1 false σ (off_false _) hb.1
   rw [run,s1,s2,y1]
   show (B E σ j1 (false&&(v != 0))).bind (fun r=>choiceEnd B E false ⟨v,hh,j1,σ⟩ r)=_
   rw [Bool.false_and,bo σ false (off_false _) (hb.cells hb.1 rfl (by omega)),Option.bind_some]
   exact eo σ false v hh σ (by rw [Bool.false_and];rfl) hb
 ·obtain ⟨v,hh,σ',y1,y2,y3,y4,y5⟩:=expr3 hE he hw (hf.2.1 (by show (1:Nat)≠2;decide)) hRR
  obtain ⟨ft,fe⟩:=hf.2.2.1 rfl
  have lc:σ'.cells.length=σ.cells.length:=by rw [y4,hRR.ce]
  have hb':Bnd E σ' i:=hb.cells y3 lc (Nat.le_refl _)
  have hb1:Bnd E σ' j1:=hb.cells y3 lc (by omega)
  have eS:stP D (.node 0 0 ⟨1,tkAt E.toks i,noTok,noTok,e⟩ (.node 0 0 ⟨5,noTok,noTok,noTok,.nil⟩ th el) .nil) S=if (ev1 D e (stepP S)).1≠0 then stP D th (ev1 D e (stepP S)).2 else stP D el (ev1 D e (stepP S)).2:=stP_1 hRR.lt rfl
  rw [eS]
  have run2:choiceM X B E σ i true=(B E σ' j1 (stepB E σ true&&(v != 0))).bind (fun r=>choiceEnd B E (stepB E σ true) ⟨v,hh,j1,σ'⟩ r):=by
   rw [run,y1];rfl
  rw [run2]
  rcases y5 with ⟨a1,a2,a3,a4⟩ | ⟨a1,a2⟩
  ·rw [a2,←a3]
   have a4:=a4.less (Int.le_refl _)
   by_cases hv:v=0
   ·have e1:(v != 0)=false:=by rw [hv];rfl
    have e2:(v==0)=true:=by rw [hv];rfl
    rw [e1,Bool.true_and,bo σ' false (off_false _) hb1,Option.bind_some,if_neg (by omega)]
    exact en l σ' _ v hh σ' e2 a4 hb' fe
   ·have e1:(v != 0)=true:=by simp [hv]
    have e2:(v==0)=false:=by simp [hv]
    rw [e1,Bool.true_and,if_pos hv]
    obtain ⟨σ2,z1,z2,z3,z4⟩:=bn l σ' _ a4 hb1 ft
    rw [z1,Option.bind_some]
    refine ⟨σ2,eo σ2 true v hh σ' (by rw [e2];rfl) (hb.cells z3 (by rw [z2.len,hRR.ce]) (Nat.le_refl _)),z2,z3,z4⟩
  ·rw [bo σ' _ (dead_off a2) hb1,Option.bind_some]
   refine ⟨σ',eo σ' _ v hh σ' (dead_off a2) hb',OutS.dead (by rw [y4];exact SameN.refl _) y3 a2 ?_⟩
   split
   ·rw [stP_over a1];exact a1
   ·rw [stP_over a1];exact a1
end
end Go.Proofs.YthmmgiaobakilaaGreat

set_option maxRecDepth 100000
namespace Go.Proofs.YthmmgiaobakilaaGreat
open Go.RowKit Go.Deep
theorem find_in {l:List CellR} {s:ByteArray} (c:CellR) (h:0≤findN l s):findN (l++[c]) s=findN l s:=by
 obtain ⟨k,hk,hl⟩:=findN_lt (l:=l) (s:=s) (by omega)
 rw [hk]
 unfold findN at hk ⊢
 cases hf:l.findIdx? (fun c=>c.name.toList==s.toList) with
 | none=>rw [hf] at hk;simp at hk
 | some m=>
  rw [hf] at hk
  rw [List.findIdx?_append,hf]
  simpa using hk
theorem find_out {l:List CellR} {s:ByteArray} (c:CellR) (h:findN l s < 0):findN (l++[c]) s=if c.name.toList==s.toList then (l.length:Int) else -1:=by
 unfold findN at h ⊢
 cases hf:l.findIdx? (fun c=>c.name.toList==s.toList) with
 | some m=>rw [hf] at h;simp at h;omega
 | none=>
  rw [List.findIdx?_append,hf]
  simp only [List.findIdx?_cons,List.findIdx?_nil]
  cases c.name.toList==s.toList <;> simp
section
variable {E:Env} {D:PD} {l:List CellR} {σ:St} {S:PSt}
theorem R3.drop {l:List CellR} {c:CellR} (h:R3 E D (l++[c]) 0 0 σ S):R3 E D l 0 0 { σ with cells:=l } S:=by
 refine ⟨h.al,rfl,by have:=h.cl;simp at this;omega,h.st,h.le,h.k0,h.q0,h.t0,h.tk,h.tt,h.tr,h.op,h.hi,fun s hf=>?_,h.vb,h.pt,h.lo,h.lh⟩
 have:=h.vl s (by rw [find_in c hf];exact hf)
 rw [find_in c hf] at this
 obtain ⟨k,hk,hl⟩:=findN_lt (l:=l) (s:=s) (by omega)
 rw [hk,Int.toNat_natCast] at this ⊢
 rw [←this,List.getD,List.getD,List.getElem?_append_left hl]
theorem R3.push (h:R3 E D l 0 0 σ S) {nm:ByteArray} (hn:findN l nm < 0) (hl:l.length < 1000) {v:Int} (hv:In32 v) (hd fr:Bool):R3 E D (l++[⟨nm,v,hd,fr⟩]) 0 0 { σ with cells:=l++[⟨nm,v,hd,fr⟩] } (setV S nm v):=by
 refine ⟨h.al,rfl,by simp;omega,h.st,h.le,h.k0,h.q0,h.t0,h.tk,h.tt,h.tr,h.op,h.hi,fun s hf=>?_,fun s=>?_,h.pt,h.lo,h.lh⟩
 ·show _=updR S.vals nm v s
  unfold updR
  by_cases hs:0≤findN l s
  ·rw [find_in _ hs]
   have hne:(s.toList==nm.toList)=false:=by
    cases hc:(s.toList==nm.toList) with
    | false=>rfl
    | true=>
     exfalso
     have e:s.toList=nm.toList:=by simpa using hc
     have:findN l s=findN l nm:=by unfold findN;rw [e]
     omega
   rw [hne]
   obtain ⟨k,hk,hkl⟩:=findN_lt (l:=l) (s:=s) (by omega)
   have:=h.vl s hs
   rw [hk,Int.toNat_natCast] at this ⊢
   rw [List.getD,List.getElem?_append_left hkl]
   exact this
  ·rw [find_out _ (by omega)] at hf ⊢
   cases hc:(nm.toList==s.toList) with
   | false=>rw [hc] at hf;simp at hf
   | true=>
    have e:nm.toList=s.toList:=by simpa using hc
    rw [show (s.toList==nm.toList)=true by rw [e];exact beq_self_eq_true _]
    simp [List.getD]
 ·show In32 (updR S.vals nm v s)
  unfold updR
  split
  ·exact hv
  ·exact h.vb s
theorem sameN_snoc {l l2:List CellR} {c:CellR} (h:SameN (l++[c]) l2):∃l' c',l2=l'++[c']∧SameN l l'∧c'.name=c.name:=by
 have hl:=h.len
 rcases List.eq_nil_or_concat l2 with e | ⟨l',c',e⟩
 ·rw [e] at hl;simp at hl
 ·rw [List.concat_eq_append] at e
  subst e
  unfold SameN at h
  rw [List.map_append,List.map_append] at h
  have hlen:l'.length=l.length:=by simp at hl;omega
  obtain ⟨h1,h2⟩:=List.append_inj h (by simp [hlen])
  exact ⟨l',c',rfl,h1,by simpa using h2⟩
theorem putVR_last {σ:St} {l:List CellR} {c:CellR} (h:σ.cells=l++[c]) (v:Int):putVR σ (σ.cells.length-1) v = { σ with cells:=l++[{ c with val:=v }] }:=by
 unfold putVR
 rw [h]
 congr 1
 have:(l++[c]).length-1=l.length:=by simp
 rw [this]
 apply List.ext_getElem?
 intro j
 rw [List.getElem?_modify]
 rcases Nat.lt_trichotomy j l.length with hj | hj | hj
 ·have hne:¬ l.length=j:=by omega
  rw [List.getElem?_append_left hj,List.getElem?_append_left hj]
  cases l[j]? <;> simp [hne]
 ·subst hj
  simp
 ·rw [List.getElem?_eq_none (by simp;omega),List.getElem?_eq_none (by simp;omega)]
  rfl
theorem rounds_off {B:MS} {at_ j:Nat} {last:Int} (hd:σ.dead=true) (h0:0 < σ.cells.length) (bo:∀live,livesB E σ live=false→B E σ at_ live=some ⟨j,σ⟩):∀(f:Nat) (n:Int) (to:Nat),last-n+1≤f→n≤last→roundsM B E at_ last f n ⟨to,σ⟩=some ⟨j,σ⟩
 | 0,n,_,hf,hn=>by omega
 | f+1,n,to,hf,hn=>by
  have hl:∀live,livesB E σ live=false:=fun live=>dead_off hd
  obtain ⟨s1,s2⟩:=step_off (E:=E) (live:=true) (hl true)
  rw [roundsM,if_pos hn]
  dsimp only
  rw [s1,s2,if_pos h0,if_neg (by decide),bo false (hl false),Option.bind_some]
  by_cases hn1:n+1≤last
  ·exact rounds_off hd h0 bo f (n+1) j (by omega) hn1
  ·cases f <;> (rw [roundsM,if_neg hn1])
theorem rounds3 {B:MS} {at_ j:Nat} {s:Sx} {nm:ByteArray} {last:Int} (hE:E3 E D) (hl20:last≤20) (i0:Nat) (hat:i0≤at_)
  (bo:∀σ live,livesB E σ live=false→Bnd E σ at_→B E σ at_ live=some ⟨j,σ⟩) (bn:∀l σ S,R3 E D l 0 0 σ S→Bnd E σ at_→Found3 s l→∃σ',B E σ at_ true=some ⟨j,σ'⟩∧OutS E D l σ' (stP D s S)) :
  ∀(f:Nat) (n:Int) (to:Nat) (l:List CellR) (c:CellR) (σ:St) (S:PSt),last-n+1≤f→0≤n→n≤last→σ.cells=l++[c]→c.name=nm→findN l nm < 0→R3 E D l 0 0 { σ with cells:=l } S→Bnd E σ at_→Found3 s (l++[⟨nm,0,false,false⟩]) →
   ∃σ',roundsM B E at_ last f n ⟨to,σ⟩=some ⟨j,σ'⟩∧∃l' c',σ'.cells=l'++[c']∧SameN l l'∧OkS σ'∧(((roundsP (stP D s) nm (last-n+1).toNat n S).steps≤20000∧R3 E D l' 0 0 { σ' with cells:=l' } (roundsP (stP D s) nm (last-n+1).toNat n S))∨(20000 < (roundsP (stP D s) nm (last-n+1).toNat n S).steps∧σ'.dead=true))
 | 0,n,_,_,_,_,_,hf,_,hn,_,_,_,_,_,_=>by omega
 | f+1,n,to,l,c,σ,S,hf,n0,hn,hc,hcn,hfr,hR,hb,hfd=>by
  obtain ⟨q,hq⟩:∃q:Nat,(last-n+1).toNat=q+1:=⟨(last-n).toNat,by omega⟩
  have hq2:(last-(n+1)+1).toNat=q:=by omega
  have pos:0 < σ.cells.length:=by rw [hc];simp
  have grow:∀(X:PSt) (q:Nat) (i:Int),X.steps≤(roundsP (stP D s) nm q i X).steps:=fun X q i=>rounds_mono (fun T=>st_mono D _ s (Nat.le_refl _) T) q i X
  rw [roundsM,if_pos hn,hq]
  dsimp only
  show ∃σ',(if 0 < (stepS E σ true).cells.length then (B E (if stepB E σ true=true then putVR (stepS E σ true) ((stepS E σ true).cells.length-1) n else stepS E σ true) at_ (stepB E σ true)).bind (fun q=>roundsM B E at_ last f (n+1) q) else none)=some ⟨j,σ'⟩∧_
  have hlv:livesB E σ true=livesB E { σ with cells:=l } true:=rfl
  have rp:roundsP (stP D s) nm (q+1) n S=roundsP (stP D s) nm q (n+1) (stP D s (setV (stepP S) nm n)):=rfl
  by_cases hs:σ.steps < 20000
  ·have e1:stepS E σ true = { σ with steps:=σ.steps+1 }:=by unfold stepS;rw [hlv,hR.lives hE,if_pos rfl,if_neg (by omega)]
   have e2:stepB E σ true=true:=by unfold stepB;rw [hlv,hR.lives hE,decide_eq_true hs];rfl
   obtain ⟨_,_,r1⟩:=hR.on hE (show ({ σ with cells:=l } : St).steps < 20000 from hs)
   have e1':stepS E { σ with cells:=l } true = { σ with cells:=l,steps:=σ.steps+1 }:=by unfold stepS;rw [hR.lives hE,if_pos rfl,if_neg (show ¬ 20000≤σ.steps by omega)]
   rw [e1'] at r1
   have r2:=r1.pay (Int.le_refl _)
   have hl1:l.length < 1000:=by
    have:=hb.1.1
    rw [hc] at this
    simp at this
    omega
   have hv:In32 n:=⟨by omega,by omega⟩
   have r3:=r2.push hfr hl1 hv c.hid c.free
   rw [e2,if_pos rfl]
   have pos':0 < (stepS E σ true).cells.length:=by rw [e1];exact pos
   have ec1:(stepS E σ true).cells=l++[c]:=by rw [e1];exact hc
   rw [if_pos pos',putVR_last ec1,e1]
   have st:({ ({ σ with steps:=σ.steps+1 } : St) with cells:=l++[{ c with val:=n }] } : St) = { ({ σ with cells:=l,steps:=σ.steps+1 } : St) with cells:=l++[⟨nm,n,c.hid,c.free⟩] }:=by rw [←hcn]
   rw [st]
   have bb:Bnd E ({ ({ σ with cells:=l,steps:=σ.steps+1 } : St) with cells:=l++[⟨nm,n,c.hid,c.free⟩] }) at_:=hb.cells r3.okS (by rw [hc];simp) (Nat.le_refl _)
   have fd:Found3 s (l++[⟨nm,n,c.hid,c.free⟩]):=SameN.found (l:=l++[⟨nm,0,false,false⟩]) (by unfold SameN;simp) hfd
   obtain ⟨σ2,z1,z2,z3,z4⟩:=bn _ _ _ r3 bb fd
   rw [z1,Option.bind_some]
   obtain ⟨l2,c2,y1,y2,y3⟩:=sameN_snoc z2
   have hfr2:findN l2 nm < 0:=by rw [y2.find];exact hfr
   have bb2:Bnd E σ2 at_:=hb.cells z3 (by rw [z2.len,hc];simp) (Nat.le_refl _)
   rw [rp]
   by_cases hn1:n+1≤last
   ·rcases z4 with ⟨w1,w2⟩ | ⟨w1,w2⟩
    ·rw [y1] at w2
     obtain ⟨σ3,v1,l3,c3,v2,v3,v4,v5⟩:=rounds3 hE hl20 i0 hat bo bn f (n+1) j l2 c2 σ2 _ (by omega) (by omega) hn1 y1 y3 hfr2 w2.drop bb2 (SameN.found (by unfold SameN at y2 ⊢;rw [List.map_append,List.map_append,y2]) hfd)
     rw [hq2] at v5
     exact ⟨σ3,v1,l3,c3,v2,y2.trans v3,v4,v5⟩
    ·have pos2:0 < σ2.cells.length:=by rw [y1];simp
     refine ⟨σ2,rounds_off w2 pos2 (fun live hl=>bo σ2 live hl bb2) f (n+1) j (by omega) hn1,l2,c2,y1,y2,z3,.inr ⟨?_,w2⟩⟩
     exact Int.lt_of_lt_of_le w1 (grow _ _ _)
   ·have q0:q=0:=by omega
    subst q0
    have rr:roundsM B E at_ last f (n+1) ⟨j,σ2⟩=some ⟨j,σ2⟩:=by cases f <;> (rw [roundsM,if_neg hn1])
    refine ⟨σ2,rr,l2,c2,y1,y2,z3,?_⟩
    rcases z4 with ⟨w1,w2⟩ | ⟨w1,w2⟩
    ·rw [y1] at w2
     exact .inl ⟨w1,w2.drop⟩
    ·exact .inr ⟨w1,w2⟩
  ·have e1:stepS E σ true = { σ with dead:=true }:=by unfold stepS;rw [hlv,hR.lives hE,if_pos rfl,if_pos (by omega)]
   have e2:stepB E σ true=false:=by unfold stepB;rw [decide_eq_false hs,Bool.and_false]
   have over:20000 < (setV (stepP S) nm n).steps:=by
    have:=hR.st
    show 20000 < S.steps+1
    have h2:σ.steps=S.steps+0:=this
    omega
   have hd:({ σ with dead:=true } : St).dead=true:=rfl
   have bbd:Bnd E { σ with dead:=true } at_:=⟨hb.1,hb.2⟩
   have fin:=rounds_off (E:=E) (B:=B) (at_:=at_) (j:=j) (last:=last) hd pos (fun live hl=>bo _ live hl bbd) (f+1) n to (by omega) hn
   rw [roundsM,if_pos hn] at fin
   dsimp only at fin
   have off:=step_off (E:=E) (σ:={ σ with dead:=true }) (live:=true) (dead_off hd)
   rw [off.1,off.2,if_pos pos,if_neg (by decide)] at fin
   rw [e2,e1,if_pos pos,if_neg (by decide)]
   refine ⟨{ σ with dead:=true },fin,l,c,hc,SameN.refl _,bbd.1,.inr ⟨?_,rfl⟩⟩
   rw [rp]
   have o2:=stP_over (D:=D) over s
   rw [o2]
   exact Int.lt_of_lt_of_le over (grow _ _ _)
end
end Go.Proofs.YthmmgiaobakilaaGreat
