import Derived.Test.YthmmgiaobakilaaGreatJ25
import Derived.Test.YthmmgiaobakilaaGreatJ35
import Derived.Test.YthmmgiaobakilaaGreatJ39
set_option maxRecDepth 100000
set_option maxHeartbeats 8000000
set_option linter.all false
namespace Go.Proofs.YthmmgiaobakilaaGreat
open Go.RowKit Go.Deep
variable {A B C f f':St->Option VR} {D:PD} {E:bB} {P:PE} {X:MX} {c:bQ} {d v:Int} {g g' gA gB:dx->Int×dx} {hid live:Bool} {i j n nA nB:Nat} {l l':List bQ} {nm s u:ByteArray} {σ:St}
structure E3 (E:bB) (D:PD):Prop where
 m:E.mode=3
 w:E.sw=D.sw
 h:E.sh=D.sh
 o:E.opens=D.opens
 d:E.hids=D.hids
 ok:D.Ok
 p0:0<=E.point
 p1:E.point<D.sw*D.sh
 to:∀i,dw (D.opens.getD i 0)
 th:∀i,dw (D.hids.getD i 0)
structure R3 (E:bB) (D:PD) (l:List bQ) (q k:Int) (σ:St) (S:dx):Prop where
 al:σ.dead=false
 ce:σ.cells=l
 cl:l.length<=1000
 st:σ.steps=S.steps+k
 le:σ.steps<=20000
 k0:0<=k
 q0:0<=q
 t0:0<=σ.touched
 tk:σ.touched+k+q<=σ.steps
 tt:σ.touched=S.touched
 tr:σ.trace=S.trace
 op:σ.opn=S.opn
 hi:σ.hid=S.hid
 vl:∀s,0<=aN l s->(l.getD (aN l s).toNat kW).val=S.vals s
 vb:∀s,dw (S.vals s)
 pt:iT D S=E.point
 lo:(σ.opn.length:Int)=D.sw*D.sh
 lh:(σ.hid.length:Int)=D.sw*D.sh
section
variable {E:bB} {D:PD} {l:List bQ} {q k:Int} {σ:St} {S:dx}
theorem R3.okS (h:R3 E D l q k σ S):lI σ:=by
 have:=h.le;have:=h.k0;have:=h.q0;have:=h.t0;have:=h.tk;have:=h.cl;have:=h.ce;unfold lI;rw[h.ce];exact⟨h.cl,by omega,h.t0,by omega⟩
theorem R3.lives (hE:E3 E D) (h:R3 E D l q k σ S):aW E σ true=true:=by unfold aW;rw[hE.m,h.al];rfl
theorem R3.on (hE:E3 E D) (h:R3 E D l q k σ S) (hs:σ.steps<20000):aC E σ true = { σ with steps:=σ.steps+1 }/\stepB E σ true=true/\R3 E D l q (k+1) (aC E σ true) S:=by
 have e:aC E σ true = { σ with steps:=σ.steps+1 }:=by
  unfold aC;rw[h.lives hE,ag rfl,ae (by omega)]
 refine⟨e,by unfold stepB;rw[h.lives hE,jP hs];rfl,?_⟩;rw[e];exact⟨h.al,h.ce,h.cl,by show σ.steps+1=_;have:=h.st;omega,by show σ.steps+1<=_;omega,by have:=h.k0;omega,h.q0,h.t0,by show σ.touched+(k+1)+q<=σ.steps+1;have:=h.tk;omega,h.tt,h.tr,h.op,h.hi,h.vl,h.vb,h.pt,h.lo,h.lh⟩
theorem R3.die (hE:E3 E D) (h:R3 E D l q k σ S) (hs:¬ σ.steps<20000):aC E σ true = { σ with dead:=true }/\stepB E σ true=false:=by
 refine⟨by unfold aC;rw[h.lives hE,ag rfl,ag (by omega)],by unfold stepB;rw[pJ hs,Bool.and_false]⟩
theorem oI (h:σ.dead=true):aW E σ live=false:=by unfold aW;rw[h];simp
theorem pR (h:aW E σ live=false):aC E σ live=σ/\stepB E σ live=false:=⟨by unfold aC;rw[h];rfl,by unfold stepB;rw[h];rfl⟩
theorem Vv (hE:E3 E D) (σ:St) (t:aH):lH E σ t=σ:=by unfold lH;rw[hE.m];rfl
theorem RU (hE:E3 E D) (σ:St) (t:aH) (b:Bool):lG E σ t b=σ:=by unfold lG;rw[hE.m];rfl
theorem Zk (x:Int):kG x=wrap32 x:=by unfold kG wrap32;omega
theorem YX {x:Int} (h:dw x):wrap32 x=x:=by unfold dw at h;unfold wrap32;omega
theorem Wq (hE:E3 E D) (a b:Int):mh E a b=gu D a b:=by
 unfold mh gu fP;rw[hE.w,hE.h,Int.mul_comm D.sw,Int.add_comm]
def zM (E:bB) (live:Bool) (f:St->Option VR):Prop:=∀σ,aW E σ live=false->lI σ->∃v h,f σ=some (v,h,σ)/\dw v
def On (E:bB) (D:PD) (l:List bQ) (d:Int) (f:St->Option VR) (g:dx->Int×dx) (n:Nat):Prop:=∀(q k:Int) (σ:St) (S:dx),R3 E D l q k σ S->∃v h σ',f σ=some (v,h,σ')/\dw v/\lI σ'/\σ'.cells=l /\
 ((σ.steps+n+d<=20000/\v=(g S).1/\R3 E D l q (k+d) σ' (g S).2/\σ'.steps=σ.steps+n+d)∨(20000<σ.steps+n+d/\σ'.dead=true))
theorem R3.pay (h:R3 E D l q (k+1) σ S) (hk:0<=k):R3 E D l q k σ (aK S):=
 ⟨h.al,h.ce,h.cl,by show σ.steps=S.steps+1+k;have:=h.st;omega,h.le,hk,h.q0,h.t0,by have:=h.tk;omega,h.tt,h.tr,h.op,h.hi,h.vl,h.vb,h.pt,h.lo,h.lh⟩
theorem R3.touch (h:R3 E D l q (k+1) σ S) (hk:0<=k) (a b:Int):R3 E D l q k (lq σ a b) (bC (aK S) a b):=by
 have ht:=h.tr;have hl:σ.trace.length=S.trace.length:=by rw[ht]
 unfold lq bC;have hl':(aK S).trace.length=σ.trace.length:=hl.symm;rw[hl'];split
 .exact⟨h.al,h.ce,h.cl,by show σ.steps=S.steps+1+k;have:=h.st;omega,h.le,hk,h.q0,by show 0<=σ.touched+1;have:=h.t0;omega,by show σ.touched+1+k+q<=σ.steps;have:=h.tk;omega,by show σ.touched+1=S.touched+1;rw[h.tt],by show σ.trace++_=S.trace++_;rw[ht],h.op,h.hi,h.vl,h.vb,h.pt,h.lo,h.lh⟩
 .exact⟨h.al,h.ce,h.cl,by show σ.steps=S.steps+1+k;have:=h.st;omega,h.le,hk,h.q0,by show 0<=σ.touched+1;have:=h.t0;omega,by show σ.touched+1+k+q<=σ.steps;have:=h.tk;omega,by show σ.touched+1=S.touched+1;rw[h.tt],ht,h.op,h.hi,h.vl,h.vb,h.pt,h.lo,h.lh⟩
theorem G9 (hE:E3 E D) (h:On E D l 0 f g n) (ho:zM E true f):On E D l 1 (λσ=>f (aC E σ true)) g n:=by
 intro q k σ S hR;by_cases hs:σ.steps<20000
 .obtain⟨e,_,r⟩:=hR.on hE hs;obtain⟨v,hh,σ',e1,e2,e3,e4,e5⟩:=h q (k+1) (aC E σ true) S r;have es:(aC E σ true).steps=σ.steps+1:=by rw[e]
  refine⟨v,hh,σ',e1,e2,e3,e4,?_⟩;rcases e5 with⟨a,b,c,d⟩|⟨a,b⟩
  .exact .inl ⟨by omega,b,by rw[pW]at c;exact c,by omega⟩
  .exact .inr ⟨by omega,b⟩
 .obtain⟨e,_⟩:=hR.die hE hs;have od:lI (aC E σ true):=by rw[e];exact hR.okS
  have dd:(aC E σ true).dead=true:=by rw[e]
  obtain⟨v,hh,e1,e2⟩:=ho (aC E σ true) (oI dd) od;exact⟨v,hh,_,e1,e2,od,by rw[e];exact hR.ce,.inr ⟨by omega,dd⟩⟩
theorem AR (h:zM E live f):zM E live (λσ=>f (aC E σ live)):=by
 intro σ hl ho;show ∃v h,f (aC E σ live)=some (v,h,σ)/\dw v;rw[(pR hl).1];exact h σ hl ho
theorem FR {dA dB:Int} (hA:On E D l dA A gA nA) (hB:On E D l dB B gB nB) (oB:zM E true B) (hd:0<=dB) (q k:Int) (σ:St) (S:dx) (hR:R3 E D l q k σ S) :
  ∃a b:VR,A σ=some a/\B a.2.2=some b/\dw a.1/\dw b.1/\lI b.2.2/\b.2.2.cells=l /\
   ((σ.steps+(nA+nB:Nat)+(dA+dB)<=20000/\a.1=(gA S).1/\b.1=(gB (gA S).2).1/\R3 E D l q (k+(dA+dB)) b.2.2 (gB (gA S).2).2/\b.2.2.steps=σ.steps+(nA+nB:Nat)+(dA+dB))∨(20000<σ.steps+(nA+nB:Nat)+(dA+dB)/\b.2.2.dead=true)):=by
 obtain⟨v,hh,σ1,e1,e2,e3,e4,e5⟩:=hA q k σ S hR;rcases e5 with⟨a,b,c,d⟩|⟨a,b⟩
 .obtain⟨u,h2,σ2,f1,f2,f3,f4,f5⟩:=hB q (k+dA) σ1 _ c;refine⟨(v,hh,σ1),(u,h2,σ2),e1,f1,e2,f2,f3,f4,?_⟩;rcases f5 with⟨p,u2,r,s⟩|⟨p,u2⟩
  .exact .inl ⟨by omega,b,u2,by rw[<-Int.add_assoc];exact r,by show σ2.steps=_;omega⟩
  .exact .inr ⟨by omega,u2⟩
 .obtain⟨u,h2,f1,f2⟩:=oB σ1 (oI b) e3;exact⟨(v,hh,σ1),(u,h2,σ1),e1,f1,e2,f2,e3,e4,.inr ⟨by omega,b⟩⟩
theorem Dz (oA:zM E live A) (oB:zM E live B) (hl:aW E σ live=false) (ho:lI σ):∃a b:VR,A σ=some a/\B a.2.2=some b/\dw a.1/\dw b.1/\a.2.2=σ/\b.2.2=σ:=by
 obtain⟨v,h,e1,e2⟩:=oA σ hl ho;obtain⟨u,h2,f1,f2⟩:=oB σ hl ho;exact⟨(v,h,σ),(u,h2,σ),e1,f1,e2,f2,rfl,rfl⟩
end
theorem Qp3:∀s∈Ef,∀a b:Int,Je (aX s) a b=dR s a b:=by
 intro s hs a b;simp only[Ef,lT,lQ,sD,dW,aO,aQ,aR]at hs;rcases hs with(rfl|rfl)|(rfl|rfl)|(rfl|rfl|rfl|rfl)
 all_goals kernel_rfl
theorem On.congr (h:On E D l d f g n) (e:∀S,g' S=g S):On E D l d f g' n:=by
 rw[funext e];exact h
theorem On.same (h:On E D l d f g n) (e:∀σ,f' σ=f σ):On E D l d f' g n:=by
 rw[funext e];exact h
theorem zM.same (h:zM E live f) (e:∀σ,f' σ=f σ):zM E live f':=by
 rw[funext e];exact h
section
variable {E:bB} {D:PD} {l:List bQ} {t:aH}
theorem Zq (hk:t.kind=2) (hn:dw t.num):zM E live (λσ=>FQ (iN E σ t live)):=by
 intro σ hl ho;refine⟨t.num,false,?_,hn⟩;show FQ (iN E σ t live)=_;have e:iN E σ t live=(t.num,false,σ):=by unfold iN;rw[hk,(pR hl).1];rfl
 rw[e,jI ho hn]
theorem Y1 (hE:E3 E D) (hk:t.kind=1):zM E live (λσ=>FQ (iN E σ t live)):=by
 intro σ hl ho;have e:∃h,iN E σ t live=(0,h,σ):=by
  unfold iN;rw[hk,ae (by decide),hE.m,ae (by decide),(pR hl).1,(pR hl).2,Vv hE];split
  .exact⟨_,rfl⟩
  .exact⟨_,rfl⟩
 obtain⟨h,e⟩:=e;exact⟨0,h,by show FQ (iN E σ t live)=_;rw[e,jI ho Dy],Dy⟩
theorem Qm1 (hE:E3 E D) (hk:t.kind=2) (hn:dw t.num):On E D l 0 (λσ=>FQ (iN E σ t true)) (λS=>(t.num,aK S)) 1:=by
 intro q k σ S hR;have e:iN E σ t true=(t.num,false,aC E σ true):=by unfold iN;rw[hk];rfl
 by_cases hs:σ.steps<20000
 .obtain⟨e1,_,r⟩:=hR.on hE hs;exact⟨t.num,false,aC E σ true,by show FQ (iN E σ t true)=_;rw[e,jI r.okS hn],hn,r.okS,r.ce,.inl ⟨by omega,rfl,by rw[pW];exact r.pay hR.k0,by rw[e1];show σ.steps+1=_;omega⟩⟩
 .obtain⟨e1,_⟩:=hR.die hE hs;have od:lI (aC E σ true):=by rw[e1];exact hR.okS
  exact⟨t.num,false,aC E σ true,by show FQ (iN E σ t true)=_;rw[e,jI od hn],hn,od,by rw[e1];exact hR.ce,.inr ⟨by omega,by rw[e1]⟩⟩
theorem YU (hE:E3 E D) (hk:t.kind=1) (hf:0<=aN l t.text):On E D l 0 (λσ=>FQ (iN E σ t true)) (λS=>(S.vals t.text,aK S)) 1:=by
 intro q k σ S hR;have cs:(aC E σ true).cells=l:=by
  unfold aC;split
  .split<;>exact hR.ce
  .exact hR.ce
 have e:iN E σ t true=(if stepB E σ true then(l.getD (aN l t.text).toNat kW).val else 0,(l.getD (aN l t.text).toNat kW).hid,aC E σ true):=by
  unfold iN;rw[hk,ae (by decide),hE.m,ae (by decide),Vv hE];unfold jr mG;rw[cs,ae (by omega)]
 by_cases hs:σ.steps<20000
 .obtain⟨e1,e2,r⟩:=hR.on hE hs;have iv:=hR.vb t.text;rw[<-hR.vl _ hf]at iv;refine⟨(l.getD (aN l t.text).toNat kW).val,(l.getD (aN l t.text).toNat kW).hid,aC E σ true,?_,iv,r.okS,r.ce,.inl ⟨by omega,hR.vl _ hf,by rw[pW];exact r.pay hR.k0,by rw[e1];show σ.steps+1=_;omega⟩⟩;show FQ (iN E σ t true)=_;rw[e,e2,ag rfl,jI r.okS iv]
 .obtain⟨e1,e2⟩:=hR.die hE hs;have od:lI (aC E σ true):=by rw[e1];exact hR.okS
  refine⟨0,(l.getD (aN l t.text).toNat kW).hid,aC E σ true,?_,Dy,od,by rw[e1];exact hR.ce,.inr ⟨by omega,by rw[e1]⟩⟩;show FQ (iN E σ t true)=_;rw[e,e2,ae (by decide),jI od Dy]
theorem Qd4 (oA:zM E live A):zM E live (λσ=>(A (aC E σ live)).bind Js):=by
 intro σ hl ho;obtain⟨v,h,e1,_⟩:=AR oA σ hl ho;refine⟨kG (-v),h,?_,kL _⟩;show(A (aC E σ live)).bind Js=_;have e1':A (aC E σ live)=some (v,h,σ):=e1;rw[e1',aG];exact jI ho (kL _)
theorem Qi9 (hE:E3 E D) (hA:On E D l 0 A gA n) (oA:zM E true A):On E D l 0 (λσ=>(A (aC E σ true)).bind Js) (λS=>(wrap32 (-(gA S).1),aK (gA S).2)) (n+1):=by
 intro q k σ S hR;obtain⟨v,h,σ',e1,e2,e3,e4,e5⟩:=G9 hE hA oA q k σ S hR;have e1':A (aC E σ true)=some (v,h,σ'):=e1;refine⟨kG (-v),h,σ',?_,kL _,e3,e4,?_⟩
 .show(A (aC E σ true)).bind Js=_;rw[e1',aG];exact jI e3 (kL _)
 .rcases e5 with⟨a,b,c,d⟩|⟨a,b⟩
  .exact .inl ⟨by omega,by rw[b,Zk],by rw[pW];exact c.pay hR.k0,by omega⟩
  .exact .inr ⟨by omega,b⟩
theorem ZP (oA:zM E live A) (oB:zM E live B):zM E live (λσ=>(A σ).bind λa=>(B (aC E a.2.2 live)).bind λb=>Jg t a b):=by
 intro σ hl ho;obtain⟨a,b,e1,e2,i1,i2,e3,e4⟩:=Dz oA (AR oB) hl ho;refine⟨dR t.text a.1 b.1,a.2.1||b.2.1,?_,iG i1 i2⟩;show(A σ).bind _=_;have e2':B (aC E a.2.2 live)=some b:=e2;rw[e1,aG,e2',aG];show some (dR t.text a.1 b.1,a.2.1||b.2.1,b.2.2)=_;rw[e4]
theorem Qj3 (hE:E3 E D) (hA:On E D l 0 A gA nA) (hB:On E D l 0 B gB nB) (oB:zM E true B):On E D l 0 (λσ=>(A σ).bind λa=>(B (aC E a.2.2 true)).bind λb=>Jg t a b) (λS=>(dR t.text (gA S).1 (gB (gA S).2).1,aK (gB (gA S).2).2)) (nA+nB+1):=by
 intro q k σ S hR;obtain⟨a,b,e1,e2,i1,i2,e3,e4,e5⟩:=FR (E:=E) hA (G9 hE hB oB) (AR oB) (by decide) q k σ S hR;have e2':B (aC E a.2.2 true)=some b:=e2;refine⟨dR t.text a.1 b.1,a.2.1||b.2.1,b.2.2,?_,iG i1 i2,e3,e4,?_⟩
 .show(A σ).bind _=_;rw[e1,aG,e2',aG];rfl
 .rcases e5 with⟨p,q1,r,s,u⟩|⟨p,q1⟩
  .exact .inl ⟨by omega,by rw[q1,r],by rw[pW];rw[Int.zero_add]at s;exact s.pay hR.k0,by omega⟩
  .exact .inr ⟨by omega,q1⟩
theorem NE (oA:zM E live A) (oB:zM E live B):zM E live (λσ=>(A (aC E σ live)).bind λa=>(B a.2.2).bind λb=>wX t a b):=by
 intro σ hl ho;obtain⟨a,b,e1,e2,i1,i2,e3,e4⟩:=Dz (AR oA) oB hl ho;refine⟨dR t.text a.1 b.1,a.2.1||b.2.1,?_,iG i1 i2⟩;show(A (aC E σ live)).bind _=_;have e1':A (aC E σ live)=some a:=e1;rw[e1',aG,e2,aG];unfold wX;rw[ag ⟨i1,i2⟩,e4,jI ho (iG i1 i2)]
theorem Sg (hE:E3 E D) (hA:On E D l 0 A gA nA) (oA:zM E true A) (hB:On E D l 0 B gB nB) (oB:zM E true B):On E D l 0 (λσ=>(A (aC E σ true)).bind λa=>(B a.2.2).bind λb=>wX t a b) (λS=>(dR t.text (gA S).1 (gB (gA S).2).1,aK (gB (gA S).2).2)) (nA+nB+1):=by
 intro q k σ S hR;obtain⟨a,b,e1,e2,i1,i2,e3,e4,e5⟩:=FR (E:=E) (G9 hE hA oA) hB oB (by decide) q k σ S hR;have e1':A (aC E σ true)=some a:=e1;refine⟨dR t.text a.1 b.1,a.2.1||b.2.1,b.2.2,?_,iG i1 i2,e3,e4,?_⟩
 .show(A (aC E σ true)).bind _=_;rw[e1',aG,e2,aG];unfold wX;rw[ag ⟨i1,i2⟩];exact jI (r:=(dR t.text a.1 b.1,a.2.1||b.2.1,b.2.2)) e3 (iG i1 i2)
 .rcases e5 with⟨p,q1,r,s,u⟩|⟨p,q1⟩
  .exact .inl ⟨by omega,by rw[q1,r],by rw[pW];exact s.pay hR.k0,by omega⟩
  .exact .inr ⟨by omega,q1⟩
theorem QY (hE:E3 E D) (hid:Bool) (oA:zM E live A) (oB:zM E live B):zM E live (λσ=>(A (aC E σ live)).bind λa=>(B a.2.2).bind λb=>zf E t live hid a b):=by
 intro σ hl ho;obtain⟨a,b,e1,e2,i1,i2,e3,e4⟩:=Dz (AR oA) oB hl ho;refine⟨0,hid||a.2.1||b.2.1,?_,Dy⟩;show(A (aC E σ live)).bind _=_;have e1':A (aC E σ live)=some a:=e1;rw[e1',aG,e2,aG];unfold zf;rw[RU hE,e4,hl,ae (by decide),jI ho Dy]
theorem XK (hE:E3 E D) (hid:Bool) (hA:On E D l 0 A gA nA) (oA:zM E true A) (hB:On E D l 0 B gB nB) (oB:zM E true B):On E D l 0 (λσ=>(A (aC E σ true)).bind λa=>(B a.2.2).bind λb=>zf E t true hid a b) (λS=>(wrap32 ((if hid then D.hids else D.opens).getD (gu D (gA S).1 (gB (gA S).2).1).toNat 0),bC (aK (gB (gA S).2).2) (lF hid) (gu D (gA S).1 (gB (gA S).2).1))) (nA+nB+1):=by
 intro q k σ S hR;obtain⟨a,b,e1,e2,i1,i2,e3,e4,e5⟩:=FR (E:=E) (G9 hE hA oA) hB oB (by decide) q k σ S hR;have e1':A (aC E σ true)=some a:=e1;have run:((A (aC E σ true)).bind λa=>(B a.2.2).bind λb=>zf E t true hid a b)=zf E t true hid a b:=by
  rw[e1',aG,e2,aG]
 rcases e5 with⟨p,q1,r,s,u⟩|⟨p,q1⟩
 .obtain⟨p1,p2⟩:=Mm (D:=D) a.1 b.1 hE.ok.w1 hE.ok.h1;have s':R3 E D l q (k+1) b.2.2 (gB (gA S).2).2:=s;have tc:=s'.touch hR.k0 (lF hid) (gu D a.1 b.1);have iv:dw ((if hid then D.hids else D.opens).getD (gu D a.1 b.1).toNat 0):=by
   cases hid
   .exact hE.to _
   .exact hE.th _
  have lo:=hE.ok.lo;have lh:=hE.ok.lh;refine⟨(if hid then D.hids else D.opens).getD (gu D a.1 b.1).toNat 0,hid,lq b.2.2 (lF hid) (gu D a.1 b.1),?_,iv,tc.okS,tc.ce,.inl ⟨by omega,?_,?_,?_⟩⟩
  .show((A (aC E σ true)).bind λa=>(B a.2.2).bind λb=>zf E t true hid a b)=_;rw[run];unfold zf;rw[RU hE,s'.lives hE,ag rfl,Wq hE,hE.w,hE.h,hE.o,hE.d,ag ⟨hE.ok.w1,hE.ok.w2,hE.ok.h1,hE.ok.h2,p1,by omega,by omega⟩,jI tc.okS iv]
  .show _=wrap32 ((if hid then D.hids else D.opens).getD (gu D (gA S).1 (gB (gA S).2).1).toNat 0);rw[<-q1,<-r];exact(YX iv).symm
  .show R3 E D l q (k+0) _ (bC (aK (gB (gA S).2).2) (lF hid) (gu D (gA S).1 (gB (gA S).2).1));rw[<-q1,<-r,pW];exact tc
  .have:(lq b.2.2 (lF hid) (gu D a.1 b.1)).steps=b.2.2.steps:=by unfold lq;split<;>rfl
   omega
 .refine⟨0,hid||a.2.1||b.2.1,b.2.2,?_,Dy,e3,e4,.inr ⟨by omega,q1⟩⟩;show((A (aC E σ true)).bind λa=>(B a.2.2).bind λb=>zf E t true hid a b)=_;rw[run];unfold zf;rw[RU hE,oI q1,ae (by decide)];exact jI (r:=(0,hid||a.2.1||b.2.1,b.2.2)) e3 Dy
theorem Qa0 (oA:zM E live A) (oB:zM E live B) (oC:zM E live C):zM E live (λσ=>(A (aC E σ live)).bind λa=>(B a.2.2).bind λb=>(C b.2.2).bind λc=>yP a b c):=by
 intro σ hl ho;obtain⟨a,b,e1,e2,i1,i2,e3,e4⟩:=Dz (AR oA) oB hl ho;obtain⟨v,h,e5,i3⟩:=oC σ hl ho;have e1':A (aC E σ live)=some a:=e1;have run:((A (aC E σ live)).bind λa=>(B a.2.2).bind λb=>(C b.2.2).bind λc=>yP a b c)=yP a b (v,h,σ):=by
  rw[e1',aG,e2,aG,e4,e5,aG]
 have run':(λσ=>(A (aC E σ live)).bind λa=>(B a.2.2).bind λb=>(C b.2.2).bind λc=>yP a b c) σ=yP a b (v,h,σ):=run;rw[run'];unfold yP;split
 .exact⟨_,_,jI ho i3,i3⟩
 .exact⟨_,_,jI ho i2,i2⟩
theorem Qk1 (hE:E3 E D) {gC:dx->Int×dx} {nC:Nat} (hA:On E D l 0 A gA nA) (oA:zM E true A) (hB:On E D l 0 B gB nB) (oB:zM E true B) (hC:On E D l 0 C gC nC) (oC:zM E true C):On E D l 0 (λσ=>(A (aC E σ true)).bind λa=>(B a.2.2).bind λb=>(C b.2.2).bind λc=>yP a b c) (λS=>(if(gA S).1≠0 then(gB (gA S).2).1 else(gC (gB (gA S).2).2).1,aK (gC (gB (gA S).2).2).2)) (nA+nB+nC+1):=by
 intro q k σ S hR;obtain⟨a,b,e1,e2,i1,i2,e3,e4,e5⟩:=FR (E:=E) (G9 hE hA oA) hB oB (by decide) q k σ S hR;have e1':A (aC E σ true)=some a:=e1;have fin:∀c:VR,C b.2.2=some c->lI c.2.2->dw c.1->∃h,((A (aC E σ true)).bind λa=>(B a.2.2).bind λb=>(C b.2.2).bind λc=>yP a b c)=some (if a.1≠0 then b.1 else c.1,h,c.2.2)/\dw (if a.1≠0 then b.1 else c.1):=λc hc ho hi=>by
  rw[e1',aG,e2,aG,hc,aG];unfold yP;by_cases h0:a.1=0
  .rw[ag h0,ae (by omega)];exact⟨_,jI (r:=(c.1,a.2.1||b.2.1||c.2.1,c.2.2)) ho hi,hi⟩
  .rw[ae h0,ag h0];exact⟨_,jI (r:=(b.1,a.2.1||b.2.1||c.2.1,c.2.2)) ho i2,i2⟩
 rcases e5 with⟨p,q1,r,s,u⟩|⟨p,q1⟩
 .obtain⟨v,h2,σ2,f1,f2,f3,f4,f5⟩:=hC _ _ b.2.2 _ s;obtain⟨h3,g1,g2⟩:=fin (v,h2,σ2) f1 f3 f2;refine⟨_,h3,σ2,g1,g2,f3,f4,?_⟩;rcases f5 with⟨p',q',r',s'⟩|⟨p',q'⟩
  .refine .inl ⟨by omega,?_,by rw[pW];rw[pW]at r';exact r'.pay hR.k0,by omega⟩;show(if a.1≠0 then b.1 else v)=(if(gA S).1≠0 then(gB (gA S).2).1 else(gC (gB (gA S).2).2).1);rw[<-q1,<-r,<-q']
  .exact .inr ⟨by omega,q'⟩
 .obtain⟨v,h2,f1,f2⟩:=oC b.2.2 (oI q1) e3;obtain⟨h3,g1,g2⟩:=fin (v,h2,b.2.2) f1 e3 f2;exact⟨_,h3,b.2.2,g1,g2,e3,e4,.inr ⟨by omega,q1⟩⟩
end
def zg (l:List bQ):Ex->Prop
 | .nil=>True
 | .node _ _ t k r=>(t.kind=1->0<=aN l t.text)/\zg l k/\zg l r
section
variable {D:PD} {S:dx} {t:aH} {vs:List Int}
theorem Ql8 (hk:t.kind=2):jQ D S t vs=(t.num,S):=by
 unfold jQ;have e:kP t=3:=by unfold kP;rw[hk];rfl
 rw[ag e];unfold nP;rw[hk];rfl
theorem Lu (hk:t.kind=0∨t.kind=1):jQ D S t vs=fQ D S t.text vs:=by
 unfold jQ;have e:kP t=2/\wP t=t.text:=by unfold kP wP;rcases hk with hk|hk<;>rw[hk]<;>exact⟨rfl,rfl⟩
 rw[ae (by rw[e.1];decide),ae (by rw[e.1];decide),e.2]
theorem Sr (hk:t.kind=3):jQ D S t vs=(BD (aX t.text) vs,S):=by
 unfold jQ;have e:kP t=4/\sP t=aX t.text:=by unfold kP sP;rw[hk];exact⟨rfl,rfl⟩
 rw[ae (by rw[e.1];decide),ag e.1,e.2]
theorem Zr (hm:dI u qg=false):fQ D S u vs=(S.vals u,S):=by
 have no:∀s,dI s qg=true->u≠s:=λs hs e=>by rw[e,hs]at hm;cases hm
 unfold fQ;rw[ae (no _ (by unfold dI qg jo;simp)),ae (no _ (by unfold dI qg kU;simp)),ae (no _ (by unfold dI qg kI;simp)),ae (no _ (by unfold dI qg bf;simp)),ae (no _ (by unfold dI qg cz;simp))]
theorem YR (a b:Int):fQ D S bf [a,b]=(wrap32 (D.opens.getD (gu D a b).toNat 0),bC S 0 (gu D a b)):=by kernel_rfl
theorem Qj2 (a b:Int):fQ D S cz [a,b]=(wrap32 (D.hids.getD (gu D a b).toNat 0),bC S 1 (gu D a b)):=by kernel_rfl
theorem Ql2 (a b:Int):fQ D S kU [a,b]=(dR kU a b,S):=by kernel_rfl
theorem Qg4 (a b:Int):fQ D S kI [a,b]=(dR kI a b,S):=by kernel_rfl
theorem Ql0 (a b c:Int):fQ D S jo [a,b,c]=(if a≠0 then b else c,S):=by kernel_rfl
theorem Qi8 (a:Int):BD (aX Ag) [a]=wrap32 (-a):=by kernel_rfl
theorem Qi5 (hs:s∈Ef) (a b:Int):BD (aX s) [a,b]=dR s a b:=by
 rw[<-Qp3 s hs a b];rfl
end
theorem Wi:∀s∈Ef,(s.toList==bf.toList)=false/\(s.toList==cz.toList)=false/\(s.toList==kU.toList)=false/\(s.toList==kI.toList)=false:=by
 intro s hs;simp only[Ef,lT,lQ,sD,dW,aO,aQ,aR]at hs;rcases hs with(rfl|rfl)|(rfl|rfl)|(rfl|rfl|rfl|rfl)<;>decide +kernel
section
variable {E:bB} {D:PD} {l:List bQ} {t:aH} {live:Bool}
theorem FC (hk:t.kind=2∨t.kind=1) (ks:List (St->Option VR)) (σ:St):pg E live t ks σ=FQ (iN E σ t live):=by
 unfold pg;rw[ag (by rcases hk with hk|hk<;>rw[hk]<;>rfl)]
theorem LW (hk:t.kind=3∨t.kind=0):¬ ((t.kind==2)||(t.kind==1))=true:=by rcases hk with hk|hk<;>rw[hk]<;>decide
theorem Wp (hk:t.kind=3∨t.kind=0) (A:St->Option VR) (σ:St):pg E live t [A] σ=(A (aC E σ live)).bind Js:=by
 unfold pg;rw[ae (LW hk)]
theorem yY (hk:t.kind=3∨t.kind=0) (A B:St->Option VR) (σ:St):pg E live t [A,B] σ=uN E live t A B σ:=by
 unfold pg;rw[ae (LW hk)]
theorem Mj (hk:t.kind=3∨t.kind=0) (A B C:St->Option VR) (σ:St):pg E live t [A,B,C] σ=(A (aC E σ live)).bind λa=>(B a.2.2).bind λb=>(C b.2.2).bind λc=>yP a b c:=by
 unfold pg;rw[ae (LW hk)]
theorem Qp8 (h8:t.text∈Ef) (A B:St->Option VR) (σ:St):uN E live t A B σ=(A σ).bind λa=>(B (aC E a.2.2 live)).bind λb=>Jg t a b:=by
 obtain⟨n1,n2,n3,n4⟩:=Wi _ h8;unfold uN zn;rw[n1,n2,n3,n4,ae (by decide),ae (by decide),ae (by decide),ae (by decide)]
theorem S9 (h:t.text=bf) (A B:St->Option VR) (σ:St):uN E live t A B σ=(A (aC E σ live)).bind λa=>(B a.2.2).bind λb=>zf E t live false a b:=by
 unfold uN zn;rw[h,ag (tY _)]
theorem VN (h:t.text=cz) (A B:St->Option VR) (σ:St):uN E live t A B σ=(A (aC E σ live)).bind λa=>(B a.2.2).bind λb=>zf E t live true a b:=by
 unfold uN zn;rw[h,ae (by decide +kernel),ag (tY _)]
theorem XV (h:t.text=kU) (A B:St->Option VR) (σ:St):uN E live t A B σ=(A (aC E σ live)).bind λa=>(B a.2.2).bind λb=>wX t a b:=by
 unfold uN zn;rw[h,ae (by decide +kernel),ae (by decide +kernel),ag (tY _)]
theorem VM (h:t.text=kI) (A B:St->Option VR) (σ:St):uN E live t A B σ=(A (aC E σ live)).bind λa=>(B a.2.2).bind λb=>wX t a b:=by
 unfold uN zn;rw[h,ae (by decide +kernel),ae (by decide +kernel),ae (by decide +kernel),ag (tY _)]
end
def Ev3 (E:bB) (D:PD) (l:List bQ) (b o:Nat) (t:aH) (k r:Ex):Prop:=(∀live,zM E live (tQ E live (.node b o t k r)))/\((t.kind=1->0<=aN l t.text)->zg l k->On E D l 0 (tQ E true (.node b o t k r)) (lL D (.node b o t k r)) (eu k+1))
theorem Qa2 {E:bB} {D:PD} (hE:E3 E D) (l:List bQ):∀(n:Nat) (k:Ex) (b o:Nat) (t:aH) (r:Ex),eu k<n->Qo (.node b o t k r)->Ev3 E D l b o t k r
 | 0,_,_,_,_,_,hn,_=>absurd hn (Nat.not_lt_zero _)
 | n+1,k,b,o,t,r,hn,hw=>by
  obtain⟨hh,hk,_⟩:=hw;rcases hh with⟨h2,rfl,n0,n1⟩|⟨h1,rfl,hm⟩|⟨h3,ht,hl⟩|⟨h3,h8,hl⟩|⟨h0,h4,hl⟩|⟨h0,hs,hl⟩
  .have hn:dw t.num:=⟨by omega,by omega⟩;refine⟨λlive=>(Zq h2 hn).same (λσ=>FC (.inl h2) [] σ),λ_ _=>?_⟩;exact((Qm1 hE h2 hn).same (f':=tQ E true (.node b o t .nil r)) (λσ=>FC (.inl h2) [] σ)).congr (λS=>show jQ D (aK S) t []=_ from Ql8 h2)
  .refine⟨λlive=>(Y1 hE h1).same (λσ=>FC (.inr h1) [] σ),λhf _=>?_⟩;exact((YU hE h1 (hf h1)).same (f':=tQ E true (.node b o t .nil r)) (λσ=>FC (.inr h1) [] σ)).congr (λS=>show jQ D (aK S) t []=_ from(Lu (.inr h1)).trans (Zr hm))
  .obtain⟨b1,o1,t1,k1,rfl⟩:=D7 hl;obtain⟨i1,i2⟩:=Qa2 hE l n k1 b1 o1 t1 .nil (by simp only[eu]at hn;omega) hk;refine⟨λlive=>(Qd4 (i1 live)).same (Wp (.inl h3) _),λ_ hf=>?_⟩;refine((Qi9 hE (i2 hf.1 hf.2.1) (i1 true)).same (Wp (.inl h3) _)).congr (λS=>?_);show jQ D (aK (xD D (.node b1 o1 t1 k1 .nil) S).2) t (xD D (.node b1 o1 t1 k1 .nil) S).1=_;rw[Sr h3,ht];show(BD (aX Ag) [(lL D (.node b1 o1 t1 k1 .nil) S).1],_)=_;rw[Qi8];rfl
  .obtain⟨b1,o1,t1,k1,r1,rfl,hl1⟩:=IU hl;obtain⟨b2,o2,t2,k2,rfl⟩:=D7 hl1;obtain⟨i1,i2⟩:=Qa2 hE l n k1 b1 o1 t1 (.node b2 o2 t2 k2 .nil) (by simp only[eu]at hn;omega) hk;obtain⟨j1,j2⟩:=Qa2 hE l n k2 b2 o2 t2 .nil (by simp only[eu]at hn;omega) hk.2.2;have ef:∀live σ,tQ E live (.node b o t (.node b1 o1 t1 k1 (.node b2 o2 t2 k2 .nil)) r) σ=(tQ E live (.node b1 o1 t1 k1 (.node b2 o2 t2 k2 .nil)) σ).bind λa=>(tQ E live (.node b2 o2 t2 k2 .nil) (aC E a.2.2 live)).bind λc=>Jg t a c:=λlive σ=>(yY (.inl h3) _ _ σ).trans (Qp8 h8 _ _ σ);refine⟨λlive=>(ZP (i1 live) (j1 live)).same (ef live),λ_ hf=>?_⟩;have:=(Qj3 (t:=t) hE (i2 hf.1 hf.2.1) (j2 hf.2.2.1 hf.2.2.2.1) (j1 true)).same (ef true);rw[show eu k1+1+(eu k2+1)+1=eu (.node b1 o1 t1 k1 (.node b2 o2 t2 k2 .nil))+1 by simp only[eu];omega]at this;refine this.congr (λS=>?_);show jQ D (aK (xD D (.node b1 o1 t1 k1 (.node b2 o2 t2 k2 .nil)) S).2) t (xD D (.node b1 o1 t1 k1 (.node b2 o2 t2 k2 .nil)) S).1=_;rw[Sr h3];show(BD (aX t.text) [(lL D (.node b1 o1 t1 k1 (.node b2 o2 t2 k2 .nil)) S).1,(lL D (.node b2 o2 t2 k2 .nil) (lL D (.node b1 o1 t1 k1 (.node b2 o2 t2 k2 .nil)) S).2).1],_)=_;rw[Qi5 h8];rfl
  .obtain⟨b1,o1,t1,k1,r1,rfl,hl1⟩:=IU hl;obtain⟨b2,o2,t2,k2,rfl⟩:=D7 hl1;obtain⟨i1,i2⟩:=Qa2 hE l n k1 b1 o1 t1 (.node b2 o2 t2 k2 .nil) (by simp only[eu]at hn;omega) hk;obtain⟨j1,j2⟩:=Qa2 hE l n k2 b2 o2 t2 .nil (by simp only[eu]at hn;omega) hk.2.2;have sz:eu k1+1+(eu k2+1)+1=eu (.node b1 o1 t1 k1 (.node b2 o2 t2 k2 .nil))+1:=by simp only[eu];omega
   have hp:∀S,lL D (.node b o t (.node b1 o1 t1 k1 (.node b2 o2 t2 k2 .nil)) r) S=fQ D (aK (lL D (.node b2 o2 t2 k2 .nil) (lL D (.node b1 o1 t1 k1 (.node b2 o2 t2 k2 .nil)) S).2).2) t.text [(lL D (.node b1 o1 t1 k1 (.node b2 o2 t2 k2 .nil)) S).1,(lL D (.node b2 o2 t2 k2 .nil) (lL D (.node b1 o1 t1 k1 (.node b2 o2 t2 k2 .nil)) S).2).1]:=λS=>Lu (.inl h0);rcases h4 with h4|h4|h4|h4
   .refine⟨λlive=>(QY hE false (i1 live) (j1 live)).same (λσ=>(yY (.inr h0) _ _ σ).trans (S9 h4 _ _ σ)),λ_ hf=>?_⟩;have:=(XK (t:=t) hE false (i2 hf.1 hf.2.1) (i1 true) (j2 hf.2.2.1 hf.2.2.2.1) (j1 true)).same (λσ=>(yY (.inr h0) _ _ σ).trans (S9 h4 _ _ σ));rw[sz]at this;exact this.congr (λS=>by rw[hp,h4,YR];rfl)
   .refine⟨λlive=>(QY hE true (i1 live) (j1 live)).same (λσ=>(yY (.inr h0) _ _ σ).trans (VN h4 _ _ σ)),λ_ hf=>?_⟩;have:=(XK (t:=t) hE true (i2 hf.1 hf.2.1) (i1 true) (j2 hf.2.2.1 hf.2.2.2.1) (j1 true)).same (λσ=>(yY (.inr h0) _ _ σ).trans (VN h4 _ _ σ));rw[sz]at this;exact this.congr (λS=>by rw[hp,h4,Qj2];rfl)
   .refine⟨λlive=>(NE (i1 live) (j1 live)).same (λσ=>(yY (.inr h0) _ _ σ).trans (XV h4 _ _ σ)),λ_ hf=>?_⟩;have:=(Sg (t:=t) hE (i2 hf.1 hf.2.1) (i1 true) (j2 hf.2.2.1 hf.2.2.2.1) (j1 true)).same (λσ=>(yY (.inr h0) _ _ σ).trans (XV h4 _ _ σ));rw[sz]at this;exact this.congr (λS=>by rw[hp,h4,Ql2])
   .refine⟨λlive=>(NE (i1 live) (j1 live)).same (λσ=>(yY (.inr h0) _ _ σ).trans (VM h4 _ _ σ)),λ_ hf=>?_⟩;have:=(Sg (t:=t) hE (i2 hf.1 hf.2.1) (i1 true) (j2 hf.2.2.1 hf.2.2.2.1) (j1 true)).same (λσ=>(yY (.inr h0) _ _ σ).trans (VM h4 _ _ σ));rw[sz]at this;exact this.congr (λS=>by rw[hp,h4,Qg4])
  .obtain⟨b1,o1,t1,k1,r1,rfl,hl1⟩:=QF hl;obtain⟨b2,o2,t2,k2,r2,rfl,hl2⟩:=IU hl1;obtain⟨b3,o3,t3,k3,rfl⟩:=D7 hl2;obtain⟨i1,i2⟩:=Qa2 hE l n k1 b1 o1 t1 (.node b2 o2 t2 k2 (.node b3 o3 t3 k3 .nil)) (by simp only[eu]at hn;omega) hk;obtain⟨j1,j2⟩:=Qa2 hE l n k2 b2 o2 t2 (.node b3 o3 t3 k3 .nil) (by simp only[eu]at hn;omega) hk.2.2;obtain⟨m1,m2⟩:=Qa2 hE l n k3 b3 o3 t3 .nil (by simp only[eu]at hn;omega) hk.2.2.2.2;refine⟨λlive=>(Qa0 (i1 live) (j1 live) (m1 live)).same (λσ=>Mj (.inr h0) _ _ _ σ),λ_ hf=>?_⟩;have:=(Qk1 hE (i2 hf.1 hf.2.1) (i1 true) (j2 hf.2.2.1 hf.2.2.2.1) (j1 true) (m2 hf.2.2.2.2.1 hf.2.2.2.2.2.1) (m1 true)).same (f':=tQ E true (.node b o t (.node b1 o1 t1 k1 (.node b2 o2 t2 k2 (.node b3 o3 t3 k3 .nil))) r)) (λσ=>Mj (.inr h0) _ _ _ σ);rw[show eu k1+1+(eu k2+1)+(eu k3+1)+1=eu (.node b1 o1 t1 k1 (.node b2 o2 t2 k2 (.node b3 o3 t3 k3 .nil)))+1 by simp only[eu];omega]at this;refine this.congr (λS=>?_);show jQ D (aK (xD D (.node b1 o1 t1 k1 (.node b2 o2 t2 k2 (.node b3 o3 t3 k3 .nil))) S).2) t (xD D (.node b1 o1 t1 k1 (.node b2 o2 t2 k2 (.node b3 o3 t3 k3 .nil))) S).1=_;rw[Lu (.inl h0),hs];exact Ql0 _ _ _
theorem uF (hE:E3 E D) (l:List bQ) (k:Ex) (b o:Nat) (t:aH) (r:Ex) (hw:Qo (.node b o t k r)):Ev3 E D l b o t k r:=Qa2 hE l (eu k+1) k b o t r (Nat.lt_succ_self _) hw
def eY (l l':List bQ):Prop:=l'.map (·.name)=l.map (·.name)
theorem eY.refl (l:List bQ):eY l l:=rfl
theorem eY.trans {a b c:List bQ} (h:eY a b) (g:eY b c):eY a c:=Eq.trans g h
theorem eY.len (h:eY l l'):l'.length=l.length:=by
 have:=dO List.length h;simpa using this
theorem IW (l:List bQ) (s:ByteArray):aN l s=match (l.map (·.name)).findIdx? (λn=>n.toList==s.toList) with
  | some k=>(k:Int)
  | none=>-1:=by
 unfold aN;rw[List.findIdx?_map];rfl
theorem eY.find (h:eY l l') (s:ByteArray):aN l' s=aN l s:=by rw[IW,IW,h]
theorem eY.foundX {l l':List bQ} (h:eY l l'):∀e,zg l e->zg l' e
 | .nil,_=>trivial
 | .node _ _ t k r,⟨a,b,c⟩=>⟨λe=>by rw[h.find];exact a e,h.foundX k b,h.foundX r c⟩
theorem rH.cells {E:bB} {σ τ:St} {i j:Nat} (h:rH E σ i) (ho:lI τ) (hl:τ.cells.length=σ.cells.length) (hij:i<=j):rH E τ j:=⟨ho,by have:=h.2;rw[hl];omega⟩
def fE:Sx->List bQ->Prop
 | .nil,_=>True
 | .node _ _ p k r,l=>(p.tag=0->0<=aN l p.t.text)/\(p.tag≠2->zg l (bD p.e .nil)) /\
   (p.tag=1->(match k with
    | .nil=>True
    | .node _ _ _ s u=>fE s l/\fE u l)) /\
   (p.tag=2->aN l p.t.text<0/\p.a.num<=p.b.num/\p.b.num<=20/\fE k (l++[⟨p.t.text,0,false,false⟩]))/\fE r l
theorem qP (b o:Nat) (p:SP) (k r:Sx) (l:List bQ):fE (.node b o p k r) l=((p.tag=0->0<=aN l p.t.text)/\(p.tag≠2->zg l (bD p.e .nil)) /\
   (p.tag=1->(match k with
    | .nil=>True
    | .node _ _ _ s u=>fE s l/\fE u l)) /\
   (p.tag=2->aN l p.t.text<0/\p.a.num<=p.b.num/\p.b.num<=20/\fE k (l++[⟨p.t.text,0,false,false⟩]))/\fE r l):=by cases k<;>rfl
def Bo (E:bB) (D:PD) (l:List bQ) (σ':St) (S':dx):Prop:=eY l σ'.cells/\lI σ'/\((S'.steps<=20000/\R3 E D σ'.cells 0 0 σ' S')∨(20000<S'.steps/\σ'.dead=true))
def YC (E:bB) (D:PD) (M:MS) (P:PS):Prop:=∀i t j,i<E.toks.length->P E.toks i=some (.ok (t,j)) ->
 (∀σ live,aW E σ live=false->rH E σ i->M E σ i live=some ⟨j,σ⟩) /\
 (∀l σ S,R3 E D l 0 0 σ S->rH E σ i->fE t l->∃σ',M E σ i true=some ⟨j,σ'⟩/\Bo E D l σ' (iA D t S))
section
variable {E:bB} {D:PD} {l:List bQ} {q k:Int} {σ:St} {S:dx}
theorem R3.more (h:R3 E D l q (k+1) σ S) (hk:0<=k):R3 E D l (q+1) k σ (aK S):=
 ⟨h.al,h.ce,h.cl,by show σ.steps=S.steps+1+k;have:=h.st;omega,h.le,hk,by have:=h.q0;omega,h.t0,by have:=h.tk;omega,h.tt,h.tr,h.op,h.hi,h.vl,h.vb,h.pt,h.lo,h.lh⟩
theorem R3.less (h:R3 E D l (q+1) k σ S) (hq:0<=q):R3 E D l q k σ S:=
 ⟨h.al,h.ce,h.cl,h.st,h.le,h.k0,hq,h.t0,by have:=h.tk;omega,h.tt,h.tr,h.op,h.hi,h.vl,h.vb,h.pt,h.lo,h.lh⟩
theorem E3.ne0 (hE:E3 E D):E.mode≠0:=by rw[hE.m];decide
theorem oZ (σ:St):aW E σ false=false:=rfl
theorem WB (hE:E3 E D) {e:Ex} (he:Fg e) (hw:Qo e) (hf:zg l (bD e .nil)) (hR:R3 E D l 0 0 σ S) :
  ∃v h σ',tQ E (stepB E σ true) e (aC E σ true)=some (v,h,σ')/\dw v/\lI σ'/\σ'.cells=l /\
   (((lL D e (aK S)).2.steps<=20000/\stepB E σ true=true/\v=(lL D e (aK S)).1/\R3 E D l 1 0 σ' (lL D e (aK S)).2)∨(20000<(lL D e (aK S)).2.steps/\σ'.dead=true)):=by
 cases e with
 | nil=>cases he
 | node b o t k r=>
  obtain⟨e1,e2⟩:=uF hE l k b o t r hw;have st:(lL D (.node b o t k r) (aK S)).2.steps=S.steps+1+((eu k+1:Nat):Int):=(LA (b:=b) (o:=o) (t:=t) (k:=k) (r:=r) D (aK S)).steps;have s0:=hR.st;by_cases hs:σ.steps<20000
  .obtain⟨x1,x2,x3⟩:=hR.on hE hs;rw[x2];obtain⟨v,h,σ',y1,y2,y3,y4,y5⟩:=e2 hf.1 hf.2.1 1 0 (aC E σ true) (aK S) (x3.more (dn _));have es:(aC E σ true).steps=σ.steps+1:=by rw[x1]
   refine⟨v,h,σ',y1,y2,y3,y4,?_⟩;rcases y5 with⟨a,b,c,d⟩|⟨a,b⟩
   .exact .inl ⟨by rw[st];omega,rfl,b,by rw[pW]at c;exact c⟩
   .exact .inr ⟨by rw[st];omega,b⟩
  .obtain⟨x1,x2⟩:=hR.die hE hs;rw[x2];have od:lI (aC E σ true):=by rw[x1];exact hR.okS
   obtain⟨v,h,y1,y2⟩:=e1 false (aC E σ true) (oZ _) od;exact⟨v,h,_,y1,y2,od,by rw[x1];exact hR.ce,.inr ⟨by rw[st];omega,by rw[x1]⟩⟩
theorem R3.lt (h:R3 E D l q k σ S):¬ 20000<S.steps:=by have:=h.le;have:=h.st;have:=h.k0;omega
def setL (l:List bQ) (i:Nat) (v:Int):List bQ:=l.modify i λc=>{ c with val:=v }
theorem Gt (l:List bQ) (i:Nat) (v:Int):eY l (setL l i v):=by
 unfold eY setL;apply List.ext_getElem?;intro j;rw[lY,lY,List.getElem?_modify]
 cases l[j]? with
 | none=>rfl
 | some c=>
  show some (if i=j then({ c with val:=v } : bQ) else c).name=some c.name;split<;>rfl
theorem Wl (l:List bQ) (i j:Nat) (v:Int) (hi:i<l.length):((setL l i v).getD j kW).val=if j=i then v else(l.getD j kW).val:=by
 unfold setL;simp only[List.getD,List.getElem?_modify];by_cases h:i=j
 .subst h;rw[aU hi];simp
 .have h':¬ j=i:=Ne.symm h
  cases l[j]?<;>simp[h,h']
theorem Ew {k:Nat} (h:aN l s=(k:Int)):∃hk:k<l.length,(l[k].name.toList==s.toList)=true:=by
 unfold aN at h
 cases hf:l.findIdx? (λc=>c.name.toList==s.toList) with
 | none=>rw[hf]at h;simp at h
 | some m=>
  rw[hf]at h;have e:m=k:=by simp at h;omega
  subst e;rw[Ak]at hf;obtain⟨hk,h1,_⟩:=hf;exact⟨hk,h1⟩
theorem R3.set (h:R3 E D l 0 0 σ S) {i:Nat} (hi:aN l nm=(i:Int)) (hv:dw v):R3 E D (setL l i v) 0 0 (qQ σ i v) (uL S nm v):=by
 obtain⟨hil,hnm⟩:=Ew hi;have hs:=Gt l i v;refine⟨h.al,by show σ.cells.modify i _=_;rw[h.ce];rfl,by rw[hs.len];exact h.cl,h.st,h.le,h.k0,h.q0,h.t0,h.tk,h.tt,h.tr,h.op,h.hi,λs hf=>?_,λs=>?_,h.pt,h.lo,h.lh⟩
 .rw[hs.find]at hf ⊢;obtain⟨j,hj,_⟩:=ru (l:=l) (s:=s) (by omega);rw[hj,gU,Wl l i j v hil];obtain⟨hjl,hsn⟩:=Ew hj;show _=mU S.vals nm v s;unfold mU;by_cases hji:j=i
  .subst hji;have e1:l[j].name.toList=s.toList:=by simpa using hsn
   have e2:l[j].name.toList=nm.toList:=by simpa using hnm
   rw[ag rfl,show(s.toList==nm.toList)=true by rw[<-e1,e2];exact tY _];rfl
  .rw[ae hji];have hne:(s.toList==nm.toList)=false:=by
    cases hc:(s.toList==nm.toList) with
    | false=>rfl
    | true=>
     exfalso;have e:s.toList=nm.toList:=by simpa using hc
     have:aN l s=aN l nm:=by unfold aN;rw[e]
     rw[hj,hi]at this;omega
   rw[hne];have:=h.vl s hf;rw[hj,gU]at this;exact this
 .show dw (mU S.vals nm v s);unfold mU;split
  .exact hv
  .exact h.vb s
theorem Qd6 (hE:E3 E D) (σ:St) (i:Nat):tV E σ i=σ/\Gh E σ i=aN σ.cells (ah E.toks i).text:=by
 obtain⟨a,b⟩:=Qk hE.ne0 σ i;refine⟨a.trans ?_,b⟩;unfold rY;rw[hE.m,Vv hE];rfl
theorem Qp6 (hE:E3 E D) (σ:St) (i:Nat) (h:Bool):BJ E σ i h hid=σ:=by unfold BJ;rw[hE.m];rfl
theorem Zf (hE:E3 E D) (hT:bL E) (hR:xx E X P) (hW:OA E.toks P) (hF:dL P) {t:Sx} (hi:i+1<E.toks.length) (hk1:(ah E.toks i).kind=1) (h:mi P E.toks i=some (.ok (t,j))) :
  (∀σ live,aW E σ live=false->rH E σ i->lM X E σ i live=some ⟨j,σ⟩)/\(∀l σ S,R3 E D l 0 0 σ S->rH E σ i->fE t l->∃σ',lM X E σ i true=some ⟨j,σ'⟩/\Bo E D l σ' (iA D t S)):=by
 have hN:=hE.ne0;unfold mi at h;obtain⟨u1,j1,h1,h⟩:=au h;obtain⟨e,j2,h2,h⟩:=au h;obtain⟨u3,j3,h3,h⟩:=au h
 cases h;have l1:=uO hT hi h1;obtain⟨he,hM⟩:=hR j1 e j2 l1 h2;have hw:=(hW _ _ _ h2).2;have l2:=(nX hF hT l1 h2).2;have run:∀σ live,lM X E σ i live=((tQ E (stepB E σ live) e (aC E σ live)).map (zL j2)).bind (iq E i (stepB E σ live) (aN σ.cells (ah E.toks i).text)):=λσ live=>by
  unfold lM;rw[(Qd6 hE σ i).1,(Qd6 hE σ i).2];unfold nQ;rw[(il hN _ h1).1,(il hN _ h1).2,ag ⟨hi,l1⟩,hM]
 have m2:(E.mode==2)=false:=by rw[hE.m];rfl
 refine⟨λσ live hl hb=>?_,λl σ S hRR hb hf=>?_⟩
 .obtain⟨s1,s2⟩:=pR hl
  cases e with
  | nil=>cases he
  | node b o t k r=>
   obtain⟨v,hh,y1,_⟩:=(uF hE σ.cells k b o t r hw).1 false σ (oZ _) hb.1;rw[run,s1,s2,y1];show iq E i false _ ⟨v,hh,j2,σ⟩=_;unfold iq;rw[m2];show(if aW E σ false=true then _ else qX E σ j2)=_;rw[oZ,ae (by decide)];exact Dj hN hT hb.1 l2 h3
 .obtain⟨v,hh,σ',y1,y2,y3,y4,y5⟩:=WB hE he hw (hf.2.1 (by show(0:Nat)≠2;decide)) hRR;have hfi:0<=aN l (ah E.toks i).text:=hf.1 rfl;have eS:iA D (.node 0 0 ⟨0,ah E.toks i,bK,bK,e⟩ .nil .nil) S=uL (lL D e (aK S)).2 (wP (ah E.toks i)) (lL D e (aK S)).1:=Np hRR.lt rfl;have ew:wP (ah E.toks i)=(ah E.toks i).text:=by unfold wP;rw[hk1];rfl
  rw[eS,ew];have run2:lM X E σ i true=iq E i (stepB E σ true) (aN l (ah E.toks i).text) ⟨v,hh,j2,σ'⟩:=by
   rw[run,y1,hRR.ce];rfl
  rw[run2];unfold iq;rw[m2];show ∃σ'',(if aW E σ' (stepB E σ true)=true then(if 0<=aN l (ah E.toks i).text/\aN l (ah E.toks i).text<σ'.cells.length then qX E (qQ σ' (aN l (ah E.toks i).text).toNat v) j2 else none) else qX E σ' j2)=_/\_;rcases y5 with⟨a1,a2,a3,a4⟩|⟨a1,a2⟩
  .obtain⟨m,hm,hml⟩:=ru (l:=l) (s:=(ah E.toks i).text) (by omega);have a5:=(a4.less (dn _)).set hm (v:=v) y2;rw[a2,a4.lives hE,ag rfl,hm,y4,ag ⟨by omega,by omega⟩,gU];refine⟨_,Dj hN hT a5.okS l2 h3,?_,a5.okS,.inl ⟨a1,?_⟩⟩
   .rw[a5.ce];exact Gt l m v
   .rw[a5.ce,<-a3];exact a5
  .rw[oI a2,ae (by decide)];exact⟨_,Dj hN hT y3 l2 h3,by rw[y4];exact eY.refl _,y3,.inr ⟨a1,a2⟩⟩
end
theorem TN:∀c∈List.range 256,Al (c:Int) 300 0=(Kr (255*c):Int):=by decide +kernel
theorem YH (v:Int):EY v=rU v:=by
 unfold EY rU Ca;have:=TN (min (max v 0) 255).toNat (List.mem_range.2 (by omega));rw[Int.toNat_of_nonneg (by omega)]at this;exact this
section
variable {E:bB} {D:PD} {l:List bQ} {σ:St} {S:dx}
theorem R3.paint (h:R3 E D l 1 0 σ S) (hid:Bool) (v:Int):R3 E D l 0 0 (Ih E σ hid v) (sU D S (!hid) v):=by
 have ht:=h.tr;have hpt:=h.pt;unfold Ih sU;rw[YH,hpt];have hl:(S.trace.length<100)=(σ.trace.length<100):=by rw[ht]
 cases hid
 .show R3 E D l 0 0 (lq { σ with opn:=σ.opn.set E.point.toNat (rU v) } 2 E.point) { bC S 2 E.point with opn:=S.opn.set E.point.toNat (rU v) };unfold lq bC;simp only[hl];split
  .exact⟨h.al,h.ce,h.cl,h.st,h.le,h.k0,dn _,by show 0<=σ.touched+1;have:=h.t0;omega,by show σ.touched+1+0+0<=σ.steps;have:=h.tk;omega,by show σ.touched+1=S.touched+1;rw[h.tt],by show σ.trace++_=S.trace++_;rw[ht],by show σ.opn.set _ _=S.opn.set _ _;rw[h.op],h.hi,h.vl,h.vb,h.pt,by show((σ.opn.set _ _).length:Int)=_;rw[uo];exact h.lo,h.lh⟩
  .exact⟨h.al,h.ce,h.cl,h.st,h.le,h.k0,dn _,by show 0<=σ.touched+1;have:=h.t0;omega,by show σ.touched+1+0+0<=σ.steps;have:=h.tk;omega,by show σ.touched+1=S.touched+1;rw[h.tt],ht,by show σ.opn.set _ _=S.opn.set _ _;rw[h.op],h.hi,h.vl,h.vb,h.pt,by show((σ.opn.set _ _).length:Int)=_;rw[uo];exact h.lo,h.lh⟩
 .show R3 E D l 0 0 (lq { σ with hid:=σ.hid.set E.point.toNat (rU v) } 3 E.point) { bC S 3 E.point with hid:=S.hid.set E.point.toNat (rU v) };unfold lq bC;simp only[hl];split
  .exact⟨h.al,h.ce,h.cl,h.st,h.le,h.k0,dn _,by show 0<=σ.touched+1;have:=h.t0;omega,by show σ.touched+1+0+0<=σ.steps;have:=h.tk;omega,by show σ.touched+1=S.touched+1;rw[h.tt],by show σ.trace++_=S.trace++_;rw[ht],h.op,by show σ.hid.set _ _=S.hid.set _ _;rw[h.hi],h.vl,h.vb,h.pt,h.lo,by show((σ.hid.set _ _).length:Int)=_;rw[uo];exact h.lh⟩
  .exact⟨h.al,h.ce,h.cl,h.st,h.le,h.k0,dn _,by show 0<=σ.touched+1;have:=h.t0;omega,by show σ.touched+1+0+0<=σ.steps;have:=h.tk;omega,by show σ.touched+1=S.touched+1;rw[h.tt],ht,h.op,by show σ.hid.set _ _=S.hid.set _ _;rw[h.hi],h.vl,h.vb,h.pt,h.lo,by show((σ.hid.set _ _).length:Int)=_;rw[uo];exact h.lh⟩
theorem Qn3 (hE:E3 E D) (hT:bL E) (hR:xx E X P) (hW:OA E.toks P) (hF:dL P) (hid:Bool) {tag:Nat} (htag:tag=if hid then 4 else 3) {t:Sx} (hi:i+1<E.toks.length) (hw1:decide (wP (ah E.toks i)=lD)=!hid) (h:wJ P tag E.toks i=some (.ok (t,j))) :
  (∀σ live,aW E σ live=false->rH E σ i->Cq X hid E σ i live=some ⟨j,σ⟩)/\(∀l σ S,R3 E D l 0 0 σ S->rH E σ i->fE t l->∃σ',Cq X hid E σ i true=some ⟨j,σ'⟩/\Bo E D l σ' (iA D t S)):=by
 have hN:=hE.ne0;unfold wJ at h;obtain⟨e,j2,h2,h⟩:=au h;obtain⟨u3,j3,h3,h⟩:=au h
 cases h;obtain⟨he,hM⟩:=hR (i+1) e j2 hi h2;have hw:=(hW _ _ _ h2).2;have l2:=(nX hF hT hi h2).2;have run:∀σ live,Cq X hid E σ i live=((tQ E (stepB E σ live) e (aC E σ live)).map (zL j2)).bind (λa=>uD E i (stepB E σ live) hid a):=λσ live=>by
  unfold Cq;rw[ag hi,hM]
 refine⟨λσ live hl hb=>?_,λl σ S hRR hb hf=>?_⟩
 .obtain⟨s1,s2⟩:=pR hl
  cases e with
  | nil=>cases he
  | node b o t k r=>
   obtain⟨v,hh,y1,_⟩:=(uF hE σ.cells k b o t r hw).1 false σ (oZ _) hb.1;rw[run,s1,s2,y1];show uD E i false hid ⟨v,hh,j2,σ⟩=_;unfold uD;rw[Qp6 hE];show(if aW E σ false=true then _ else qX E σ j2)=_;rw[oZ,ae (by decide)];exact Dj hN hT hb.1 l2 h3
 .have htg:tag≠2:=by rw[htag];cases hid<;>decide
  obtain⟨v,hh,σ',y1,y2,y3,y4,y5⟩:=WB hE he hw (hf.2.1 htg) hRR;have eS:iA D (.node 0 0 ⟨tag,ah E.toks i,bK,bK,e⟩ .nil .nil) S=sU D (lL D e (aK S)).2 (!hid) (lL D e (aK S)).1:=by
   rw[Qe5 hRR.lt (by show tag=3∨tag=4;rw[htag];cases hid;exact .inl rfl;exact .inr rfl),hw1];rfl
  rw[eS];have run2:Cq X hid E σ i true=uD E i (stepB E σ true) hid ⟨v,hh,j2,σ'⟩:=by
   rw[run,y1];rfl
  rw[run2];unfold uD;rw[Qp6 hE];show ∃σ'',(if aW E σ' (stepB E σ true)=true then(if 0<=E.point/\E.point<σ'.opn.length/\E.point<σ'.hid.length/\E.point<1000 then qX E (Ih E σ' hid v) j2 else none) else qX E σ' j2)=_/\_;have pst:(sU D (lL D e (aK S)).2 (!hid) (lL D e (aK S)).1).steps=(lL D e (aK S)).2.steps:=by
   unfold sU;split
   .exact(fO _ _ _).1
   .exact(fO _ _ _).1
  rcases y5 with⟨a1,a2,a3,a4⟩|⟨a1,a2⟩
  .have a5:=a4.paint hid v;have b1:=a4.lo;have b2:=a4.lh;have b3:=hE.p0;have b4:=hE.p1;have b5:D.sw*D.sh<=36:=by
    have:=uy hE.ok.w2 hE.ok.h2 (by have:=hE.ok.h1;omega) (by decide);omega
   rw[a2,a4.lives hE,ag rfl,ag ⟨b3,by omega,by omega,by omega⟩];refine⟨_,Dj hN hT a5.okS l2 h3,?_,a5.okS,.inl ⟨by rw[pst];exact a1,?_⟩⟩
   .rw[a5.ce];exact eY.refl _
   .rw[a5.ce,<-a3];exact a5
  .rw[oI a2,ae (by decide)];exact⟨_,Dj hN hT y3 l2 h3,by rw[y4];exact eY.refl _,y3,.inr ⟨by rw[pst];exact a1,a2⟩⟩
end
section
variable {E:bB} {D:PD} {l:List bQ} {σ:St} {S:dx}
theorem eY.found3:∀(n:Nat) (t:Sx),dS t<=n->∀ {l l':List bQ},eY l l'->fE t l->fE t l'
 | _,.nil,_,_,_,_,_=>trivial
 | 0,.node _ _ _ _ _,h,_,_,_,_=>by simp[dS]at h
 | n+1,.node b o p k r,hz,l,l',h,hf=>by
  rw[qP]at hf;obtain⟨a,b',c,d,e⟩:=hf;rw[qP];have hr:dS r<=n:=by simp only[dS]at hz;omega
  have hk:dS k<=n:=by simp only[dS]at hz;omega
  refine⟨λt=>by rw[h.find];exact a t,λt=>h.foundX _ (b' t),λt=>?_,λt=>?_,eY.found3 n r hr h e⟩
  .have c':=c t
   cases k with
   | nil=>trivial
   | node b1 o1 q s u=>
    have hs:dS s<=n:=by simp only[dS]at hk;omega
    have hu:dS u<=n:=by simp only[dS]at hk;omega
    exact⟨eY.found3 n s hs h c'.1,eY.found3 n u hu h c'.2⟩
  .obtain⟨d1,d2,d3,d4⟩:=d t;refine⟨by rw[h.find];exact d1,d2,d3,eY.found3 n k hk ?_ d4⟩;unfold eY at h ⊢;rw[jc,jc,h]
theorem eY.found {t:Sx} (h:eY l l') (hf:fE t l):fE t l':=eY.found3 _ t (af _) h hf
theorem Bo.dead {S':dx} (hn:eY l σ.cells) (ho:lI σ) (hd:σ.dead=true) (hs:20000<S'.steps):Bo E D l σ S':=⟨hn,ho,.inr ⟨hs,hd⟩⟩
theorem ZQ {B:MS} {Q:PS} (hE:E3 E D) (hT:bL E) (hR:xx E X P) (hW:OA E.toks P) (hF:dL P) (hB:YC E D B Q) (hFB:dL Q) {t:Sx} (hi:i+1<E.toks.length) (h:Pj P Q E.toks i=some (.ok (t,j))) :
  (∀σ live,aW E σ live=false->rH E σ i->mr X B E σ i live=some ⟨j,σ⟩)/\(∀l σ S,R3 E D l 0 0 σ S->rH E σ i->fE t l->∃σ',mr X B E σ i true=some ⟨j,σ'⟩/\Bo E D l σ' (iA D t S)):=by
 have hN:=hE.ne0;unfold Pj at h;obtain⟨e,j1,h1,h⟩:=au h;obtain⟨th,j2,h2,h⟩:=au h;obtain⟨he,hM⟩:=hR (i+1) e j1 hi h1;have hw:=(hW _ _ _ h1).2;have f1:=nX hF hT hi h1;have f2:j1<j2/\j2<E.toks.length:=by
  have:=hFB E.toks j1 hT.last f1.2;rw[h2]at this;exact⟨this.1,this.2⟩
 obtain⟨bo,bn⟩:=hB j1 th j2 f1.2 h2;have fl:∀σ b,mM E σ i b=σ:=λσ b=>RU hE σ (ah E.toks i) b;have run:∀σ live,mr X B E σ i live=((tQ E (stepB E σ live) e (aC E σ live)).map (zL j1)).bind (λa=>(B E a.σ a.to (stepB E σ live&&(a.v != 0))).bind λr=>fF B E (stepB E σ live) a r):=λσ live=>by
  unfold mr;rw[ag hi,hM];congr 1;funext a;rw[fl]
 obtain⟨el,hel,eo,en⟩:∃el,t=.node 0 0 ⟨1,ah E.toks i,bK,bK,e⟩ (.node 0 0 ⟨5,bK,bK,bK,.nil⟩ th el) .nil /\
   (∀σ s v hh σ0,aW E σ (s&&(v==0))=false->rH E σ i->fF B E s ⟨v,hh,j1,σ0⟩ ⟨j2,σ⟩=some ⟨j,σ⟩) /\
   (∀l σ S v hh σ0,(v==0)=true->R3 E D l 0 0 σ S->rH E σ i->fE el l->∃σ',fF B E true ⟨v,hh,j1,σ0⟩ ⟨j2,σ⟩=some ⟨j,σ'⟩/\Bo E D l σ' (iA D el S)):=by
  unfold uz at h;split at h
  .rename_i hs;obtain⟨el,j3,h3,h⟩:=au h
   cases h;have l3:=aD hT.last f2.2 hs;obtain⟨co,cn⟩:=hB (j2+1) el j l3 h3;have ce:∀σ s v hh σ0,fF B E s ⟨v,hh,j1,σ0⟩ ⟨j2,σ⟩=B E σ (j2+1) (s&&(v==0)):=λσ s v hh σ0=>by
    unfold fF;dsimp only;rw[ag (by rw[Ez hN];exact hs),ag l3]
   refine⟨el,rfl,λσ s v hh σ0 hl hb=>?_,λl σ S v hh σ0 hv hRR hb hf=>?_⟩
   .rw[ce];exact co σ _ hl (hb.cells hb.1 rfl (by omega))
   .rw[ce,hv];exact cn l σ S hRR (hb.cells hb.1 rfl (by omega)) hf
  .rename_i hs
   cases h;have ce:∀σ s v hh σ0,fF B E s ⟨v,hh,j1,σ0⟩ ⟨j,σ⟩=some ⟨j,σ⟩:=λσ s v hh σ0=>by
    unfold fF;dsimp only;rw[ae (by rw[Ez hN];exact hs)]
   refine⟨.nil,rfl,λσ s v hh σ0 hl hb=>ce _ _ _ _ _,λl σ S v hh σ0 hv hRR hb hf=>⟨σ,ce _ _ _ _ _,by rw[hRR.ce];exact eY.refl _,hRR.okS,.inl ⟨?_,by rw[hRR.ce];exact hRR⟩⟩⟩;have:=hRR.lt;show S.steps<=20000;omega
 subst hel;refine⟨λσ live hl hb=>?_,λl σ S hRR hb hf=>?_⟩
 .obtain⟨s1,s2⟩:=pR hl
  cases e with
  | nil=>cases he
  | node b o t k r=>
   obtain⟨v,hh,y1,_⟩:=(uF hE σ.cells k b o t r hw).1 false σ (oZ _) hb.1;rw[run,s1,s2,y1];show(B E σ j1 (false&&(v != 0))).bind (λr=>fF B E false ⟨v,hh,j1,σ⟩ r)=_;rw[Bool.false_and,bo σ false (oZ _) (hb.cells hb.1 rfl (by omega)),aG];exact eo σ false v hh σ (by rw[Bool.false_and];rfl) hb
 .obtain⟨v,hh,σ',y1,y2,y3,y4,y5⟩:=WB hE he hw (hf.2.1 (by show(1:Nat)≠2;decide)) hRR;obtain⟨ft,fe⟩:=hf.2.2.1 rfl;have lc:σ'.cells.length=σ.cells.length:=by rw[y4,hRR.ce]
  have hb':rH E σ' i:=hb.cells y3 lc (af _);have hb1:rH E σ' j1:=hb.cells y3 lc (by omega);have eS:iA D (.node 0 0 ⟨1,ah E.toks i,bK,bK,e⟩ (.node 0 0 ⟨5,bK,bK,bK,.nil⟩ th el) .nil) S=if(lL D e (aK S)).1≠0 then iA D th (lL D e (aK S)).2 else iA D el (lL D e (aK S)).2:=NV hRR.lt rfl;rw[eS];have run2:mr X B E σ i true=(B E σ' j1 (stepB E σ true&&(v != 0))).bind (λr=>fF B E (stepB E σ true) ⟨v,hh,j1,σ'⟩ r):=by
   rw[run,y1];rfl
  rw[run2];rcases y5 with⟨a1,a2,a3,a4⟩|⟨a1,a2⟩
  .rw[a2,<-a3];have a4:=a4.less (dn _);by_cases hv:v=0
   .have e1:(v != 0)=false:=by rw[hv];rfl
    have e2:(v==0)=true:=by rw[hv];rfl
    rw[e1,qZ,bo σ' false (oZ _) hb1,aG,ae (by omega)];exact en l σ' _ v hh σ' e2 a4 hb' fe
   .have e1:(v != 0)=true:=by simp[hv]
    have e2:(v==0)=false:=by simp[hv]
    rw[e1,qZ,ag hv];obtain⟨σ2,z1,z2,z3,z4⟩:=bn l σ' _ a4 hb1 ft;rw[z1,aG];refine⟨σ2,eo σ2 true v hh σ' (by rw[e2];rfl) (hb.cells z3 (by rw[z2.len,hRR.ce]) (af _)),z2,z3,z4⟩
  .rw[bo σ' _ (oI a2) hb1,aG];refine⟨σ',eo σ' _ v hh σ' (oI a2) hb',Bo.dead (by rw[y4];exact eY.refl _) y3 a2 ?_⟩;split
   .rw[kK a1];exact a1
   .rw[kK a1];exact a1
end
theorem KO (c:bQ) (h:0<=aN l s):aN (l++[c]) s=aN l s:=by
 obtain⟨k,hk,hl⟩:=ru (l:=l) (s:=s) (by omega);rw[hk];unfold aN at hk ⊢
 cases hf:l.findIdx? (λc=>c.name.toList==s.toList) with
 | none=>rw[hf]at hk;simp at hk
 | some m=>
  rw[hf]at hk;rw[List.findIdx?_append,hf];simpa using hk
theorem Xz (c:bQ) (h:aN l s<0):aN (l++[c]) s=if c.name.toList==s.toList then(l.length:Int) else -1:=by
 unfold aN at h ⊢
 cases hf:l.findIdx? (λc=>c.name.toList==s.toList) with
 | some m=>rw[hf]at h;simp at h;omega
 | none=>
  rw[List.findIdx?_append,hf];simp only[List.findIdx?_cons,List.findIdx?_nil]
  cases c.name.toList==s.toList<;>simp
section
variable {E:bB} {D:PD} {l:List bQ} {σ:St} {S:dx}
theorem R3.drop (h:R3 E D (l++[c]) 0 0 σ S):R3 E D l 0 0 { σ with cells:=l } S:=by
 refine⟨h.al,rfl,by have:=h.cl;simp at this;omega,h.st,h.le,h.k0,h.q0,h.t0,h.tk,h.tt,h.tr,h.op,h.hi,λs hf=>?_,h.vb,h.pt,h.lo,h.lh⟩;have:=h.vl s (by rw[KO c hf];exact hf);rw[KO c hf]at this;obtain⟨k,hk,hl⟩:=ru (l:=l) (s:=s) (by omega);rw[hk,gU]at this ⊢;rw[<-this,List.getD,List.getD,pI hl]
theorem R3.push (h:R3 E D l 0 0 σ S) (hn:aN l nm<0) (hl:l.length<1000) (hv:dw v) (hd fr:Bool):R3 E D (l++[⟨nm,v,hd,fr⟩]) 0 0 { σ with cells:=l++[⟨nm,v,hd,fr⟩] } (uL S nm v):=by
 refine⟨h.al,rfl,by simp;omega,h.st,h.le,h.k0,h.q0,h.t0,h.tk,h.tt,h.tr,h.op,h.hi,λs hf=>?_,λs=>?_,h.pt,h.lo,h.lh⟩
 .show _=mU S.vals nm v s;unfold mU;by_cases hs:0<=aN l s
  .rw[KO _ hs];have hne:(s.toList==nm.toList)=false:=by
    cases hc:(s.toList==nm.toList) with
    | false=>rfl
    | true=>
     exfalso;have e:s.toList=nm.toList:=by simpa using hc
     have:aN l s=aN l nm:=by unfold aN;rw[e]
     omega
   rw[hne];obtain⟨k,hk,hkl⟩:=ru (l:=l) (s:=s) (by omega);have:=h.vl s hs;rw[hk,gU]at this ⊢;rw[List.getD,pI hkl];exact this
  .rw[Xz _ (by omega)]at hf ⊢
   cases hc:(nm.toList==s.toList) with
   | false=>rw[hc]at hf;simp at hf
   | true=>
    have e:nm.toList=s.toList:=by simpa using hc
    rw[show(s.toList==nm.toList)=true by rw[e];exact tY _];simp[List.getD]
 .show dw (mU S.vals nm v s);unfold mU;split
  .exact hv
  .exact h.vb s
theorem PM {l2:List bQ} (h:eY (l++[c]) l2):∃l' c',l2=l'++[c']/\eY l l'/\c'.name=c.name:=by
 have hl:=h.len;rcases List.eq_nil_or_concat l2 with e|⟨l',c',e⟩
 .rw[e]at hl;simp at hl
 .rw[List.concat_eq_append]at e;subst e;unfold eY at h;rw[jc,jc]at h;have hlen:l'.length=l.length:=by simp at hl;omega
  obtain⟨h1,h2⟩:=List.append_inj h (by simp[hlen]);exact⟨l',c',rfl,h1,by simpa using h2⟩
theorem Po (h:σ.cells=l++[c]) (v:Int):qQ σ (σ.cells.length-1) v = { σ with cells:=l++[{ c with val:=v }] }:=by
 unfold qQ;rw[h];congr 1;have:(l++[c]).length-1=l.length:=by simp
 rw[this];apply List.ext_getElem?;intro j;rw[List.getElem?_modify];rcases Nat.lt_trichotomy j l.length with hj|hj|hj
 .have hne:¬ l.length=j:=by omega
  rw[pI hj,pI hj]
  cases l[j]?<;>simp[hne]
 .subst hj;simp
 .rw[ou (by simp;omega),ou (by simp;omega)];rfl
theorem C8 {B:MS} {at_ j:Nat} {last:Int} (hd:σ.dead=true) (h0:0<σ.cells.length) (bo:∀live,aW E σ live=false->B E σ at_ live=some ⟨j,σ⟩):∀(f:Nat) (n:Int) (to:Nat),last-n+1<=f->n<=last->jE B E at_ last f n ⟨to,σ⟩=some ⟨j,σ⟩
 | 0,n,_,hf,hn=>by omega
 | f+1,n,to,hf,hn=>by
  have hl:∀live,aW E σ live=false:=λlive=>oI hd;obtain⟨s1,s2⟩:=pR (E:=E) (live:=true) (hl true);rw[jE,ag hn];dsimp only;rw[s1,s2,ag h0,ae (by decide),bo false (hl false),aG];by_cases hn1:n+1<=last
  .exact C8 hd h0 bo f (n+1) j (by omega) hn1
  .cases f<;>(rw[jE,ae hn1])
theorem Ra {B:MS} {at_ j:Nat} {s:Sx} {nm:ByteArray} {last:Int} (hE:E3 E D) (hl20:last<=20) (i0:Nat) (hat:i0<=at_)
  (bo:∀σ live,aW E σ live=false->rH E σ at_->B E σ at_ live=some ⟨j,σ⟩) (bn:∀l σ S,R3 E D l 0 0 σ S->rH E σ at_->fE s l->∃σ',B E σ at_ true=some ⟨j,σ'⟩/\Bo E D l σ' (iA D s S)) :
  ∀(f:Nat) (n:Int) (to:Nat) (l:List bQ) (c:bQ) (σ:St) (S:dx),last-n+1<=f->0<=n->n<=last->σ.cells=l++[c]->c.name=nm->aN l nm<0->R3 E D l 0 0 { σ with cells:=l } S->rH E σ at_->fE s (l++[⟨nm,0,false,false⟩]) ->
   ∃σ',jE B E at_ last f n ⟨to,σ⟩=some ⟨j,σ'⟩/\∃l' c',σ'.cells=l'++[c']/\eY l l'/\lI σ'/\(((fA (iA D s) nm (last-n+1).toNat n S).steps<=20000/\R3 E D l' 0 0 { σ' with cells:=l' } (fA (iA D s) nm (last-n+1).toNat n S))∨(20000<(fA (iA D s) nm (last-n+1).toNat n S).steps/\σ'.dead=true))
 | 0,n,_,_,_,_,_,hf,_,hn,_,_,_,_,_,_=>by omega
 | f+1,n,to,l,c,σ,S,hf,n0,hn,hc,hcn,hfr,hR,hb,hfd=>by
  obtain⟨q,hq⟩:∃q:Nat,(last-n+1).toNat=q+1:=⟨(last-n).toNat,by omega⟩;have hq2:(last-(n+1)+1).toNat=q:=by omega
  have pos:0<σ.cells.length:=by rw[hc];simp
  have grow:∀(X:dx) (q:Nat) (i:Int),X.steps<=(fA (iA D s) nm q i X).steps:=λX q i=>ui (λT=>Az D _ s (af _) T) q i X;rw[jE,ag hn,hq];dsimp only;show ∃σ',(if 0<(aC E σ true).cells.length then(B E (if stepB E σ true=true then qQ (aC E σ true) ((aC E σ true).cells.length-1) n else aC E σ true) at_ (stepB E σ true)).bind (λq=>jE B E at_ last f (n+1) q) else none)=some ⟨j,σ'⟩/\_;have hlv:aW E σ true=aW E { σ with cells:=l } true:=rfl;have rp:fA (iA D s) nm (q+1) n S=fA (iA D s) nm q (n+1) (iA D s (uL (aK S) nm n)):=rfl;by_cases hs:σ.steps<20000
  .have e1:aC E σ true = { σ with steps:=σ.steps+1 }:=by unfold aC;rw[hlv,hR.lives hE,ag rfl,ae (by omega)]
   have e2:stepB E σ true=true:=by unfold stepB;rw[hlv,hR.lives hE,jP hs];rfl
   obtain⟨_,_,r1⟩:=hR.on hE (show({ σ with cells:=l } : St).steps<20000 from hs);have e1':aC E { σ with cells:=l } true = { σ with cells:=l,steps:=σ.steps+1 }:=by unfold aC;rw[hR.lives hE,ag rfl,ae (show ¬ 20000<=σ.steps by omega)]
   rw[e1']at r1;have r2:=r1.pay (dn _);have hl1:l.length<1000:=by
    have:=hb.1.1;rw[hc]at this;simp at this;omega
   have hv:dw n:=⟨by omega,by omega⟩;have r3:=r2.push hfr hl1 hv c.hid c.free;rw[e2,ag rfl];have pos':0<(aC E σ true).cells.length:=by rw[e1];exact pos
   have ec1:(aC E σ true).cells=l++[c]:=by rw[e1];exact hc
   rw[ag pos',Po ec1,e1];have st:({ ({ σ with steps:=σ.steps+1 } : St) with cells:=l++[{ c with val:=n }] } : St) = { ({ σ with cells:=l,steps:=σ.steps+1 } : St) with cells:=l++[⟨nm,n,c.hid,c.free⟩] }:=by rw[<-hcn]
   rw[st];have bb:rH E ({ ({ σ with cells:=l,steps:=σ.steps+1 } : St) with cells:=l++[⟨nm,n,c.hid,c.free⟩] }) at_:=hb.cells r3.okS (by rw[hc];simp) (af _);have fd:fE s (l++[⟨nm,n,c.hid,c.free⟩]):=eY.found (l:=l++[⟨nm,0,false,false⟩]) (by unfold eY;simp) hfd;obtain⟨σ2,z1,z2,z3,z4⟩:=bn _ _ _ r3 bb fd;rw[z1,aG];obtain⟨l2,c2,y1,y2,y3⟩:=PM z2;have hfr2:aN l2 nm<0:=by rw[y2.find];exact hfr
   have bb2:rH E σ2 at_:=hb.cells z3 (by rw[z2.len,hc];simp) (af _);rw[rp];by_cases hn1:n+1<=last
   .rcases z4 with⟨w1,w2⟩|⟨w1,w2⟩
    .rw[y1]at w2;obtain⟨σ3,v1,l3,c3,v2,v3,v4,v5⟩:=Ra hE hl20 i0 hat bo bn f (n+1) j l2 c2 σ2 _ (by omega) (by omega) hn1 y1 y3 hfr2 w2.drop bb2 (eY.found (by unfold eY at y2 ⊢;rw[jc,jc,y2]) hfd);rw[hq2]at v5;exact⟨σ3,v1,l3,c3,v2,y2.trans v3,v4,v5⟩
    .have pos2:0<σ2.cells.length:=by rw[y1];simp
     refine⟨σ2,C8 w2 pos2 (λlive hl=>bo σ2 live hl bb2) f (n+1) j (by omega) hn1,l2,c2,y1,y2,z3,.inr ⟨?_,w2⟩⟩;exact Int.lt_of_lt_of_le w1 (grow _ _ _)
   .have q0:q=0:=by omega
    subst q0;have rr:jE B E at_ last f (n+1) ⟨j,σ2⟩=some ⟨j,σ2⟩:=by cases f<;>(rw[jE,ae hn1])
    refine⟨σ2,rr,l2,c2,y1,y2,z3,?_⟩;rcases z4 with⟨w1,w2⟩|⟨w1,w2⟩
    .rw[y1]at w2;exact .inl ⟨w1,w2.drop⟩
    .exact .inr ⟨w1,w2⟩
  .have e1:aC E σ true = { σ with dead:=true }:=by unfold aC;rw[hlv,hR.lives hE,ag rfl,ag (by omega)]
   have e2:stepB E σ true=false:=by unfold stepB;rw[pJ hs,Bool.and_false]
   have over:20000<(uL (aK S) nm n).steps:=by
    have:=hR.st;show 20000<S.steps+1;have h2:σ.steps=S.steps+0:=this;omega
   have hd:({ σ with dead:=true } : St).dead=true:=rfl;have bbd:rH E { σ with dead:=true } at_:=⟨hb.1,hb.2⟩;have fin:=C8 (E:=E) (B:=B) (at_:=at_) (j:=j) (last:=last) hd pos (λlive hl=>bo _ live hl bbd) (f+1) n to (by omega) hn;rw[jE,ag hn]at fin;dsimp only at fin;have off:=pR (E:=E) (σ:={ σ with dead:=true }) (live:=true) (oI hd);rw[off.1,off.2,ag pos,ae (by decide)]at fin;rw[e2,e1,ag pos,ae (by decide)];refine⟨{ σ with dead:=true },fin,l,c,hc,eY.refl _,bbd.1,.inr ⟨?_,rfl⟩⟩;rw[rp];have o2:=kK (D:=D) over s;rw[o2];exact Int.lt_of_lt_of_le over (grow _ _ _)
end
end Go.Proofs.YthmmgiaobakilaaGreat
