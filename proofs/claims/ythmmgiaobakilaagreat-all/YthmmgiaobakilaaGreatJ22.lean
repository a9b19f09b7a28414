import Derived.Test.YthmmgiaobakilaaGreatJ21
import Derived.Deep.RegionWith
set_option maxRecDepth 100000
set_option maxHeartbeats 8000000
set_option linter.all false
namespace Go.Proofs.YthmmgiaobakilaaGreat
open Go.RowKit
variable {E:bB} {F X:bB->St->Nat->Bool->Option gp}
theorem Qe (hX:sF 100 X) (gX:ik X) (hF:sF 143 F) (gF:ik F):sF 143 (mE X F):=by
 intro w wb HS E σ i live r h hi hok hM;have tf:=h.some;have hii:(i:Int)<(E.toks.length:Int):=by omega
 have HM:=aj hM;clear hM;have hh:=h;obtain⟨tv,lv,so,sd,ov,hv,rv,hh⟩:=hh;obtain⟨tb,cap,rfl,htb⟩:=hh.tokv;have c0:=hh.cell 0;simp at c0;obtain⟨t0,t1,t2,t3⟩:=hh.tokcell i hi;clear t1 t2 t3 hh;obtain⟨kd,HK⟩:∃kd,Hid ((aT E i).kind=kd):=⟨_,rfl⟩;have hm:=aa HM;unfold mE at hm;rw[aa HK]at t0 hm;clear HM HK;go_enter Tryz.func143,Tryz.ntmps143;go_wp2_with fail;refine(dH _ wb E σ h).mono ?_;rintro e w1 ⟨rfl,hw⟩;obtain rfl:=hw.symm
 cases hst:kQ E σ
 .rw[ae (by rw[hst];simp)]at hm
  cases hk2:(kd==2)
  .rw[ae (by rw[hk2];simp)]at hm
   cases hk1:(kd==1)
   .rw[ae (by rw[hk1];simp)]at hm;have HM:=aj hm;clear hm;go_wp2_with fail;refine(Ah _ wb E _ i (some ⟨w.heap.size,0,none⟩) 7 qw (h.alloc _) hi (om.newAt _ qw _ _ rfl (by simp)) (by decide)).mono ?_;rintro e w1 ⟨rfl,hw1⟩;have h1:Wk w1 wb HS E σ:=by rw[hw1];exact h.alloc _
    have hb1:Below wb w w1:=by rw[hw1];exact(ax wb w).alloc (by obtain⟨_,_,_,_,_,_,_,hh⟩:=h;have:=hh.lt;omega) _
    clear hw1 h c0 t0;have hm:=aa HM;clear HM;obtain⟨op,HO⟩:∃op,Hid (Cj E σ i qw=op):=⟨_,rfl⟩;rw[aa HO]at hm ⊢;clear HO;unfold F9 at hm
    cases q0:(op.toList==[40])
    .rw[ae (by rw[q0];simp)]at hm
     cases q1:(op.toList==[45])
     .rw[ae (by rw[q1];simp)]at hm
      cases q2:(op.toList==[112,101,101,107])
      .rw[ae (by rw[q2];simp)]at hm
       cases q3:(op.toList==[115,112,121])
       .rw[ae (by rw[q3];simp)]at hm
        cases q4:(op.toList==[109,105,110])
        .rw[ae (by rw[q4];simp)]at hm
         cases q5:(op.toList==[109,97,120])
         .rw[ae (by rw[q5];simp)]at hm
          cases q6:(op.toList==[115,101,108])
          .rw[ae (by rw[q6];simp)]at hm;obtain⟨hr,_⟩:=qC hm;have HR:=aj hr;clear hm hr;go_wp2_with fail;refine(iR _ wb E σ i 9 h1 hi).mono ?_;rintro e w2 ⟨rfl,h2,hb2⟩;go_wp2_with fail;refine(tL _ wb E _ h2).mono ?_;rintro e w3 ⟨rfl,hw⟩;obtain rfl:=hw.symm;go_wp2
           go_ret3
           rw[aa HR];exact⟨by simp;omega,h2,hb1.trans hb2⟩
          .rw[ag q6]at hm;obtain⟨q,hq,hm2⟩:=aP.1 hm;unfold Jr at hm2;split at hm2
           case isFalse=>cases hm2
           case isTrue g1=>
           have HM2:=aj hm2;clear hm hm2;go_wp2_with fail;refine(IY hX gX 3 (by omega) w1 wb HS E σ i live q h1 hok hq).mono ?_;clear hq;rintro e w2 ⟨l,rfl,hl,hb2⟩;obtain⟨x0,x1,x2,hv0⟩:∃x0 x1 x2,q.vs=[x0,x1,x2]:=by
            match hqv:q.vs,g1 with
            | [x0,x1,x2],_=>exact⟨x0,x1,x2,rfl⟩
           rw[hv0]at hl;have e0:q.vs.getD 0 0=x0:=by rw[hv0];rfl
           have e1:q.vs.getD 1 0=x1:=by rw[hv0];rfl
           have e2:q.vs.getD 2 0=x2:=by rw[hv0];rfl
           rw[e0,e1,e2]at HM2;clear e0 e1 e2 hv0 g1;obtain⟨HS',hW,hs,_,_,ho⟩:=hl;obtain⟨g,cp,rfl⟩:=iM ho;have y0:w2.cell? ⟨g,0,none⟩=some (.int .i64 x0):=by rw[ho.cellAt _ (by simp)];rfl
           have y1:w2.cell? ⟨g,1,none⟩=some (.int .i64 x1):=by rw[ho.cellAt _ (by simp)];rfl
           have y2:w2.cell? ⟨g,2,none⟩=some (.int .i64 x2):=by rw[ho.cellAt _ (by simp)];rfl
           have hW2:=hW.fewer hs;clear ho hW hs
           cases hx0:(x0==0)
           .have hx:¬ x0=0:=by simpa using hx0
            have hm3:=aa HM2;rw[ae hx]at hm3;obtain⟨hr,_⟩:=qC hm3;have HR:=aj hr;clear hm3 hr HM2 hx;go_wp2
            go_ret3
            rw[aa HR];exact⟨rfl,hW2,hb1.trans hb2⟩
           .have hx:x0=0:=by simpa using hx0
            have hm3:=aa HM2;rw[ag hx]at hm3;obtain⟨hr,_⟩:=qC hm3;have HR:=aj hr;clear hm3 hr HM2 hx;go_wp2
            go_ret3
            rw[aa HR];exact⟨rfl,hW2,hb1.trans hb2⟩
         .rw[ag q5]at hm;obtain⟨q,hq,hm2⟩:=aP.1 hm;unfold zA at hm2;split at hm2
          case isFalse=>cases hm2
          case isTrue hg=>
          obtain⟨g1,g2,g3⟩:=hg;obtain⟨hr,_⟩:=qC hm2;have HR:=aj hr;clear hm hm2 hr;go_wp2_with fail;refine(IY hX gX 2 (by omega) w1 wb HS E σ i live q h1 hok hq).mono ?_;clear hq;rintro e w2 ⟨l,rfl,hl,hb2⟩;obtain⟨x0,x1,hv0⟩:∃x0 x1,q.vs=[x0,x1]:=by
           match hqv:q.vs,g1 with
           | [x0,x1],_=>exact⟨x0,x1,rfl⟩
          rw[hv0]at hl;have e0:q.vs.getD 0 0=x0:=by rw[hv0];rfl
          have e1:q.vs.getD 1 0=x1:=by rw[hv0];rfl
          rw[e0]at g2;rw[e1]at g3;rw[e0,e1]at HR;clear e0 e1 hv0 g1;obtain⟨HS',hW,hs,_,_,ho⟩:=hl;obtain⟨g,cp,rfl⟩:=iM ho;have y0:w2.cell? ⟨g,0,none⟩=some (.int .i64 x0):=by rw[ho.cellAt _ (by simp)];rfl
          have y1:w2.cell? ⟨g,1,none⟩=some (.int .i64 x1):=by rw[ho.cellAt _ (by simp)];rfl
          have hW2:=hW.fewer hs;clear ho hW hs;go_wp2_with fail
          go_region_with (go_at_call_of 127 (Value.string op);refine(zV op x0 x1 _ g2 g3).mono ?_;rintro e w3 ⟨rfl,hw⟩;obtain rfl:=hw.symm)
          all_goals go_wp2
          all_goals go_ret3
          all_goals rw[aa HR]
          all_goals refine⟨rfl,?_,?_⟩
          all_goals (first|exact hW2.drewN _|exact dX (hb1.trans hb2) _)
        .rw[ag q4]at hm;obtain⟨q,hq,hm2⟩:=aP.1 hm;unfold zA at hm2;split at hm2
         case isFalse=>cases hm2
         case isTrue hg=>
         obtain⟨g1,g2,g3⟩:=hg;obtain⟨hr,_⟩:=qC hm2;have HR:=aj hr;clear hm hm2 hr;go_wp2_with fail;refine(IY hX gX 2 (by omega) w1 wb HS E σ i live q h1 hok hq).mono ?_;clear hq;rintro e w2 ⟨l,rfl,hl,hb2⟩;obtain⟨x0,x1,hv0⟩:∃x0 x1,q.vs=[x0,x1]:=by
          match hqv:q.vs,g1 with
          | [x0,x1],_=>exact⟨x0,x1,rfl⟩
         rw[hv0]at hl;have e0:q.vs.getD 0 0=x0:=by rw[hv0];rfl
         have e1:q.vs.getD 1 0=x1:=by rw[hv0];rfl
         rw[e0]at g2;rw[e1]at g3;rw[e0,e1]at HR;clear e0 e1 hv0 g1;obtain⟨HS',hW,hs,_,_,ho⟩:=hl;obtain⟨g,cp,rfl⟩:=iM ho;have y0:w2.cell? ⟨g,0,none⟩=some (.int .i64 x0):=by rw[ho.cellAt _ (by simp)];rfl
         have y1:w2.cell? ⟨g,1,none⟩=some (.int .i64 x1):=by rw[ho.cellAt _ (by simp)];rfl
         have hW2:=hW.fewer hs;clear ho hW hs;go_wp2_with fail
         go_region_with (go_at_call_of 127 (Value.string op);refine(zV op x0 x1 _ g2 g3).mono ?_;rintro e w3 ⟨rfl,hw⟩;obtain rfl:=hw.symm)
         all_goals go_wp2
         all_goals go_ret3
         all_goals rw[aa HR]
         all_goals refine⟨rfl,?_,?_⟩
         all_goals (first|exact hW2.drewN _|exact dX (hb1.trans hb2) _)
       .rw[ag q3]at hm;have HM:=aj hm;clear hm;go_wp2_with fail;refine(Hf hX gX true w1 wb HS E σ i live r h1 hi hok (aa HM)).mono ?_;clear HM;rintro e w2 ⟨rfl,h2,hb2⟩;go_wp2
        go_ret3
        exact⟨rfl,h2,hb1.trans hb2⟩
      .rw[ag q2]at hm;have q3:(op.toList==[115,112,121])=false:=by rw[eq_of_beq q2];rfl
       have HM:=aj hm;clear hm;go_wp2_with fail;refine(Hf hX gX false w1 wb HS E σ i live r h1 hi hok (aa HM)).mono ?_;clear HM;rintro e w2 ⟨rfl,h2,hb2⟩;go_wp2
       go_ret3
       exact⟨rfl,h2,hb1.trans hb2⟩
     .rw[ag q1]at hm;split at hm
      case isFalse=>cases hm
      case isTrue hi1=>
      obtain⟨x,hx,hm2⟩:=aP.1 hm;have gx:=gF _ _ _ _ _ hx;obtain⟨hr,_⟩:=qC hm2;have HR:=aj hr;clear hm hm2 hr;have hi2:(i:Int)+1<1000:=by omega
      go_wp2_with fail;refine(iw _ wb E σ live h1 hok.2.1).mono ?_;rintro e w2 ⟨rfl,h2,hb2⟩;go_wp2_with fail;refine(hF w2 wb HS E _ (i+1) live x h2 hi1 (jX hok) hx).mono ?_;clear hx;rintro e w3 ⟨rfl,h3,hb3⟩;obtain⟨v0,v1⟩:=gx.2.2;go_wp2_with fail;refine(Aj (-x.v) w3 (by omega) (by omega)).mono ?_;rintro e w4 ⟨rfl,hw⟩;obtain rfl:=hw.symm;go_wp2
      go_ret3
      rw[aa HR];exact⟨rfl,h3,(hb1.trans hb2).trans hb3⟩
    .rw[ag q0]at hm;split at hm
     case isFalse=>cases hm
     case isTrue hi1=>
     obtain⟨x,hx,hm2⟩:=aP.1 hm;have gx:=gX _ _ _ _ _ hx;obtain⟨hr,_⟩:=qC hm2;have HR:=aj hr;clear hm hm2 hr;have hi2:(i:Int)+1<1000:=by omega
     go_wp2_with fail;refine(hX w1 wb HS E σ (i+1) live x h1 hi1 hok hx).mono ?_;clear hx;rintro e w2 ⟨rfl,h2,hb2⟩;go_wp2_with fail;refine(bZ _ wb E x.σ x.to wF h2 gx.1).mono ?_;rintro e w3 ⟨rfl,h3,hb3⟩;go_wp2
     go_ret3
     rw[aa HR];exact⟨rfl,h3,(hb1.trans hb2).trans hb3⟩
   .rw[ag hk1]at hm;obtain⟨hr,_⟩:=qC hm;have HR:=aj hr;clear hm hr;go_wp2_with fail;refine(JY _ wb E σ i live h hi hok.1 hok.2.1).mono ?_;rintro e w1 ⟨rfl,h1,hb1⟩;go_wp2
    go_ret3
    rw[aa HR];exact⟨rfl,h1,hb1⟩
  .rw[ag hk2]at hm;obtain⟨hr,_⟩:=qC hm;have HR:=aj hr;clear hm hr;go_wp2_with fail;refine(JY _ wb E σ i live h hi hok.1 hok.2.1).mono ?_;rintro e w1 ⟨rfl,h1,hb1⟩;go_wp2
   go_ret3
   rw[aa HR];exact⟨rfl,h1,hb1⟩
 .rw[ag hst]at hm;obtain⟨hr,_⟩:=qC hm;have HR:=aj hr;clear hm hr;go_wp2_with fail;refine(tL _ wb E _ h).mono ?_;rintro e w1 ⟨rfl,hw⟩;obtain rfl:=hw.symm;go_wp2
  go_ret3
  rw[aa HR];exact⟨by simp;omega,h,ax _ _⟩
def noM:bB->St->Nat->Bool->Option gp:=λ_ _ _ _=>none
theorem Qd7 (fn:Nat):sF fn noM:=by
 intro w wb HS E σ i live r h hi hok hM
 cases hM
theorem RO:ik noM:=by
 intro E σ i live r h
 cases h
def XF:Nat->(bB->St->Nat->Bool->Option gp)×(bB->St->Nat->Bool->Option gp)
 | 0=>(noM,noM)
 | n+1=>(Bu (wu (wu (mE (XF n).1 (XF n).2) lT n) lQ n),mE (XF n).1 (XF n).2)
theorem Qf1 (n:Nat):(sF 100 (XF n).1/\ik (XF n).1)/\sF 143 (XF n).2/\ik (XF n).2:=by
 induction n with
 | zero=>exact⟨⟨Qd7 _,RO⟩,Qd7 _,RO⟩
 | succ n ih=>
  obtain⟨⟨hX,gX⟩,hF,gF⟩:=ih;have f:=Qe hX gX hF gF;have g:ik (mE (XF n).1 (XF n).2):=NR;have t:=XI f g n;have gt:=Hq g lT n;have s:=Qc6 t gt n;have gs:=Hq gt lQ n;exact⟨⟨WE s gs,Sv gs⟩,f,g⟩
structure SR where
 to:Nat
 σ:St
variable {q r:SR}
abbrev qF (E:bB) (r:SR):Prop:=r.to<E.toks.length/\lI r.σ
def chkR (E:bB) (r:SR):Option SR:=if qF E r then some r else none
theorem iF (h:chkR E r=some q):q=r/\qF E r:=by
 unfold chkR at h;split at h
 .cases h;exact⟨rfl,by assumption⟩
 .cases h
theorem lX (h:chkR E r=some q):qF E q:=by
 obtain⟨rfl,g⟩:=iF h;exact g
def RH (wb:Nat) (HS:List (Nat×Obj)) (E:bB) (w:World) (r:SR) (e:Ending) (w':World):Prop:=e=.returned (.int .i64 (r.to:Int))/\Wk w' wb HS E r.σ/\Below wb w w'
abbrev MX:=bB->St->Nat->Bool->Option gp
abbrev MS:=bB->St->Nat->Bool->Option SR
variable {B S:MS}
def Ii (fn:Nat) (M:MS):Prop:=∀(w:World) (wb:Nat) (HS:List (Nat×Obj)) (E:bB) (σ:St) (i:Nat) (live:Bool) (r:SR),Wk w wb HS E σ->i<E.toks.length->lI σ->M E σ i live=some r ->
 Calls Tryz.prog fn #[.pointer (some ⟨wb,0,none⟩),.int .i64 (i:Int),.bool live] w (RH wb HS E w r)
def jd (M:MS):Prop:=∀E σ i live r,M E σ i live=some r->qF E r
def tV (E:bB) (σ:St) (i:Nat):St:=if E.mode==0 then σ else
 if(E.mode==1)&&decide (0<=mR E σ i) && !(mG (fU E σ i) (mR E σ i)).free then bR E (fU E σ i) i 10 else fU E σ i
def Gh (E:bB) (σ:St) (i:Nat):Int:=if E.mode==0 then -1 else mR E σ i
def qQ (σ:St) (k:Nat) (v:Int):St:={ σ with cells:=σ.cells.modify k λc=>{ c with val:=v } }
def YS (E:bB) (σ:St) (i:Nat) (k:Int):St:=if(mG σ k).hid then σ else bR E σ i 11
def qX (E:bB) (σ:St) (to:Nat):Option SR:=chkR E ⟨eG E σ to xE,eO E σ to xE⟩
def iq (E:bB) (i:Nat) (s:Bool) (k:Int) (a:gp):Option SR:=
 if(E.mode==2)&&a.h then
  (if 0<=k/\k<a.σ.cells.length then qX E (YS E a.σ i k) a.to else none)
 else if aW E a.σ s then
  (if 0<=k/\k<a.σ.cells.length then qX E (qQ a.σ k.toNat a.v) a.to else none)
 else qX E a.σ a.to
def nQ (X:MX) (E:bB) (i:Nat) (s:Bool) (k:Int) (σ:St):Option SR:=
 if i+1<E.toks.length/\eG E σ (i+1) Oy<E.toks.length then(X E (eO E σ (i+1) Oy) (eG E σ (i+1) Oy) s).bind (iq E i s k) else none
def lM (X:MX):MS:=λE σ i live=>nQ X E i (stepB E (tV E σ i) live) (Gh E σ i) (aC E (tV E σ i) live)
def Al (v:Int):Nat->Int->Int
 | 0,k=>k
 | n+1,k=>if(2*k+1)*(2*k+1)<4*255*v then Al v n (k+1) else k
def EY (v:Int):Int:=Al (min (max v 0) 255) 300 0
def BJ (E:bB) (σ:St) (i:Nat) (h hid:Bool):St:=if(E.mode==2)&&h && !hid then bR E σ i 11 else σ
def Ih (E:bB) (σ:St) (hid:Bool) (v:Int):St:=if hid then lq { σ with hid:=σ.hid.set E.point.toNat (EY v) } 3 E.point else lq { σ with opn:=σ.opn.set E.point.toNat (EY v) } 2 E.point
def uD (E:bB) (i:Nat) (s hid:Bool) (a:gp):Option SR:=
 if aW E (BJ E a.σ i a.h hid) s then
  (if 0<=E.point/\E.point<a.σ.opn.length/\E.point<a.σ.hid.length/\E.point<1000 then qX E (Ih E (BJ E a.σ i a.h hid) hid a.v) a.to else none)
 else qX E (BJ E a.σ i a.h hid) a.to
def Cq (X:MX) (hid:Bool):MS:=λE σ i live=>
 if i+1<E.toks.length then(X E (aC E σ live) (i+1) (stepB E σ live)).bind λa=>uD E i (stepB E σ live) hid a else none
def fF (B:MS) (E:bB) (s:Bool) (a:gp) (r:SR):Option SR:=
 if oF E r.σ r.to jS then(if r.to+1<E.toks.length then B E r.σ (r.to+1) (s&&(a.v==0)) else none) else some r
def mr (X:MX) (B:MS):MS:=λE σ i live=>
 if i+1<E.toks.length then
  (X E (aC E σ live) (i+1) (stepB E σ live)).bind λa=>
   (B E (mM E a.σ i a.h) a.to (stepB E σ live&&(a.v != 0))).bind λr=>fF B E (stepB E σ live) a r
 else none
def jE (B:MS) (E:bB) (at_:Nat) (last:Int):Nat->Int->SR->Option SR
 | 0,n,r=>if n<=last then none else some r
 | f+1,n,r=>if n<=last then
   (let u:=stepB E r.σ true
    let σ1:=aC E r.σ true
    if 0<σ1.cells.length then
     (B E (if u then qQ σ1 (σ1.cells.length-1) n else σ1) at_ u).bind λq=>jE B E at_ last f (n+1) q
    else none) else some r
def sI (E:bB) (σ:St):St:=if E.mode==0 then σ else { σ with cells:=σ.cells.dropLast }
def oM (B:MS) (E:bB) (s:Bool) (at_ first last:Nat) (σ:St):Option SR:=
 if s then(if 0<=(aT E first).num/\(aT E first).num<=100000/\0<=(aT E last).num/\(aT E last).num<=100000 then jE B E at_ (aT E last).num 30 (aT E first).num ⟨at_,σ⟩ else none)
 else B E σ at_ false
def nD (E:bB) (r:SR):Option SR:=if(E.mode==0)||decide (0<r.σ.cells.length) then some ⟨r.to,sI E r.σ⟩ else none
def jH (E:bB) (σ:St) (first last:Nat):St:=if(E.mode==1)&&(decide ((aT E last).num<(aT E first).num)||decide (20<(aT E last).num)) then bR E σ first 10 else σ
def Af (B:MS) (E:bB) (s:Bool) (i first last at_:Nat) (σ:St):Option SR:=
 if kQ E σ then chkR E ⟨E.toks.length-1,σ⟩ else
 if at_<E.toks.length/\lI (oz E σ (i+1) false false) then(oM B E s at_ first last (jH E (oz E σ (i+1) false false) first last)).bind (nD E) else none
def F6 (B:MS) (E:bB) (s:Bool) (i first a2:Nat) (σ:St):Option SR:=
 if a2<E.toks.length/\eG E σ a2 M3<E.toks.length then Af B E s i first (eG E σ a2 M3) (D5 E (eO E σ a2 M3) (eG E σ a2 M3) 2) (Bp E (eO E σ a2 M3) (eG E σ a2 M3) 2) else none
def EX (B:MS) (E:bB) (s:Bool) (i first:Nat) (σ:St):Option SR:=
 if first<E.toks.length then F6 B E s i first (D5 E σ first 2) (Bp E σ first 2) else none
def wW (B:MS):MS:=λE σ i live=>
 if i+1<E.toks.length then EX B E (stepB E σ live) i (D5 E (aC E σ live) (i+1) 1) (Bp E (aC E σ live) (i+1) 1) else none
def jm (X:MX) (B:MS):MS:=λE σ i live=>
 if kQ E σ then chkR E ⟨E.toks.length-1,σ⟩ else
 if(aT E i).kind==1 then lM X E σ i live else
 if oF E σ i JG then mr X B E σ i live else
 if oF E σ i xZ then wW B E σ i live else
 if oF E σ i lD||oF E σ i dY then Cq X (oF E σ i dY) E σ i live else
 chkR E ⟨E.toks.length-1,bR E σ i 9⟩
def gY (S:MS) (E:bB) (live:Bool):Nat->SR->Option SR
 | 0,_=>none
 | f+1,r=>if oF E r.σ r.to DF||kQ E r.σ then chkR E ⟨eG E r.σ r.to DF,eO E r.σ r.to DF⟩ else(S E r.σ r.to live).bind (gY S E live f)
def rq (S:MS) (f:Nat):MS:=λE σ i live=>if eG E σ i Oz<E.toks.length then gY S E live f ⟨eG E σ i Oz,eO E σ i Oz⟩ else none
def qo (E:bB) (hd:Bool):Nat->SR->Option SR
 | 0,_=>none
 | f+1,r=>if kQ E (Bp E r.σ r.to 1) then chkR E ⟨E.toks.length-1,Bp E r.σ r.to 1⟩ else
   if D5 E r.σ r.to 1<E.toks.length/\lI (oz E (Bp E r.σ r.to 1) r.to hd true) then
    (if oF E (oz E (Bp E r.σ r.to 1) r.to hd true) (D5 E r.σ r.to 1) su then
     (if D5 E r.σ r.to 1+1<E.toks.length then qo E hd f ⟨D5 E r.σ r.to 1+1,oz E (Bp E r.σ r.to 1) r.to hd true⟩ else none)
     else chkR E ⟨eG E (oz E (Bp E r.σ r.to 1) r.to hd true) (D5 E r.σ r.to 1) xE,eO E (oz E (Bp E r.σ r.to 1) r.to hd true) (D5 E r.σ r.to 1) xE⟩)
   else none
theorem Oq {X:MX} (gB:jd B):jd (mr X B):=by
 intro E σ i live r h;unfold mr at h;split at h
 case isFalse=>cases h
 obtain⟨a,_,h⟩:=aP.1 h;obtain⟨q,hq,h⟩:=aP.1 h;unfold fF at h;split at h
 .split at h
  .exact gB _ _ _ _ _ h
  .cases h
 .cases h;exact gB _ _ _ _ _ hq
theorem P8 {X:MX} (hX:sF 100 X) (gX:ik X) (hB:Ii 102 B) (gB:jd B):Ii 74 (mr X B):=by
 intro w wb HS E σ i live r h hi hok hM;have tf:=h.some.2;unfold mr at hM;split at hM
 case isFalse=>cases hM
 rename_i hi1;obtain⟨a,hXa,hM⟩:=aP.1 hM;obtain⟨q,hBq,hM⟩:=aP.1 hM;have ga:=gX _ _ _ _ _ hXa;have gq:=gB _ _ _ _ _ hBq;have HM:=aj hM;clear hM;have hii:(i:Int)+1<1000:=by omega
 obtain⟨s,HS1⟩:∃s,Hid (stepB E σ live=s):=⟨_,rfl⟩;rw[aa HS1]at hXa hBq HM;go_enter Tryz.func74,Tryz.ntmps74;go_wp2_with fail;refine(iw _ wb E σ live h hok.2.1).mono ?_;clear h;rintro e w1 ⟨rfl,h1,hb1⟩;rw[aa HS1];clear HS1;go_wp2_with fail;refine(hX w1 wb HS E _ (i+1) s a h1 hi1 (jX hok) hXa).mono ?_;clear h1 hXa hX gX;rintro e w2 ⟨rfl,h2,hb2⟩;obtain⟨bv,HBV⟩:∃bv,Hid ((s&&(a.v != 0))=bv):=⟨_,rfl⟩;obtain⟨bz,HBZ⟩:∃bz,Hid ((s&&(a.v==0))=bz):=⟨_,rfl⟩;rw[aa HBV]at hBq;have hm2:=aa HM;clear HM;unfold fF at hm2;rw[aa HBZ]at hm2;have hc:=h2;obtain⟨tv,lv,so,sd,ov,hv,rv,hc⟩:=hc;have c1:=hc.cell 1;simp at c1;clear hc;have HB:=aj (hb1.trans hb2);clear hb1 hb2
 cases hm:(E.mode==2)
 .have e5:mM E a.σ i a.h=a.σ:=by simp[mM,hm]
  rw[e5]at hBq;clear e5
  cases s
  .have e1:bv=false:=by rw[<-aa HBV];simp
   have e2:bz=false:=by rw[<-aa HBZ];simp
   subst e1;subst e2;clear HBV HBZ;go_wp2_with fail;refine(hB w2 wb HS E _ a.to false q h2 ga.1 ga.2.1 hBq).mono ?_;clear h2 hBq;rintro e w5 ⟨rfl,h5,hb5⟩;go_wp2_with fail;refine(fM _ wb E q.σ q.to jS h5 gq.1).mono ?_;rintro e w6 ⟨rfl,hw⟩;obtain rfl:=hw.symm
   cases hel:oF E q.σ q.to jS
   .rw[ae (by rw[hel];simp)]at hm2;have HM:=aj (bN hm2);clear hm2;go_wp2;go_ret;rw[<-aa HM];exact⟨rfl,h5,(aa HB).trans hb5⟩
   .rw[ag hel]at hm2;split at hm2
    case isFalse=>cases hm2
    rename_i hto;have hto2:(q.to:Int)+1<1000:=by omega
    go_wp2_with fail;refine(hB w5 wb HS E _ (q.to+1) false r h5 hto gq.2 hm2).mono ?_;rintro e w7 ⟨rfl,h7,hb7⟩;have HB2:=aj (((aa HB).trans hb5).trans hb7);clear hm2 hb5 hb7;go_wp2;go_ret;exact⟨rfl,h7,aa HB2⟩
  .cases hz:(a.v==0)
   .have e1:bv=true:=by rw[<-aa HBV];simp[bne,hz]
    have e2:bz=false:=by rw[<-aa HBZ];simp[hz]
    subst e1;subst e2;clear HBV HBZ;go_wp2_with fail;have hne:(a.v != 0)=true:=by simp[bne,hz]
    rw[hne];clear hne;refine(hB w2 wb HS E _ a.to true q h2 ga.1 ga.2.1 hBq).mono ?_;clear h2 hBq;rintro e w5 ⟨rfl,h5,hb5⟩;go_wp2_with fail;refine(fM _ wb E q.σ q.to jS h5 gq.1).mono ?_;rintro e w6 ⟨rfl,hw⟩;obtain rfl:=hw.symm
    cases hel:oF E q.σ q.to jS
    .rw[ae (by rw[hel];simp)]at hm2;have HM:=aj (bN hm2);clear hm2;go_wp2;go_ret;rw[<-aa HM];exact⟨rfl,h5,(aa HB).trans hb5⟩
    .rw[ag hel]at hm2;split at hm2
     case isFalse=>cases hm2
     rename_i hto;have hto2:(q.to:Int)+1<1000:=by omega
     go_wp2_with fail
     try rw[hz]
     refine(hB w5 wb HS E _ (q.to+1) false r h5 hto gq.2 hm2).mono ?_;rintro e w7 ⟨rfl,h7,hb7⟩;have HB2:=aj (((aa HB).trans hb5).trans hb7);clear hm2 hb5 hb7;go_wp2;go_ret;exact⟨rfl,h7,aa HB2⟩
   .have e1:bv=false:=by rw[<-aa HBV];simp[bne,hz]
    have e2:bz=true:=by rw[<-aa HBZ];simp[hz]
    subst e1;subst e2;clear HBV HBZ;go_wp2_with fail;have hne:(a.v != 0)=false:=by simp[bne,hz]
    rw[hne];clear hne;refine(hB w2 wb HS E _ a.to false q h2 ga.1 ga.2.1 hBq).mono ?_;clear h2 hBq;rintro e w5 ⟨rfl,h5,hb5⟩;go_wp2_with fail;refine(fM _ wb E q.σ q.to jS h5 gq.1).mono ?_;rintro e w6 ⟨rfl,hw⟩;obtain rfl:=hw.symm
    cases hel:oF E q.σ q.to jS
    .rw[ae (by rw[hel];simp)]at hm2;have HM:=aj (bN hm2);clear hm2;go_wp2;go_ret;rw[<-aa HM];exact⟨rfl,h5,(aa HB).trans hb5⟩
    .rw[ag hel]at hm2;split at hm2
     case isFalse=>cases hm2
     rename_i hto;have hto2:(q.to:Int)+1<1000:=by omega
     go_wp2_with fail
     try rw[hz]
     refine(hB w5 wb HS E _ (q.to+1) true r h5 hto gq.2 hm2).mono ?_;rintro e w7 ⟨rfl,h7,hb7⟩;have HB2:=aj (((aa HB).trans hb5).trans hb7);clear hm2 hb5 hb7;go_wp2;go_ret;exact⟨rfl,h7,aa HB2⟩
 .cases hah:a.h
  .have e5:mM E a.σ i a.h=a.σ:=by simp[mM,hah]
   rw[e5]at hBq;clear e5
   cases s
   .have e1:bv=false:=by rw[<-aa HBV];simp
    have e2:bz=false:=by rw[<-aa HBZ];simp
    subst e1;subst e2;clear HBV HBZ;go_wp2_with fail;refine(hB w2 wb HS E _ a.to false q h2 ga.1 ga.2.1 hBq).mono ?_;clear h2 hBq;rintro e w5 ⟨rfl,h5,hb5⟩;go_wp2_with fail;refine(fM _ wb E q.σ q.to jS h5 gq.1).mono ?_;rintro e w6 ⟨rfl,hw⟩;obtain rfl:=hw.symm
    cases hel:oF E q.σ q.to jS
    .rw[ae (by rw[hel];simp)]at hm2;have HM:=aj (bN hm2);clear hm2;go_wp2;go_ret;rw[<-aa HM];exact⟨rfl,h5,(aa HB).trans hb5⟩
    .rw[ag hel]at hm2;split at hm2
     case isFalse=>cases hm2
     rename_i hto;have hto2:(q.to:Int)+1<1000:=by omega
     go_wp2_with fail;refine(hB w5 wb HS E _ (q.to+1) false r h5 hto gq.2 hm2).mono ?_;rintro e w7 ⟨rfl,h7,hb7⟩;have HB2:=aj (((aa HB).trans hb5).trans hb7);clear hm2 hb5 hb7;go_wp2;go_ret;exact⟨rfl,h7,aa HB2⟩
   .cases hz:(a.v==0)
    .have e1:bv=true:=by rw[<-aa HBV];simp[bne,hz]
     have e2:bz=false:=by rw[<-aa HBZ];simp[hz]
     subst e1;subst e2;clear HBV HBZ;go_wp2_with fail;have hne:(a.v != 0)=true:=by simp[bne,hz]
     rw[hne];clear hne;refine(hB w2 wb HS E _ a.to true q h2 ga.1 ga.2.1 hBq).mono ?_;clear h2 hBq;rintro e w5 ⟨rfl,h5,hb5⟩;go_wp2_with fail;refine(fM _ wb E q.σ q.to jS h5 gq.1).mono ?_;rintro e w6 ⟨rfl,hw⟩;obtain rfl:=hw.symm
     cases hel:oF E q.σ q.to jS
     .rw[ae (by rw[hel];simp)]at hm2;have HM:=aj (bN hm2);clear hm2;go_wp2;go_ret;rw[<-aa HM];exact⟨rfl,h5,(aa HB).trans hb5⟩
     .rw[ag hel]at hm2;split at hm2
      case isFalse=>cases hm2
      rename_i hto;have hto2:(q.to:Int)+1<1000:=by omega
      go_wp2_with fail
      try rw[hz]
      refine(hB w5 wb HS E _ (q.to+1) false r h5 hto gq.2 hm2).mono ?_;rintro e w7 ⟨rfl,h7,hb7⟩;have HB2:=aj (((aa HB).trans hb5).trans hb7);clear hm2 hb5 hb7;go_wp2;go_ret;exact⟨rfl,h7,aa HB2⟩
    .have e1:bv=false:=by rw[<-aa HBV];simp[bne,hz]
     have e2:bz=true:=by rw[<-aa HBZ];simp[hz]
     subst e1;subst e2;clear HBV HBZ;go_wp2_with fail;have hne:(a.v != 0)=false:=by simp[bne,hz]
     rw[hne];clear hne;refine(hB w2 wb HS E _ a.to false q h2 ga.1 ga.2.1 hBq).mono ?_;clear h2 hBq;rintro e w5 ⟨rfl,h5,hb5⟩;go_wp2_with fail;refine(fM _ wb E q.σ q.to jS h5 gq.1).mono ?_;rintro e w6 ⟨rfl,hw⟩;obtain rfl:=hw.symm
     cases hel:oF E q.σ q.to jS
     .rw[ae (by rw[hel];simp)]at hm2;have HM:=aj (bN hm2);clear hm2;go_wp2;go_ret;rw[<-aa HM];exact⟨rfl,h5,(aa HB).trans hb5⟩
     .rw[ag hel]at hm2;split at hm2
      case isFalse=>cases hm2
      rename_i hto;have hto2:(q.to:Int)+1<1000:=by omega
      go_wp2_with fail
      try rw[hz]
      refine(hB w5 wb HS E _ (q.to+1) true r h5 hto gq.2 hm2).mono ?_;rintro e w7 ⟨rfl,h7,hb7⟩;have HB2:=aj (((aa HB).trans hb5).trans hb7);clear hm2 hb5 hb7;go_wp2;go_ret;exact⟨rfl,h7,aa HB2⟩
  .have e5:mM E a.σ i a.h=bR E a.σ i 11:=by simp[mM,hah,hm]
   rw[e5]at hBq;clear e5;go_wp2_with fail;refine(iR _ wb E a.σ i 11 h2 hi).mono ?_;rintro e w3 ⟨rfl,h3,hb3⟩;have HB3:=aj ((aa HB).trans hb3);clear HB;have HB:=HB3;clear HB3 hb3 h2
   cases s
   .have e1:bv=false:=by rw[<-aa HBV];simp
    have e2:bz=false:=by rw[<-aa HBZ];simp
    subst e1;subst e2;clear HBV HBZ;go_wp2_with fail;refine(hB w3 wb HS E _ a.to false q h3 ga.1 (ni ga.2.1) hBq).mono ?_;clear h3 hBq;rintro e w5 ⟨rfl,h5,hb5⟩;go_wp2_with fail;refine(fM _ wb E q.σ q.to jS h5 gq.1).mono ?_;rintro e w6 ⟨rfl,hw⟩;obtain rfl:=hw.symm
    cases hel:oF E q.σ q.to jS
    .rw[ae (by rw[hel];simp)]at hm2;have HM:=aj (bN hm2);clear hm2;go_wp2;go_ret;rw[<-aa HM];exact⟨rfl,h5,(aa HB).trans hb5⟩
    .rw[ag hel]at hm2;split at hm2
     case isFalse=>cases hm2
     rename_i hto;have hto2:(q.to:Int)+1<1000:=by omega
     go_wp2_with fail;refine(hB w5 wb HS E _ (q.to+1) false r h5 hto gq.2 hm2).mono ?_;rintro e w7 ⟨rfl,h7,hb7⟩;have HB2:=aj (((aa HB).trans hb5).trans hb7);clear hm2 hb5 hb7;go_wp2;go_ret;exact⟨rfl,h7,aa HB2⟩
   .cases hz:(a.v==0)
    .have e1:bv=true:=by rw[<-aa HBV];simp[bne,hz]
     have e2:bz=false:=by rw[<-aa HBZ];simp[hz]
     subst e1;subst e2;clear HBV HBZ;go_wp2_with fail;have hne:(a.v != 0)=true:=by simp[bne,hz]
     rw[hne];clear hne;refine(hB w3 wb HS E _ a.to true q h3 ga.1 (ni ga.2.1) hBq).mono ?_;clear h3 hBq;rintro e w5 ⟨rfl,h5,hb5⟩;go_wp2_with fail;refine(fM _ wb E q.σ q.to jS h5 gq.1).mono ?_;rintro e w6 ⟨rfl,hw⟩;obtain rfl:=hw.symm
     cases hel:oF E q.σ q.to jS
     .rw[ae (by rw[hel];simp)]at hm2;have HM:=aj (bN hm2);clear hm2;go_wp2;go_ret;rw[<-aa HM];exact⟨rfl,h5,(aa HB).trans hb5⟩
     .rw[ag hel]at hm2;split at hm2
      case isFalse=>cases hm2
      rename_i hto;have hto2:(q.to:Int)+1<1000:=by omega
      go_wp2_with fail
      try rw[hz]
      refine(hB w5 wb HS E _ (q.to+1) false r h5 hto gq.2 hm2).mono ?_;rintro e w7 ⟨rfl,h7,hb7⟩;have HB2:=aj (((aa HB).trans hb5).trans hb7);clear hm2 hb5 hb7;go_wp2;go_ret;exact⟨rfl,h7,aa HB2⟩
    .have e1:bv=false:=by rw[<-aa HBV];simp[bne,hz]
     have e2:bz=true:=by rw[<-aa HBZ];simp[hz]
     subst e1;subst e2;clear HBV HBZ;go_wp2_with fail;have hne:(a.v != 0)=false:=by simp[bne,hz]
     rw[hne];clear hne;refine(hB w3 wb HS E _ a.to false q h3 ga.1 (ni ga.2.1) hBq).mono ?_;clear h3 hBq;rintro e w5 ⟨rfl,h5,hb5⟩;go_wp2_with fail;refine(fM _ wb E q.σ q.to jS h5 gq.1).mono ?_;rintro e w6 ⟨rfl,hw⟩;obtain rfl:=hw.symm
     cases hel:oF E q.σ q.to jS
     .rw[ae (by rw[hel];simp)]at hm2;have HM:=aj (bN hm2);clear hm2;go_wp2;go_ret;rw[<-aa HM];exact⟨rfl,h5,(aa HB).trans hb5⟩
     .rw[ag hel]at hm2;split at hm2
      case isFalse=>cases hm2
      rename_i hto;have hto2:(q.to:Int)+1<1000:=by omega
      go_wp2_with fail
      try rw[hz]
      refine(hB w5 wb HS E _ (q.to+1) true r h5 hto gq.2 hm2).mono ?_;rintro e w7 ⟨rfl,h7,hb7⟩;have HB2:=aj (((aa HB).trans hb5).trans hb7);clear hm2 hb5 hb7;go_wp2;go_ret;exact⟨rfl,h7,aa HB2⟩
theorem Le (E:bB) (live:Bool) (f:Nat):∀q r,gY S E live f q=some r->qF E r:=by
 induction f with
 | zero=>intro q r h;simp[gY]at h
 | succ f ih=>
  intro q r h;rw[gY]at h;split at h
  .exact lX h
  .obtain⟨x,_,h⟩:=aP.1 h;exact ih _ _ h
theorem P9 (f:Nat):jd (rq S f):=by
 intro E σ i live r h;unfold rq at h;split at h
 .exact Le _ _ _ _ _ h
 .cases h
theorem UV (hS:Ii 47 S) (gS:jd S) (f:Nat):Ii 102 (rq S f):=by
 intro w wb HS E σ i live r h hi hok hM;have tf:=h.some.2;have hii:(i:Int)<(E.toks.length:Int):=by omega
 unfold rq at hM;split at hM
 case isFalse=>cases hM
 rename_i hi1;have HM:=aj hM;clear hM;go_enter Tryz.func102,Tryz.ntmps102;go_wp2_with fail;refine(bZ _ wb E σ i Oz h hi).mono ?_;clear h;rintro e w1 ⟨rfl,h1,hb1⟩;go_wp2
 go_loopg [1] f (λk si wr=>∃q:SR,si=.int .i64 (q.to:Int)/\Wk wr wb HS E q.σ/\Below wb w wr/\qF E q/\gY S E live k q=some r)
 case atStart=>exact⟨⟨eG E σ i Oz,eO E σ i Oz⟩,rfl,h1,hb1,⟨hi1,mW hok⟩,aa HM⟩
 case round=>
  clear HM h1 hb1;obtain⟨q,rfl,hq,hbq,gq,hch⟩:=hrel
  cases gk with
  | zero=>exact absurd hch (by simp[gY])
  | succ gk=>
   rw[gY]at hch;have HCH:=aj hch;clear hch;go_wp2_with fail;refine(fM _ wb E q.σ q.to DF hq gq.1).mono ?_;rintro e w2 ⟨rfl,hw⟩;obtain rfl:=hw.symm;go_wp2_with fail;refine(dH _ wb E q.σ hq).mono ?_;rintro e w3 ⟨rfl,hw⟩;obtain rfl:=hw.symm;have hch:=aa HCH;clear HCH
   cases he:oF E q.σ q.to DF
   .cases hst:kQ E q.σ
    .rw[ae (by rw[he,hst];simp)]at hch;obtain⟨x,hx,hch⟩:=aP.1 hch;have gx:=gS _ _ _ _ _ hx;have HCH:=aj hch;clear hch;go_wp2_with fail;refine(hS wr wb HS E _ q.to live x hq gq.1 gq.2 hx).mono ?_;rintro e w4 ⟨rfl,h4,hb4⟩;have HB:=aj (hbq.trans hb4);clear hx hq hbq hb4 gq he hst;go_wp2
     go_roundg gk
     case measure=>omega
     case rel=>exact⟨x,rfl,h4,aa HB,gx,aa HCH⟩
    .rw[ag (by rw[he,hst];simp)]at hch;obtain⟨hr,_⟩:=iF hch;have HR:=aj hr;clear hr hch;go_wp2_with fail;refine(bZ _ wb E q.σ q.to DF hq gq.1).mono ?_;rintro e w4 ⟨rfl,h4,hb4⟩;go_wp2;go_ret;rw[aa HR];exact⟨rfl,h4,hbq.trans hb4⟩
   .rw[ag (by rw[he];simp)]at hch;obtain⟨hr,_⟩:=iF hch;have HR:=aj hr;clear hr hch;go_wp2_with fail;refine(bZ _ wb E q.σ q.to DF hq gq.1).mono ?_;rintro e w4 ⟨rfl,h4,hb4⟩;go_wp2;go_ret;rw[aa HR];exact⟨rfl,h4,hbq.trans hb4⟩
end Go.Proofs.YthmmgiaobakilaaGreat
