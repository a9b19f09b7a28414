import Derived.Test.YthmmgiaobakilaaGreatK22
import Derived.Deep.RegionWith
set_option maxRecDepth 100000
namespace Go.Proofs.YthmmgiaobakilaaGreat
open Go.RowKit
set_option maxRecDepth 100000 in
set_option maxHeartbeats 4000000 in
theorem factor_any {X F:Env→St→Nat→Bool→Option RAns} (hX:SubOK 100 X) (gX:SubGood X) (hF:SubOK 143 F) (gF:SubGood F):SubOK 143 (factorM X F):=by
 intro w wb HS E σ i live r h hi hok hM
 have tf:=h.some
 have hii:(i:Int) < (E.toks.length:Int):=by omega
 have HM:=hide hM
 clear hM
 have hh:=h
 obtain ⟨tv,lv,so,sd,ov,hv,rv,hh⟩:=hh
 obtain ⟨tb,cap,rfl,htb⟩:=hh.tokv
 have c0:=hh.cell 0
 simp at c0
 obtain ⟨t0,t1,t2,t3⟩:=hh.tokcell i hi
 clear t1 t2 t3 hh
 obtain ⟨kd,HK⟩:∃kd,Hid ((tokAt E i).kind=kd):=⟨_,rfl⟩
 have hm:=unhide HM
 unfold factorM at hm
 rw [unhide HK] at t0 hm
 clear HM HK
 go_enter Tryz.func143,Tryz.ntmps143
 go_wp2_with fail
 refine (stopped_any _ wb E σ h).mono ?_
 rintro e w1 ⟨rfl,hw⟩
 obtain rfl:=hw.symm
 cases hst:stopB E σ
 ·rw [if_neg (by rw [hst];simp)] at hm
  cases hk2:(kd==2)
  ·rw [if_neg (by rw [hk2];simp)] at hm
   cases hk1:(kd==1)
   ·rw [if_neg (by rw [hk1];simp)] at hm
    have HM:=hide hm
    clear hm
    go_wp2_with fail
    refine (op_any _ wb E _ i (some ⟨w.heap.size,0,none⟩) 7 opsF (h.alloc _) hi (StrsAt.newAt _ opsF _ _ rfl (by simp)) (by decide)).mono ?_
    rintro e w1 ⟨rfl,hw1⟩
    have h1:Wk w1 wb HS E σ:=by rw [hw1];exact h.alloc _
    have hb1:Below wb w w1:=by rw [hw1];exact (Below.refl wb w).alloc (by obtain ⟨_,_,_,_,_,_,_,hh⟩:=h;have:=hh.lt;omega) _
    clear hw1 h c0 t0
    have hm:=unhide HM
    clear HM
    obtain ⟨op,HO⟩:∃op,Hid (opF E σ i opsF=op):=⟨_,rfl⟩
    rw [unhide HO] at hm ⊢
    clear HO
    unfold signM at hm
    cases q0:(op.toList==[40])
    ·rw [if_neg (by rw [q0];simp)] at hm
     cases q1:(op.toList==[45])
     ·rw [if_neg (by rw [q1];simp)] at hm
      cases q2:(op.toList==[112,101,101,107])
      ·rw [if_neg (by rw [q2];simp)] at hm
       cases q3:(op.toList==[115,112,121])
       ·rw [if_neg (by rw [q3];simp)] at hm
        cases q4:(op.toList==[109,105,110])
        ·rw [if_neg (by rw [q4];simp)] at hm
         cases q5:(op.toList==[109,97,120])
         ·rw [if_neg (by rw [q5];simp)] at hm
          cases q6:(op.toList==[115,101,108])
          ·rw [if_neg (by rw [q6];simp)] at hm
           obtain ⟨hr,_⟩:=chk_eq hm
           have HR:=hide hr
           clear hm hr
           go_wp2_with fail
           refine (wrong_any _ wb E σ i 9 h1 hi).mono ?_
           rintro e w2 ⟨rfl,h2,hb2⟩
           go_wp2_with fail
           refine (end_any _ wb E _ h2).mono ?_
           rintro e w3 ⟨rfl,hw⟩
           obtain rfl:=hw.symm
           go_wp2
           go_ret3
           rw [unhide HR]
           exact ⟨by simp;omega,h2,hb1.trans hb2⟩
          ·rw [if_pos q6] at hm
           obtain ⟨q,hq,hm2⟩:=Option.bind_eq_some_iff.1 hm
           unfold selM at hm2
           split at hm2
           case isFalse=>cases hm2
           case isTrue g1=>
           have HM2:=hide hm2
           clear hm hm2
           go_wp2_with fail
           refine (list_any hX gX 3 (by omega) w1 wb HS E σ i live q h1 hok hq).mono ?_
           clear hq
           rintro e w2 ⟨l,rfl,hl,hb2⟩
           obtain ⟨x0,x1,x2,hv0⟩:∃x0 x1 x2,q.vs=[x0,x1,x2]:=by
            match hqv:q.vs,g1 with
            | [x0,x1,x2],_=>exact ⟨x0,x1,x2,rfl⟩
           rw [hv0] at hl
           have e0:q.vs.getD 0 0=x0:=by rw [hv0];rfl
           have e1:q.vs.getD 1 0=x1:=by rw [hv0];rfl
           have e2:q.vs.getD 2 0=x2:=by rw [hv0];rfl
           rw [e0,e1,e2] at HM2
           clear e0 e1 e2 hv0 g1
           obtain ⟨HS',hW,hs,_,_,ho⟩:=hl
           obtain ⟨g,cp,rfl⟩:=own_succ ho
           have y0:w2.cell? ⟨g,0,none⟩=some (.int .i64 x0):=by rw [ho.cellAt _ (by simp)];rfl
           have y1:w2.cell? ⟨g,1,none⟩=some (.int .i64 x1):=by rw [ho.cellAt _ (by simp)];rfl
           have y2:w2.cell? ⟨g,2,none⟩=some (.int .i64 x2):=by rw [ho.cellAt _ (by simp)];rfl
           have hW2:=hW.fewer hs
           clear ho hW hs
           cases hx0:(x0==0)
           ·have hx:¬ x0=0:=by simpa using hx0
            have hm3:=unhide HM2
            rw [if_neg hx] at hm3
            obtain ⟨hr,_⟩:=chk_eq hm3
            have HR:=hide hr
            clear hm3 hr HM2 hx
            go_wp2
            go_ret3
            rw [unhide HR]
            exact ⟨rfl,hW2,hb1.trans hb2⟩
           ·have hx:x0=0:=by simpa using hx0
            have hm3:=unhide HM2
            rw [if_pos hx] at hm3
            obtain ⟨hr,_⟩:=chk_eq hm3
            have HR:=hide hr
            clear hm3 hr HM2 hx
            go_wp2
            go_ret3
            rw [unhide HR]
            exact ⟨rfl,hW2,hb1.trans hb2⟩
         ·rw [if_pos q5] at hm
          obtain ⟨q,hq,hm2⟩:=Option.bind_eq_some_iff.1 hm
          unfold bothM at hm2
          split at hm2
          case isFalse=>cases hm2
          case isTrue hg=>
          obtain ⟨g1,g2,g3⟩:=hg
          obtain ⟨hr,_⟩:=chk_eq hm2
          have HR:=hide hr
          clear hm hm2 hr
          go_wp2_with fail
          refine (list_any hX gX 2 (by omega) w1 wb HS E σ i live q h1 hok hq).mono ?_
          clear hq
          rintro e w2 ⟨l,rfl,hl,hb2⟩
          obtain ⟨x0,x1,hv0⟩:∃x0 x1,q.vs=[x0,x1]:=by
           match hqv:q.vs,g1 with
           | [x0,x1],_=>exact ⟨x0,x1,rfl⟩
          rw [hv0] at hl
          have e0:q.vs.getD 0 0=x0:=by rw [hv0];rfl
          have e1:q.vs.getD 1 0=x1:=by rw [hv0];rfl
          rw [e0] at g2
          rw [e1] at g3
          rw [e0,e1] at HR
          clear e0 e1 hv0 g1
          obtain ⟨HS',hW,hs,_,_,ho⟩:=hl
          obtain ⟨g,cp,rfl⟩:=own_succ ho
          have y0:w2.cell? ⟨g,0,none⟩=some (.int .i64 x0):=by rw [ho.cellAt _ (by simp)];rfl
          have y1:w2.cell? ⟨g,1,none⟩=some (.int .i64 x1):=by rw [ho.cellAt _ (by simp)];rfl
          have hW2:=hW.fewer hs
          clear ho hW hs
          go_wp2_with fail
          go_region_with (go_at_call_of 127 (Value.string op);refine (does_any op x0 x1 _ g2 g3).mono ?_;rintro e w3 ⟨rfl,hw⟩;obtain rfl:=hw.symm)
          all_goals go_wp2
          all_goals go_ret3
          all_goals rw [unhide HR]
          all_goals refine ⟨rfl,?_,?_⟩
          all_goals (first | exact hW2.drewN _ | exact below_dr (hb1.trans hb2) _)
        ·rw [if_pos q4] at hm
         obtain ⟨q,hq,hm2⟩:=Option.bind_eq_some_iff.1 hm
         unfold bothM at hm2
         split at hm2
         case isFalse=>cases hm2
         case isTrue hg=>
         obtain ⟨g1,g2,g3⟩:=hg
         obtain ⟨hr,_⟩:=chk_eq hm2
         have HR:=hide hr
         clear hm hm2 hr
         go_wp2_with fail
         refine (list_any hX gX 2 (by omega) w1 wb HS E σ i live q h1 hok hq).mono ?_
         clear hq
         rintro e w2 ⟨l,rfl,hl,hb2⟩
         obtain ⟨x0,x1,hv0⟩:∃x0 x1,q.vs=[x0,x1]:=by
          match hqv:q.vs,g1 with
          | [x0,x1],_=>exact ⟨x0,x1,rfl⟩
         rw [hv0] at hl
         have e0:q.vs.getD 0 0=x0:=by rw [hv0];rfl
         have e1:q.vs.getD 1 0=x1:=by rw [hv0];rfl
         rw [e0] at g2
         rw [e1] at g3
         rw [e0,e1] at HR
         clear e0 e1 hv0 g1
         obtain ⟨HS',hW,hs,_,_,ho⟩:=hl
         obtain ⟨g,cp,rfl⟩:=own_succ ho
         have y0:w2.cell? ⟨g,0,none⟩=some (.int .i64 x0):=by rw [ho.cellAt _ (by simp)];rfl
         have y1:w2.cell? ⟨g,1,none⟩=some (.int .i64 x1):=by rw [ho.cellAt _ (by simp)];rfl
         have hW2:=hW.fewer hs
         clear ho hW hs
         go_wp2_with fail
         go_region_with (go_at_call_of 127 (Value.string op);refine (does_any op x0 x1 _ g2 g3).mono ?_;rintro e w3 ⟨rfl,hw⟩;obtain rfl:=hw.symm)
         all_goals go_wp2
         all_goals go_ret3
         all_goals rw [unhide HR]
         all_goals refine ⟨rfl,?_,?_⟩
         all_goals (first | exact hW2.drewN _ | exact below_dr (hb1.trans hb2) _)
       ·rw [if_pos q3] at hm
        have HM:=hide hm
        clear hm
        go_wp2_with fail
        refine (rtexel_any hX gX true w1 wb HS E σ i live r h1 hi hok (unhide HM)).mono ?_
        clear HM
        rintro e w2 ⟨rfl,h2,hb2⟩
        go_wp2
        go_ret3
        exact ⟨rfl,h2,hb1.trans hb2⟩
      ·rw [if_pos q2] at hm
       have q3:(op.toList==[115,112,121])=false:=by rw [eq_of_beq q2];rfl
       have HM:=hide hm
       clear hm
       go_wp2_with fail
       refine (rtexel_any hX gX false w1 wb HS E σ i live r h1 hi hok (unhide HM)).mono ?_
       clear HM
       rintro e w2 ⟨rfl,h2,hb2⟩
       go_wp2
       go_ret3
       exact ⟨rfl,h2,hb1.trans hb2⟩
     ·rw [if_pos q1] at hm
      split at hm
      case isFalse=>cases hm
      case isTrue hi1=>
      obtain ⟨x,hx,hm2⟩:=Option.bind_eq_some_iff.1 hm
      have gx:=gF _ _ _ _ _ hx
      obtain ⟨hr,_⟩:=chk_eq hm2
      have HR:=hide hr
      clear hm hm2 hr
      have hi2:(i:Int)+1 < 1000:=by omega
      go_wp2_with fail
      refine (rstep_any _ wb E σ live h1 hok.2.1).mono ?_
      rintro e w2 ⟨rfl,h2,hb2⟩
      go_wp2_with fail
      refine (hF w2 wb HS E _ (i+1) live x h2 hi1 (stepS_ok hok) hx).mono ?_
      clear hx
      rintro e w3 ⟨rfl,h3,hb3⟩
      obtain ⟨v0,v1⟩:=gx.2.2
      go_wp2_with fail
      refine (wrap_any (-x.v) w3 (by omega) (by omega)).mono ?_
      rintro e w4 ⟨rfl,hw⟩
      obtain rfl:=hw.symm
      go_wp2
      go_ret3
      rw [unhide HR]
      exact ⟨rfl,h3,(hb1.trans hb2).trans hb3⟩
    ·rw [if_pos q0] at hm
     split at hm
     case isFalse=>cases hm
     case isTrue hi1=>
     obtain ⟨x,hx,hm2⟩:=Option.bind_eq_some_iff.1 hm
     have gx:=gX _ _ _ _ _ hx
     obtain ⟨hr,_⟩:=chk_eq hm2
     have HR:=hide hr
     clear hm hm2 hr
     have hi2:(i:Int)+1 < 1000:=by omega
     go_wp2_with fail
     refine (hX w1 wb HS E σ (i+1) live x h1 hi1 hok hx).mono ?_
     clear hx
     rintro e w2 ⟨rfl,h2,hb2⟩
     go_wp2_with fail
     refine (need_any _ wb E x.σ x.to sPC h2 gx.1).mono ?_
     rintro e w3 ⟨rfl,h3,hb3⟩
     go_wp2
     go_ret3
     rw [unhide HR]
     exact ⟨rfl,h3,(hb1.trans hb2).trans hb3⟩
   ·rw [if_pos hk1] at hm
    obtain ⟨hr,_⟩:=chk_eq hm
    have HR:=hide hr
    clear hm hr
    go_wp2_with fail
    refine (named_any _ wb E σ i live h hi hok.1 hok.2.1).mono ?_
    rintro e w1 ⟨rfl,h1,hb1⟩
    go_wp2
    go_ret3
    rw [unhide HR]
    exact ⟨rfl,h1,hb1⟩
  ·rw [if_pos hk2] at hm
   obtain ⟨hr,_⟩:=chk_eq hm
   have HR:=hide hr
   clear hm hr
   go_wp2_with fail
   refine (named_any _ wb E σ i live h hi hok.1 hok.2.1).mono ?_
   rintro e w1 ⟨rfl,h1,hb1⟩
   go_wp2
   go_ret3
   rw [unhide HR]
   exact ⟨rfl,h1,hb1⟩
 ·rw [if_pos hst] at hm
  obtain ⟨hr,_⟩:=chk_eq hm
  have HR:=hide hr
  clear hm hr
  go_wp2_with fail
  refine (end_any _ wb E _ h).mono ?_
  rintro e w1 ⟨rfl,hw⟩
  obtain rfl:=hw.symm
  go_wp2
  go_ret3
  rw [unhide HR]
  exact ⟨by simp;omega,h,Below.refl _ _⟩
def noM:Env→St→Nat→Bool→Option RAns:=fun _ _ _ _=>none
theorem no_ok (fn:Nat):SubOK fn noM:=by
 intro w wb HS E σ i live r h hi hok hM
 cases hM
theorem no_good:SubGood noM:=by
 intro E σ i live r h
 cases h
def XF:Nat→(Env→St→Nat→Bool→Option RAns)×(Env→St→Nat→Bool→Option RAns)
 | 0=>(noM,noM)
 | n+1=>(exprM (levelM (levelM (factorM (XF n).1 (XF n).2) opsT n) opsS n),factorM (XF n).1 (XF n).2)
theorem XF_ok (n:Nat):(SubOK 100 (XF n).1∧SubGood (XF n).1)∧SubOK 143 (XF n).2∧SubGood (XF n).2:=by
 induction n with
 | zero=>exact ⟨⟨no_ok _,no_good⟩,no_ok _,no_good⟩
 | succ n ih=>
  obtain ⟨⟨hX,gX⟩,hF,gF⟩:=ih
  have f:=factor_any hX gX hF gF
  have g:SubGood (factorM (XF n).1 (XF n).2):=factor_good
  have t:=term_any f g n
  have gt:=level_good g opsT n
  have s:=sum_any t gt n
  have gs:=level_good gt opsS n
  exact ⟨⟨expr_any s gs,expr_good gs⟩,f,g⟩
structure SR where
 to:Nat
 σ:St
abbrev GoodR (E:Env) (r:SR):Prop:=r.to < E.toks.length∧OkS r.σ
def chkR (E:Env) (r:SR):Option SR:=if GoodR E r then some r else none
theorem chkR_eq {E:Env} {r q:SR} (h:chkR E r=some q):q=r∧GoodR E r:=by
 unfold chkR at h
 split at h
 ·cases h;exact ⟨rfl,by assumption⟩
 ·cases h
theorem chkR_good {E:Env} {r q:SR} (h:chkR E r=some q):GoodR E q:=by
 obtain ⟨rfl,g⟩:=chkR_eq h
 exact g
def SOutR (wb:Nat) (HS:List (Nat×Obj)) (E:Env) (w:World) (r:SR) (e:Ending) (w':World):Prop:=e = .returned (.int .i64 (r.to:Int))∧Wk w' wb HS E r.σ∧Below wb w w'
abbrev MX:=Env→St→Nat→Bool→Option RAns
abbrev MS:=Env→St→Nat→Bool→Option SR
def SubS (fn:Nat) (M:MS):Prop:=∀(w:World) (wb:Nat) (HS:List (Nat×Obj)) (E:Env) (σ:St) (i:Nat) (live:Bool) (r:SR),Wk w wb HS E σ→i < E.toks.length→OkS σ→M E σ i live=some r →
 Calls Tryz.prog fn #[.pointer (some ⟨wb,0,none⟩),.int .i64 (i:Int),.bool live] w (SOutR wb HS E w r)
def SubGoodS (M:MS):Prop:=∀E σ i live r,M E σ i live=some r→GoodR E r
def leadS (E:Env) (σ:St) (i:Nat):St:=if E.mode==0 then σ else
 if (E.mode==1)&&decide (0≤usedK E σ i) && !(cellOf (usedS E σ i) (usedK E σ i)).free then wrongS E (usedS E σ i) i 10 else usedS E σ i
def leadK (E:Env) (σ:St) (i:Nat):Int:=if E.mode==0 then -1 else usedK E σ i
def putVR (σ:St) (k:Nat) (v:Int):St:={ σ with cells:=σ.cells.modify k fun c=>{ c with val:=v } }
def hidS (E:Env) (σ:St) (i:Nat) (k:Int):St:=if (cellOf σ k).hid then σ else wrongS E σ i 11
def semiM (E:Env) (σ:St) (to:Nat):Option SR:=chkR E ⟨needI E σ to sSC,needS E σ to sSC⟩
def assignEnd (E:Env) (i:Nat) (s:Bool) (k:Int) (a:RAns):Option SR:=
 if (E.mode==2)&&a.h then
  (if 0≤k∧k < a.σ.cells.length then semiM E (hidS E a.σ i k) a.to else none)
 else if livesB E a.σ s then
  (if 0≤k∧k < a.σ.cells.length then semiM E (putVR a.σ k.toNat a.v) a.to else none)
 else semiM E a.σ a.to
def assignGo (X:MX) (E:Env) (i:Nat) (s:Bool) (k:Int) (σ:St):Option SR:=
 if i+1 < E.toks.length∧needI E σ (i+1) sAR < E.toks.length then (X E (needS E σ (i+1) sAR) (needI E σ (i+1) sAR) s).bind (assignEnd E i s k) else none
def assignM (X:MX):MS:=fun E σ i live=>assignGo X E i (stepB E (leadS E σ i) live) (leadK E σ i) (stepS E (leadS E σ i) live)
def toneGo (v:Int):Nat→Int→Int
 | 0,k=>k
 | n+1,k=>if (2*k+1)*(2*k+1) < 4*255*v then toneGo v n (k+1) else k
def toneR (v:Int):Int:=toneGo (min (max v 0) 255) 300 0
def outS (E:Env) (σ:St) (i:Nat) (h hid:Bool):St:=if (E.mode==2)&&h && !hid then wrongS E σ i 11 else σ
def paintS (E:Env) (σ:St) (hid:Bool) (v:Int):St:=if hid then touchS { σ with hid:=σ.hid.set E.point.toNat (toneR v) } 3 E.point else touchS { σ with opn:=σ.opn.set E.point.toNat (toneR v) } 2 E.point
def putEnd (E:Env) (i:Nat) (s hid:Bool) (a:RAns):Option SR:=
 if livesB E (outS E a.σ i a.h hid) s then
  (if 0≤E.point∧E.point < a.σ.opn.length∧E.point < a.σ.hid.length∧E.point < 1000 then semiM E (paintS E (outS E a.σ i a.h hid) hid a.v) a.to else none)
 else semiM E (outS E a.σ i a.h hid) a.to
def putM (X:MX) (hid:Bool):MS:=fun E σ i live=>
 if i+1 < E.toks.length then (X E (stepS E σ live) (i+1) (stepB E σ live)).bind fun a=>putEnd E i (stepB E σ live) hid a else none
def choiceEnd (B:MS) (E:Env) (s:Bool) (a:RAns) (r:SR):Option SR:=
 if isB E r.σ r.to sELSE then (if r.to+1 < E.toks.length then B E r.σ (r.to+1) (s&&(a.v==0)) else none) else some r
def choiceM (X:MX) (B:MS):MS:=fun E σ i live=>
 if i+1 < E.toks.length then
  (X E (stepS E σ live) (i+1) (stepB E σ live)).bind fun a=>
   (B E (flowS E a.σ i a.h) a.to (stepB E σ live&&(a.v != 0))).bind fun r=>choiceEnd B E (stepB E σ live) a r
 else none
def roundsM (B:MS) (E:Env) (at_:Nat) (last:Int):Nat→Int→SR→Option SR
 | 0,n,r=>if n≤last then none else some r
 | f+1,n,r=>if n≤last then
   (let u:=stepB E r.σ true
    let σ1:=stepS E r.σ true
    if 0 < σ1.cells.length then
     (B E (if u then putVR σ1 (σ1.cells.length-1) n else σ1) at_ u).bind fun q=>roundsM B E at_ last f (n+1) q
    else none) else some r
def dropS (E:Env) (σ:St):St:=if E.mode==0 then σ else { σ with cells:=σ.cells.dropLast }
def loopBody (B:MS) (E:Env) (s:Bool) (at_ first last:Nat) (σ:St):Option SR:=
 if s then (if 0≤(tokAt E first).num∧(tokAt E first).num≤100000∧0≤(tokAt E last).num∧(tokAt E last).num≤100000 then roundsM B E at_ (tokAt E last).num 30 (tokAt E first).num ⟨at_,σ⟩ else none)
 else B E σ at_ false
def loopEnd (E:Env) (r:SR):Option SR:=if (E.mode==0)||decide (0 < r.σ.cells.length) then some ⟨r.to,dropS E r.σ⟩ else none
def loopNum (E:Env) (σ:St) (first last:Nat):St:=if (E.mode==1)&&(decide ((tokAt E last).num < (tokAt E first).num)||decide (20 < (tokAt E last).num)) then wrongS E σ first 10 else σ
def loopTo (B:MS) (E:Env) (s:Bool) (i first last at_:Nat) (σ:St):Option SR:=
 if stopB E σ then chkR E ⟨E.toks.length-1,σ⟩ else
 if at_ < E.toks.length∧OkS (declS E σ (i+1) false false) then (loopBody B E s at_ first last (loopNum E (declS E σ (i+1) false false) first last)).bind (loopEnd E) else none
def loop3 (B:MS) (E:Env) (s:Bool) (i first a2:Nat) (σ:St):Option SR:=
 if a2 < E.toks.length∧needI E σ a2 sDT < E.toks.length then loopTo B E s i first (needI E σ a2 sDT) (ofI E (needS E σ a2 sDT) (needI E σ a2 sDT) 2) (ofS E (needS E σ a2 sDT) (needI E σ a2 sDT) 2) else none
def loop2 (B:MS) (E:Env) (s:Bool) (i first:Nat) (σ:St):Option SR:=
 if first < E.toks.length then loop3 B E s i first (ofI E σ first 2) (ofS E σ first 2) else none
def loopM (B:MS):MS:=fun E σ i live=>
 if i+1 < E.toks.length then loop2 B E (stepB E σ live) i (ofI E (stepS E σ live) (i+1) 1) (ofS E (stepS E σ live) (i+1) 1) else none
def statementM (X:MX) (B:MS):MS:=fun E σ i live=>
 if stopB E σ then chkR E ⟨E.toks.length-1,σ⟩ else
 if (tokAt E i).kind==1 then assignM X E σ i live else
 if isB E σ i sIF then choiceM X B E σ i live else
 if isB E σ i sFOR then loopM B E σ i live else
 if isB E σ i sOUT||isB E σ i sHIDE then putM X (isB E σ i sHIDE) E σ i live else
 chkR E ⟨E.toks.length-1,wrongS E σ i 9⟩
def blockGo (S:MS) (E:Env) (live:Bool):Nat→SR→Option SR
 | 0,_=>none
 | f+1,r=>if isB E r.σ r.to sCC||stopB E r.σ then chkR E ⟨needI E r.σ r.to sCC,needS E r.σ r.to sCC⟩ else (S E r.σ r.to live).bind (blockGo S E live f)
def blockM (S:MS) (f:Nat):MS:=fun E σ i live=>if needI E σ i sCO < E.toks.length then blockGo S E live f ⟨needI E σ i sCO,needS E σ i sCO⟩ else none
def declGo (E:Env) (hd:Bool):Nat→SR→Option SR
 | 0,_=>none
 | f+1,r=>if stopB E (ofS E r.σ r.to 1) then chkR E ⟨E.toks.length-1,ofS E r.σ r.to 1⟩ else
   if ofI E r.σ r.to 1 < E.toks.length∧OkS (declS E (ofS E r.σ r.to 1) r.to hd true) then
    (if isB E (declS E (ofS E r.σ r.to 1) r.to hd true) (ofI E r.σ r.to 1) sCM then
     (if ofI E r.σ r.to 1+1 < E.toks.length then declGo E hd f ⟨ofI E r.σ r.to 1+1,declS E (ofS E r.σ r.to 1) r.to hd true⟩ else none)
     else chkR E ⟨needI E (declS E (ofS E r.σ r.to 1) r.to hd true) (ofI E r.σ r.to 1) sSC,needS E (declS E (ofS E r.σ r.to 1) r.to hd true) (ofI E r.σ r.to 1) sSC⟩)
   else none
theorem choice_good {X:MX} {B:MS} (gB:SubGoodS B):SubGoodS (choiceM X B):=by
 intro E σ i live r h
 unfold choiceM at h
 split at h
 case isFalse=>cases h
 obtain ⟨a,_,h⟩:=Option.bind_eq_some_iff.1 h
 obtain ⟨q,hq,h⟩:=Option.bind_eq_some_iff.1 h
 unfold choiceEnd at h
 split at h
 ·split at h
  ·exact gB _ _ _ _ _ h
  ·cases h
 ·cases h;exact gB _ _ _ _ _ hq
set_option maxHeartbeats 4000000 in
theorem choice_any {X:MX} {B:MS} (hX:SubOK 100 X) (gX:SubGood X) (hB:SubS 102 B) (gB:SubGoodS B):SubS 74 (choiceM X B):=by
 intro w wb HS E σ i live r h hi hok hM
 have tf:=h.some.2
 unfold choiceM at hM
 split at hM
 case isFalse=>cases hM
 rename_i hi1
 obtain ⟨a,hXa,hM⟩:=Option.bind_eq_some_iff.1 hM
 obtain ⟨q,hBq,hM⟩:=Option.bind_eq_some_iff.1 hM
 have ga:=gX _ _ _ _ _ hXa
 have gq:=gB _ _ _ _ _ hBq
 have HM:=hide hM
 clear hM
 have hii:(i:Int)+1 < 1000:=by omega
 obtain ⟨s,HS1⟩:∃s,Hid (stepB E σ live=s):=⟨_,rfl⟩
 rw [unhide HS1] at hXa hBq HM
 go_enter Tryz.func74,Tryz.ntmps74
 go_wp2_with fail
 refine (rstep_any _ wb E σ live h hok.2.1).mono ?_
 clear h
 rintro e w1 ⟨rfl,h1,hb1⟩
 rw [unhide HS1]
 clear HS1
 go_wp2_with fail
 refine (hX w1 wb HS E _ (i+1) s a h1 hi1 (stepS_ok hok) hXa).mono ?_
 clear h1 hXa hX gX
 rintro e w2 ⟨rfl,h2,hb2⟩
 obtain ⟨bv,HBV⟩:∃bv,Hid ((s&&(a.v != 0))=bv):=⟨_,rfl⟩
 obtain ⟨bz,HBZ⟩:∃bz,Hid ((s&&(a.v==0))=bz):=⟨_,rfl⟩
 rw [unhide HBV] at hBq
 have hm2:=unhide HM
 clear HM
 unfold choiceEnd at hm2
 rw [unhide HBZ] at hm2
 have hc:=h2
 obtain ⟨tv,lv,so,sd,ov,hv,rv,hc⟩:=hc
 have c1:=hc.cell 1
 simp at c1
 clear hc
 have HB:=hide (hb1.trans hb2)
 clear hb1 hb2
 cases hm:(E.mode==2)
 ·have e5:flowS E a.σ i a.h=a.σ:=by simp [flowS,hm]
  rw [e5] at hBq
  clear e5
  cases s
  ·have e1:bv=false:=by rw [←unhide HBV];simp
   have e2:bz=false:=by rw [←unhide HBZ];simp
   subst e1
   subst e2
   clear HBV HBZ
   go_wp2_with fail
   refine (hB w2 wb HS E _ a.to false q h2 ga.1 ga.2.1 hBq).mono ?_
   clear h2 hBq
   rintro e w5 ⟨rfl,h5,hb5⟩
   go_wp2_with fail
   refine (is_any _ wb E q.σ q.to sELSE h5 gq.1).mono ?_
   rintro e w6 ⟨rfl,hw⟩
   obtain rfl:=hw.symm
   cases hel:isB E q.σ q.to sELSE
   ·rw [if_neg (by rw [hel];simp)] at hm2
    have HM:=hide (Option.some.inj hm2)
    clear hm2
    go_wp2
    go_ret
    rw [←unhide HM]
    exact ⟨rfl,h5,(unhide HB).trans hb5⟩
   ·rw [if_pos hel] at hm2
    split at hm2
    case isFalse=>cases hm2
    rename_i hto
    have hto2:(q.to:Int)+1 < 1000:=by omega
    go_wp2_with fail
    refine (hB w5 wb HS E _ (q.to+1) false r h5 hto gq.2 hm2).mono ?_
    rintro e w7 ⟨rfl,h7,hb7⟩
    have HB2:=hide (((unhide HB).trans hb5).trans hb7)
    clear hm2 hb5 hb7
    go_wp2
    go_ret
    exact ⟨rfl,h7,unhide HB2⟩
  ·cases hz:(a.v==0)
   ·have e1:bv=true:=by rw [←unhide HBV];simp [bne,hz]
    have e2:bz=false:=by rw [←unhide HBZ];simp [hz]
    subst e1
    subst e2
    clear HBV HBZ
    go_wp2_with fail
    have hne:(a.v != 0)=true:=by simp [bne,hz]
    rw [hne]
    clear hne
    refine (hB w2 wb HS E _ a.to true q h2 ga.1 ga.2.1 hBq).mono ?_
    clear h2 hBq
    rintro e w5 ⟨rfl,h5,hb5⟩
    go_wp2_with fail
    refine (is_any _ wb E q.σ q.to sELSE h5 gq.1).mono ?_
    rintro e w6 ⟨rfl,hw⟩
    obtain rfl:=hw.symm
    cases hel:isB E q.σ q.to sELSE
    ·rw [if_neg (by rw [hel];simp)] at hm2
     have HM:=hide (Option.some.inj hm2)
     clear hm2
     go_wp2
     go_ret
     rw [←unhide HM]
     exact ⟨rfl,h5,(unhide HB).trans hb5⟩
    ·rw [if_pos hel] at hm2
     split at hm2
     case isFalse=>cases hm2
     rename_i hto
     have hto2:(q.to:Int)+1 < 1000:=by omega
     go_wp2_with fail
     try rw [hz]
     refine (hB w5 wb HS E _ (q.to+1) false r h5 hto gq.2 hm2).mono ?_
     rintro e w7 ⟨rfl,h7,hb7⟩
     have HB2:=hide (((unhide HB).trans hb5).trans hb7)
     clear hm2 hb5 hb7
     go_wp2
     go_ret
     exact ⟨rfl,h7,unhide HB2⟩
   ·have e1:bv=false:=by rw [←unhide HBV];simp [bne,hz]
    have e2:bz=true:=by rw [←unhide HBZ];simp [hz]
    subst e1
    subst e2
    clear HBV HBZ
    go_wp2_with fail
    have hne:(a.v != 0)=false:=by simp [bne,hz]
    rw [hne]
    clear hne
    refine (hB w2 wb HS E _ a.to false q h2 ga.1 ga.2.1 hBq).mono ?_
    clear h2 hBq
    rintro e w5 ⟨rfl,h5,hb5⟩
    go_wp2_with fail
    refine (is_any _ wb E q.σ q.to sELSE h5 gq.1).mono ?_
    rintro e w6 ⟨rfl,hw⟩
    obtain rfl:=hw.symm
    cases hel:isB E q.σ q.to sELSE
    ·rw [if_neg (by rw [hel];simp)] at hm2
     have HM:=hide (Option.some.inj hm2)
     clear hm2
     go_wp2
     go_ret
     rw [←unhide HM]
     exact ⟨rfl,h5,(unhide HB).trans hb5⟩
    ·rw [if_pos hel] at hm2
     split at hm2
     case isFalse=>cases hm2
     rename_i hto
     have hto2:(q.to:Int)+1 < 1000:=by omega
     go_wp2_with fail
     try rw [hz]
     refine (hB w5 wb HS E _ (q.to+1) true r h5 hto gq.2 hm2).mono ?_
     rintro e w7 ⟨rfl,h7,hb7⟩
     have HB2:=hide (((unhide HB).trans hb5).trans hb7)
     clear hm2 hb5 hb7
     go_wp2
     go_ret
     exact ⟨rfl,h7,unhide HB2⟩
 ·cases hah:a.h
  ·have e5:flowS E a.σ i a.h=a.σ:=by simp [flowS,hah]
   rw [e5] at hBq
   clear e5
   cases s
   ·have e1:bv=false:=by rw [←unhide HBV];simp
    have e2:bz=false:=by rw [←unhide HBZ];simp
    subst e1
    subst e2
    clear HBV HBZ
    go_wp2_with fail
    refine (hB w2 wb HS E _ a.to false q h2 ga.1 ga.2.1 hBq).mono ?_
    clear h2 hBq
    rintro e w5 ⟨rfl,h5,hb5⟩
    go_wp2_with fail
    refine (is_any _ wb E q.σ q.to sELSE h5 gq.1).mono ?_
    rintro e w6 ⟨rfl,hw⟩
    obtain rfl:=hw.symm
    cases hel:isB E q.σ q.to sELSE
    ·rw [if_neg (by rw [hel];simp)] at hm2
     have HM:=hide (Option.some.inj hm2)
     clear hm2
     go_wp2
     go_ret
     rw [←unhide HM]
     exact ⟨rfl,h5,(unhide HB).trans hb5⟩
    ·rw [if_pos hel] at hm2
     split at hm2
     case isFalse=>cases hm2
     rename_i hto
     have hto2:(q.to:Int)+1 < 1000:=by omega
     go_wp2_with fail
     refine (hB w5 wb HS E _ (q.to+1) false r h5 hto gq.2 hm2).mono ?_
     rintro e w7 ⟨rfl,h7,hb7⟩
     have HB2:=hide (((unhide HB).trans hb5).trans hb7)
     clear hm2 hb5 hb7
     go_wp2
     go_ret
     exact ⟨rfl,h7,unhide HB2⟩
   ·cases hz:(a.v==0)
    ·have e1:bv=true:=by rw [←unhide HBV];simp [bne,hz]
     have e2:bz=false:=by rw [←unhide HBZ];simp [hz]
     subst e1
     subst e2
     clear HBV HBZ
     go_wp2_with fail
     have hne:(a.v != 0)=true:=by simp [bne,hz]
     rw [hne]
     clear hne
     refine (hB w2 wb HS E _ a.to true q h2 ga.1 ga.2.1 hBq).mono ?_
     clear h2 hBq
     rintro e w5 ⟨rfl,h5,hb5⟩
     go_wp2_with fail
     refine (is_any _ wb E q.σ q.to sELSE h5 gq.1).mono ?_
     rintro e w6 ⟨rfl,hw⟩
     obtain rfl:=hw.symm
     cases hel:isB E q.σ q.to sELSE
     ·rw [if_neg (by rw [hel];simp)] at hm2
      have HM:=hide (Option.some.inj hm2)
      clear hm2
      go_wp2
      go_ret
      rw [←unhide HM]
      exact ⟨rfl,h5,(unhide HB).trans hb5⟩
     ·rw [if_pos hel] at hm2
      split at hm2
      case isFalse=>cases hm2
      rename_i hto
      have hto2:(q.to:Int)+1 < 1000:=by omega
      go_wp2_with fail
      try rw [hz]
      refine (hB w5 wb HS E _ (q.to+1) false r h5 hto gq.2 hm2).mono ?_
      rintro e w7 ⟨rfl,h7,hb7⟩
      have HB2:=hide (((unhide HB).trans hb5).trans hb7)
      clear hm2 hb5 hb7
      go_wp2
      go_ret
      exact ⟨rfl,h7,unhide HB2⟩
    ·have e1:bv=false:=by rw [←unhide HBV];simp [bne,hz]
     have e2:bz=true:=by rw [←unhide HBZ];simp [hz]
     subst e1
     subst e2
     clear HBV HBZ
     go_wp2_with fail
     have hne:(a.v != 0)=false:=by simp [bne,hz]
     rw [hne]
     clear hne
     refine (hB w2 wb HS E _ a.to false q h2 ga.1 ga.2.1 hBq).mono ?_
     clear h2 hBq
     rintro e w5 ⟨rfl,h5,hb5⟩
     go_wp2_with fail
     refine (is_any _ wb E q.σ q.to sELSE h5 gq.1).mono ?_
     rintro e w6 ⟨rfl,hw⟩
     obtain rfl:=hw.symm
     cases hel:isB E q.σ q.to sELSE
     ·rw [if_neg (by rw [hel];simp)] at hm2
      have HM:=hide (Option.some.inj hm2)
      clear hm2
      go_wp2
      go_ret
      rw [←unhide HM]
      exact ⟨rfl,h5,(unhide HB).trans hb5⟩
     ·rw [if_pos hel] at hm2
      split at hm2
      case isFalse=>cases hm2
      rename_i hto
      have hto2:(q.to:Int)+1 < 1000:=by omega
      go_wp2_with fail
      try rw [hz]
      refine (hB w5 wb HS E _ (q.to+1) true r h5 hto gq.2 hm2).mono ?_
      rintro e w7 ⟨rfl,h7,hb7⟩
      have HB2:=hide (((unhide HB).trans hb5).trans hb7)
      clear hm2 hb5 hb7
      go_wp2
      go_ret
      exact ⟨rfl,h7,unhide HB2⟩
  ·have e5:flowS E a.σ i a.h=wrongS E a.σ i 11:=by simp [flowS,hah,hm]
   rw [e5] at hBq
   clear e5
   go_wp2_with fail
   refine (wrong_any _ wb E a.σ i 11 h2 hi).mono ?_
   rintro e w3 ⟨rfl,h3,hb3⟩
   have HB3:=hide ((unhide HB).trans hb3)
   clear HB
   have HB:=HB3
   clear HB3 hb3 h2
   cases s
   ·have e1:bv=false:=by rw [←unhide HBV];simp
    have e2:bz=false:=by rw [←unhide HBZ];simp
    subst e1
    subst e2
    clear HBV HBZ
    go_wp2_with fail
    refine (hB w3 wb HS E _ a.to false q h3 ga.1 (wrongS_ok ga.2.1) hBq).mono ?_
    clear h3 hBq
    rintro e w5 ⟨rfl,h5,hb5⟩
    go_wp2_with fail
    refine (is_any _ wb E q.σ q.to sELSE h5 gq.1).mono ?_
    rintro e w6 ⟨rfl,hw⟩
    obtain rfl:=hw.symm
    cases hel:isB E q.σ q.to sELSE
    ·rw [if_neg (by rw [hel];simp)] at hm2
     have HM:=hide (Option.some.inj hm2)
     clear hm2
     go_wp2
     go_ret
     rw [←unhide HM]
     exact ⟨rfl,h5,(unhide HB).trans hb5⟩
    ·rw [if_pos hel] at hm2
     split at hm2
     case isFalse=>cases hm2
     rename_i hto
     have hto2:(q.to:Int)+1 < 1000:=by omega
     go_wp2_with fail
     refine (hB w5 wb HS E _ (q.to+1) false r h5 hto gq.2 hm2).mono ?_
     rintro e w7 ⟨rfl,h7,hb7⟩
     have HB2:=hide (((unhide HB).trans hb5).trans hb7)
     clear hm2 hb5 hb7
     go_wp2
     go_ret
     exact ⟨rfl,h7,unhide HB2⟩
   ·cases hz:(a.v==0)
    ·have e1:bv=true:=by rw [←unhide HBV];simp [bne,hz]
     have e2:bz=false:=by rw [←unhide HBZ];simp [hz]
     subst e1
     subst e2
     clear HBV HBZ
     go_wp2_with fail
     have hne:(a.v != 0)=true:=by simp [bne,hz]
     rw [hne]
     clear hne
     refine (hB w3 wb HS E _ a.to true q h3 ga.1 (wrongS_ok ga.2.1) hBq).mono ?_
     clear h3 hBq
     rintro e w5 ⟨rfl,h5,hb5⟩
     go_wp2_with fail
     refine (is_any _ wb E q.σ q.to sELSE h5 gq.1).mono ?_
     rintro e w6 ⟨rfl,hw⟩
     obtain rfl:=hw.symm
     cases hel:isB E q.σ q.to sELSE
     ·rw [if_neg (by rw [hel];simp)] at hm2
      have HM:=hide (Option.some.inj hm2)
      clear hm2
      go_wp2
      go_ret
      rw [←unhide HM]
      exact ⟨rfl,h5,(unhide HB).trans hb5⟩
     ·rw [if_pos hel] at hm2
      split at hm2
      case isFalse=>cases hm2
      rename_i hto
      have hto2:(q.to:Int)+1 < 1000:=by omega
      go_wp2_with fail
      try rw [hz]
      refine (hB w5 wb HS E _ (q.to+1) false r h5 hto gq.2 hm2).mono ?_
      rintro e w7 ⟨rfl,h7,hb7⟩
      have HB2:=hide (((unhide HB).trans hb5).trans hb7)
      clear hm2 hb5 hb7
      go_wp2
      go_ret
      exact ⟨rfl,h7,unhide HB2⟩
    ·have e1:bv=false:=by rw [←unhide HBV];simp [bne,hz]
     have e2:bz=true:=by rw [←unhide HBZ];simp [hz]
     subst e1
     subst e2
     clear HBV HBZ
     go_wp2_with fail
     have hne:(a.v != 0)=false:=by simp [bne,hz]
     rw [hne]
     clear hne
     refine (hB w3 wb HS E _ a.to false q h3 ga.1 (wrongS_ok ga.2.1) hBq).mono ?_
     clear h3 hBq
     rintro e w5 ⟨rfl,h5,hb5⟩
     go_wp2_with fail
     refine (is_any _ wb E q.σ q.to sELSE h5 gq.1).mono ?_
     rintro e w6 ⟨rfl,hw⟩
     obtain rfl:=hw.symm
     cases hel:isB E q.σ q.to sELSE
     ·rw [if_neg (by rw [hel];simp)] at hm2
      have HM:=hide (Option.some.inj hm2)
      clear hm2
      go_wp2
      go_ret
      rw [←unhide HM]
      exact ⟨rfl,h5,(unhide HB).trans hb5⟩
     ·rw [if_pos hel] at hm2
      split at hm2
      case isFalse=>cases hm2
      rename_i hto
      have hto2:(q.to:Int)+1 < 1000:=by omega
      go_wp2_with fail
      try rw [hz]
      refine (hB w5 wb HS E _ (q.to+1) true r h5 hto gq.2 hm2).mono ?_
      rintro e w7 ⟨rfl,h7,hb7⟩
      have HB2:=hide (((unhide HB).trans hb5).trans hb7)
      clear hm2 hb5 hb7
      go_wp2
      go_ret
      exact ⟨rfl,h7,unhide HB2⟩
theorem blockGo_good {S:MS} (E:Env) (live:Bool) (f:Nat):∀q r,blockGo S E live f q=some r→GoodR E r:=by
 induction f with
 | zero=>intro q r h;simp [blockGo] at h
 | succ f ih=>
  intro q r h
  rw [blockGo] at h
  split at h
  ·exact chkR_good h
  ·obtain ⟨x,_,h⟩:=Option.bind_eq_some_iff.1 h
   exact ih _ _ h
theorem block_good {S:MS} (f:Nat):SubGoodS (blockM S f):=by
 intro E σ i live r h
 unfold blockM at h
 split at h
 ·exact blockGo_good _ _ _ _ _ h
 ·cases h
set_option maxHeartbeats 4000000 in
theorem block_any {S:MS} (hS:SubS 47 S) (gS:SubGoodS S) (f:Nat):SubS 102 (blockM S f):=by
 intro w wb HS E σ i live r h hi hok hM
 have tf:=h.some.2
 have hii:(i:Int) < (E.toks.length:Int):=by omega
 unfold blockM at hM
 split at hM
 case isFalse=>cases hM
 rename_i hi1
 have HM:=hide hM
 clear hM
 go_enter Tryz.func102,Tryz.ntmps102
 go_wp2_with fail
 refine (need_any _ wb E σ i sCO h hi).mono ?_
 clear h
 rintro e w1 ⟨rfl,h1,hb1⟩
 go_wp2
 go_loopg [1] f (fun k si wr=>∃q:SR,si = .int .i64 (q.to:Int)∧Wk wr wb HS E q.σ∧Below wb w wr∧GoodR E q∧blockGo S E live k q=some r)
 case atStart=>exact ⟨⟨needI E σ i sCO,needS E σ i sCO⟩,rfl,h1,hb1,⟨hi1,needS_ok hok⟩,unhide HM⟩
 case round=>
  clear HM h1 hb1
  obtain ⟨q,rfl,hq,hbq,gq,hch⟩:=hrel
  cases gk with
  | zero=>exact absurd hch (by simp [blockGo])
  | succ gk=>
   rw [blockGo] at hch
   have HCH:=hide hch
   clear hch
   go_wp2_with fail
   refine (is_any _ wb E q.σ q.to sCC hq gq.1).mono ?_
   rintro e w2 ⟨rfl,hw⟩
   obtain rfl:=hw.symm
   go_wp2_with fail
   refine (stopped_any _ wb E q.σ hq).mono ?_
   rintro e w3 ⟨rfl,hw⟩
   obtain rfl:=hw.symm
   have hch:=unhide HCH
   clear HCH
   cases he:isB E q.σ q.to sCC
   ·cases hst:stopB E q.σ
    ·rw [if_neg (by rw [he,hst];simp)] at hch
     obtain ⟨x,hx,hch⟩:=Option.bind_eq_some_iff.1 hch
     have gx:=gS _ _ _ _ _ hx
     have HCH:=hide hch
     clear hch
     go_wp2_with fail
     refine (hS wr wb HS E _ q.to live x hq gq.1 gq.2 hx).mono ?_
     rintro e w4 ⟨rfl,h4,hb4⟩
     have HB:=hide (hbq.trans hb4)
     clear hx hq hbq hb4 gq he hst
     go_wp2
     go_roundg gk
     case measure=>omega
     case rel=>exact ⟨x,rfl,h4,unhide HB,gx,unhide HCH⟩
    ·rw [if_pos (by rw [he,hst];simp)] at hch
     obtain ⟨hr,_⟩:=chkR_eq hch
     have HR:=hide hr
     clear hr hch
     go_wp2_with fail
     refine (need_any _ wb E q.σ q.to sCC hq gq.1).mono ?_
     rintro e w4 ⟨rfl,h4,hb4⟩
     go_wp2
     go_ret
     rw [unhide HR]
     exact ⟨rfl,h4,hbq.trans hb4⟩
   ·rw [if_pos (by rw [he];simp)] at hch
    obtain ⟨hr,_⟩:=chkR_eq hch
    have HR:=hide hr
    clear hr hch
    go_wp2_with fail
    refine (need_any _ wb E q.σ q.to sCC hq gq.1).mono ?_
    rintro e w4 ⟨rfl,h4,hb4⟩
    go_wp2
    go_ret
    rw [unhide HR]
    exact ⟨rfl,h4,hbq.trans hb4⟩
end Go.Proofs.YthmmgiaobakilaaGreat
