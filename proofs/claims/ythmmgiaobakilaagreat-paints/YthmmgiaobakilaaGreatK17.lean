import Derived.Test.YthmmgiaobakilaaGreatK01
import Derived.Test.YthmmgiaobakilaaGreatK12
import Derived.Test.YthmmgiaobakilaaGreatK15
import Derived.Test.YthmmgiaobakilaaGreatK16
import Derived.Deep.RegionHeld3
set_option maxRecDepth 100000
namespace Go.Proofs.YthmmgiaobakilaaGreat
open Go.RowKit Go.Deep
def hereP (D:PD) (S:PSt):Int:=S.cy*D.sw+S.cx
def putP (D:PD) (S:PSt) (out:Bool) (v:Int):PSt:=
 if out then { touchP S 2 (hereP D S) with opn:=S.opn.set (hereP D S).toNat (toneV v) } else { touchP S 3 (hereP D S) with hid:=S.hid.set (hereP D S).toNat (toneV v) }
structure POk (D:PD) (S:PSt):Prop where
 vals:OkV S
 s0:0≤S.steps
 t0:0≤S.touched
 t1:S.touched≤S.steps
 lo:(S.opn.length:Int)=D.sw*D.sh
 lh:(S.hid.length:Int)=D.sw*D.sh
 x0:0≤S.cx
 x1:S.cx≤D.sw-1
 y0:0≤S.cy
 y1:S.cy≤D.sh-1
theorem here_in {D:PD} {S:PSt} (hD:D.Ok) (h:POk D S):0≤hereP D S∧hereP D S < D.sw*D.sh:=by
 have a1:=h.x0;have a2:=h.x1;have b1:=h.y0;have b2:=h.y1
 have hw:=hD.w1
 have m1:0≤S.cy*D.sw:=Int.mul_nonneg b1 (by omega)
 have m2:S.cy*D.sw≤(D.sh-1)*D.sw:=Int.mul_le_mul_of_nonneg_right b2 (by omega)
 have m3:(D.sh-1)*D.sw=D.sw*D.sh-D.sw:=by rw [Int.sub_mul,Int.mul_comm,Int.one_mul]
 unfold hereP
 omega
def PSOut (w:World) (D:PD) (n:Nat) (rv:Value) (S':PSt) (e:Ending) (w':World):Prop:=e = .returned (.tuple #[])∧∃rv',PtAt w' D S' n rv'∧PStep D rv w w' rv'
theorem pic_set (l:List Int) (i:Nat) (v:Int):((l.map (Value.int .i64)).toArray.setIfInBounds i (.int .i64 v))=((l.set i v).map (Value.int .i64)).toArray:=by
 rw [List.setIfInBounds_toArray,List.map_set]
section
variable {w:World} {D:PD} {S:PSt} {n:Nat} {rv:Value}
theorem PtAt.paintO (h:PtAt w D S n rv) (i:Nat) (v:Int):PtAt (w.setCell ⟨D.ob,i,none⟩ (.int .i64 v)) D { S with opn:=S.opn.set i v } n rv:=by
 obtain ⟨n1,n2,n3,n4,n5,n6⟩:=h.ne
 have oth:∀k,k≠D.ob→(w.setCell ⟨D.ob,i,none⟩ (.int .i64 v)).heap[k]?=w.heap[k]?:=fun k hk=>Below.heap_setCell _ _ _ _ hk
 have hB:=fun k=>h.base k
 refine ⟨(oth _ n2).trans ?_,h.map.later (oth _ n4),?_,(oth _ (Ne.symm n6)).trans h.rowH,own_sameP h.rowR (fun k e=>oth k (fun e2=>h.away k e (.inr (.inr (.inl e2))))),h.ne,h.base,h.away,h.tex1.sameP (fun k hk=>oth k (by have:=hB D.ob (.inr (.inr (.inl rfl)));omega)),h.tex2.sameP (fun k hk=>oth k (by have:=hB D.ob (.inr (.inr (.inl rfl)));omega))⟩
 ·rw [h.blk];unfold ptO;simp
 ·have:=heap_setCell_same w D.ob i _ _ (.int .i64 v) h.rowO
  rw [this]
  unfold picO
  rw [pic_set]
theorem PtAt.paintH (h:PtAt w D S n rv) (i:Nat) (v:Int):PtAt (w.setCell ⟨D.hb,i,none⟩ (.int .i64 v)) D { S with hid:=S.hid.set i v } n rv:=by
 obtain ⟨n1,n2,n3,n4,n5,n6⟩:=h.ne
 have oth:∀k,k≠D.hb→(w.setCell ⟨D.hb,i,none⟩ (.int .i64 v)).heap[k]?=w.heap[k]?:=fun k hk=>Below.heap_setCell _ _ _ _ hk
 have hB:=fun k=>h.base k
 refine ⟨(oth _ n3).trans ?_,h.map.later (oth _ n5),(oth _ n6).trans h.rowO,?_,own_sameP h.rowR (fun k e=>oth k (fun e2=>h.away k e (.inr (.inr (.inr e2))))),h.ne,h.base,h.away,h.tex1.sameP (fun k hk=>oth k (by have:=hB D.hb (.inr (.inr (.inr rfl)));omega)),h.tex2.sameP (fun k hk=>oth k (by have:=hB D.hb (.inr (.inr (.inr rfl)));omega))⟩
 ·rw [h.blk];unfold ptO;simp
 ·have:=heap_setCell_same w D.hb i _ _ (.int .i64 v) h.rowH
  rw [this]
  unfold picO
  rw [pic_set]
theorem pic_cell {b:Nat} {l:List Int} (h:w.heap[b]?=some (picO l)) {i:Nat} (hi:i < l.length):w.cell? ⟨b,i,none⟩=some (.int .i64 (l.getD i 0))∧w.frozen? ⟨b,i,none⟩=false:=by
 unfold picO at h
 constructor
 ·simp only [World.cell?,h]
  simp [List.getElem?_eq_getElem hi,List.getD]
 ·simp [World.frozen?,h]
end
theorem ev1_some (D:PD) {w:World} {Q:Nat→Prop} {v:Value} {e:Ex} (h:RepV w Q v e) (S:PSt):∃m,1≤m∧m≤szE e∧EvS S (ev1 D e S).2 m:=by
 obtain ⟨b,o,t,k,r,sv,rfl,_,_⟩:=h
 exact ⟨szE k+1,by omega,by simp [szE],ev1_ev D S⟩
theorem POk.ev {D:PD} {S S':PSt} {m:Nat} (h:POk D S) (e:EvS S S' m):POk D S':=by
 have a:=e.steps;have b:=e.t1;have c:=e.t2;have d:=h.s0;have f:=h.t0;have g:=h.t1
 exact ⟨h.vals.ev e,by omega,by omega,by omega,by rw [e.opn];exact h.lo,by rw [e.hid];exact h.lh,by rw [e.cx];exact h.x0,by rw [e.cx];exact h.x1,by rw [e.cy];exact h.y0,by rw [e.cy];exact h.y1⟩
theorem touch_left {w:World} {D:PD} {S:PSt} {n:Nat} {rv:Value} {a b:Int} (h:PtAt w D (touchP S a b) n rv):w.cell? ⟨D.pb,5,none⟩=some (.int .i64 S.cx)∧w.cell? ⟨D.pb,6,none⟩=some (.int .i64 S.cy)∧w.cell? ⟨D.pb,8,none⟩=some (.slice (some ⟨D.ob,0,none⟩) S.opn.length S.opn.length)∧w.cell? ⟨D.pb,9,none⟩=some (.slice (some ⟨D.hb,0,none⟩) S.hid.length S.hid.length)∧w.heap[D.ob]?=some (picO S.opn)∧w.heap[D.hb]?=some (picO S.hid):=by
 obtain ⟨_,_,_,e4,e5,e6,e7⟩:=touchP_steps S a b
 have hb:=h.blk
 unfold ptO at hb
 obtain ⟨⟨_,_,_,_,_,x5,x6,_,x8,x9,_⟩,_⟩:=bk13 hb
 rw [e6] at x5
 rw [e7] at x6
 rw [e4] at x8
 rw [e5] at x9
 have o:=h.rowO
 have g:=h.rowH
 rw [e4] at o
 rw [e5] at g
 exact ⟨x5,x6,x8,x9,o,g⟩
set_option maxHeartbeats 8000000 in
theorem put_anyP (w:World) (D:PD) (S:PSt) (n:Nat) (rv:Value) (Q:Nat→Prop) (t x:Tok) (so:Option Addr) (sl sc:Nat) (e:Ex) (hD:D.Ok) (h:PtAt w D S n rv) (hv:RepV w Q (exV x (.slice so sl sc)) e) (hw:WfV e) (hQ:∀k,Q k→k < D.B) (ho:POk D S) (hs:S.steps+szE e≤900000) (hsz:szE e≤100000) :
  Calls Tryz.prog 66 #[.pointer (some ⟨D.pb,0,none⟩),.agg #[.int .i64 (kP t),.int .i64 t.place,.string (wP t),.int .i32 (nP t),.int .i32 (sP t),.int .i64 (kP x),.int .i64 x.place,.string (wP x),.int .i32 (nP x),.int .i32 (sP x),.slice so sl sc]] w (PSOut w D n rv (putP D (ev1 D e S).2 (decide (wP t=sOUT)) (ev1 D e S).1)):=by
 obtain ⟨w1,hw1⟩:∃w1,w.alloc (.cells #[.int .i64 (kP t),.int .i64 t.place,.string (wP t),.int .i32 (nP t),.int .i32 (sP t),.int .i64 (kP x),.int .i64 x.place,.string (wP x),.int .i32 (nP x),.int .i32 (sP x),.slice so sl sc] 130)=w1:=⟨_,rfl⟩
 have s1:w1.heap[w.heap.size]?=some (.cells #[.int .i64 (kP t),.int .i64 t.place,.string (wP t),.int .i32 (nP t),.int .i32 (sP t),.int .i64 (kP x),.int .i64 x.place,.string (wP x),.int .i32 (nP x),.int .i32 (sP x),.slice so sl sc] 130 (0,0)):=by rw [←hw1];exact heap_alloc_new w _
 have h1:PtAt w1 D S n rv:=by rw [←hw1];exact h.later (fun k hk=>Below.heap_alloc w _ k hk)
 have k1:PStep D rv w w1 rv:=by rw [←hw1];exact PStep.alloc D rv w _
 have z1:w1.heap.size=w.heap.size+1:=by rw [←hw1];simp
 have v1:RepV w1 Q (exV x (.slice so sl sc)) e:=by rw [←hw1];exact RepV.later (fun j _ hl=>Below.heap_alloc w _ j hl) (fun j hj _=>hj) hv
 have hnb:¬ D.own w.heap.size:=by
  rintro (o | o | o | o)
  ·have:=h.ltP;omega
  ·have:=h.ltM;omega
  ·have:=h.ltO;omega
  ·have:=h.ltH;omega
 have hnr:rv.ownBlock≠some w.heap.size:=fun e=>by have:=(h.rowR.lt _ e).2;omega
 have val:=value_all 100000 (Nat.le_refl _) e w1 D S n rv Q _ hsz h1 v1 hw hQ hD ho.vals ho.s0 (by omega) ho.t0 (by have:=ho.t1;omega)
 obtain ⟨m,hm1,hm2,evs⟩:=ev1_some D hv S
 obtain ⟨r0,hr0⟩:∃r0,ev1 D e S=r0:=⟨_,rfl⟩
 obtain ⟨vv,S1⟩:=r0
 rw [hr0] at val evs ⊢
 have evs:EvS S S1 m:=evs
 have ok1:POk D S1:=ho.ev evs
 obtain ⟨p0,p1⟩:=here_in hD ok1
 obtain ⟨kk,hkk⟩:∃kk:Nat,hereP D S1=(kk:Int):=⟨(hereP D S1).toNat,by omega⟩
 have hko:kk < S1.opn.length:=by have:=ok1.lo;omega
 have hkh:kk < S1.hid.length:=by have:=ok1.lh;omega
 have st1:=evs.steps
 have t1s:=ok1.t1
 have hw1':=hD.w1
 have hw2':=hD.w2
 have TCH:Hid (∀(wh:Int) (w2:World) (rv2:Value),PtAt w2 D S1 n rv2→Calls Tryz.prog 96 #[.pointer (some ⟨D.pb,0,none⟩),.int .i64 wh,.agg #[.int .i64 S1.cx,.int .i64 S1.cy]] w2 fun e w'=>e = .returned (.int .i64 (kk:Int))∧∃rv',PtAt w' D (touchP S1 wh (kk:Int)) n rv'∧PStep D rv2 w2 w' rv'):=fun wh w2 rv2 h2=>by
  have:=touch_anyP w2 D S1 n rv2 S1.cx S1.cy wh h2 ok1.t0 (by omega) ⟨ok1.x0,by have:=ok1.x1;omega⟩ ⟨ok1.y0,by have:=ok1.y1;have:=hD.h2;omega⟩ ⟨hw1',by omega⟩
  have e:S1.cy*D.sw+S1.cx=(kk:Int):=hkk
  rw [e] at this
  exact this
 have FO:Hid (∀(w3:World) (rv3:Value),PtAt w3 D (touchP S1 2 (kk:Int)) n rv3→PStep D rv w w3 rv3→PSOut w D n rv (putP D S1 true vv) (.returned (.tuple #[])) (w3.setCell ⟨D.ob,kk,none⟩ (.int .i64 (toneV vv)))):=fun w3 rv3 h3 k3=>by
  have:=h3.paintO kk (toneV vv)
  rw [(touchP_steps S1 2 (kk:Int)).2.2.2.1] at this
  refine ⟨rfl,rv3,?_,k3.set (.inr (.inr (.inl rfl))) _⟩
  unfold putP
  rw [if_pos rfl,hkk,Int.toNat_natCast]
  exact this
 have FH:Hid (∀(w3:World) (rv3:Value),PtAt w3 D (touchP S1 3 (kk:Int)) n rv3→PStep D rv w w3 rv3→PSOut w D n rv (putP D S1 false vv) (.returned (.tuple #[])) (w3.setCell ⟨D.hb,kk,none⟩ (.int .i64 (toneV vv)))):=fun w3 rv3 h3 k3=>by
  have:=h3.paintH kk (toneV vv)
  rw [(touchP_steps S1 3 (kk:Int)).2.2.2.2.1] at this
  refine ⟨rfl,rv3,?_,k3.set (.inr (.inr (.inr rfl))) _⟩
  unfold putP
  rw [if_neg (by simp),hkk,Int.toNat_natCast]
  exact this
 have g1:((wP t).toList==[111,117,116])=decide (wP t=sOUT):=str_is (wP t) sOUT
 obtain ⟨d0,d1,d2,d3,d4,d5,d6,d7,d8,d9,d10⟩:=(bk11 s1).1
 have nO:¬ D.pb=D.ob:=h.ne.2.1
 have nH:¬ D.pb=D.hb:=h.ne.2.2.1
 have nO':¬ D.ob=D.pb:=fun e=>nO e.symm
 have nH':¬ D.hb=D.pb:=fun e=>nH e.symm
 have VAL:=hide val
 clear val h v1 hv hw hQ ho evs ok1 p0 p1 hkk hD hr0 hs hsz h1 st1 t1s hw1' hw2' hm1 hm2
 show Calls _ _ _ _ (PSOut w D n rv (putP D S1 (decide (wP t=sOUT)) vv))
 obtain ⟨bo,hbo⟩:∃bo,decide (wP t=sOUT)=bo:=⟨_,rfl⟩
 rw [hbo] at g1 ⊢
 clear hbo
 go_enter Tryz.func66,Tryz.ntmps66
 go_wp2_with fail
 clear hw1
 unfold exV at VAL
 refine (unhide VAL).mono ?_
 rintro e w2 ⟨rfl,rv2,h2,k2⟩
 have s2:=(k2.block _ (by omega) hnb hnr).trans s1
 have kk2:=k1.trans k2
 have hz2:=k2.size
 clear VAL d0 d1 d2 d3 d4 d5 d6 d7 d8 d9 d10 s1 k2 k1
 go_wp2_with fail
 refine (tone_any w2 vv).mono ?_
 rintro e w9 ⟨rfl,h9⟩
 obtain rfl:=h9.symm
 obtain ⟨d0,d1,d2,d3,d4,d5,d6,d7,d8,d9,d10⟩:=(bk11 s2).1
 have hb2:=h2.blk
 unfold ptO at hb2
 obtain ⟨⟨x0,x1,x2,x3,x4,x5,x6,x7,x8,x9,x10,x11,x12⟩,_⟩:=bk13 hb2
 have h2d:PtAt w2.drew D S1 n rv2:=h2.drew
 have k2d:PStep D rv w w2.drew rv2:=kk2.trans (PStep.drew D rv2 w2)
 clear s2 hb2 x0 x1 x2 x3 x4 x7 x10 x11 x12 h2 kk2
 cases bo
 ·have AFT:Hid (∀(w3:World) (rv3:Value),PtAt w3 D (touchP S1 3 (kk:Int)) n rv3→PStep D rv2 w2.drew w3 rv3→(w3.cell? ⟨D.pb,5,none⟩=some (.int .i64 S1.cx)∧w3.cell? ⟨D.pb,6,none⟩=some (.int .i64 S1.cy)∧w3.cell? ⟨D.pb,9,none⟩=some (.slice (some ⟨D.hb,0,none⟩) S1.hid.length S1.hid.length))∧w3.cell? ⟨D.hb,kk,none⟩=some (.int .i64 (S1.hid.getD kk 0))∧w3.frozen? ⟨D.hb,kk,none⟩=false∧Hid (PSOut w D n rv (putP D S1 false vv) (.returned (.tuple #[])) (w3.setCell ⟨D.hb,kk,none⟩ (.int .i64 (toneV vv))))):=fun w3 rv3 h3 k3=>by
   obtain ⟨a,b,c,d,f,g⟩:=touch_left h3
   exact ⟨⟨a,b,d⟩,(pic_cell g hkh).1,(pic_cell g hkh).2,unhide FH w3 rv3 h3 (k2d.trans k3)⟩
  have hlt:(kk:Int) < (S1.hid.length:Int):=by omega
  obtain ⟨L,hL⟩:∃L,S1.hid.length=L:=⟨_,rfl⟩
  obtain ⟨old,hold⟩:∃old,S1.hid.getD kk 0=old:=⟨_,rfl⟩
  obtain ⟨tv,htv⟩:∃tv,toneV vv=tv:=⟨_,rfl⟩
  rw [hL] at AFT hlt x9
  rw [hold,htv] at AFT
  rw [htv]
  clear hL hold htv FO FH x8 hko hkh
  go_wp2
  go_region_held3 (fun w'=>w'.cell? ⟨D.pb,5,none⟩=some (.int .i64 S1.cx)∧w'.cell? ⟨D.pb,6,none⟩=some (.int .i64 S1.cy)∧w'.cell? ⟨D.pb,9,none⟩=some (.slice (some ⟨D.hb,0,none⟩) L L)) (go_keep)
   (first
    | (go_at_call 96;refine (unhide TCH 3 _ rv2 h2d).mono ?_;rintro e w3 ⟨rfl,rv3,h3,k3⟩;have fx:=unhide AFT w3 rv3 h3 k3;clear h3 k3;obtain ⟨⟨fa,fb,fc⟩,fd,fe,fin⟩:=fx))
  all_goals go_wp2
  all_goals go_end0
  all_goals exact unhide fin
 ·have AFT:Hid (∀(w3:World) (rv3:Value),PtAt w3 D (touchP S1 2 (kk:Int)) n rv3→PStep D rv2 w2.drew w3 rv3→(w3.cell? ⟨D.pb,5,none⟩=some (.int .i64 S1.cx)∧w3.cell? ⟨D.pb,6,none⟩=some (.int .i64 S1.cy)∧w3.cell? ⟨D.pb,8,none⟩=some (.slice (some ⟨D.ob,0,none⟩) S1.opn.length S1.opn.length))∧w3.cell? ⟨D.ob,kk,none⟩=some (.int .i64 (S1.opn.getD kk 0))∧w3.frozen? ⟨D.ob,kk,none⟩=false∧Hid (PSOut w D n rv (putP D S1 true vv) (.returned (.tuple #[])) (w3.setCell ⟨D.ob,kk,none⟩ (.int .i64 (toneV vv))))):=fun w3 rv3 h3 k3=>by
   obtain ⟨a,b,c,d,f,g⟩:=touch_left h3
   exact ⟨⟨a,b,c⟩,(pic_cell f hko).1,(pic_cell f hko).2,unhide FO w3 rv3 h3 (k2d.trans k3)⟩
  have hlt:(kk:Int) < (S1.opn.length:Int):=by omega
  obtain ⟨L,hL⟩:∃L,S1.opn.length=L:=⟨_,rfl⟩
  obtain ⟨old,hold⟩:∃old,S1.opn.getD kk 0=old:=⟨_,rfl⟩
  obtain ⟨tv,htv⟩:∃tv,toneV vv=tv:=⟨_,rfl⟩
  rw [hL] at AFT hlt x8
  rw [hold,htv] at AFT
  rw [htv]
  clear hL hold htv FO FH x9 hko hkh
  go_wp2
  go_region_held3 (fun w'=>w'.cell? ⟨D.pb,5,none⟩=some (.int .i64 S1.cx)∧w'.cell? ⟨D.pb,6,none⟩=some (.int .i64 S1.cy)∧w'.cell? ⟨D.pb,8,none⟩=some (.slice (some ⟨D.ob,0,none⟩) L L)) (go_keep)
   (first
    | (go_at_call 96;refine (unhide TCH 2 _ rv2 h2d).mono ?_;rintro e w3 ⟨rfl,rv3,h3,k3⟩;have fx:=unhide AFT w3 rv3 h3 k3;clear h3 k3;obtain ⟨⟨fa,fb,fc⟩,fd,fe,fin⟩:=fx))
  all_goals go_wp2
  all_goals go_end0
  all_goals exact unhide fin
end Go.Proofs.YthmmgiaobakilaaGreat

set_option maxRecDepth 100000
namespace Go.Proofs.YthmmgiaobakilaaGreat
open Go.RowKit Go.Deep
def setV (S:PSt) (nm:ByteArray) (v:Int):PSt:={ S with vals:=updR S.vals nm v }
def roundsP (body:PSt→PSt) (nm:ByteArray):Nat→Int→PSt→PSt
 | 0,_,S=>S
 | q+1,i,S=>roundsP body nm q (i+1) (body (setV (stepP S) nm i))
def stP (D:PD):Sx→PSt→PSt
 | .nil,S=>S
 | .node _ _ p k r,S=>if 20000 < S.steps then S else stP D r (
  if p.tag=0 then setV (ev1 D p.e (stepP S)).2 (wP p.t) (ev1 D p.e (stepP S)).1 else
  if p.tag=1 then (match k with
   | .nil=>(ev1 D p.e (stepP S)).2
   | .node _ _ _ s u=>if (ev1 D p.e (stepP S)).1≠0 then stP D s (ev1 D p.e (stepP S)).2 else stP D u (ev1 D p.e (stepP S)).2) else
  if p.tag=2 then roundsP (fun T=>stP D k T) (wP p.t) (nP p.b-nP p.a+1).toNat (nP p.a) (stepP S) else
  putP D (ev1 D p.e (stepP S)).2 (decide (wP p.t=sOUT)) (ev1 D p.e (stepP S)).1)
section
variable {D:PD} {b o:Nat} {p:SP} {k r:Sx} {S:PSt}
theorem stP_over (h:20000 < S.steps):∀s:Sx,stP D s S=S
 | .nil=>rfl
 | .node _ _ p k r=>by cases k <;> (show (if 20000 < S.steps then S else _)=S;rw [if_pos h])
theorem stP_0 (h:¬ 20000 < S.steps) (t:p.tag=0):stP D (.node b o p k r) S=stP D r (setV (ev1 D p.e (stepP S)).2 (wP p.t) (ev1 D p.e (stepP S)).1):=by
 cases k <;> (show (if 20000 < S.steps then S else stP D r (if p.tag=0 then _ else _))=_;rw [if_neg h,if_pos t])
theorem stP_1 {b1 o1:Nat} {q:SP} {s u:Sx} (h:¬ 20000 < S.steps) (t:p.tag=1):stP D (.node b o p (.node b1 o1 q s u) r) S=stP D r (if (ev1 D p.e (stepP S)).1≠0 then stP D s (ev1 D p.e (stepP S)).2 else stP D u (ev1 D p.e (stepP S)).2):=by
 show (if 20000 < S.steps then S else stP D r (if p.tag=0 then _ else if p.tag=1 then _ else _))=_
 rw [if_neg h,if_neg (by omega),if_pos t]
theorem stP_2 (h:¬ 20000 < S.steps) (t:p.tag=2):stP D (.node b o p k r) S=stP D r (roundsP (stP D k) (wP p.t) (nP p.b-nP p.a+1).toNat (nP p.a) (stepP S)):=by
 cases k <;> (show (if 20000 < S.steps then S else stP D r (if p.tag=0 then _ else if p.tag=1 then _ else if p.tag=2 then _ else _))=_;rw [if_neg h,if_neg (by omega),if_neg (by omega),if_pos t])
theorem stP_3 (h:¬ 20000 < S.steps) (t:p.tag=3∨p.tag=4):stP D (.node b o p k r) S=stP D r (putP D (ev1 D p.e (stepP S)).2 (decide (wP p.t=sOUT)) (ev1 D p.e (stepP S)).1):=by
 cases k <;> (show (if 20000 < S.steps then S else stP D r (if p.tag=0 then _ else if p.tag=1 then _ else if p.tag=2 then _ else _))=_;rw [if_neg h,if_neg (by omega),if_neg (by omega),if_neg (by omega)])
end
def wtS:Sx→Nat
 | .nil=>0
 | .node _ _ p k r=>szE p.e+22+wtS k+wtS r
def WfS:Sx→Prop
 | .nil=>True
 | .node _ _ p k r=>(WfV p.e∧TokB p.t∧TokB p.a∧TokB p.b∧(p.tag=2→nP p.b≤20))∧WfS k∧WfS r
theorem ev1_any (D:PD) (e:Ex) (S:PSt):∃m,m≤szE e∧EvS S (ev1 D e S).2 m:=by
 cases e with
 | nil=>exact ⟨0,Nat.zero_le _,EvS.refl S⟩
 | node b o t k r=>exact ⟨szE k+1,by simp [szE],ev1_ev D S⟩
theorem ev1_in (D:PD) {e:Ex} {S:PSt} (hw:WfV e) (hS:OkV S):In31 (ev1 D e S).1:=by
 cases e with
 | nil=>show In31 0;unfold In31;decide
 | node b o t k r=>exact head_in D hw.1.2.2 (hS.ev (evE_ev D k S)).step (evE_in D k S hw.2.1 hS)
theorem POk.step {D:PD} {S:PSt} (h:POk D S):POk D (stepP S):=⟨h.vals,by have:=h.s0;show 0≤S.steps+1;omega,h.t0,by have:=h.t1;show S.touched≤S.steps+1;omega,h.lo,h.lh,h.x0,h.x1,h.y0,h.y1⟩
theorem POk.set {D:PD} {S:PSt} (h:POk D S) (nm:ByteArray) {v:Int} (hv:In31 v):POk D (setV S nm v):=⟨fun s=>by
 show In31 (updR S.vals nm v s)
 unfold updR
 split
 ·exact hv
 ·exact h.vals s,h.s0,h.t0,h.t1,h.lo,h.lh,h.x0,h.x1,h.y0,h.y1⟩
theorem POk.put {D:PD} {S:PSt} (h:POk D S) (ht:S.touched+1≤S.steps) (out:Bool) (v:Int):POk D (putP D S out v)∧(putP D S out v).steps=S.steps:=by
 unfold putP
 split
 ·obtain ⟨a,b,c,d,e,f,g⟩:=touchP_steps S 2 (hereP D S)
  refine ⟨⟨fun s=>?_,?_,?_,?_,?_,?_,?_,?_,?_,?_⟩,a⟩
  ·show In31 ((touchP S 2 (hereP D S)).vals s);rw [b];exact h.vals s
  ·show 0≤(touchP S 2 (hereP D S)).steps;rw [a];exact h.s0
  ·show 0≤(touchP S 2 (hereP D S)).touched;rw [c];have:=h.t0;omega
  ·show (touchP S 2 (hereP D S)).touched≤(touchP S 2 (hereP D S)).steps;rw [a,c];exact ht
  ·show ((S.opn.set _ _).length:Int)=_;rw [List.length_set];exact h.lo
  ·show ((touchP S 2 (hereP D S)).hid.length:Int)=_;rw [e];exact h.lh
  ·show 0≤(touchP S 2 (hereP D S)).cx;rw [f];exact h.x0
  ·show (touchP S 2 (hereP D S)).cx≤_;rw [f];exact h.x1
  ·show 0≤(touchP S 2 (hereP D S)).cy;rw [g];exact h.y0
  ·show (touchP S 2 (hereP D S)).cy≤_;rw [g];exact h.y1
 ·obtain ⟨a,b,c,d,e,f,g⟩:=touchP_steps S 3 (hereP D S)
  refine ⟨⟨fun s=>?_,?_,?_,?_,?_,?_,?_,?_,?_,?_⟩,a⟩
  ·show In31 ((touchP S 3 (hereP D S)).vals s);rw [b];exact h.vals s
  ·show 0≤(touchP S 3 (hereP D S)).steps;rw [a];exact h.s0
  ·show 0≤(touchP S 3 (hereP D S)).touched;rw [c];have:=h.t0;omega
  ·show (touchP S 3 (hereP D S)).touched≤(touchP S 3 (hereP D S)).steps;rw [a,c];exact ht
  ·show ((touchP S 3 (hereP D S)).opn.length:Int)=_;rw [d];exact h.lo
  ·show ((S.hid.set _ _).length:Int)=_;rw [List.length_set];exact h.lh
  ·show 0≤(touchP S 3 (hereP D S)).cx;rw [f];exact h.x0
  ·show (touchP S 3 (hereP D S)).cx≤_;rw [f];exact h.x1
  ·show 0≤(touchP S 3 (hereP D S)).cy;rw [g];exact h.y0
  ·show (touchP S 3 (hereP D S)).cy≤_;rw [g];exact h.y1
structure Grows (D:PD) (S S':PSt) (B:Int):Prop where
 ok:POk D S'
 le:S.steps≤S'.steps
 ub:S'.steps≤max S.steps B
theorem rounds_grow {D:PD} {body:PSt→PSt} {nm:ByteArray} {B:Int} (hb:∀T,POk D T→Grows D T (body T) B):∀(q:Nat) (i:Int) (S:PSt),POk D S→0≤i→i+q≤2000000000→POk D (roundsP body nm q i S)∧S.steps+q≤(roundsP body nm q i S).steps∧(roundsP body nm q i S).steps≤max S.steps B+q
 | 0,i,S,h,_,_=>⟨h,by show S.steps+0≤S.steps;omega,by show S.steps≤max S.steps B+0;omega⟩
 | q+1,i,S,h,h0,h1=>by
  have g:=hb (setV (stepP S) nm i) (h.step.set nm ⟨by omega,by omega⟩)
  have e1:(setV (stepP S) nm i).steps=S.steps+1:=rfl
  obtain ⟨a,c,d⟩:=rounds_grow hb q (i+1) (body (setV (stepP S) nm i)) g.ok (by omega) (by omega)
  have g2:=g.le
  have g3:=g.ub
  rw [e1] at g2 g3
  refine ⟨a,?_,?_⟩
  ·show S.steps+((q+1:Nat):Int)≤(roundsP body nm q (i+1) (body (setV (stepP S) nm i))).steps
   omega
  ·show (roundsP body nm q (i+1) (body (setV (stepP S) nm i))).steps≤max S.steps B+((q+1:Nat):Int)
   omega
theorem st_grow {D:PD} (n:Nat):∀(s:Sx),szS s≤n→WfS s→∀S,POk D S→Grows D S (stP D s S) (20001+wtS s):=by
 induction n with
 | zero=>
  intro s hs _ S h
  cases s with
  | nil=>exact ⟨h,Int.le_refl _,by show S.steps≤max S.steps _;omega⟩
  | node b o p k r=>simp [szS] at hs
 | succ n ih=>
  intro s hs hw S h
  cases s with
  | nil=>exact ⟨h,Int.le_refl _,by show S.steps≤max S.steps _;omega⟩
  | node b o p k r=>
   by_cases hov:20000 < S.steps
   ·rw [stP_over hov];exact ⟨h,Int.le_refl _,by omega⟩
   simp only [szS] at hs
   obtain ⟨⟨wv,wt,wa,wb,w2⟩,wk,wr⟩:=hw
   obtain ⟨m,hm,ev⟩:=ev1_any D p.e (stepP S)
   have e1:=ev.steps
   have e2:(stepP S).steps=S.steps+1:=rfl
   have ok1:=h.step.ev ev
   have hwt:(wtS (.node b o p k r):Int)=szE p.e+22+wtS k+wtS r:=by simp [wtS]
   have rest:∀T,POk D T→S.steps≤T.steps→T.steps≤20001+szE p.e+22+wtS k→Grows D S (stP D r T) (20001+wtS (.node b o p k r)):=fun T hT h1 h2=>by
    have g:=ih r (by omega) wr T hT
    have g2:=g.le
    have g3:=g.ub
    exact ⟨g.ok,by omega,by omega⟩
   by_cases t0:p.tag=0
   ·rw [stP_0 hov t0]
    exact rest _ (ok1.set _ (ev1_in D wv h.step.vals)) (by show S.steps≤(ev1 D p.e (stepP S)).2.steps;omega) (by show (ev1 D p.e (stepP S)).2.steps≤_;omega)
   by_cases t1:p.tag=1
   ·cases k with
    | nil=>
     have:stP D (.node b o p .nil r) S=stP D r (ev1 D p.e (stepP S)).2:=by
      show (if 20000 < S.steps then S else stP D r (if p.tag=0 then _ else if p.tag=1 then _ else _))=_
      rw [if_neg hov,if_neg t0,if_pos t1]
     rw [this]
     exact rest _ ok1 (by omega) (by omega)
    | node b1 o1 q s u=>
     simp only [szS] at hs
     have hk2:(wtS (.node b1 o1 q s u):Int)=szE q.e+22+wtS s+wtS u:=by simp [wtS]
     rw [stP_1 hov t1]
     split
     ·have g:=ih s (by omega) wk.2.1 _ ok1
      have g2:=g.le
      have g3:=g.ub
      exact rest _ g.ok (by omega) (by omega)
     ·have g:=ih u (by omega) wk.2.2 _ ok1
      have g2:=g.le
      have g3:=g.ub
      exact rest _ g.ok (by omega) (by omega)
   by_cases t2:p.tag=2
   ·rw [stP_2 hov t2]
    have hb:=w2 t2
    have ha:=wa.2
    obtain ⟨a,c,d⟩:=rounds_grow (D:=D) (body:=stP D k) (nm:=wP p.t) (B:=20001+wtS k) (fun T hT=>ih k (by omega) wk T hT) (nP p.b-nP p.a+1).toNat (nP p.a) (stepP S) h.step (by omega) (by omega)
    have hq:((nP p.b-nP p.a+1).toNat:Int)≤21:=by omega
    exact rest _ a (by omega) (by omega)
   ·have e3:stP D (.node b o p k r) S=stP D r (putP D (ev1 D p.e (stepP S)).2 (decide (wP p.t=sOUT)) (ev1 D p.e (stepP S)).1):=by
     cases k <;> (show (if 20000 < S.steps then S else stP D r (if p.tag=0 then _ else if p.tag=1 then _ else if p.tag=2 then _ else _))=_;rw [if_neg hov,if_neg t0,if_neg t1,if_neg t2])
    rw [e3]
    have tt:(ev1 D p.e (stepP S)).2.touched+1≤(ev1 D p.e (stepP S)).2.steps:=by
     have:=ev.t2;have:=h.t1;have:(stepP S).touched=S.touched:=rfl;omega
    obtain ⟨a,c⟩:=ok1.put tt (decide (wP p.t=sOUT)) (ev1 D p.e (stepP S)).1
    exact rest _ a (by omega) (by omega)
theorem PtAt.store {w:World} {D:PD} {S:PSt} {n:Nat} {rv:Value} (h:PtAt w D S n rv) {s:ByteArray} (hs:s.size≤300) {c:Int} (hc:In31 c) (hn:n≤1000000):∃w9,(Instr.mapUpdate 80 (.map (some D.mb)) (.string s) (.int .i32 c)).run Tryz.prog w = .ok () w9∧PtAt w9 D (setV S s c) (n+1) rv∧PStep D rv w w9 rv:=by
 obtain ⟨w9,hrun,hmap,ht⟩:=h.map.store Tryz.underlying80 Tryz.underlying21 (by unfold maxLen;omega) (s:=s) (by unfold maxLen;omega) (c:=c) (by
  obtain ⟨a,b⟩:=hc
  have e1:IntKind.i32.min = -2147483648:=rfl
  have e2:IntKind.i32.max=2147483647:=rfl
  simp only [Lit.wf,e1,e2,Bool.and_eq_true,decide_eq_true_eq]
  omega)
 have hg:=ht.grown
 have oth:∀k,k < w.heap.size→k≠D.mb→w9.heap[k]?=w.heap[k]?:=fun k hk hne=>hg.block k hk (fun e=>hne (by cases e;rfl))
 obtain ⟨n1,n2,n3,n4,n5,n6⟩:=h.ne
 have hB:D.B≤D.mb:=h.base _ (.inr (.inl rfl))
 have hlm:=h.ltM
 refine ⟨w9,hrun,⟨(oth _ h.ltP n1).trans h.blk,hmap,(oth _ h.ltO (Ne.symm n4)).trans h.rowO,(oth _ h.ltH (Ne.symm n5)).trans h.rowH,own_sameP h.rowR (fun k e=>oth k (h.rowR.lt k e).2 (fun e2=>h.away k e (.inr (.inl e2)))),h.ne,h.base,h.away,h.tex1.sameP (fun k hk=>oth k (by omega) (by omega)),h.tex2.sameP (fun k hk=>oth k (by omega) (by omega))⟩,⟨hg.size,fun k hk ho _=>oth k hk (fun e=>ho (.inr (.inl e))),Same.grown hg,.inl rfl⟩⟩
end Go.Proofs.YthmmgiaobakilaaGreat

set_option maxRecDepth 100000
namespace Go.Proofs.YthmmgiaobakilaaGreat
open Go.RowKit Go.Deep
theorem ev_mono (D:PD) (e:Ex) (S:PSt):S.steps+1≤(ev1 D e (stepP S)).2.steps:=by
 obtain ⟨m,_,h⟩:=ev1_any D e (stepP S)
 have:(stepP S).steps=S.steps+1:=rfl
 rw [h.steps];omega
theorem put_steps (D:PD) (S:PSt) (out:Bool) (v:Int):(putP D S out v).steps=S.steps:=by
 unfold putP
 split
 ·exact (touchP_steps S 2 (hereP D S)).1
 ·exact (touchP_steps S 3 (hereP D S)).1
theorem rounds_mono {body:PSt→PSt} {nm:ByteArray} (hb:∀T:PSt,T.steps≤(body T).steps):∀(q:Nat) (i:Int) (S:PSt),S.steps≤(roundsP body nm q i S).steps
 | 0,_,_=>Int.le_refl _
 | q+1,i,S=>by
  have h1:=hb (setV (stepP S) nm i)
  have h2:=rounds_mono hb (nm:=nm) q (i+1) (body (setV (stepP S) nm i))
  have h3:(setV (stepP S) nm i).steps=S.steps+1:=rfl
  show S.steps≤(roundsP body nm q (i+1) (body (setV (stepP S) nm i))).steps
  omega
theorem st_mono (D:PD):∀(n:Nat) (s:Sx),szS s≤n→∀S:PSt,S.steps≤(stP D s S).steps
 | _,.nil,_,S=>Int.le_refl _
 | 0,.node _ _ _ _ _,h,_=>by simp [szS] at h
 | n+1,.node b o p k r,h,S=>by
  by_cases h0:20000 < S.steps
  ·rw [stP_over h0];exact Int.le_refl _
  have hr:szS r≤n:=by simp only [szS] at h;omega
  have hk:szS k≤n:=by simp only [szS] at h;omega
  have he:=ev_mono D p.e S
  have tr:∀X:PSt,S.steps≤X.steps→S.steps≤(stP D r X).steps:=fun X hX=>Int.le_trans hX (st_mono D n r hr X)
  cases k with
  | nil=>
   show S.steps≤(if 20000 < S.steps then S else stP D r _).steps
   rw [if_neg h0]
   refine tr _ ?_
   split
   ·show S.steps≤(ev1 D p.e (stepP S)).2.steps;omega
   split
   ·show S.steps≤(ev1 D p.e (stepP S)).2.steps;omega
   split
   ·have h1:=rounds_mono (body:=fun T=>stP D .nil T) (nm:=wP p.t) (fun T=>Int.le_refl _) (nP p.b-nP p.a+1).toNat (nP p.a) (stepP S)
    have h2:(stepP S).steps=S.steps+1:=rfl
    omega
   ·rw [put_steps];omega
  | node b1 o1 q s u=>
   have hs:szS s≤n:=by simp only [szS] at hk;omega
   have hu:szS u≤n:=by simp only [szS] at hk;omega
   show S.steps≤(if 20000 < S.steps then S else stP D r _).steps
   rw [if_neg h0]
   refine tr _ ?_
   split
   ·show S.steps≤(ev1 D p.e (stepP S)).2.steps;omega
   split
   ·show S.steps≤(if _ then _ else _:PSt).steps
    split
    ·exact Int.le_trans (by omega) (st_mono D n s hs _)
    ·exact Int.le_trans (by omega) (st_mono D n u hu _)
   split
   ·have h1:=rounds_mono (body:=fun T=>stP D (.node b1 o1 q s u) T) (nm:=wP p.t) (fun T=>st_mono D n _ hk T) (nP p.b-nP p.a+1).toNat (nP p.a) (stepP S)
    have h2:(stepP S).steps=S.steps+1:=rfl
    omega
   ·rw [put_steps];omega
def PTOut (w:World) (D:PD) (rv:Value) (S':PSt) (e:Ending) (w':World):Prop:=e = .returned (.tuple #[])∧∃n' rv',PtAt w' D S' n' rv'∧PStep D rv w w' rv'∧(n':Int)≤S'.steps+2
def PStOK (m:Nat):Prop:=∀(s:Sx) (w:World) (D:PD) (S:PSt) (n:Nat) (rv:Value) (Q:Nat→Prop) (v:Value),szS s < m→PtAt w D S n rv→RepL w Q v s→WfS s→(∀k,Q k→k < D.B)→D.Ok→POk D S→S.steps≤150000→wtS s≤100000→(n:Int)≤S.steps+2 →
 Calls Tryz.prog 38 #[.pointer (some ⟨D.pb,0,none⟩),v] w (PTOut w D rv (stP D s S))
theorem PtAt.fresh {w:World} {D:PD} {S:PSt} {n:Nat} {rv:Value} (h:PtAt w D S n rv):¬ D.own w.heap.size∧rv.ownBlock≠some w.heap.size:=by
 refine ⟨?_,fun e=>by have:=(h.rowR.lt _ e).2;omega⟩
 rintro (o | o | o | o)
 ·have:=h.ltP;omega
 ·have:=h.ltM;omega
 ·have:=h.ltO;omega
 ·have:=h.ltH;omega
theorem PStep.stay {w w':World} {D:PD} {S:PSt} {n:Nat} {rv rv':Value} (h:PStep D rv w w' rv') (p:PtAt w D S n rv) {Q:Nat→Prop} (hQ:∀k,Q k→k < D.B):Stay Q w w':=fun j hj _=>h.low p (hQ j hj)
set_option maxHeartbeats 8000000 in
theorem choose_any {m:Nat} (ih:PStOK m) (w:World) (D:PD) (S:PSt) (n:Nat) (rv:Value) (Q:Nat→Prop) (t x:Tok) (so ao bo:Option Addr) (sl sc al ac bl bc:Nat) (e:Ex) (s u:Sx) (hD:D.Ok) (h:PtAt w D S n rv) (hv:RepV w Q (exV x (.slice so sl sc)) e) (ha:RepL w Q (.slice ao al ac) s) (hb:RepL w Q (.slice bo bl bc) u) (hw:WfV e) (hws:WfS s) (hwu:WfS u) (hQ:∀k,Q k→k < D.B) (ho:POk D S) (hs:S.steps≤20001) (hsz:szE e≤100000) (hss:szS s < m) (hsu:szS u < m) (hts:wtS s≤100000) (htu:wtS u≤100000) (hn:(n:Int)≤S.steps+2) :
  Calls Tryz.prog 64 #[.pointer (some ⟨D.pb,0,none⟩),.agg #[.int .i64 (kP t),.int .i64 t.place,.string (wP t),.int .i32 (nP t),.int .i32 (sP t),.int .i64 (kP x),.int .i64 x.place,.string (wP x),.int .i32 (nP x),.int .i32 (sP x),.slice so sl sc,.slice ao al ac,.slice bo bl bc]] w (PTOut w D rv (if (ev1 D e S).1≠0 then stP D s (ev1 D e S).2 else stP D u (ev1 D e S).2)):=by
 obtain ⟨w1,hw1⟩:∃w1,w.alloc (.cells #[.int .i64 (kP t),.int .i64 t.place,.string (wP t),.int .i32 (nP t),.int .i32 (sP t),.int .i64 (kP x),.int .i64 x.place,.string (wP x),.int .i32 (nP x),.int .i32 (sP x),.slice so sl sc,.slice ao al ac,.slice bo bl bc] 124)=w1:=⟨_,rfl⟩
 have s1:w1.heap[w.heap.size]?=some (.cells #[.int .i64 (kP t),.int .i64 t.place,.string (wP t),.int .i32 (nP t),.int .i32 (sP t),.int .i64 (kP x),.int .i64 x.place,.string (wP x),.int .i32 (nP x),.int .i32 (sP x),.slice so sl sc,.slice ao al ac,.slice bo bl bc] 124 (0,0)):=by rw [←hw1];exact heap_alloc_new w _
 have h1:PtAt w1 D S n rv:=by rw [←hw1];exact h.later (fun k hk=>Below.heap_alloc w _ k hk)
 have k1:PStep D rv w w1 rv:=by rw [←hw1];exact PStep.alloc D rv w _
 have z1:w1.heap.size=w.heap.size+1:=by rw [←hw1];simp
 have v1:RepV w1 Q (exV x (.slice so sl sc)) e:=RepV.later (k1.stay h hQ) (fun j hj _=>hj) hv
 obtain ⟨hnb,hnr⟩:=h.fresh
 have val:=value_all 100000 (Nat.le_refl _) e w1 D S n rv Q _ hsz h1 v1 hw hQ hD ho.vals ho.s0 (by omega) ho.t0 (by have:=ho.t1;omega)
 obtain ⟨q,_,hq2,evs⟩:=ev1_some D hv S
 obtain ⟨r0,hr0⟩:∃r0,ev1 D e S=r0:=⟨_,rfl⟩
 obtain ⟨vv,S1⟩:=r0
 rw [hr0] at val evs ⊢
 have evs:EvS S S1 q:=evs
 have ok1:POk D S1:=ho.ev evs
 have st1:=evs.steps
 have CS:Hid (∀w2 rv2,PtAt w2 D S1 n rv2→PStep D rv w1 w2 rv2→Calls Tryz.prog 38 #[.pointer (some ⟨D.pb,0,none⟩),.slice ao al ac] w2 (fun e w3=>e = .returned (.tuple #[])∧Hid (PTOut w D rv (stP D s S1) (.returned (.tuple #[])) w3))):=fun w2 rv2 h2 k2=>by
  refine (ih s w2 D S1 n rv2 Q _ hss h2 (RepL.later (k2.stay h1 hQ) (fun j hj _=>hj) (RepL.later (k1.stay h hQ) (fun j hj _=>hj) ha)) hws hQ hD ok1 (by omega) hts (by omega)).mono ?_
  rintro e w3 ⟨rfl,n',rv',p3,k3,hn3⟩
  exact ⟨rfl,rfl,n',rv',p3,(k1.trans k2).trans k3,hn3⟩
 have CU:Hid (∀w2 rv2,PtAt w2 D S1 n rv2→PStep D rv w1 w2 rv2→Calls Tryz.prog 38 #[.pointer (some ⟨D.pb,0,none⟩),.slice bo bl bc] w2 (fun e w3=>e = .returned (.tuple #[])∧Hid (PTOut w D rv (stP D u S1) (.returned (.tuple #[])) w3))):=fun w2 rv2 h2 k2=>by
  refine (ih u w2 D S1 n rv2 Q _ hsu h2 (RepL.later (k2.stay h1 hQ) (fun j hj _=>hj) (RepL.later (k1.stay h hQ) (fun j hj _=>hj) hb)) hwu hQ hD ok1 (by omega) htu (by omega)).mono ?_
  rintro e w3 ⟨rfl,n',rv',p3,k3,hn3⟩
  exact ⟨rfl,rfl,n',rv',p3,(k1.trans k2).trans k3,hn3⟩
 obtain ⟨d0,d1,d2,d3,d4,d5,d6,d7,d8,d9,d10,d11,d12⟩:=(bk13 s1).1
 have VAL:=hide val
 clear val h v1 hv ha hb hw hws hwu hQ ho evs ok1 hD hr0 hs hsz h1 st1 hq2 hss hsu hts htu hn k1 ih
 show Calls _ _ _ _ (PTOut w D rv (if vv≠0 then stP D s S1 else stP D u S1))
 unfold exV at VAL
 by_cases hvv:vv=0
 ·have hv2:(vv != 0)=false:=by simp [hvv]
  rw [if_neg (fun hh=>hh hvv)]
  clear hvv CS
  go_enter Tryz.func64,Tryz.ntmps64
  go_wp2_with fail
  clear hw1
  refine (unhide VAL).mono ?_
  rintro e w2 ⟨rfl,rv2,h2,k2⟩
  have s2:=(k2.block _ (by omega) hnb hnr).trans s1
  have hz2:=k2.size
  have CU2:=hide (unhide CU w2 rv2 h2 k2)
  clear VAL d0 d1 d2 d3 d4 d5 d6 d7 d8 d9 d10 d11 d12 s1 k2 h2 CU
  obtain ⟨d0,d1,d2,d3,d4,d5,d6,d7,d8,d9,d10,d11,d12⟩:=(bk13 s2).1
  go_wp2_with fail
  refine (unhide CU2).mono ?_
  rintro e w3 ⟨rfl,fin⟩
  clear CU2 s2 d0 d1 d2 d3 d4 d5 d6 d7 d8 d9 d10 d11 d12
  go_wp2
  go_end0
  exact unhide fin
 ·have hv2:(vv != 0)=true:=by simp [hvv]
  rw [if_pos hvv]
  clear hvv CU
  go_enter Tryz.func64,Tryz.ntmps64
  go_wp2_with fail
  clear hw1
  refine (unhide VAL).mono ?_
  rintro e w2 ⟨rfl,rv2,h2,k2⟩
  have s2:=(k2.block _ (by omega) hnb hnr).trans s1
  have hz2:=k2.size
  have CS2:=hide (unhide CS w2 rv2 h2 k2)
  clear VAL d0 d1 d2 d3 d4 d5 d6 d7 d8 d9 d10 d11 d12 s1 k2 h2 CS
  obtain ⟨d0,d1,d2,d3,d4,d5,d6,d7,d8,d9,d10,d11,d12⟩:=(bk13 s2).1
  go_wp2_with fail
  refine (unhide CS2).mono ?_
  rintro e w3 ⟨rfl,fin⟩
  clear CS2 s2 d0 d1 d2 d3 d4 d5 d6 d7 d8 d9 d10 d11 d12
  go_wp2
  go_end0
  exact unhide fin
structure RLoop (D:PD) (S:PSt) (rv:Value) (nm:ByteArray) (k:Sx) (a:Int) (N:Nat) (w1:World) (q:Nat) (i:Int) (S':PSt) (n':Nat) (rv':Value) (wr:World):Prop where
 le:q≤N
 at_:i+q=a+N
 pt:PtAt wr D S' n' rv'
 st:PStep D rv w1 wr rv'
 fold:roundsP (stP D k) nm q i S'=roundsP (stP D k) nm N a S
 ok:POk D S'
 cnt:(n':Int)≤S'.steps+2
 ub:S'.steps+q≤20001+wtS k+N
set_option maxHeartbeats 8000000 in
theorem rounds_any {m:Nat} (ih:PStOK m) (w:World) (D:PD) (S:PSt) (n:Nat) (rv:Value) (Q:Nat→Prop) (t x y:Tok) (ao:Option Addr) (al ac:Nat) (k:Sx) (hD:D.Ok) (h:PtAt w D S n rv) (ha:RepL w Q (.slice ao al ac) k) (hwk:WfS k) (htt:TokB t) (htx:TokB x) (hty:nP y≤20) (hQ:∀k,Q k→k < D.B) (ho:POk D S) (hs:S.steps≤20001) (hss:szS k < m) (hts:wtS k≤100000) (hn:(n:Int)≤S.steps+2) :
  Calls Tryz.prog 65 #[.pointer (some ⟨D.pb,0,none⟩),.agg #[.int .i64 (kP t),.int .i64 t.place,.string (wP t),.int .i32 (nP t),.int .i32 (sP t),.int .i64 (kP x),.int .i64 x.place,.string (wP x),.int .i32 (nP x),.int .i32 (sP x),.int .i64 (kP y),.int .i64 y.place,.string (wP y),.int .i32 (nP y),.int .i32 (sP y),.slice ao al ac]] w (PTOut w D rv (roundsP (stP D k) (wP t) (nP y-nP x+1).toNat (nP x) S)):=by
 obtain ⟨w1,hw1⟩:∃w1,w.alloc (.cells #[.int .i64 (kP t),.int .i64 t.place,.string (wP t),.int .i32 (nP t),.int .i32 (sP t),.int .i64 (kP x),.int .i64 x.place,.string (wP x),.int .i32 (nP x),.int .i32 (sP x),.int .i64 (kP y),.int .i64 y.place,.string (wP y),.int .i32 (nP y),.int .i32 (sP y),.slice ao al ac] 127)=w1:=⟨_,rfl⟩
 have s1:w1.heap[w.heap.size]?=some (.cells #[.int .i64 (kP t),.int .i64 t.place,.string (wP t),.int .i32 (nP t),.int .i32 (sP t),.int .i64 (kP x),.int .i64 x.place,.string (wP x),.int .i32 (nP x),.int .i32 (sP x),.int .i64 (kP y),.int .i64 y.place,.string (wP y),.int .i32 (nP y),.int .i32 (sP y),.slice ao al ac] 127 (0,0)):=by rw [←hw1];exact heap_alloc_new w _
 have h1:PtAt w1 D S n rv:=by rw [←hw1];exact h.later (fun k hk=>Below.heap_alloc w _ k hk)
 have k1:PStep D rv w w1 rv:=by rw [←hw1];exact PStep.alloc D rv w _
 have z1:w1.heap.size=w.heap.size+1:=by rw [←hw1];simp
 have a1:RepL w1 Q (.slice ao al ac) k:=RepL.later (k1.stay h hQ) (fun j hj _=>hj) ha
 obtain ⟨hnb,hnr⟩:=h.fresh
 have hx0:=htx.2.1
 have hx1:=htx.2.2
 obtain ⟨N,hN⟩:∃N,(nP y-nP x+1).toNat=N:=⟨_,rfl⟩
 have hN2:N≤21:=by omega
 have hN3:0 < N→nP x+N=nP y+1:=by omega
 have hN4:nP y < nP x+N:=by omega
 rw [hN]
 obtain ⟨A,hA⟩:∃A,nP x=A:=⟨_,rfl⟩
 obtain ⟨Bn,hBn⟩:∃Bn,nP y=Bn:=⟨_,rfl⟩
 have L0:RLoop D S rv (wP t) k A N w1 N A S n rv w1:=⟨Nat.le_refl _,rfl,h1,PStep.refl _ _ _,rfl,ho,hn,by omega⟩
 have rnd:∀(q:Nat) (i:Int) (S':PSt) (n':Nat) (rv':Value) (wr:World),RLoop D S rv (wP t) k A N w1 (q+1) i S' n' rv' wr→∀w3,PtAt w3 D (stepP S') n' rv'→PStep D rv' wr w3 rv'→w3.heap[w.heap.size]?=w1.heap[w.heap.size]?∧∃w9,(Instr.mapUpdate 80 (.map (some D.mb)) (.string (wP t)) (.int .i32 i)).run Tryz.prog w3.drew = .ok () w9∧w9.heap[w.heap.size]?=w1.heap[w.heap.size]?∧Calls Tryz.prog 38 #[.pointer (some ⟨D.pb,0,none⟩),.slice ao al ac] w9 (fun e w5=>e = .returned (.tuple #[])∧∃S5 n5 rv5,RLoop D S rv (wP t) k A N w1 q (i+1) S5 n5 rv5 w5∧w5.heap[w.heap.size]?=w1.heap[w.heap.size]?):=fun q i S' n' rv' wr L w3 h3 k3=>by
  have lub:=L.ub
  have lle:=L.le
  have lat:=L.at_
  have lcnt:=L.cnt
  have ls0:=L.ok.s0
  have k13:=L.st.trans k3
  obtain ⟨w9,hrun,h9,k9⟩:=h3.drew.store htt.1 (c:=i) ⟨by omega,by omega⟩ (by omega)
  have k19:=(k13.trans (PStep.drew D rv' w3)).trans k9
  refine ⟨k13.block _ (by omega) hnb hnr,w9,hrun,k19.block _ (by omega) hnb hnr,?_⟩
  have ok9:POk D (setV (stepP S') (wP t) i):=L.ok.step.set _ ⟨by omega,by omega⟩
  have e9:(setV (stepP S') (wP t) i).steps=S'.steps+1:=rfl
  refine (ih k w9 D (setV (stepP S') (wP t) i) (n'+1) rv' Q _ hss h9 (RepL.later (k19.stay h1 hQ) (fun j hj _=>hj) a1) hwk hQ hD ok9 (by rw [e9];omega) hts (by rw [e9];omega)).mono ?_
  rintro e w5 ⟨rfl,n5,rv5,p5,k5,hn5⟩
  have g:=st_grow (D:=D) _ k (Nat.le_refl _) hwk _ ok9
  have g2:=g.ub
  rw [e9] at g2
  refine ⟨rfl,_,n5,rv5,⟨by omega,by omega,p5,k19.trans k5,?_,g.ok,hn5,by omega⟩,(k19.trans k5).block _ (by omega) hnb hnr⟩
  have:=L.fold
  exact this
 have fin:∀(i:Int) (S':PSt) (n':Nat) (rv':Value) (wr:World),RLoop D S rv (wP t) k A N w1 0 i S' n' rv' wr→PTOut w D rv (roundsP (stP D k) (wP t) N A S) (.returned (.tuple #[])) wr:=fun i S' n' rv' wr L=>by
  have f:S'=roundsP (stP D k) (wP t) N A S:=L.fold
  rw [←f]
  exact ⟨rfl,n',rv',L.pt,k1.trans L.st,L.cnt⟩
 have box:∀(q:Nat) (i:Int) (S':PSt) (n':Nat) (rv':Value) (wr:World),RLoop D S rv (wP t) k A N w1 q i S' n' rv' wr→wr.heap[w.heap.size]?=w1.heap[w.heap.size]?:=fun q i S' n' rv' wr L=>L.st.block _ (by omega) hnb hnr
 have RND:=hide rnd
 have FIN:=hide fin
 have BOX:=hide box
 have HL0:=hide L0
 rw [hA,hBn] at s1
 rw [hA,hBn] at hw1
 rw [hA] at hN3 hN4 hx0 hx1 ⊢
 rw [hBn] at hN3 hN4 hty ⊢
 obtain ⟨d0,d1,d2,d3,d4,d5,d6,d7,d8,d9,d10,d11,d12,d13,d14,d15⟩:=(bk16 s1).1
 clear rnd fin box L0 h ha a1 h1 k1 ho hs hss hn hQ hD ih hwk htt htx hA hBn hN hnb hnr
 go_enter Tryz.func65,Tryz.ntmps65
 go_wp2
 clear hw1 d0 d1 d2 d3 d4 d5 d6 d7 d8 d9 d10 d11 d12 d13 d14 d15
 go_loopg [4] N (fun q v wr=>∃i S' n' rv',v = .int .i32 i∧RLoop D S rv (wP t) k A N w1 q i S' n' rv' wr)
 case atStart=>exact ⟨A,S,n,rv,rfl,unhide HL0⟩
 case round=>
  clear HL0
  obtain ⟨i,S',n',rv',rfl,L⟩:=hrel
  have bx:=(unhide BOX gk i S' n' rv' wr L).trans s1
  have lat:=L.at_
  have lle:=L.le
  obtain ⟨d0,d1,d2,d3,d4,d5,d6,d7,d8,d9,d10,d11,d12,d13,d14,d15⟩:=(bk16 bx).1
  cases gk with
  | zero=>
   have hle:decide (i≤Bn)=false:=by simp;omega
   have FF:=hide (unhide FIN i S' n' rv' wr L)
   clear RND FIN BOX L
   go_wp2
   go_end0
   exact unhide FF
  | succ q=>
   have hle:decide (i≤Bn)=true:=by simp;omega
   have hi0:0≤i:=by omega
   have hi1:i≤21:=by omega
   have STP:=hide (step_any wr D S' n' rv' L.pt L.ok.s0 (by have:=L.ub;omega))
   have RN:=hide (unhide RND q i S' n' rv' wr L)
   clear RND FIN BOX L
   go_wp2_with fail
   refine (unhide STP).mono ?_
   rintro e w3 ⟨rfl,h3,k3⟩
   obtain ⟨b3,w9,hrun,b9,CC⟩:=unhide RN w3 h3 k3
   have s3:=b3.trans s1
   have s9:=b9.trans s1
   have C9:=hide CC
   have hb3:=h3.blk
   unfold ptO at hb3
   obtain ⟨⟨x0,x1,x2,x3,x4,x5,x6,x7,x8,x9,x10,x11,x12⟩,_⟩:=bk13 hb3
   clear RN STP d0 d1 d2 d3 d4 d5 d6 d7 d8 d9 d10 d11 d12 d13 d14 d15 h3 k3 CC hb3 x0 x1 x2 x3 x4 x5 x6 x8 x9 x10 x11 x12
   obtain ⟨d0,d1,d2,d3,d4,d5,d6,d7,d8,d9,d10,d11,d12,d13,d14,d15⟩:=(bk16 s3).1
   go_wp2
   clear b3 b9
   go_region
   clear d0 d1 d2 d3 d4 d5 d6 d7 d8 d9 d10 d11 d12 d13 d14 d15 x7 hrun s3
   obtain ⟨d0,d1,d2,d3,d4,d5,d6,d7,d8,d9,d10,d11,d12,d13,d14,d15⟩:=(bk16 s9).1
   go_wp2_with fail
   refine (unhide C9).mono ?_
   rintro e w5 ⟨rfl,S5,n5,rv5,L5,b5⟩
   clear C9 d0 d1 d2 d3 d4 d5 d6 d7 d8 d9 d10 d11 d12 d13 d14 d15 s9
   go_wp2
   go_roundg q
   case rel=>exact ⟨i+1,S5,n5,rv5,rfl,L5⟩
   case measure=>omega
structure SLoop (D:PD) (S:PSt) (rv:Value) (Q:Nat→Prop) (s:Sx) (ao:Option Addr) (w:World) (q:Nat) (rest:Sx) (S':PSt) (n':Nat) (rv':Value) (wr:World):Prop where
 le:q≤lenS s
 len:lenS rest=q
 sz:szS rest≤szS s
 wt:wtS rest≤wtS s
 wf:WfS rest
 pt:PtAt wr D S' n' rv'
 st:PStep D rv w wr rv'
 fold:stP D rest S'=stP D s S
 ok:POk D S'
 cnt:(n':Int)≤S'.steps+2
 ub:S'.steps≤150000
 rep:RepSa wr Q rest ao (lenS s-q)
theorem first_grow {D:PD} {b o:Nat} {p:SP} {k r:Sx} {S T:PSt} (hw:WfS (.node b o p k r)) (ho:POk D S) (e:stP D (.node b o p k .nil) S=T):POk D T∧T.steps≤max S.steps (20001+wtS (.node b o p k .nil)):=by
 have g:=st_grow (D:=D) _ (.node b o p k .nil) (Nat.le_refl _) ⟨hw.1,hw.2.1,trivial⟩ S ho
 rw [e] at g
 exact ⟨g.ok,g.ub⟩
set_option maxHeartbeats 32000000 in
theorem pstm_step {m:Nat} (hm:m≤100000) (ih:PStOK m):PStOK (m+1):=by
 intro s w D S n rv Q v hsz h hv hwf hQ hD ho hst hwt hn
 obtain ⟨ao,c,rfl,rep⟩:=hv.a
 clear hv
 have hlen:lenS s≤100000:=by have:=lenS_le s;omega
 have HL0:Hid (SLoop D S rv Q s ao w (lenS s) s S n rv w):=⟨Nat.le_refl _,rfl,Nat.le_refl _,Nat.le_refl _,hwf,h,PStep.refl _ _ _,rfl,ho,hn,hst,by rw [Nat.sub_self];exact rep⟩
 have FIN:Hid (∀S' n' rv' wr,PtAt wr D S' n' rv'→PStep D rv w wr rv'→(n':Int)≤S'.steps+2→S'=stP D s S→PTOut w D rv (stP D s S) (.returned (.tuple #[])) wr):=fun S' n' rv' wr a b c d=>by
  rw [←d];exact ⟨rfl,n',rv',a,b,c⟩
 obtain ⟨RES,hRES⟩:∃RES,stP D s S=RES:=⟨_,rfl⟩
 rw [hRES] at FIN ⊢
 clear h rep ho hn hst
 go_enter Tryz.func38,Tryz.ntmps38
 go_wp2
 go_loopg [12] (lenS s) (fun q v wr=>∃rest S' n' rv',v = .int .i64 ((lenS s-q:Nat):Int)∧SLoop D S rv Q s ao w q rest S' n' rv' wr)
 case atStart=>exact ⟨s,S,n,rv,by rw [Nat.sub_self];rfl,unhide HL0⟩
 case round=>
 clear HL0
 obtain ⟨rest,S',n',rv',rfl,L⟩:=hrel
 cases rest with
 | nil=>
  have hq0:gk=0:=by rw [←L.len];rfl
  subst hq0
  have hge:decide (((lenS s-0:Nat):Int) < (lenS s:Int))=false:=by simp
  have FF:=hide (unhide FIN S' n' rv' wr L.pt L.st L.cnt (by rw [←hRES];exact L.fold))
  clear FIN L
  go_wp2
  go_end0
  exact unhide FF
 | node b1 o1 p k r1=>
 have hl1:lenS r1+1=gk:=L.len
 have hle:=L.le
 obtain ⟨d,hd⟩:∃d,d+gk=lenS s:=⟨lenS s-gk,by omega⟩
 have hnd:lenS s-gk=d:=by omega
 have hrep:=L.rep
 rw [hnd] at hrep ⊢
 have hlt:decide ((d:Int) < (lenS s:Int))=true:=by simp;omega
 rcases hrep with hnl | ⟨g,rfl,hg,hrf⟩
 ·cases hnl
 rw [RepS_node] at hrf
 obtain ⟨⟨v,hcell,hrp⟩,hrest⟩:=hrf
 obtain ⟨⟨wfe,wft,wfa,wfb,wf2⟩,wfk,wfr⟩:=L.wf
 have hszk:szS k+szS r1+1≤szS s:=L.sz
 have hwtk:szE p.e+22+wtS k+wtS r1≤wtS s:=L.wt
 have hgw:g < wr.heap.size:=World.block_lt_of_cell? _ _ hcell
 have OV:=hide (over_any wr D S' n' rv' L.pt)
 by_cases hov:20000 < S'.steps
 ·have hov':decide (20000 < S'.steps)=true:=by simp [hov]
  have FF:=hide (unhide FIN S' n' rv' wr L.pt L.st L.cnt (by rw [←hRES,←L.fold,stP_over hov]))
  rw [hov'] at OV
  clear FIN L hrp hrest
  go_wp2_with fail
  refine (unhide OV).mono ?_
  rintro e w9 ⟨rfl,h9⟩
  obtain rfl:=h9.symm
  go_wp2
  go_end0
  exact unhide FF
 have hov':decide (20000 < S'.steps)=false:=by simp [hov]
 rw [hov'] at OV
 have hs2:S'.steps≤20000:=by omega
 have hs0:=L.ok.s0
 have hcnt:=L.cnt
 have ht1:=L.ok.t1
 have ok1:POk D (stepP S'):=L.ok.step
 have e1s:(stepP S').steps=S'.steps+1:=rfl
 have e1t:(stepP S').touched=S'.touched:=rfl
 have NX:Hid (∀(w3:World) (T:PSt) (n3:Nat) (rv3:Value),PtAt w3 D T n3 rv3→PStep D rv' wr w3 rv3→(∀r,stP D (.node b1 o1 p k r) S'=stP D r T)→(n3:Int)≤T.steps+2→∃rest S'' n'' rv'',Value.int .i64 ((d:Int)+1) = .int .i64 ((lenS s-lenS r1:Nat):Int)∧SLoop D S rv Q s (some ⟨g,0,none⟩) w (lenS r1) rest S'' n'' rv'' w3):=fun w3 T n3 rv3 h3 k3 eT hn3=>by
  obtain ⟨okT,ubT⟩:=first_grow (T:=T) L.wf L.ok (eT .nil)
  have hw1:(wtS (.node b1 o1 p k .nil):Int)=szE p.e+22+wtS k:=by simp [wtS]
  refine ⟨r1,T,n3,rv3,by congr 1;omega,by omega,rfl,by omega,by omega,wfr,h3,L.st.trans k3,(eT r1).symm.trans L.fold,okT,hn3,by omega,.inr ⟨g,rfl,hg,?_⟩⟩
  rw [show lenS s-lenS r1=d+1 by omega]
  exact RepS.later (k3.stay L.pt hQ) (fun j hj _=>hj) r1 g (d+1) hg hrest
 have STP:=hide (step_any wr D S' n' rv' L.pt hs0 (by omega))
 have STY:Hid (∀w3,PStep D rv' wr w3 rv'→Stay Q wr w3):=fun w3 k3=>k3.stay L.pt hQ
 have hgB:=hQ g hg
 have hrv0:∀j,rv'.ownBlock=some j→D.B≤j:=fun j e=>(L.pt.rowR.lt j e).1
 have hP0:=L.pt
 clear L hrest FIN
 go_wp2_with fail
 refine (unhide OV).mono ?_
 rintro e w9 ⟨rfl,h9⟩
 obtain rfl:=h9.symm
 go_wp2_with fail
 refine (unhide STP).mono ?_
 rintro e w3 ⟨rfl,h3,k3⟩
 have sty:=unhide STY w3 k3
 obtain ⟨fnb,fnr⟩:=h3.fresh
 have hz3:=k3.size
 clear OV STP STY hcell
 rcases hrp with ⟨ht0,x,k1,sv,hhead,rfl,hkx⟩ | ⟨ht0,x,k1,sv,a1,b2,hhead,rfl,hkx,hkids⟩ | ⟨ht0,a1,rfl,hkids⟩ | ⟨ht0,x,k1,sv,hhead,rfl,hkx⟩
 ·obtain ⟨so1,sc1,rfl⟩:=RepK.form hkx
  have hve:RepV wr Q (exV x (.slice so1 (lenE k1) sc1)) p.e:=by obtain ⟨b,o,r,he⟩:=hhead;exact ⟨b,o,x,k1,r,_,he,rfl,hkx⟩
  unfold asgV
  have ta0:=ta_Assign_Assign
  obtain ⟨w4,hw4⟩:∃w4,w3.alloc (.cells #[.int .i64 (kP p.t),.int .i64 p.t.place,.string (wP p.t),.int .i32 (nP p.t),.int .i32 (sP p.t),.int .i64 (kP x),.int .i64 x.place,.string (wP x),.int .i32 (nP x),.int .i32 (sP x),.slice so1 (lenE k1) sc1] 121)=w4:=⟨_,rfl⟩
  have s4:w4.heap[w3.heap.size]?=some (.cells #[.int .i64 (kP p.t),.int .i64 p.t.place,.string (wP p.t),.int .i32 (nP p.t),.int .i32 (sP p.t),.int .i64 (kP x),.int .i64 x.place,.string (wP x),.int .i32 (nP x),.int .i32 (sP x),.slice so1 (lenE k1) sc1] 121 (0,0)):=by rw [←hw4];exact heap_alloc_new w3 _
  have h4:PtAt w4 D (stepP S') n' rv':=by rw [←hw4];exact h3.later (fun j hj=>Below.heap_alloc w3 _ j hj)
  have k4:PStep D rv' w3 w4 rv':=by rw [←hw4];exact PStep.alloc D rv' w3 _
  have z4:w4.heap.size=w3.heap.size+1:=by rw [←hw4];simp
  have v4:RepV w4.drew Q (exV x (.slice so1 (lenE k1) sc1)) p.e:=RepV.later (w':=w4.drew) (fun j hj hl=>(((k4.stay h3 hQ) j hj (by omega)).trans (sty j hj hl))) (fun j hj _=>hj) hve
  obtain ⟨q,hq1,hq2,evs⟩:=ev1_some D hve (stepP S')
  have val:=value_all 100000 (Nat.le_refl _) p.e w4.drew D (stepP S') n' rv' Q _ (by omega) h4.drew v4 wfe hQ hD ok1.vals ok1.s0 (by omega) ok1.t0 (by omega)
  have in1:=ev1_in D wfe ok1.vals
  have eT:∀r,stP D (.node b1 o1 p k r) S'=stP D r (setV (ev1 D p.e (stepP S')).2 (wP p.t) (ev1 D p.e (stepP S')).1):=fun r=>stP_0 (show ¬ 20000 < S'.steps by omega) ht0
  obtain ⟨r0,hr0⟩:∃r0,ev1 D p.e (stepP S')=r0:=⟨_,rfl⟩
  obtain ⟨vv,S5⟩:=r0
  rw [hr0] at val evs in1 eT
  have st5:S5.steps=S'.steps+1+q:=evs.steps
  have AFT:Hid (∀w5 rv5,PtAt w5 D S5 n' rv5→PStep D rv' w4.drew w5 rv5→(w5.cell? ⟨D.pb,7,none⟩=some (.map (some D.mb))∧w5.heap[w3.heap.size]?=some (.cells #[.int .i64 (kP p.t),.int .i64 p.t.place,.string (wP p.t),.int .i32 (nP p.t),.int .i32 (sP p.t),.int .i64 (kP x),.int .i64 x.place,.string (wP x),.int .i32 (nP x),.int .i32 (sP x),.slice so1 (lenE k1) sc1] 121 (0,0)))∧∃w9,(Instr.mapUpdate 80 (.map (some D.mb)) (.string (wP p.t)) (.int .i32 vv)).run Tryz.prog w5 = .ok () w9∧(w9.cell? ⟨D.pb,7,none⟩=some (.map (some D.mb))∧w9.heap[w3.heap.size]?=some (.cells #[.int .i64 (kP p.t),.int .i64 p.t.place,.string (wP p.t),.int .i32 (nP p.t),.int .i32 (sP p.t),.int .i64 (kP x),.int .i64 x.place,.string (wP x),.int .i32 (nP x),.int .i32 (sP x),.slice so1 (lenE k1) sc1] 121 (0,0)))∧Hid (∃rest S'' n'' rv'',Value.int .i64 ((d:Int)+1) = .int .i64 ((lenS s-lenS r1:Nat):Int)∧SLoop D S rv Q s (some ⟨g,0,none⟩) w (lenS r1) rest S'' n'' rv'' w9)):=fun w5 rv5 h5 k5=>by
   have pc:∀ {w':World} {T:PSt} {nn:Nat} {rr:Value},PtAt w' D T nn rr→w'.cell? ⟨D.pb,7,none⟩=some (.map (some D.mb)):=fun hh=>by
    have hb:=hh.blk
    unfold ptO at hb
    exact (bk13 hb).1.2.2.2.2.2.2.2.1
   have b5:=(k5.block w3.heap.size (by show _ < w4.heap.size;omega) fnb fnr).trans s4
   obtain ⟨w9,hrun,h9,k9⟩:=h5.store wft.1 in1 (by omega)
   have fn5:rv5.ownBlock≠some w3.heap.size:=by
    rcases k5.tr with e | ⟨j,e,hj⟩
    ·rw [e];exact fnr
    ·rw [e];intro e2;cases e2
     have hj':w4.heap.size≤w3.heap.size:=hj
     omega
   have b9:=(k9.block w3.heap.size (by have:=k5.size;have:w4.drew.heap.size=w4.heap.size:=rfl;omega) fnb fn5).trans b5
   refine ⟨⟨pc h5,b5⟩,w9,hrun,⟨pc h9,b9⟩,?_⟩
   exact unhide NX w9 _ (n'+1) rv5 h9 ((((k3.trans k4).trans (PStep.drew D rv' w4)).trans k5).trans k9) eT (by show ((n'+1:Nat):Int)≤S5.steps+2;omega)
  have VAL:=hide val
  obtain ⟨d0,d1,d2,d3,d4,d5,d6,d7,d8,d9,d10⟩:=(bk11 s4).1
  have hb4:=h4.blk
  unfold ptO at hb4
  obtain ⟨⟨y0,y1,y2,y3,y4,y5,y6,y7,y8,y9,y10,y11,y12⟩,_⟩:=bk13 hb4
  clear val hkx hhead hve v4 s4 h4 k4 h3 k3 sty NX eT in1 evs hr0 ih hQ hD ok1 hb4 y0 y1 y2 y3 y4 y5 y6 y8 y9 y10 y11 y12 hP0 hrv0 wfe wft wfa wfb wf2 wfk wfr
  unfold exV at VAL
  go_wp2
  clear hw4
  go_region_held3 (fun w'=>w'.cell? ⟨D.pb,7,none⟩=some (.map (some D.mb))∧w'.cell? ⟨w3.heap.size,2,none⟩=some (.string (wP p.t))∧w'.cell? ⟨w3.heap.size,5,none⟩=some (.int .i64 (kP x))∧w'.cell? ⟨w3.heap.size,6,none⟩=some (.int .i64 x.place)∧w'.cell? ⟨w3.heap.size,7,none⟩=some (.string (wP x))∧w'.cell? ⟨w3.heap.size,8,none⟩=some (.int .i32 (nP x))∧w'.cell? ⟨w3.heap.size,9,none⟩=some (.int .i32 (sP x))∧w'.cell? ⟨w3.heap.size,10,none⟩=some (.slice so1 (lenE k1) sc1)) (go_keep)
   (first
    | (go_at_call 63;refine (unhide VAL).mono ?_;rintro e w5 ⟨rfl,rv5,h5,k5⟩;have fx:=unhide AFT w5 rv5 h5 k5;clear h5 k5;obtain ⟨⟨f5,g5⟩,w9,hrun,⟨f9,g9⟩,fin⟩:=fx;have m5:=(bk11 g5).1;have m9:=(bk11 g9).1))
  all_goals go_wp2
  all_goals go_roundg (lenS r1)
  all_goals first
   | exact unhide fin
   | omega
 ·obtain ⟨so1,sc1,rfl⟩:=RepK.form hkx
  have hve:RepV wr Q (exV x (.slice so1 (lenE k1) sc1)) p.e:=by obtain ⟨b,o,r,he⟩:=hhead;exact ⟨b,o,x,k1,r,_,he,rfl,hkx⟩
  unfold ifV
  have ta0:=ta_If_Assign
  have ta1:=ta_If_If
  cases k with
  | nil=>exact hkids.elim
  | node b3 o3 p3 s1' u1'=>
  obtain ⟨ao1,ac1,e1⟩:=RepL.form hkids.1
  obtain ⟨bo1,bc1,e2⟩:=RepL.form hkids.2
  obtain ⟨al1,hal1⟩:∃al1,lenS s1'=al1:=⟨_,rfl⟩
  obtain ⟨bl1,hbl1⟩:∃bl1,lenS u1'=bl1:=⟨_,rfl⟩
  rw [hal1] at e1
  rw [hbl1] at e2
  subst e1
  subst e2
  have hsz2:szS (.node b3 o3 p3 s1' u1')=szS s1'+szS u1'+1:=rfl
  have hwt2:wtS (.node b3 o3 p3 s1' u1')=szE p3.e+22+wtS s1'+wtS u1':=rfl
  obtain ⟨w4,hw4⟩:∃w4,w3.alloc (.cells #[.int .i64 (kP p.t),.int .i64 p.t.place,.string (wP p.t),.int .i32 (nP p.t),.int .i32 (sP p.t),.int .i64 (kP x),.int .i64 x.place,.string (wP x),.int .i32 (nP x),.int .i32 (sP x),.slice so1 (lenE k1) sc1,.slice ao1 al1 ac1,.slice bo1 bl1 bc1] 124)=w4:=⟨_,rfl⟩
  have s4:w4.heap[w3.heap.size]?=some (.cells #[.int .i64 (kP p.t),.int .i64 p.t.place,.string (wP p.t),.int .i32 (nP p.t),.int .i32 (sP p.t),.int .i64 (kP x),.int .i64 x.place,.string (wP x),.int .i32 (nP x),.int .i32 (sP x),.slice so1 (lenE k1) sc1,.slice ao1 al1 ac1,.slice bo1 bl1 bc1] 124 (0,0)):=by rw [←hw4];exact heap_alloc_new w3 _
  have h4:PtAt w4 D (stepP S') n' rv':=by rw [←hw4];exact h3.later (fun j hj=>Below.heap_alloc w3 _ j hj)
  have k4:PStep D rv' w3 w4 rv':=by rw [←hw4];exact PStep.alloc D rv' w3 _
  have st4:Stay Q wr w4:=fun j hj hl=>((k4.stay h3 hQ) j hj (by omega)).trans (sty j hj hl)
  have eT:∀r,stP D (.node b1 o1 p (.node b3 o3 p3 s1' u1') r) S'=stP D r (if (ev1 D p.e (stepP S')).1≠0 then stP D s1' (ev1 D p.e (stepP S')).2 else stP D u1' (ev1 D p.e (stepP S')).2):=fun r=>stP_1 (show ¬ 20000 < S'.steps by omega) ht0
  have CH:Hid (Calls Tryz.prog 64 #[.pointer (some ⟨D.pb,0,none⟩),.agg #[.int .i64 (kP p.t),.int .i64 p.t.place,.string (wP p.t),.int .i32 (nP p.t),.int .i32 (sP p.t),.int .i64 (kP x),.int .i64 x.place,.string (wP x),.int .i32 (nP x),.int .i32 (sP x),.slice so1 (lenE k1) sc1,.slice ao1 al1 ac1,.slice bo1 bl1 bc1]] w4 (fun e w5=>e = .returned (.tuple #[])∧Hid (∃rest S'' n'' rv'',Value.int .i64 ((d:Int)+1) = .int .i64 ((lenS s-lenS r1:Nat):Int)∧SLoop D S rv Q s (some ⟨g,0,none⟩) w (lenS r1) rest S'' n'' rv'' w5))):=by
   refine (choose_any ih w4 D (stepP S') n' rv' Q p.t x so1 ao1 bo1 (lenE k1) sc1 al1 ac1 bl1 bc1 p.e s1' u1' hD h4 (RepV.later st4 (fun j hj _=>hj) hve) (RepL.later st4 (fun j hj _=>hj) hkids.1) (RepL.later st4 (fun j hj _=>hj) hkids.2) wfe wfk.2.1 wfk.2.2 hQ ok1 (by omega) (by omega) (by omega) (by omega) (by omega) (by omega) (by omega)).mono ?_
   rintro e w5 ⟨rfl,n5,rv5,p5,k5,hn5⟩
   exact ⟨rfl,unhide NX w5 _ n5 rv5 p5 ((k3.trans k4).trans k5) eT hn5⟩
  obtain ⟨d0,d1,d2,d3,d4,d5,d6,d7,d8,d9,d10,d11,d12⟩:=(bk13 s4).1
  clear hkx hhead hve st4 h4 k4 h3 k3 sty NX eT ih hQ hD ok1 hP0 hrv0 wfe wft wfa wfb wf2 wfk wfr hkids hal1 hbl1 s4
  go_wp2_with fail
  clear hw4
  refine (unhide CH).mono ?_
  rintro e w5 ⟨rfl,fin⟩
  clear CH d0 d1 d2 d3 d4 d5 d6 d7 d8 d9 d10 d11 d12
  go_wp2
  go_roundg (lenS r1)
  case rel=>exact unhide fin
  case measure=>omega
 ·unfold forV
  have ta0:=ta_For_Assign
  have ta1:=ta_For_If
  have ta2:=ta_For_For
  obtain ⟨ao1,ac1,e1⟩:=RepL.form hkids
  obtain ⟨al1,hal1⟩:∃al1,lenS k=al1:=⟨_,rfl⟩
  rw [hal1] at e1
  subst e1
  obtain ⟨w4,hw4⟩:∃w4,w3.alloc (.cells #[.int .i64 (kP p.t),.int .i64 p.t.place,.string (wP p.t),.int .i32 (nP p.t),.int .i32 (sP p.t),.int .i64 (kP p.a),.int .i64 p.a.place,.string (wP p.a),.int .i32 (nP p.a),.int .i32 (sP p.a),.int .i64 (kP p.b),.int .i64 p.b.place,.string (wP p.b),.int .i32 (nP p.b),.int .i32 (sP p.b),.slice ao1 al1 ac1] 127)=w4:=⟨_,rfl⟩
  have s4:w4.heap[w3.heap.size]?=some (.cells #[.int .i64 (kP p.t),.int .i64 p.t.place,.string (wP p.t),.int .i32 (nP p.t),.int .i32 (sP p.t),.int .i64 (kP p.a),.int .i64 p.a.place,.string (wP p.a),.int .i32 (nP p.a),.int .i32 (sP p.a),.int .i64 (kP p.b),.int .i64 p.b.place,.string (wP p.b),.int .i32 (nP p.b),.int .i32 (sP p.b),.slice ao1 al1 ac1] 127 (0,0)):=by rw [←hw4];exact heap_alloc_new w3 _
  have h4:PtAt w4 D (stepP S') n' rv':=by rw [←hw4];exact h3.later (fun j hj=>Below.heap_alloc w3 _ j hj)
  have k4:PStep D rv' w3 w4 rv':=by rw [←hw4];exact PStep.alloc D rv' w3 _
  have st4:Stay Q wr w4:=fun j hj hl=>((k4.stay h3 hQ) j hj (by omega)).trans (sty j hj hl)
  have eT:∀r,stP D (.node b1 o1 p k r) S'=stP D r (roundsP (stP D k) (wP p.t) (nP p.b-nP p.a+1).toNat (nP p.a) (stepP S')):=fun r=>stP_2 (show ¬ 20000 < S'.steps by omega) ht0
  have CH:Hid (Calls Tryz.prog 65 #[.pointer (some ⟨D.pb,0,none⟩),.agg #[.int .i64 (kP p.t),.int .i64 p.t.place,.string (wP p.t),.int .i32 (nP p.t),.int .i32 (sP p.t),.int .i64 (kP p.a),.int .i64 p.a.place,.string (wP p.a),.int .i32 (nP p.a),.int .i32 (sP p.a),.int .i64 (kP p.b),.int .i64 p.b.place,.string (wP p.b),.int .i32 (nP p.b),.int .i32 (sP p.b),.slice ao1 al1 ac1]] w4 (fun e w5=>e = .returned (.tuple #[])∧Hid (∃rest S'' n'' rv'',Value.int .i64 ((d:Int)+1) = .int .i64 ((lenS s-lenS r1:Nat):Int)∧SLoop D S rv Q s (some ⟨g,0,none⟩) w (lenS r1) rest S'' n'' rv'' w5))):=by
   refine (rounds_any ih w4 D (stepP S') n' rv' Q p.t p.a p.b ao1 al1 ac1 k hD h4 (RepL.later st4 (fun j hj _=>hj) hkids) wfk wft wfa (wf2 ht0) hQ ok1 (by omega) (by omega) (by omega) (by omega)).mono ?_
   rintro e w5 ⟨rfl,n5,rv5,p5,k5,hn5⟩
   exact ⟨rfl,unhide NX w5 _ n5 rv5 p5 ((k3.trans k4).trans k5) eT hn5⟩
  obtain ⟨d0,d1,d2,d3,d4,d5,d6,d7,d8,d9,d10,d11,d12,d13,d14,d15⟩:=(bk16 s4).1
  clear st4 h4 k4 h3 k3 sty NX eT ih hQ hD ok1 hP0 hrv0 wfe wft wfa wfb wf2 wfk wfr hkids hal1 s4
  go_wp2_with fail
  clear hw4
  refine (unhide CH).mono ?_
  rintro e w5 ⟨rfl,fin⟩
  clear CH d0 d1 d2 d3 d4 d5 d6 d7 d8 d9 d10 d11 d12 d13 d14 d15
  go_wp2
  go_roundg (lenS r1)
  case rel=>exact unhide fin
  case measure=>omega
 ·obtain ⟨so1,sc1,rfl⟩:=RepK.form hkx
  have hve:RepV wr Q (exV x (.slice so1 (lenE k1) sc1)) p.e:=by obtain ⟨b,o,r,he⟩:=hhead;exact ⟨b,o,x,k1,r,_,he,rfl,hkx⟩
  unfold putV
  have ta0:=ta_Put_Assign
  have ta1:=ta_Put_If
  have ta2:=ta_Put_For
  have ta3:=ta_Put_Put
  obtain ⟨w4,hw4⟩:∃w4,w3.alloc (.cells #[.int .i64 (kP p.t),.int .i64 p.t.place,.string (wP p.t),.int .i32 (nP p.t),.int .i32 (sP p.t),.int .i64 (kP x),.int .i64 x.place,.string (wP x),.int .i32 (nP x),.int .i32 (sP x),.slice so1 (lenE k1) sc1] 130)=w4:=⟨_,rfl⟩
  have s4:w4.heap[w3.heap.size]?=some (.cells #[.int .i64 (kP p.t),.int .i64 p.t.place,.string (wP p.t),.int .i32 (nP p.t),.int .i32 (sP p.t),.int .i64 (kP x),.int .i64 x.place,.string (wP x),.int .i32 (nP x),.int .i32 (sP x),.slice so1 (lenE k1) sc1] 130 (0,0)):=by rw [←hw4];exact heap_alloc_new w3 _
  have h4:PtAt w4 D (stepP S') n' rv':=by rw [←hw4];exact h3.later (fun j hj=>Below.heap_alloc w3 _ j hj)
  have k4:PStep D rv' w3 w4 rv':=by rw [←hw4];exact PStep.alloc D rv' w3 _
  have st4:Stay Q wr w4:=fun j hj hl=>((k4.stay h3 hQ) j hj (by omega)).trans (sty j hj hl)
  have eT:∀r,stP D (.node b1 o1 p k r) S'=stP D r (putP D (ev1 D p.e (stepP S')).2 (decide (wP p.t=sOUT)) (ev1 D p.e (stepP S')).1):=fun r=>stP_3 (show ¬ 20000 < S'.steps by omega) ht0
  obtain ⟨q,hq1,hq2,evs⟩:=ev1_some D hve (stepP S')
  have st5:=evs.steps
  have tt5:=evs.t2
  have pst:=((ok1.ev evs).put (by omega) (decide (wP p.t=sOUT)) (ev1 D p.e (stepP S')).1).2
  have CH:Hid (Calls Tryz.prog 66 #[.pointer (some ⟨D.pb,0,none⟩),.agg #[.int .i64 (kP p.t),.int .i64 p.t.place,.string (wP p.t),.int .i32 (nP p.t),.int .i32 (sP p.t),.int .i64 (kP x),.int .i64 x.place,.string (wP x),.int .i32 (nP x),.int .i32 (sP x),.slice so1 (lenE k1) sc1]] w4 (fun e w5=>e = .returned (.tuple #[])∧Hid (∃rest S'' n'' rv'',Value.int .i64 ((d:Int)+1) = .int .i64 ((lenS s-lenS r1:Nat):Int)∧SLoop D S rv Q s (some ⟨g,0,none⟩) w (lenS r1) rest S'' n'' rv'' w5))):=by
   refine (put_anyP w4 D (stepP S') n' rv' Q p.t x so1 (lenE k1) sc1 p.e hD h4 (RepV.later st4 (fun j hj _=>hj) hve) wfe hQ ok1 (by omega) (by omega)).mono ?_
   rintro e w5 ⟨rfl,rv5,p5,k5⟩
   exact ⟨rfl,unhide NX w5 _ n' rv5 p5 ((k3.trans k4).trans k5) eT (by rw [pst];omega)⟩
  obtain ⟨d0,d1,d2,d3,d4,d5,d6,d7,d8,d9,d10⟩:=(bk11 s4).1
  clear hkx hhead hve st4 h4 k4 h3 k3 sty NX eT ih hQ hD ok1 hP0 hrv0 wfe wft wfa wfb wf2 wfk wfr s4 evs st5 tt5 pst
  go_wp2_with fail
  clear hw4
  refine (unhide CH).mono ?_
  rintro e w5 ⟨rfl,fin⟩
  clear CH d0 d1 d2 d3 d4 d5 d6 d7 d8 d9 d10
  go_wp2
  go_roundg (lenS r1)
  case rel=>exact unhide fin
  case measure=>omega
theorem pstm_all:∀m,m≤100000→PStOK m
 | 0,_=>fun s w D S n rv Q v hsz=>by omega
 | m+1,hm=>pstm_step (by omega) (pstm_all m (by omega))
def nmX:ByteArray:=⟨#[120]⟩
def nmY:ByteArray:=⟨#[121]⟩
def beginP (S:PSt) (x y:Int):PSt:={ S with cx:=x,cy:=y,vals:=updR (updR (fun _=>0) nmX x) nmY y }
theorem PtAt.cleared {w:World} {D:PD} {S:PSt} {n:Nat} {rv:Value} (h:PtAt w D S n rv) (ty:TypeId):∃w9,(Builtin.clear_ #[80] ty #[.map (some D.mb)]).run Tryz.prog w = .ok (.tuple #[]) w9∧PtAt w9 D { S with vals:=fun _=>0 } 0 rv∧PStep D rv w w9 rv:=by
 obtain ⟨w9,hrun,hmap,ht⟩:=h.map.clear Tryz.underlying80 ty
 have hg:=ht.grown
 have oth:∀k,k < w.heap.size→k≠D.mb→w9.heap[k]?=w.heap[k]?:=fun k hk hne=>hg.block k hk (fun e=>hne (by cases e;rfl))
 obtain ⟨n1,n2,n3,n4,n5,n6⟩:=h.ne
 have hB:D.B≤D.mb:=h.base _ (.inr (.inl rfl))
 have hlm:=h.ltM
 refine ⟨w9,hrun,⟨(oth _ h.ltP n1).trans h.blk,hmap,(oth _ h.ltO (Ne.symm n4)).trans h.rowO,(oth _ h.ltH (Ne.symm n5)).trans h.rowH,own_sameP h.rowR (fun k e=>oth k (h.rowR.lt k e).2 (fun e2=>h.away k e (.inr (.inl e2)))),h.ne,h.base,h.away,h.tex1.sameP (fun k hk=>oth k (by omega) (by omega)),h.tex2.sameP (fun k hk=>oth k (by omega) (by omega))⟩,⟨hg.size,fun k hk ho _=>oth k hk (fun e=>ho (.inr (.inl e))),Same.grown hg,.inl rfl⟩⟩
set_option maxHeartbeats 4000000 in
theorem begin_any (w:World) (D:PD) (S:PSt) (n:Nat) (rv:Value) (x y:Int) (h:PtAt w D S n rv) (hx:0≤x∧x≤100) (hy:0≤y∧y≤100) :
  Calls Tryz.prog 37 #[.pointer (some ⟨D.pb,0,none⟩),.agg #[.int .i64 x,.int .i64 y]] w fun e w'=>e = .returned (.tuple #[])∧PtAt w' D (beginP S x y) 2 rv∧PStep D rv w w' rv:=by
 obtain ⟨w1,hw1⟩:∃w1,w.alloc (.cells #[.int .i64 x,.int .i64 y] 77)=w1:=⟨_,rfl⟩
 have h1:PtAt w1 D S n rv:=by rw [←hw1];exact h.later (fun k hk=>Below.heap_alloc w _ k hk)
 have k1:PStep D rv w w1 rv:=by rw [←hw1];exact PStep.alloc D rv w _
 have s1:w1.heap[w.heap.size]?=some (.cells #[.int .i64 x,.int .i64 y] 77 (0,0)):=by rw [←hw1];exact heap_alloc_new w _
 have z1:w1.heap.size=w.heap.size+1:=by rw [←hw1];simp
 have fnb:¬ D.own w.heap.size:=by
  rintro (o | o | o | o)
  ·have:=h.ltP;omega
  ·have:=h.ltM;omega
  ·have:=h.ltO;omega
  ·have:=h.ltH;omega
 have fnr:rv.ownBlock≠some w.heap.size:=fun e=>by have:=(h.rowR.lt _ e).2;omega
 have hltp:=h.ltP
 obtain ⟨hx0,hx1⟩:=hx
 obtain ⟨hy0,hy1⟩:=hy
 obtain ⟨w2,hw2⟩:∃w2,(w1.setCell ⟨D.pb,5,none⟩ (.int .i64 x)).setCell ⟨D.pb,6,none⟩ (.int .i64 y)=w2:=⟨_,rfl⟩
 have h2:PtAt w2 D { S with cx:=x,cy:=y } n rv:=by
  rw [←hw2]
  have a:=h1.turn (S':={ S with cx:=x }) rfl rfl rfl rfl (heap_setCell_same _ D.pb 5 _ _ (.int .i64 x) h1.blk) (fun k hk=>Below.heap_setCell _ _ _ _ hk)
  exact a.turn (S':={ S with cx:=x,cy:=y }) rfl rfl rfl rfl (heap_setCell_same _ D.pb 6 _ _ (.int .i64 y) a.blk) (fun k hk=>Below.heap_setCell _ _ _ _ hk)
 have k2:PStep D rv w1 w2 rv:=by rw [←hw2];exact ((PStep.refl D rv w1).set (.inl rfl) _).set (.inl rfl) _
 obtain ⟨w3,run3,h3,k3⟩:=h2.cleared 0
 obtain ⟨w4,run4,h4,k4⟩:=h3.drew.store (s:=nmX) (by decide) (c:=x) ⟨by omega,by omega⟩ (by omega)
 obtain ⟨w5,run5,h5,k5⟩:=h4.drew.store (s:=nmY) (by decide) (c:=y) ⟨by omega,by omega⟩ (by omega)
 have k13:=k2.trans k3
 have k14:=(k13.trans (PStep.drew D rv w3)).trans k4
 have b3:=(k13.block _ (by omega) fnb fnr).trans s1
 have b4:=(k14.block _ (by omega) fnb fnr).trans s1
 have pc:∀ {w':World} {T:PSt} {nn:Nat} {rr:Value},PtAt w' D T nn rr→w'.cell? ⟨D.pb,7,none⟩=some (.map (some D.mb)):=fun hh=>by
  have hb:=hh.blk
  unfold ptO at hb
  exact (bk13 hb).1.2.2.2.2.2.2.2.1
 have p2:=pc h2
 have p3:=pc h3
 have p4:=pc h4
 have FIN:Hid (PtAt w5 D (beginP S x y) 2 rv∧PStep D rv w w5 rv):=⟨h5,k1.trans ((k14.trans (PStep.drew D rv w4)).trans k5)⟩
 have hb1:=h1.blk
 unfold ptO at hb1
 obtain ⟨⟨x0,x1,x2,x3,x4,x5,x6,x7,x8,x9,x10,x11,x12⟩,⟨y0,y1,y2,y3,y4,y5,y6,y7,y8,y9,y10,y11,y12⟩⟩:=bk13 hb1
 obtain ⟨⟨q0,q1⟩,_⟩:=bkp2 s1
 obtain ⟨⟨r0,r1⟩,_⟩:=bkp2 b3
 obtain ⟨⟨t0,t1⟩,_⟩:=bkp2 b4
 have hne:¬ D.pb=w.heap.size:=by omega
 have ex:wrap32 x=x:=by unfold wrap32;omega
 have ey:wrap32 y=y:=by unfold wrap32;omega
 unfold nmX at run4
 unfold nmY at run5
 clear h h1 h2 h3 h4 h5 k1 k2 k3 k4 k5 k13 k14 b3 b4 s1 hb1 pc x0 x1 x2 x3 x4 x8 x9 x10 x11 x12 y0 y1 y2 y3 y4 y7 y8 y9 y10 y11 y12
 go_enter Tryz.func37,Tryz.ntmps37
 go_wp2
 go_region
 go_wp2
 go_region
 go_end0
 exact ⟨rfl,(unhide FIN).1,(unhide FIN).2⟩
end Go.Proofs.YthmmgiaobakilaaGreat
