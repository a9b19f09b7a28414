import Derived.Test.YthmmgiaobakilaaGreatK12
import Derived.Test.YthmmgiaobakilaaGreatK14
import Derived.Deep.LoopGhost
set_option maxRecDepth 100000
namespace Go.Proofs.YthmmgiaobakilaaGreat
open Go.RowKit Go.Deep
def headP (D:PD) (S:PSt) (t:Tok) (vs:List Int):Int×PSt:=if kP t=3 then (nP t,S) else if kP t=4 then (signV (sP t) vs,S) else wordP D S (wP t) vs
def evE (D:PD):Ex→PSt→List Int×PSt
 | .nil,S=>([],S)
 | .node _ _ t k r,S=>((headP D (stepP (evE D k S).2) t (evE D k S).1).1::(evE D r (headP D (stepP (evE D k S).2) t (evE D k S).1).2).1,(evE D r (headP D (stepP (evE D k S).2) t (evE D k S).1).2).2)
def ev1 (D:PD):Ex→PSt→Int×PSt
 | .nil,S=>(0,S)
 | .node _ _ t k _,S=>headP D (stepP (evE D k S).2) t (evE D k S).1
def WfV:Ex→Prop
 | .nil=>True
 | .node _ _ t k r=>((kP t=4→lenE k=1∨lenE k=2)∧(kP t≠3→kP t≠4→wordN (wP t) (lenE k))∧TokB t)∧WfV k∧WfV r
def OkV (S:PSt):Prop:=∀s,In31 (S.vals s)
theorem touchP_steps (S:PSt) (a b:Int):(touchP S a b).steps=S.steps∧(touchP S a b).vals=S.vals∧(touchP S a b).touched=S.touched+1∧(touchP S a b).opn=S.opn∧(touchP S a b).hid=S.hid∧(touchP S a b).cx=S.cx∧(touchP S a b).cy=S.cy:=by
 unfold touchP;split <;> exact ⟨rfl,rfl,rfl,rfl,rfl,rfl,rfl⟩
structure EvS (S S':PSt) (n:Nat):Prop where
 steps:S'.steps=S.steps+n
 vals:S'.vals=S.vals
 opn:S'.opn=S.opn
 hid:S'.hid=S.hid
 cx:S'.cx=S.cx
 cy:S'.cy=S.cy
 t1:S.touched≤S'.touched
 t2:S'.touched≤S.touched+n
theorem EvS.refl (S:PSt):EvS S S 0:=⟨by simp,rfl,rfl,rfl,rfl,rfl,by omega,by omega⟩
theorem EvS.trans {a b c:PSt} {n m:Nat} (h:EvS a b n) (k:EvS b c m):EvS a c (n+m):=by
 have:=h.steps;have:=k.steps;have:=h.t1;have:=h.t2;have:=k.t1;have:=k.t2
 exact ⟨by omega,k.vals.trans h.vals,k.opn.trans h.opn,k.hid.trans h.hid,k.cx.trans h.cx,k.cy.trans h.cy,by omega,by omega⟩
theorem wordP_ev (D:PD) (S:PSt) (u:ByteArray) (vs:List Int):(wordP D S u vs).2.steps=S.steps∧(wordP D S u vs).2.vals=S.vals∧(wordP D S u vs).2.opn=S.opn∧(wordP D S u vs).2.hid=S.hid∧(wordP D S u vs).2.cx=S.cx∧(wordP D S u vs).2.cy=S.cy∧S.touched≤(wordP D S u vs).2.touched∧(wordP D S u vs).2.touched≤S.touched+1:=by
 have tt:=fun a b=>touchP_steps S a b
 unfold wordP
 repeat' split
 all_goals first
  | exact ⟨rfl,rfl,rfl,rfl,rfl,rfl,Int.le_refl _,by show S.touched≤S.touched+1;omega⟩
  | (obtain ⟨a,b,c,d,e,f,g⟩:=tt _ _;exact ⟨a,b,d,e,f,g,by rw [c];omega,by rw [c];omega⟩)
theorem head_ev (D:PD) (S:PSt) (t:Tok) (vs:List Int):EvS S (headP D (stepP S) t vs).2 1:=by
 unfold headP
 split
 ·exact ⟨rfl,rfl,rfl,rfl,rfl,rfl,Int.le_refl _,by show S.touched≤S.touched+1;omega⟩
 split
 ·exact ⟨rfl,rfl,rfl,rfl,rfl,rfl,Int.le_refl _,by show S.touched≤S.touched+1;omega⟩
 ·obtain ⟨a,b,c,d,e,f,g,h⟩:=wordP_ev D (stepP S) (wP t) vs
  exact ⟨a,b,c,d,e,f,g,h⟩
theorem evE_ev (D:PD):∀(e:Ex) (S:PSt),EvS S (evE D e S).2 (szE e)
 | .nil,S=>EvS.refl S
 | .node _ _ t k r,S=>by
  have h1:=evE_ev D k S
  have h2:=head_ev D (evE D k S).2 t (evE D k S).1
  have h3:=evE_ev D r (headP D (stepP (evE D k S).2) t (evE D k S).1).2
  have:=(h1.trans h2).trans h3
  have e:szE k+1+szE r=szE k+szE r+1:=by omega
  rw [e] at this
  exact this
theorem ev1_ev (D:PD) {b o:Nat} {t:Tok} {k r:Ex} (S:PSt):EvS S (ev1 D (.node b o t k r) S).2 (szE k+1):=(evE_ev D k S).trans (head_ev D _ t _)
theorem evE_len (D:PD):∀(e:Ex) (S:PSt),(evE D e S).1.length=lenE e
 | .nil,_=>rfl
 | .node _ _ t k r,S=>by
  show (_::(evE D r _).1).length=lenE r+1
  rw [List.length_cons,evE_len D r]
theorem getD_in {vs:List Int} (h:∀v∈vs,In31 v) (i:Nat):In31 (vs.getD i 0):=by
 rcases Nat.lt_or_ge i vs.length with hi | hi
 ·rw [List.getD,List.getElem?_eq_getElem hi];exact h _ (List.getElem_mem hi)
 ·rw [List.getD,List.getElem?_eq_none hi];exact ⟨by decide,by decide⟩
theorem in31_max {a b:Int} (h1:In31 a) (h2:In31 b):In31 (max a b):=by unfold In31 at *;omega
theorem in31_min {a b:Int} (h1:In31 a) (h2:In31 b):In31 (min a b):=by unfold In31 at *;omega
theorem head_in (D:PD) {S:PSt} {t:Tok} {vs:List Int} (ht:TokB t) (hS:OkV S) (hv:∀v∈vs,In31 v):In31 (headP D S t vs).1:=by
 unfold headP
 split
 ·have:=ht.2;unfold In31;show _≤nP t∧nP t≤_;omega
 split
 ·exact in31_sign _ _
 ·unfold wordP
  repeat' split
  all_goals first
   | exact in31_wrap _
   | exact getD_in hv _
   | exact in31_min (getD_in hv _) (getD_in hv _)
   | exact in31_max (getD_in hv _) (getD_in hv _)
   | exact hS _
   | (show In31 (if _ then _ else _);split <;> exact getD_in hv _)
theorem OkV.ev {S S':PSt} {n:Nat} (h:OkV S) (k:EvS S S' n):OkV S':=by intro s;rw [k.vals];exact h s
theorem OkV.step {S:PSt} (h:OkV S):OkV (stepP S):=h
theorem evE_in (D:PD):∀(e:Ex) (S:PSt),WfV e→OkV S→∀v∈(evE D e S).1,In31 v
 | .nil,_,_,_=>fun v hv=>by cases hv
 | .node _ _ t k r,S,hw,hS=>by
  obtain ⟨⟨_,_,hb⟩,hk,hr⟩:=hw
  have h1:=evE_in D k S hk hS
  have o1:=hS.ev (evE_ev D k S)
  have o2:=o1.ev (head_ev D (evE D k S).2 t (evE D k S).1)
  have h3:=evE_in D r _ hr o2
  intro v hv
  rcases List.mem_cons.1 hv with rfl | hv
  ·exact head_in D hb o1.step h1
  ·exact h3 v hv
theorem NumsAt.own {w:World} {base:Nat} {v:Value} {vs:List Int} (h:w.ownsRow base 21 1 v vs.length (vs.map (Value.int .i32))):∃ao c,v = .slice ao vs.length c∧NumsAt w ao vs:=by
 rcases h.2 with ⟨h1,h0⟩ | ⟨g,cap,cur,rfl,h1,h2,h3,h4,h6,h5⟩
 ·rw [h0];exact ⟨_,_,h1,.inl (List.length_eq_zero_iff.1 h0)⟩
 ·refine ⟨_,_,rfl,.inr ⟨g,rfl,fun j x hx=>?_⟩⟩
  have e:(cur.toList.take (vs.length*1))[j]?=some (.int .i32 x):=by
   rw [h5,List.getElem?_map,hx];rfl
  rw [List.getElem?_take] at e
  split at e
  ·simp only [World.cell?,h2]
   simpa using e
  ·cases e
theorem info32:(Tryz.prog.info? 21).map (fun i=>(i.zero,i.size,i.bytes))=some (some (.int .i32 0),1,4):=by kernel_rfl
theorem PtAt.later2 {w w':World} {D:PD} {S:PSt} {n:Nat} {rv:Value} (h:PtAt w D S n rv) (hk:∀k,k < w.heap.size→(D.own k∨rv.ownBlock=some k∨k < D.B)→w'.heap[k]?=w.heap[k]?):PtAt w' D S n rv:=by
 have hB:D.B≤D.pb:=h.base _ (.inl rfl)
 have hp:=h.ltP
 refine ⟨(hk _ h.ltP (.inl (.inl rfl))).trans h.blk,h.map.later (hk _ h.ltM (.inl (.inr (.inl rfl)))),(hk _ h.ltO (.inl (.inr (.inr (.inl rfl))))).trans h.rowO,(hk _ h.ltH (.inl (.inr (.inr (.inr rfl))))).trans h.rowH,own_sameP h.rowR (fun k e=>hk k (h.rowR.lt k e).2 (.inr (.inl e))),h.ne,h.base,h.away,?_,?_⟩
 ·exact h.tex1.sameP (fun k hl=>hk k (by omega) (.inr (.inr hl)))
 ·exact h.tex2.sameP (fun k hl=>hk k (by omega) (.inr (.inr hl)))
theorem PStep.low {w w':World} {D:PD} {S:PSt} {n:Nat} {rv rv':Value} (h:PStep D rv w w' rv') (p:PtAt w D S n rv) {k:Nat} (hk:k < D.B):w'.heap[k]?=w.heap[k]?:=by
 have hB:D.B≤D.pb:=p.base _ (.inl rfl)
 have hp:=p.ltP
 exact h.block k (by omega) (fun ho=>by have:=p.base k ho;omega) (fun e=>by have:=(p.rowR.lt k e).1;omega)
def VOK (m:Nat):Prop:=∀(e:Ex) (w:World) (D:PD) (S:PSt) (n:Nat) (rv:Value) (Q:Nat→Prop) (v:Value),szE e≤m→PtAt w D S n rv→RepV w Q v e→WfV e→(∀k,Q k→k < D.B)→D.Ok→OkV S→0≤S.steps→S.steps+szE e≤1000000→0≤S.touched→S.touched+szE e≤1000000 →
 Calls Tryz.prog 63 #[.pointer (some ⟨D.pb,0,none⟩),v] w (PWOut w D n rv (ev1 D e S))
structure VLoop (D:PD) (S:PSt) (n:Nat) (rv:Value) (Q:Nat→Prop) (k:Ex) (ao:Option Addr) (w1:World) (q:Nat) (rest:Ex) (vs:List Int) (S':PSt) (rv':Value) (ov:Value) (wr:World):Prop where
 le:q≤lenE k
 len:lenE rest=q
 lv:vs.length+q=lenE k
 sz:szE rest≤szE k
 wf:WfV rest
 row:wr.ownsRow w1.heap.size 21 1 ov vs.length (vs.map (Value.int .i32))
 pt:PtAt wr D S' n rv'
 ap:∀g,ov.ownBlock=some g→rv'.ownBlock≠some g
 st:PStep D rv w1 wr rv'
 fold:vs++(evE D rest S').1=(evE D k S).1∧(evE D rest S').2=(evE D k S).2
 rep:RepFa wr Q rest ao (lenE k-q)
 t0:0≤S'.touched
 t1:S'.touched+szE rest≤S.touched+szE k
set_option maxHeartbeats 16000000 in
theorem value_step {m:Nat} (hm:m≤100000) (ih:VOK m):VOK (m+1):=by
 intro e w D S n rv Q v hsz h hv hwf hQ hD hS hs0 hs1 ht0 ht1
 obtain ⟨b,o,t,k,r,sv,rfl,rfl,hk⟩:=hv
 obtain ⟨ao,c,rfl,rep⟩:=hk.a
 clear hk
 have hszk:szE k≤m:=by simp [szE] at hsz;omega
 have hs1':S.steps+szE k+1≤1000000:=by simp [szE] at hs1;omega
 have ht1':S.touched+szE k+1≤1000000:=by simp [szE] at ht1;omega
 have hlen:lenE k≤100000:=by have:=lenE_le k;omega
 obtain ⟨⟨wf4,wfw,htb⟩,wfk,_⟩:=hwf
 obtain ⟨w1,hw1⟩:∃w1,w.alloc (.cells #[.int .i64 (kP t),.int .i64 t.place,.string (wP t),.int .i32 (nP t),.int .i32 (sP t),.slice ao (lenE k) c] 119)=w1:=⟨_,rfl⟩
 have s1:w1.heap[w.heap.size]?=some (.cells #[.int .i64 (kP t),.int .i64 t.place,.string (wP t),.int .i32 (nP t),.int .i32 (sP t),.slice ao (lenE k) c] 119 (0,0)):=by rw [←hw1];exact heap_alloc_new w _
 have h1:PtAt w1 D S n rv:=by rw [←hw1];exact h.later (fun k hk=>Below.heap_alloc w _ k hk)
 have k1:PStep D rv w w1 rv:=by rw [←hw1];exact PStep.alloc D rv w _
 have rep1:RepFa w1 Q k ao 0:=by rw [←hw1];exact rep.later (fun j _ hl=>Below.heap_alloc w _ j hl)
 have z1:w1.heap.size=w.heap.size+1:=by rw [←hw1];simp
 have hnb:¬ D.own w.heap.size:=by
  rintro (o | o | o | o)
  ·have:=h.ltP;omega
  ·have:=h.ltM;omega
  ·have:=h.ltO;omega
  ·have:=h.ltH;omega
 have hnr:rv.ownBlock≠some w.heap.size:=fun e=>by have:=(h.rowR.lt _ e).2;omega
 have hB0:D.B≤w.heap.size:=by have:=h.base _ (.inl rfl);have:=h.ltP;omega
 obtain ⟨res,hres⟩:∃res,headP D (stepP (evE D k S).2) t (evE D k S).1=res:=⟨_,rfl⟩
 have behind:∀(wr:World) (vs:List Int) (S':PSt) (rv' ov:Value),VLoop D S n rv Q k ao w1 0 .nil vs S' rv' ov wr→headP D (stepP S') t vs=res∧PStep D rv w wr rv'∧wr.heap[w.heap.size]?=some (.cells #[.int .i64 (kP t),.int .i64 t.place,.string (wP t),.int .i32 (nP t),.int .i32 (sP t),.slice ao (lenE k) c] 119 (0,0))∧0≤S'.steps∧S'.steps+1≤1000000∧S'.touched≤1000000∧0≤S'.touched∧(∀v∈vs,In31 v)∧vs.length=lenE k:=fun wr vs S' rv' ov L=>by
  have f1:vs=(evE D k S).1:=by have:=L.fold.1;simpa [evE] using this
  have f2:S'=(evE D k S).2:=L.fold.2
  have ev:=evE_ev D k S
  have a1:=ev.steps
  have a2:=ev.t1
  have a3:=ev.t2
  rw [f1,f2]
  refine ⟨hres,k1.trans L.st,(L.st.block _ (by omega) hnb hnr).trans s1,by omega,by omega,by omega,by omega,evE_in D k S wfk hS,evE_len D k S⟩
 have BEH:=hide behind
 have HOW:Hid (D.pb < w.heap.size∧D.mb < w.heap.size∧D.ob < w.heap.size∧D.hb < w.heap.size):=⟨h.ltP,h.ltM,h.ltO,h.ltH⟩
 have L0:VLoop D S n rv Q k ao w1 (lenE k) k [] S rv (.slice none 0 0) w1:=⟨Nat.le_refl _,rfl,by simp,Nat.le_refl _,wfk,World.ownsRow_nil w1 w1.heap.size 21 1,h1,(fun g e=>by cases e),PStep.refl _ _ _,⟨by simp,rfl⟩,by rw [Nat.sub_self];exact rep1,ht0,by omega⟩
 have HL0:=hide L0
 clear h rep k1 h1 rep1 L0 behind
 obtain ⟨⟨t0,t1,t2,t3,t4,t5⟩,_⟩:=blk6 s1
 unfold exV
 show Calls _ _ _ _ (PWOut w D n rv (headP D (stepP (evE D k S).2) t (evE D k S).1))
 rw [hres]
 clear hres
 go_enter Tryz.func63,Tryz.ntmps63
 go_wp2
 clear hw1 t0 t1 t2 t3 t4 t5
 go_loopg [5,11] (lenE k) (fun q ov v wr=>∃rest vs S' rv',v = .int .i64 ((lenE k-q:Nat):Int)∧VLoop D S n rv Q k ao w1 q rest vs S' rv' ov wr)
 case atStart=>exact ⟨k,[],S,rv,by rw [Nat.sub_self];rfl,unhide HL0⟩
 case round=>
  clear HL0
  obtain ⟨rest,vs,S',rv',rfl,L⟩:=hrel
  cases rest with
  | nil=>
   have hq0:gk=0:=by rw [←L.len];rfl
   subst hq0
   have hge:decide (((lenE k-0:Nat):Int) < (lenE k:Int))=false:=by simp
   obtain ⟨f1,kst,sbx,b1,b2,b3,b4,b5,b6⟩:=unhide BEH wr vs S' rv' _ L
   obtain ⟨oo,oc,rfl,nums⟩:=NumsAt.own L.row
   have hrv:rv'.ownBlock≠some w.heap.size:=by
    rcases L.st.tr with e | ⟨j,e,hj⟩
    ·rw [e];exact hnr
    ·rw [e];intro e2;cases e2;omega
   have hox:∀g,oo=some ⟨g,0,none⟩→w1.heap.size≤g∧g < wr.heap.size∧rv'.ownBlock≠some g:=fun g e=>by
    subst e
    exact ⟨(L.row.lt g rfl).1,(L.row.lt g rfl).2,L.ap g rfl⟩
   have hpt:=L.pt
   have hlx:=L.pt.ltP
   have hszw:=L.st.size
   have keepN:∀w3,PStep D rv' wr w3 rv'→NumsAt w3 oo vs:=fun w3 k3=>by
    rcases nums with e | ⟨g,rfl,hc⟩
    ·exact .inl e
    ·obtain ⟨g1,g2,g3⟩:=hox g rfl
     refine .inr ⟨g,rfl,fun j x hx=>(World.cell?_of_block (k3.block g g2 ?_ g3)).trans (hc j x hx)⟩
     rintro (o | o | o | o)
     ·have:=hpt.ltP;have:=unhide HOW;omega
     ·have:=unhide HOW;omega
     ·have:=unhide HOW;omega
     ·have:=unhide HOW;omega
   have KN:=hide keepN
   have F1:=hide f1
   clear L keepN nums hox f1
   go_wp2_with fail
   refine (step_any wr D S' n rv' hpt b1 (by omega)).mono ?_
   rintro e w3 ⟨rfl,h3,k3⟩
   have s3:=(k3.block _ (by omega) hnb hrv).trans sbx
   obtain ⟨⟨u0,u1,u2,u3,u4,u5⟩,_⟩:=blk6 s3
   have nm3:=unhide KN w3 k3
   have kk:=kst.trans k3
   have hl3:=(Array.getElem?_eq_some_iff.1 s3).1
   clear KN k3 hpt sbx s3 kst
   by_cases c3:kP t=3
   ·have e3:(kP t==3)=true:=by simp [c3]
    have FIN:Hid (PWOut w D n rv res (.returned (.int .i32 (nP t))) w3):=by
     rw [←unhide F1];unfold headP;rw [if_pos c3];exact ⟨rfl,rv',h3,kk⟩
    clear h3 kk nm3 c3
    go_wp2
    go_ret
    exact unhide FIN
   have e3:(kP t==3)=false:=by simp [c3]
   by_cases c4:kP t=4
   ·have e4:(kP t==4)=true:=by simp [c4]
    have FIN:Hid (∀v w4,v=signV (sP t) vs→Below w3.heap.size w3 w4→PWOut w D n rv res (.returned (.int .i32 v)) w4):=fun v w4 e hb=>by
     rw [←unhide F1];unfold headP;rw [if_neg c3,if_pos c4];subst e;exact ⟨rfl,rv',h3.below hb,kk.trans (PStep.below D rv' hb)⟩
    have wl:=wf4 c4
    rw [←b6] at wl
    clear h3 kk c4 c3
    rcases wl with wl | wl
    ·match vs,wl with
     | [x],_=>
      go_wp2_with fail
      refine (ofSign_1 _ (sP t) x oo oc nm3).mono ?_
      rintro e w4 ⟨rfl,hb4⟩
      go_wp2
      go_ret
      exact unhide FIN _ _ rfl hb4
    ·match vs,wl with
     | [x,y],_=>
      go_wp2_with fail
      refine (ofSign_2 _ (sP t) x y oo oc nm3).mono ?_
      rintro e w4 ⟨rfl,hb4⟩
      go_wp2
      go_ret
      exact unhide FIN _ _ rfl hb4
   have e4:(kP t==4)=false:=by simp [c4]
   have FIN:Hid (∀e w4,PWOut w3 D n rv' (wordP D (stepP S') (wP t) vs) e w4→PWOut w D n rv res e w4):=fun e w4 ho=>by
    obtain ⟨a1,rv4,a2,a3⟩:=ho
    rw [←unhide F1];unfold headP;rw [if_neg c3,if_neg c4];exact ⟨a1,rv4,a2,kk.trans a3⟩
   have wn:=wfw c3 c4
   rw [←b6] at wn
   have ow:=ofWord_any w3 D (stepP S') n rv' (wP t) vs oo oc hD h3 nm3 b5 wn htb.1 b4 b3
   rw [b6] at ow
   have OW:=hide ow
   clear ow
   clear h3 kk c4 c3
   go_wp2_with fail
   refine (unhide OW).mono ?_
   intro e w4 ho
   have ho2:=unhide FIN e w4 ho
   obtain ⟨rfl,_⟩:=ho
   clear FIN OW
   go_wp2
   go_ret
   exact ho2
  | node b1 o1 t1 k1 r1=>
   have hl1:lenE r1+1=gk:=L.len
   have hle:=L.le
   obtain ⟨d,hd⟩:∃d,d+gk=lenE k:=⟨lenE k-gk,by omega⟩
   have hnd:lenE k-gk=d:=by omega
   have hrep:=L.rep
   rw [hnd] at hrep ⊢
   have hlt:decide ((d:Int) < (lenE k:Int))=true:=by simp;omega
   rcases hrep with hn | ⟨g,rfl,hg,hrf⟩
   ·cases hn
   obtain ⟨⟨sv1,hcells,hkids⟩,hrest⟩:=hrf
   obtain ⟨x0,x1,x2,x3,x4,x5⟩:=hcells
   have hv1:RepV wr Q (exV t1 sv1) (.node b1 o1 t1 k1 r1):=⟨b1,o1,t1,k1,r1,sv1,rfl,rfl,hkids⟩
   obtain ⟨so1,sc1,hsv1⟩:=RepK.form hkids
   subst hsv1
   have hsr:=L.sz
   have hsz1:szE (.node b1 o1 t1 k1 r1)≤m:=by omega
   have est:S'.steps+szE (.node b1 o1 t1 k1 r1)=S.steps+szE k:=by
    have a:=(evE_ev D (.node b1 o1 t1 k1 r1) S').steps
    have b:=(evE_ev D k S).steps
    rw [L.fold.2] at a
    omega
   have evl:S'.vals=S.vals:=by
    have a:=(evE_ev D (.node b1 o1 t1 k1 r1) S').vals
    have b:=(evE_ev D k S).vals
    rw [L.fold.2] at a
    exact a.symm.trans b
   have hS':OkV S':=fun x=>by rw [evl];exact hS x
   have lt0:=L.t0
   have lt1:=L.t1
   have lv:=L.lv
   have hszw:=L.st.size
   have hsn:0≤S'.steps:=by
    have a:=(evE_ev D (.node b1 o1 t1 k1 r1) S').steps
    omega
   obtain ⟨oo,oc,rfl,-⟩:=NumsAt.own L.row
   have olt:∀j,(Value.slice oo vs.length oc).ownBlock=some j→w1.heap.size≤j∧j < wr.heap.size:=fun j e=>L.row.lt j e
   obtain ⟨xv,hxv⟩:∃xv,(ev1 D (.node b1 o1 t1 k1 r1) S').1=xv:=⟨_,rfl⟩
   obtain ⟨S3,hS3⟩:∃S3,(ev1 D (.node b1 o1 t1 k1 r1) S').2=S3:=⟨_,rfl⟩
   have evs:EvS S' S3 (szE k1+1):=by rw [←hS3];exact ev1_ev D S'
   have nextF:∀(O1 U:Obj) (w3:World) (rv3:Value) (w5:World) (v':Value),PtAt w3 D S3 n rv3→PStep D rv' (wr.alloc O1) w3 rv3→w5.ownsRow w1.heap.size 21 1 v' (vs.length+1) (vs.map (Value.int .i32)++[.int .i32 xv])→(w3.alloc U).grownBy w5 (Value.slice oo vs.length oc).ownBlock→(v'.ownBlock=(Value.slice oo vs.length oc).ownBlock∨v'.ownBlock=some (w3.heap.size+1)) →
     VLoop D S n rv Q k (some ⟨g,0,none⟩) w1 (lenE r1) r1 (vs++[xv]) S3 rv3 v' w5:=fun O1 U w3 rv3 w5 v' p3 k3 own hg5 hat=>by
    have k3s:=k3.size
    simp only [World.size_alloc] at k3s
    have how:=unhide HOW
    have gs:=hg5.size
    simp only [World.size_alloc] at gs
    have ap3:∀j,(Value.slice oo vs.length oc).ownBlock=some j→rv3.ownBlock≠some j:=fun j e=>by
     rcases k3.tr with e2 | ⟨q,e2,hq⟩
     ·rw [e2];exact L.ap j e
     ·rw [e2];intro e3;cases e3
      have:=(olt _ e).2
      simp at hq
      omega
    have keep:∀j,j < w3.heap.size→(Value.slice oo vs.length oc).ownBlock≠some j→w5.heap[j]?=w3.heap[j]?:=fun j hj hne=>(hg5.block j (by simp;omega) (fun e=>hne e.symm)).trans (Below.heap_alloc w3 U j hj)
    have lowb:∀j,j < D.B→w5.heap[j]?=wr.heap[j]?:=fun j hj=>by
     refine ((keep j (by omega) (fun e=>by have:=(olt j e).1;omega)).trans (k3.block j (by simp;omega) (fun ho=>by have:=L.pt.base j ho;omega) (fun e=>by have:=(L.pt.rowR.lt j e).1;omega))).trans ?_
     exact Below.heap_alloc wr O1 j (by omega)
    have st3:PStep D rv w1 w3 rv3:=(L.st.trans (PStep.alloc D rv' wr O1)).trans k3
    have t1':=evs.t1
    have t2':=evs.t2
    refine ⟨by omega,rfl,by simp;omega,by simp [szE] at hsr;omega,L.wf.2.2,?_,?_,?_,?_,?_,?_,by omega,by simp [szE] at lt1;omega⟩
    ·rw [List.length_append,List.map_append];exact own
    ·refine p3.later2 (fun j hj hc=>keep j hj (fun e=>?_))
     have o1:=olt j e
     rcases hc with ho | hr | hb
     ·rcases ho with o | o | o | o <;> omega
     ·exact ap3 j e hr
     ·omega
    ·intro j e
     rcases hat with e2 | e2
     ·exact ap3 j (by rw [←e2];exact e)
     ·rw [e2] at e;cases e
      intro e3
      have:=(p3.rowR.lt _ e3).2
      omega
    ·refine ⟨by have:=st3.size;omega,fun j hj ho hr=>?_,st3.same.trans (Same.trans (Same.alloc (Same.refl _) U) (Same.grown hg5)),st3.tr⟩
     exact (keep j (by have:=st3.size;omega) (fun e=>by have:=(olt j e).1;omega)).trans (st3.block j hj ho hr)
    ·obtain ⟨f1,f2⟩:=L.fold
     rw [←f1,←f2,←hxv,←hS3,List.append_assoc]
     exact ⟨rfl,rfl⟩
    ·rw [show lenE k-lenE r1=d+1 by omega]
     exact .inr ⟨g,rfl,hg,RepF.later (fun j hj hl=>lowb j (hQ j hj)) (fun j hj _=>hj) r1 g (d+1) hg hrest⟩
   have NX:=hide nextF
   have IH:Hid (∀O1,Calls Tryz.prog 63 #[.pointer (some ⟨D.pb,0,none⟩),exV t1 (.slice so1 (lenE k1) sc1)] (wr.alloc O1) (fun e w'=>e = .returned (.int .i32 xv)∧∃rv3,PtAt w' D S3 n rv3∧PStep D rv' (wr.alloc O1) w' rv3)):=fun O1=>by
    have:=ih (.node b1 o1 t1 k1 r1) (wr.alloc O1) D S' n rv' Q (exV t1 (.slice so1 (lenE k1) sc1)) hsz1 (L.pt.later (fun j hj=>Below.heap_alloc wr O1 j hj)) (RepV.later (fun j _ hl=>Below.heap_alloc wr _ j hl) (fun j hj _=>hj) hv1) L.wf hQ hD hS' hsn (by omega) lt0 (by omega)
    unfold PWOut at this
    rw [hxv,hS3] at this
    exact this
   have OWN:Hid (∀(w3:World) (rv3:Value) (O1:Obj),PStep D rv' (wr.alloc O1) w3 rv3→w3.ownsRow w1.heap.size 21 1 (.slice oo vs.length oc) vs.length (vs.map (Value.int .i32))):=fun w3 rv3 O1 k3=>own_sameP L.row (fun j e=>(k3.block j (by have:=(olt j e).2;simp;omega) (fun ho=>by have:=(olt j e).1;have:=unhide HOW;rcases ho with o | o | o | o <;> omega) (L.ap j e)).trans (Below.heap_alloc wr O1 j (olt j e).2))
   have hgw:g < wr.heap.size:=World.block_lt_of_cell? _ _ x0
   obtain ⟨i0,hi0,hz0,hz1,hz2⟩:=info_parts info32
   have hvl:vs.length≤100000:=by omega
   clear nextF hv1 hrest hkids L est evl hS' hxv hS3 evs lt0 lt1 hsr hsz1 hsn olt hQ hS hD ih hs0 ht0 hs1' ht1' hnr hnb BEH htb wfk wfw wf4 s1 hszk hs1 hsz ht1
   unfold exV at IH
   go_wp2_with fail
   refine (unhide IH _).mono ?_
   rintro e w3 ⟨rfl,rv3,h3,k3⟩
   have own3:=unhide OWN w3 rv3 _ k3
   have NX3:=hide (fun w5 v' a b c=>unhide NX _ (.cells #[.int .i32 xv] 21) w3 rv3 w5 v' h3 k3 a b c)
   have hz3:=k3.size
   simp only [World.size_alloc] at hz3
   clear NX OWN IH k3 h3 x0 x1 x2 x3 x4 x5
   go_wp2_with (at_builtin;refine wpList_append_own_at _ rfl _ _ 164 rfl w1.heap.size 21 i0 (.int .i32 0) 1 4 Tryz.underlying164 hi0 hz0 hz1 hz2 rfl (by decide) _ _ _ rfl (own3.alloc _) ⟨w3.heap.size,0,none⟩ 1 1 [.int .i32 xv] rfl rfl ?c1 ?c2 ?c3 ?c4 ?c5 ?_)
   case c1=>exact cell_newP w3 _ rfl [.int .i32 xv] _
   case c2=>intro u hu;simp at hu;subst hu;rfl
   case c3=>unfold maxLen;omega
   case c4=>omega
   case c5=>simp;omega
   intro v' w5 hr5 hg5 _ hat5
   have fin5:=unhide NX3 w5 v' (by rw [z1];simpa using hr5) hg5 (by simpa using hat5)
   clear NX3 hr5 hg5 hat5 own3
   go_wp2
   go_roundg (lenE r1)
   case rel=>exact ⟨r1,_,_,_,by congr 1;omega,fin5⟩
   case measure=>omega
theorem value_all:∀m,m≤100000→VOK m
 | 0,_=>fun e w D S n rv Q v hsz h hv hwf hQ hD hS hs0 hs1 ht0 ht1=>by
  obtain ⟨b,o,t,k,r,sv,rfl,rfl,hk⟩:=hv
  simp [szE] at hsz
 | m+1,hm=>value_step (by omega) (value_all m (by omega))
end Go.Proofs.YthmmgiaobakilaaGreat
