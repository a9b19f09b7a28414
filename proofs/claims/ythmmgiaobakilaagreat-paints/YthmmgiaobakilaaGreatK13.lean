import Derived.Test.YthmmgiaobakilaaGreatK01
import Derived.Test.YthmmgiaobakilaaGreatK10
import Derived.Test.YthmmgiaobakilaaGreatK11
set_option maxRecDepth 100000
namespace Go.Proofs.YthmmgiaobakilaaGreat
open Go.RowKit Go.Deep
def In31 (x:Int):Prop:=-2147483648≤x∧x≤2147483647
def numV1 (b:Bool):Int:=if b then 1 else 0
def quoV (a b:Int):Int:=if b=0 then 0 else wrap32 (Int.tdiv a b)
def withinV (n c:Int):Int:=min (max n 0) (c-1)
theorem in31_wrap (x:Int):In31 (wrap32 x):=by unfold In31 wrap32;omega
theorem in31_num (b:Bool):In31 (numV1 b):=by unfold In31;cases b <;> decide
theorem in31_quo (a b:Int):In31 (quoV a b):=by
 unfold quoV;split
 ·unfold In31;decide
 ·exact in31_wrap _
theorem within_any (w:World) (n c:Int) (hn:In31 n) (hc:1≤c∧c≤1000):Calls Tryz.prog 135 #[.int .i32 n,.int .i64 c] w fun e w'=>e = .returned (.int .i64 (withinV n c))∧w'=w:=by
 obtain ⟨h1,h2⟩:=hn
 obtain ⟨h3,h4⟩:=hc
 unfold withinV
 go_enter Tryz.func135,Tryz.ntmps135
 go_wp2
 go_ret
 exact ⟨rfl,rfl⟩
theorem number_any (w:World) (b:Bool):Calls Tryz.prog 122 #[.bool b] w fun e w'=>e = .returned (.int .i32 (numV1 b))∧w'=w:=by
 go_enter Tryz.func122,Tryz.ntmps122
 cases b
 ·go_wp2
  go_ret
  exact ⟨rfl,rfl⟩
 ·go_wp2
  go_ret
  exact ⟨rfl,rfl⟩
theorem quotient_any (w:World) (a b:Int):Calls Tryz.prog 121 #[.int .i32 a,.int .i32 b] w fun e w'=>e = .returned (.int .i32 (quoV a b))∧w'=w:=by
 unfold quoV
 by_cases hb:b=0
 ·subst hb
  go_enter Tryz.func121,Tryz.ntmps121
  go_wp2
  go_ret
  exact ⟨rfl,rfl⟩
 ·rw [if_neg hb]
  go_enter Tryz.func121,Tryz.ntmps121
  go_wp2
  go_ret
  exact ⟨rfl,rfl⟩
def NumsAt (w:World) (ao:Option Addr) (vs:List Int):Prop:=vs=[]∨∃g,ao=some ⟨g,0,none⟩∧∀j v,vs[j]?=some v→w.cell? ⟨g,j,none⟩=some (.int .i32 v)
theorem NumsAt.cells {w:World} {ao:Option Addr} {v:Int} {vs:List Int} (h:NumsAt w ao (v::vs)):∃g,ao=some ⟨g,0,none⟩∧∀j x,(v::vs)[j]?=some x→w.cell? ⟨g,j,none⟩=some (.int .i32 x):=by
 rcases h with h | h
 ·cases h
 ·exact h
def opV (r a b:Int):Int:=
 if r=43 then wrap32 (a+b) else
 if r=45 then wrap32 (a-b) else
 if r=215 then wrap32 (a*b) else
 if r=247 then quoV a b else
 if r=61 then numV1 (a==b) else
 if r=8800 then numV1 (a != b) else
 if r=60 then numV1 (decide (a < b)) else numV1 (decide (a≤b))
def signV (r:Int) (vs:List Int):Int:=if vs.length=1 then wrap32 (-(vs.getD 0 0)) else opV r (vs.getD 0 0) (vs.getD 1 0)
theorem in31_op (r a b:Int):In31 (opV r a b):=by
 unfold opV
 repeat' split
 all_goals first | exact in31_wrap _ | exact in31_quo _ _ | exact in31_num _
theorem in31_sign (r:Int) (vs:List Int):In31 (signV r vs):=by
 unfold signV;split
 ·exact in31_wrap _
 ·exact in31_op _ _ _
theorem ofSign_1 (w:World) (r a:Int) (ao:Option Addr) (c:Nat) (h:NumsAt w ao [a]):Calls Tryz.prog 93 #[.int .i32 r,.slice ao 1 c] w fun e w'=>e = .returned (.int .i32 (signV r [a]))∧Below w.heap.size w w':=by
 obtain ⟨g,rfl,hc⟩:=h.cells
 have c0:=hc 0 a rfl
 go_enter Tryz.func93,Tryz.ntmps93
 go_wp2
 go_ret
 exact ⟨rfl,Below.refl _ _⟩
set_option maxHeartbeats 4000000 in
theorem ofSign_2 (w:World) (r a b:Int) (ao:Option Addr) (c:Nat) (h:NumsAt w ao [a,b]):Calls Tryz.prog 93 #[.int .i32 r,.slice ao 2 c] w fun e w'=>e = .returned (.int .i32 (opV r a b))∧Below w.heap.size w w':=by
 obtain ⟨g,rfl,hc⟩:=h.cells
 have c0:=hc 0 a rfl
 have c1:=hc 1 b rfl
 have bd:Below w.heap.size w w.drew:=(Below.refl _ w).drew
 clear h hc
 go_enter Tryz.func93,Tryz.ntmps93
 go_wp2
 go_region
 by_cases h1:r=43
 ·have eo:opV r a b=wrap32 (a+b):=by unfold opV;rw [if_pos h1]
  have e1:(r==43)=true:=by simp [h1]
  go_wp2
  go_ret
  exact ⟨by rw [eo];rfl,bd⟩
 have e1:(r==43)=false:=by simp [h1]
 by_cases h2:r=45
 ·have eo:opV r a b=wrap32 (a-b):=by unfold opV;rw [if_neg h1,if_pos h2]
  have e2:(r==45)=true:=by simp [h2]
  go_wp2
  go_ret
  exact ⟨by rw [eo];rfl,bd⟩
 have e2:(r==45)=false:=by simp [h2]
 by_cases h3:r=215
 ·have eo:opV r a b=wrap32 (a*b):=by unfold opV;rw [if_neg h1,if_neg h2,if_pos h3]
  have e3:(r==215)=true:=by simp [h3]
  go_wp2
  go_ret
  exact ⟨by rw [eo];rfl,bd⟩
 have e3:(r==215)=false:=by simp [h3]
 by_cases h4:r=247
 ·have eo:opV r a b=quoV a b:=by unfold opV;rw [if_neg h1,if_neg h2,if_neg h3,if_pos h4]
  have e4:(r==247)=true:=by simp [h4]
  go_wp2_with fail
  refine (quotient_any _ a b).mono ?_
  rintro e w' ⟨rfl,rfl⟩
  go_wp2
  go_ret
  exact ⟨by rw [eo];rfl,bd⟩
 have e4:(r==247)=false:=by simp [h4]
 by_cases h5:r=61
 ·have eo:opV r a b=numV1 (a==b):=by unfold opV;rw [if_neg h1,if_neg h2,if_neg h3,if_neg h4,if_pos h5]
  have e5:(r==61)=true:=by simp [h5]
  go_wp2_with fail
  refine (number_any _ (a==b)).mono ?_
  rintro e w' ⟨rfl,rfl⟩
  go_wp2
  go_ret
  exact ⟨by rw [eo];rfl,bd⟩
 have e5:(r==61)=false:=by simp [h5]
 by_cases h6:r=8800
 ·have eo:opV r a b=numV1 (a != b):=by unfold opV;rw [if_neg h1,if_neg h2,if_neg h3,if_neg h4,if_neg h5,if_pos h6]
  have e6:(r==8800)=true:=by simp [h6]
  go_wp2_with fail
  refine (number_any _ (a != b)).mono ?_
  rintro e w' ⟨rfl,rfl⟩
  go_wp2
  go_ret
  exact ⟨by rw [eo];rfl,bd⟩
 have e6:(r==8800)=false:=by simp [h6]
 by_cases h7:r=60
 ·have eo:opV r a b=numV1 (decide (a < b)):=by unfold opV;rw [if_neg h1,if_neg h2,if_neg h3,if_neg h4,if_neg h5,if_neg h6,if_pos h7]
  have e7:(r==60)=true:=by simp [h7]
  go_wp2_with fail
  refine (number_any _ (decide (a < b))).mono ?_
  rintro e w' ⟨rfl,rfl⟩
  go_wp2
  go_ret
  exact ⟨by rw [eo];rfl,bd⟩
 have e7:(r==60)=false:=by simp [h7]
 have eo:opV r a b=numV1 (decide (a≤b)):=by unfold opV;rw [if_neg h1,if_neg h2,if_neg h3,if_neg h4,if_neg h5,if_neg h6,if_neg h7]
 go_wp2_with fail
 refine (number_any _ (decide (a≤b))).mono ?_
 rintro e w' ⟨rfl,rfl⟩
 go_wp2
 go_ret
 exact ⟨by rw [eo];rfl,bd⟩
def tchC (t:Int×Int):List Value:=[.int .i64 t.1,.int .i64 t.2]
def tchsC (l:List (Int×Int)):List Value:=l.flatMap tchC
theorem tchsC_snoc (l:List (Int×Int)) (c:Int×Int):tchsC (l++[c])=tchsC l++tchC c:=by simp [tchsC]
theorem tch_one (t:Int×Int):∀u∈tchC t,u.oneCell'=true:=by
 intro u hu
 simp only [tchC,List.mem_cons,List.not_mem_nil,or_false] at hu
 rcases hu with rfl | rfl <;> rfl
theorem infoTch:(Tryz.prog.info? 61).map (fun i=>(i.zero,i.size,i.bytes))=some (some (.agg #[.int .i64 0,.int .i64 0]),2,16):=by kernel_rfl
structure PD where
 pb:Nat
 mb:Nat
 ob:Nat
 hb:Nat
 B:Nat
 sw:Int
 sh:Int
 so:Option Addr
 sd:Option Addr
 c1:Nat
 c2:Nat
 opens:List Int
 hids:List Int
 src:ByteArray
structure PSt where
 cx:Int
 cy:Int
 vals:ByteArray→Int
 steps:Int
 touched:Int
 trace:List (Int×Int)
 opn:List Int
 hid:List Int
def ptO (D:PD) (S:PSt) (rv:Value):Obj:=.cells #[.int .i64 D.sw,.int .i64 D.sh,.slice D.so D.opens.length D.c1,.slice D.sd D.hids.length D.c2,.string D.src,.int .i64 S.cx,.int .i64 S.cy,.map (some D.mb),.slice (some ⟨D.ob,0,none⟩) S.opn.length S.opn.length,.slice (some ⟨D.hb,0,none⟩) S.hid.length S.hid.length,.int .i64 S.steps,.int .i64 S.touched,rv] 82 (0,0)
def picO (l:List Int):Obj:=.cells (l.map (Value.int .i64)).toArray 3 (0,0)
def PD.own (D:PD) (k:Nat):Prop:=k=D.pb∨k=D.mb∨k=D.ob∨k=D.hb
structure PtAt (w:World) (D:PD) (S:PSt) (n:Nat) (rv:Value):Prop where
 blk:w.heap[D.pb]?=some (ptO D S rv)
 map:MapIs 21 .i32 w D.mb n S.vals
 rowO:w.heap[D.ob]?=some (picO S.opn)
 rowH:w.heap[D.hb]?=some (picO S.hid)
 rowR:w.ownsRow D.B 61 2 rv S.trace.length (tchsC S.trace)
 ne:D.pb≠D.mb∧D.pb≠D.ob∧D.pb≠D.hb∧D.mb≠D.ob∧D.mb≠D.hb∧D.ob≠D.hb
 base:∀k,D.own k→D.B≤k
 away:∀k,rv.ownBlock=some k→¬ D.own k
 tex1:IntsAt D.B w D.so D.opens
 tex2:IntsAt D.B w D.sd D.hids
structure PStep (D:PD) (rv:Value) (w w':World) (rv':Value):Prop where
 size:w.heap.size≤w'.heap.size
 block:∀k,k < w.heap.size→¬ D.own k→rv.ownBlock≠some k→w'.heap[k]?=w.heap[k]?
 same:Same w w'
 tr:rv'.ownBlock=rv.ownBlock∨∃k,rv'.ownBlock=some k∧w.heap.size≤k
theorem PStep.refl (D:PD) (rv:Value) (w:World):PStep D rv w w rv:=⟨Nat.le_refl _,fun _ _ _ _=>rfl,Same.refl _,.inl rfl⟩
theorem PStep.trans {D:PD} {r1 r2 r3:Value} {a b c:World} (h1:PStep D r1 a b r2) (h2:PStep D r2 b c r3):PStep D r1 a c r3:=by
 have s1:=h1.size
 have s2:=h2.size
 refine ⟨by omega,fun k hk ho hr=>?_,h1.same.trans h2.same,?_⟩
 ·refine (h2.block k (by omega) ho ?_).trans (h1.block k hk ho hr)
  rcases h1.tr with e | ⟨j,e,hj⟩
  ·rw [e];exact hr
  ·rw [e];intro e2;cases e2;omega
 ·rcases h2.tr with e | ⟨j,e,hj⟩
  ·rw [e];exact h1.tr
  ·exact .inr ⟨j,e,by omega⟩
theorem PStep.alloc (D:PD) (rv:Value) (w:World) (o:Obj):PStep D rv w (w.alloc o) rv:=⟨by simp,fun k hk _ _=>Below.heap_alloc w o k hk,Same.alloc (Same.refl _) o,.inl rfl⟩
theorem PStep.below (D:PD) (rv:Value) {w w':World} (h:Below w.heap.size w w'):PStep D rv w w' rv:=⟨h.size,fun k hk _ _=>h.block k hk,⟨h.os,h.tape,h.output⟩,.inl rfl⟩
theorem PStep.drew (D:PD) (rv:Value) (w:World):PStep D rv w w.drew rv:=⟨Nat.le_refl _,fun _ _ _ _=>rfl,⟨rfl,rfl,rfl⟩,.inl rfl⟩
theorem PStep.set {D:PD} {rv rv':Value} {w w':World} (h:PStep D rv w w' rv') {p:Addr} (hp:D.own p.block) (v:Value):PStep D rv w (w'.setCell p v) rv':=
 ⟨by have:=h.size;simpa using this,fun k hk ho hr=>(Below.heap_setCell _ _ _ _ (fun e=>ho (by rw [e];exact hp))).trans (h.block k hk ho hr),h.same.set p v,h.tr⟩
theorem IntsAt.sameP {B:Nat} {w w':World} {ao:Option Addr} {xs:List Int} (h:IntsAt B w ao xs) (hs:∀k,k < B→w'.heap[k]?=w.heap[k]?):IntsAt B w' ao xs:=by
 rcases h with h | ⟨b,off,e,hb,hc⟩
 ·exact .inl h
 ·exact .inr ⟨b,off,e,hb,fun j hj=>(World.cell?_of_block (hs b hb)).trans (hc j hj)⟩
theorem own_sameP {w w':World} {base e size n:Nat} {v:Value} {xs:List Value} (h:w.ownsRow base e size v n xs) (hs:∀k,v.ownBlock=some k→w'.heap[k]?=w.heap[k]?):w'.ownsRow base e size v n xs:=by
 obtain ⟨hl,h⟩:=h
 refine ⟨hl,?_⟩
 rcases h with h | ⟨g,cap,cur,rfl,h1,h2,h3⟩
 ·exact .inl h
 ·exact .inr ⟨g,cap,cur,rfl,h1,(hs g rfl).trans h2,h3⟩
section
variable {w:World} {D:PD} {S:PSt} {n:Nat} {rv:Value}
theorem PtAt.ltP (h:PtAt w D S n rv):D.pb < w.heap.size:=(Array.getElem?_eq_some_iff.1 h.blk).1
theorem PtAt.ltO (h:PtAt w D S n rv):D.ob < w.heap.size:=(Array.getElem?_eq_some_iff.1 h.rowO).1
theorem PtAt.ltH (h:PtAt w D S n rv):D.hb < w.heap.size:=(Array.getElem?_eq_some_iff.1 h.rowH).1
theorem PtAt.ltM (h:PtAt w D S n rv):D.mb < w.heap.size:=h.map.lt
theorem PtAt.later {w':World} (h:PtAt w D S n rv) (hk:∀k,k < w.heap.size→w'.heap[k]?=w.heap[k]?):PtAt w' D S n rv:=by
 refine ⟨(hk _ h.ltP).trans h.blk,h.map.later (hk _ h.ltM),(hk _ h.ltO).trans h.rowO,(hk _ h.ltH).trans h.rowH,own_sameP h.rowR (fun k e=>hk k (h.rowR.lt k e).2),h.ne,h.base,h.away,?_,?_⟩
 ·exact h.tex1.sameP (fun k hb=>hk k (by have:=h.base _ (.inl rfl);have:=h.ltP;omega))
 ·exact h.tex2.sameP (fun k hb=>hk k (by have:=h.base _ (.inl rfl);have:=h.ltP;omega))
theorem PtAt.below {w':World} (h:PtAt w D S n rv) (hb:Below w.heap.size w w'):PtAt w' D S n rv:=h.later (fun k hk=>hb.block k hk)
theorem PtAt.turn {w':World} {S':PSt} (h:PtAt w D S n rv) (e1:S'.vals=S.vals) (e2:S'.trace=S.trace) (e3:S'.opn=S.opn) (e4:S'.hid=S.hid) (hb:w'.heap[D.pb]?=some (ptO D S' rv)) (hk:∀k,k≠D.pb→w'.heap[k]?=w.heap[k]?):PtAt w' D S' n rv:=by
 obtain ⟨n1,n2,n3,_⟩:=h.ne
 refine ⟨hb,?_,?_,?_,?_,h.ne,h.base,h.away,?_,?_⟩
 ·rw [e1];exact h.map.later (hk _ (Ne.symm n1))
 ·rw [e3];exact (hk _ (Ne.symm n2)).trans h.rowO
 ·rw [e4];exact (hk _ (Ne.symm n3)).trans h.rowH
 ·rw [e2];exact own_sameP h.rowR (fun k e=>hk k (fun e2=>h.away k e (.inl e2)))
 ·exact h.tex1.sameP (fun k hl=>hk k (by have:=h.base _ (.inl rfl);omega))
 ·exact h.tex2.sameP (fun k hl=>hk k (by have:=h.base _ (.inl rfl);omega))
end
def stepP (S:PSt):PSt:={ S with steps:=S.steps+1 }
def touchP (S:PSt) (a b:Int):PSt:=if S.trace.length < 100 then { S with touched:=S.touched+1,trace:=S.trace++[(a,b)] } else { S with touched:=S.touched+1 }
set_option maxHeartbeats 1000000 in
theorem step_any (w:World) (D:PD) (S:PSt) (n:Nat) (rv:Value) (h:PtAt w D S n rv) (h0:0≤S.steps) (h1:S.steps≤1000000) :
  Calls Tryz.prog 62 #[.pointer (some ⟨D.pb,0,none⟩)] w fun e w'=>e = .returned (.tuple #[])∧PtAt w' D (stepP S) n rv∧PStep D rv w w' rv:=by
 have hb:=h.blk
 unfold ptO at hb
 obtain ⟨cs,zs⟩:=bk13 hb
 have HT:Hid (PtAt (w.setCell ⟨D.pb,10,none⟩ (.int .i64 (S.steps+1))) D (stepP S) n rv):=h.turn rfl rfl rfl rfl (heap_setCell_same _ D.pb 10 _ _ _ h.blk) (fun k hk=>Below.heap_setCell _ _ _ _ hk)
 have HS:Hid (PStep D rv w (w.setCell ⟨D.pb,10,none⟩ (.int .i64 (S.steps+1))) rv):=(PStep.refl D rv w).set (.inl rfl) _
 obtain ⟨x0,x1,x2,x3,x4,x5,x6,x7,x8,x9,x10,x11,x12⟩:=cs
 obtain ⟨y0,y1,y2,y3,y4,y5,y6,y7,y8,y9,y10,y11,y12⟩:=zs
 clear h hb x0 x1 x2 x3 x4 x5 x6 x7 x8 x9 x11 x12
 go_enter Tryz.func62,Tryz.ntmps62
 go_wp2
 go_end0
 exact ⟨rfl,unhide HT,unhide HS⟩
set_option maxHeartbeats 1000000 in
theorem over_any (w:World) (D:PD) (S:PSt) (n:Nat) (rv:Value) (h:PtAt w D S n rv) :
  Calls Tryz.prog 39 #[.pointer (some ⟨D.pb,0,none⟩)] w fun e w'=>e = .returned (.bool (decide (20000 < S.steps)))∧w'=w:=by
 have hb:=h.blk
 unfold ptO at hb
 obtain ⟨cs,zs⟩:=bk13 hb
 obtain ⟨x0,x1,x2,x3,x4,x5,x6,x7,x8,x9,x10,x11,x12⟩:=cs
 clear h hb x0 x1 x2 x3 x4 x5 x6 x7 x8 x9 x11 x12 zs
 go_enter Tryz.func39,Tryz.ntmps39
 go_wp2
 go_ret
 exact ⟨rfl,rfl⟩
end Go.Proofs.YthmmgiaobakilaaGreat

set_option maxRecDepth 100000
namespace Go.Proofs.YthmmgiaobakilaaGreat
open Go.RowKit Go.Deep
theorem bkp2 {w:World} {b:Nat} {ty:TypeId} {c0 c1:Value} (h:w.heap[b]?=some (.cells #[c0,c1] ty (0,0))):(w.cell? ⟨b,0,none⟩=some c0∧w.cell? ⟨b,1,none⟩=some c1)∧w.frozen? ⟨b,0,none⟩=false∧w.frozen? ⟨b,1,none⟩=false:=by
 refine ⟨⟨?_,?_⟩,?_,?_⟩ <;> simp [World.cell?,World.frozen?,h]
theorem own_succP {W:World} {base e size:Nat} {v:Value} {k:Nat} {xs:List Value} (h:W.ownsRow base e size v (k+1) xs):∃g cap,v = .slice (some ⟨g,0,none⟩) (k+1) cap:=by
 rcases h.2 with ⟨h1,h0⟩ | ⟨g,cap,cur,rfl,_⟩
 ·cases h0
 ·exact ⟨_,_,rfl⟩
theorem cell_newP (w:World) (n:Nat) (hn:n=w.heap.size) (cs:List Value) (T:TypeId):∀j u,cs[j]?=some u→(w.alloc (.cells cs.toArray T)).cell? ((⟨n,0,none⟩:Addr).add j)=some u:=by
 subst hn
 exact cell_new w cs T
section
variable {w:World} {D:PD} {S:PSt} {n:Nat} {rv:Value}
theorem PtAt.lenR (h:PtAt w D S n rv):∃ao c,rv = .slice ao S.trace.length c:=by
 rcases h.rowR.2 with ⟨h1,h0⟩ | ⟨g,cap,cur,rfl,_⟩
 ·rw [h0];exact ⟨_,_,h1⟩
 ·exact ⟨_,_,rfl⟩
theorem PtAt.grew {w2:World} {v':Value} {c:Int×Int} (h:PtAt w D S n rv) (U:Obj)
  (hown:w2.ownsRow D.B 61 2 v' (S.trace.length+1) (tchsC S.trace++tchC c)) (hg:(w.alloc U).grownBy w2 rv.ownBlock) (hat:v'.ownBlock=rv.ownBlock∨v'.ownBlock=some (w.heap.size+1)) :
  PtAt (w2.setCell ⟨D.pb,12,none⟩ v') D { S with trace:=S.trace++[c] } n v'∧PStep D rv w (w2.setCell ⟨D.pb,12,none⟩ v') v'∧w2.heap[D.pb]?=some (ptO D S rv):=by
 have keep:∀k,k < w.heap.size→rv.ownBlock≠some k→w2.heap[k]?=w.heap[k]?:=fun k hk hne=>(hg.block k (by simp;omega) (fun e=>hne e.symm)).trans (Below.heap_alloc w U k hk)
 have ow:∀k,D.own k→rv.ownBlock≠some k:=fun k hk e=>h.away k e hk
 have blk2:w2.heap[D.pb]?=some (ptO D S rv):=(keep _ h.ltP (ow _ (.inl rfl))).trans h.blk
 obtain ⟨n1,n2,n3,_⟩:=h.ne
 have hB:D.B≤D.pb:=h.base _ (.inl rfl)
 have low:∀k,k < D.B→(w2.setCell ⟨D.pb,12,none⟩ v').heap[k]?=w.heap[k]?:=fun k hk=>(Below.heap_setCell _ _ _ _ (by show k≠D.pb;omega)).trans (keep k (by have:=h.ltP;omega) (fun e=>by have:=(h.rowR.lt k e).1;omega))
 have away':∀k,v'.ownBlock=some k→¬ D.own k:=fun k e=>by
  rcases hat with e2 | e2
  ·exact h.away k (by rw [←e2];exact e)
  ·rw [e2] at e
   cases e
   rintro (o | o | o | o)
   ·have:=h.ltP;omega
   ·have:=h.ltM;omega
   ·have:=h.ltO;omega
   ·have:=h.ltH;omega
 have hsz:=hg.size
 simp only [World.size_alloc] at hsz
 refine ⟨⟨heap_setCell_same _ D.pb 12 _ _ _ blk2,?_,?_,?_,?_,h.ne,h.base,away',h.tex1.sameP low,h.tex2.sameP low⟩,?_,blk2⟩
 ·exact h.map.later ((Below.heap_setCell _ _ _ _ (Ne.symm n1)).trans (keep _ h.ltM (ow _ (.inr (.inl rfl)))))
 ·exact ((Below.heap_setCell _ _ _ _ (Ne.symm n2)).trans (keep _ h.ltO (ow _ (.inr (.inr (.inl rfl)))))).trans h.rowO
 ·exact ((Below.heap_setCell _ _ _ _ (Ne.symm n3)).trans (keep _ h.ltH (ow _ (.inr (.inr (.inr rfl)))))).trans h.rowH
 ·have:w2.ownsRow D.B 61 2 v' (S.trace++[c]).length (tchsC (S.trace++[c])):=by rw [tchsC_snoc,List.length_append];exact hown
  exact own_sameP this (fun k hk=>Below.heap_setCell _ _ _ _ (fun e=>away' k hk (.inl e)))
 ·refine PStep.set (w':=w2) ⟨by omega,fun k hk ho hr=>keep k hk hr,Same.trans (Same.alloc (Same.refl _) U) (Same.grown hg),?_⟩ (.inl rfl) _
  rcases hat with e | e
  ·exact .inl e
  ·exact .inr ⟨_,e,by omega⟩
end
set_option maxHeartbeats 4000000 in
theorem touch_anyP (w:World) (D:PD) (S:PSt) (n:Nat) (rv:Value) (x y wh:Int) (h:PtAt w D S n rv) (ht0:0≤S.touched) (ht1:S.touched≤1000000) (hx:0≤x∧x≤100) (hy:0≤y∧y≤100) (hw:1≤D.sw∧D.sw≤100) :
  Calls Tryz.prog 96 #[.pointer (some ⟨D.pb,0,none⟩),.int .i64 wh,.agg #[.int .i64 x,.int .i64 y]] w fun e w'=>e = .returned (.int .i64 (y*D.sw+x))∧∃rv',PtAt w' D (touchP S wh (y*D.sw+x)) n rv'∧PStep D rv w w' rv':=by
 obtain ⟨pl,hpl⟩:∃pl,y*D.sw+x=pl:=⟨_,rfl⟩
 have hm:0≤y*D.sw∧y*D.sw≤10000:=⟨Int.mul_nonneg hy.1 (by omega),Int.le_trans (Int.mul_le_mul hy.2 hw.2 (by omega) (by omega)) (by decide)⟩
 obtain ⟨hm1,hm2⟩:=hm
 obtain ⟨hx1,hx2⟩:=hx
 have k1:wrap64 (y*D.sw)=y*D.sw:=by unfold wrap64;omega
 rw [hpl]
 have w1e:∃w1,w.alloc (.cells #[.int .i64 x,.int .i64 y] 77)=w1:=⟨_,rfl⟩
 obtain ⟨w1,hw1⟩:=w1e
 have h1:PtAt w1 D S n rv:=by rw [←hw1];exact h.later (fun k hk=>Below.heap_alloc w _ k hk)
 have p1:PStep D rv w w1.drew rv:=by rw [←hw1];exact (PStep.alloc D rv w _).trans (PStep.drew D rv _)
 have s1:w1.heap[w.heap.size]?=some (.cells #[.int .i64 x,.int .i64 y] 77 (0,0)):=by rw [←hw1];exact heap_alloc_new w _
 have z1:w1.heap.size=w.heap.size+1:=by rw [←hw1];simp
 have h1d:PtAt w1.drew D S n rv:=h1.later (fun _ _=>rfl)
 obtain ⟨ao,cp,rfl⟩:=h.lenR
 have HT:Hid (PtAt (w1.drew.setCell ⟨D.pb,11,none⟩ (.int .i64 (S.touched+1))) D { S with touched:=S.touched+1 } n _):=h1d.turn rfl rfl rfl rfl (heap_setCell_same _ D.pb 11 _ _ _ h1d.blk) (fun k hk=>Below.heap_setCell _ _ _ _ hk)
 have HP:Hid (PStep D _ w (w1.drew.setCell ⟨D.pb,11,none⟩ (.int .i64 (S.touched+1))) _):=p1.set (.inl rfl) _
 have hb:=h1.blk
 unfold ptO at hb
 have hlt:=h1.ltP
 have hlt0:=h.ltP
 have hne1:¬ D.pb=w.heap.size:=by omega
 obtain ⟨cs,zs⟩:=bk13 hb
 obtain ⟨x0,x1,x2,x3,x4,x5,x6,x7,x8,x9,x10,x11,x12⟩:=cs
 obtain ⟨y0,y1,y2,y3,y4,y5,y6,y7,y8,y9,y10,y11,y12⟩:=zs
 obtain ⟨⟨q0,q1⟩,_⟩:=bkp2 s1
 clear h h1 h1d p1 hb x1 x2 x3 x4 x5 x6 x7 x8 x9 x10 y0 y1 y2 y3 y4 y5 y6 y7 y8 y9 y10
 have z2:(w1.drew.setCell ⟨D.pb,11,none⟩ (.int .i64 (S.touched+1))).heap.size=w.heap.size+1:=by simp;exact z1
 obtain ⟨i0,hi0,hz0,hz1,hz2⟩:=info_parts infoTch
 by_cases hl:S.trace.length < 100
 ·have hl':(S.trace.length:Int) < 100:=by omega
  have eS:touchP S wh pl = { S with touched:=S.touched+1,trace:=S.trace++[(wh,pl)] }:=by simp [touchP,hl]
  rw [eS]
  clear eS
  go_enter Tryz.func96,Tryz.ntmps96
  go_wp2
  clear hw1
  go_region
  go_wp2_with (at_builtin;refine wpList_append_own_at _ rfl _ _ 34 rfl D.B 61 i0 (.agg #[.int .i64 0,.int .i64 0]) 2 16 Tryz.underlying34 hi0 hz0 hz1 hz2 rfl (by decide) _ _ _ rfl ((unhide HT).rowR.alloc _) ⟨w.heap.size+1,0,none⟩ 1 1 (tchC (wh,pl)) rfl rfl ?c1 ?c2 ?c3 ?c4 ?c5 ?_)
  case c1=>exact cell_newP (w1.drew.setCell ⟨D.pb,11,none⟩ (.int .i64 (S.touched+1))) _ z2.symm (tchC (wh,pl)) _
  case c2=>exact tch_one _
  case c3=>unfold maxLen;simp;omega
  case c4=>omega
  case c5=>have:=(unhide HT).base _ (.inl rfl);have:=(unhide HT).ltP;simp at this ⊢;omega
  intro v' w2 h1 hg _ hat
  obtain ⟨g,cp',rfl⟩:=own_succP h1
  obtain ⟨R1,R2,R3⟩:=(unhide HT).grew _ h1 hg (by rw [z2];simpa [z1] using hat)
  have RR:=hide (And.intro R1 ((unhide HP).trans R2))
  unfold ptO at R3
  obtain ⟨e12,e13⟩:=bk13 R3
  obtain ⟨y0,y1,y2,y3,y4,y5,y6,y7,y8,y9,y10,y11,y12⟩:=e13
  obtain ⟨_,_,_,_,_,_,_,_,_,_,_,_,c12⟩:=e12
  clear R1 R2 R3 h1 hg hat HT HP x0 x11 x12 q0 q1
  go_wp2
  go_ret
  exact ⟨rfl,_,(unhide RR).1,(unhide RR).2⟩
 ·have hl':decide ((S.trace.length:Int) < 100)=false:=by simp;omega
  have eS:touchP S wh pl = { S with touched:=S.touched+1 }:=by simp [touchP,hl]
  rw [eS]
  clear eS
  go_enter Tryz.func96,Tryz.ntmps96
  go_wp2
  clear hw1
  go_region
  go_wp2
  go_ret
  exact ⟨rfl,_,unhide HT,unhide HP⟩
end Go.Proofs.YthmmgiaobakilaaGreat
