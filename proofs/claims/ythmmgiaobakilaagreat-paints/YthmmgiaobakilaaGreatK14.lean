import Derived.Test.YthmmgiaobakilaaGreatK13
import Derived.Deep.RegionWith
import Derived.Deep.RegionHeld3
set_option maxRecDepth 100000
namespace Go.Proofs.YthmmgiaobakilaaGreat
open Go.RowKit Go.Deep
def placeV (D:PD) (a b:Int):Int:=withinV b D.sh*D.sw+withinV a D.sw
theorem within_in {n c:Int} (hc:1≤c):0≤withinV n c∧withinV n c≤c-1:=by unfold withinV;omega
theorem place_in {D:PD} (a b:Int) (hw:1≤D.sw) (hh:1≤D.sh):0≤placeV D a b∧placeV D a b < D.sw*D.sh:=by
 obtain ⟨a1,a2⟩:=within_in (n:=a) hw
 obtain ⟨b1,b2⟩:=within_in (n:=b) hh
 have m1:0≤withinV b D.sh*D.sw:=Int.mul_nonneg b1 (by omega)
 have m2:withinV b D.sh*D.sw≤(D.sh-1)*D.sw:=Int.mul_le_mul_of_nonneg_right b2 (by omega)
 have m3:(D.sh-1)*D.sw=D.sw*D.sh-D.sw:=by rw [Int.sub_mul,Int.mul_comm,Int.one_mul]
 unfold placeV
 omega
structure PD.Ok (D:PD):Prop where
 w1:1≤D.sw
 w2:D.sw≤6
 h1:1≤D.sh
 h2:D.sh≤6
 lo:(D.opens.length:Int)=D.sw*D.sh
 lh:(D.hids.length:Int)=D.sw*D.sh
set_option maxHeartbeats 4000000 in
theorem texel_any (w:World) (D:PD) (S:PSt) (n:Nat) (rv:Value) (wh a b:Int) (ao oo:Option Addr) (c1 c2:Nat) (xs:List Int) (hD:D.Ok) (h:PtAt w D S n rv) (hl:(xs.length:Int)=D.sw*D.sh) (hx:IntsAt D.B w ao xs) (ho:NumsAt w oo [a,b]) (ha:In31 a) (hb:In31 b) (ht0:0≤S.touched) (ht1:S.touched≤1000000) :
  Calls Tryz.prog 123 #[.pointer (some ⟨D.pb,0,none⟩),.int .i64 wh,.slice ao xs.length c1,.slice oo 2 c2] w fun e w'=>e = .returned (.int .i32 (wrap32 (xs.getD (placeV D a b).toNat 0)))∧∃rv',PtAt w' D (touchP S wh (placeV D a b)) n rv'∧PStep D rv w w' rv':=by
 obtain ⟨p1,p2⟩:=place_in (D:=D) a b hD.w1 hD.h1
 obtain ⟨q1,q2⟩:=within_in (n:=a) hD.w1
 obtain ⟨q3,q4⟩:=within_in (n:=b) hD.h1
 have hw:=hD.w1
 have hw2:=hD.w2
 have hh:=hD.h1
 have hh2:=hD.h2
 obtain ⟨k,hk⟩:∃k:Nat,placeV D a b=(k:Int):=⟨(placeV D a b).toNat,by omega⟩
 have hkl:k < xs.length:=by omega
 have hxs:xs≠[]:=by intro e;rw [e] at hkl;simp at hkl
 rcases hx with e | ⟨g,off,rfl,hg,hc⟩
 ·exact absurd e hxs
 obtain ⟨og,rfl,oc⟩:=ho.cells
 have o0:=oc 0 a rfl
 have o1:=oc 1 b rfl
 have hb0:=h.blk
 unfold ptO at hb0
 obtain ⟨cs,zs⟩:=bk13 hb0
 obtain ⟨x0,x1,-⟩:=cs
 have hpb:=h.base _ (.inl rfl)
 have hltP:=h.ltP
 have hgl:g < w.heap.size:=by omega
 have fin:∀w1,w1=(w.alloc (.cells #[.int .i64 (withinV a D.sw),.int .i64 (withinV b D.sh)] 77)).drew→PtAt w1 D S n rv∧PStep D rv w w1 rv∧w1.heap[w.heap.size]?=some (.cells #[.int .i64 (withinV a D.sw),.int .i64 (withinV b D.sh)] 77 (0,0)):=fun w1 e=>by
  subst e
  exact ⟨h.later (fun k hk=>Below.heap_alloc w _ k hk),(PStep.alloc D rv w _).trans (PStep.drew D rv _),heap_alloc_new w _⟩
 have FIN:=hide fin
 have HC:=hide hc
 have WW:Hid (∀(w:World) (n c:Int),(n=a∧c=D.sw)∨(n=b∧c=D.sh)→Calls Tryz.prog 135 #[.int .i32 n,.int .i64 c] w fun e w'=>e = .returned (.int .i64 (withinV n c))∧w'=w):=fun w n c hnc=>by
  rcases hnc with ⟨rfl,rfl⟩ | ⟨rfl,rfl⟩
  ·exact within_any w _ _ ha ⟨hw,by omega⟩
  ·exact within_any w _ _ hb ⟨hh,by omega⟩
 have ARI:=hide (And.intro (And.intro p1 p2) (And.intro (And.intro q1 q2) (And.intro (And.intro q3 q4) (And.intro hkl hk))))
 have CG:Hid (∀(w2:World) (rv':Value),PStep D rv w w2 rv'→∀ {o:Nat},w2.cell? ⟨g,o,none⟩=w.cell? ⟨g,o,none⟩):=fun w2 rv' st o=>World.cell?_of_block (st.block g hgl (fun ho=>by have:=h.base g ho;omega) (fun e=>by have:=(h.rowR.lt g e).1;omega))
 have EK:Hid (placeV D a b=(k:Int)):=hk
 have QA:Hid (0≤withinV a D.sw∧withinV a D.sw≤100):=⟨q1,by omega⟩
 have QB:Hid (0≤withinV b D.sh∧withinV b D.sh≤100):=⟨q3,by omega⟩
 have QW:Hid (1≤D.sw∧D.sw≤100):=⟨hw,by omega⟩
 clear hb0 h fin hc zs oc ho p1 p2 q1 q2 q3 q4 hkl hk hl hxs hg hpb hD ha hb hw hw2 hh hh2
 go_enter Tryz.func123,Tryz.ntmps123
 go_wp2
 go_region_held3 (fun w'=>w'.cell? ⟨og,0,none⟩=some (.int .i32 a)∧w'.cell? ⟨og,1,none⟩=some (.int .i32 b)∧w'.cell? ⟨D.pb,0,none⟩=some (.int .i64 D.sw)∧w'.cell? ⟨D.pb,1,none⟩=some (.int .i64 D.sh)) (go_keep)
  (first
   | (go_at_call 135;refine (unhide WW _ _ _ (by first | exact .inl ⟨rfl,rfl⟩ | exact .inr ⟨rfl,rfl⟩)).mono ?_;rintro e w9 ⟨rfl,rfl⟩))
 all_goals
  obtain ⟨w1,hw1⟩:∃w1,(w.alloc (.cells #[.int .i64 (withinV a D.sw),.int .i64 (withinV b D.sh)] 77)).drew=w1:=⟨_,rfl⟩
  rw [hw1]
  obtain ⟨h1,k1,s1⟩:=unhide FIN w1 hw1.symm
  have z1:w1.heap.size=w.heap.size+1:=by rw [←hw1];simp
  obtain ⟨⟨r0,r1⟩,_⟩:=bkp2 s1
  clear hw1 FIN o0 o1 x0 x1 WW
  go_wp2_with fail
  refine (touch_anyP w1 D S n rv (withinV a D.sw) (withinV b D.sh) wh h1 ht0 ht1 (unhide QA) (unhide QB) (unhide QW)).mono ?_
  rintro e w2 ⟨rfl,rv',h2,k2⟩
  obtain ⟨⟨p1,p2⟩,_,_,hkl,hk⟩:=unhide ARI
  have ep:withinV b D.sh*D.sw+withinV a D.sw=(k:Int):=hk
  rw [ep]
  have cg:w2.cell? ⟨g,off+k,none⟩=some (.int .i64 (xs.getD k 0)):=(unhide CG w2 rv' ((k1.trans k2))).trans (unhide HC k hkl)
  have hkl':(k:Int) < (xs.length:Int):=by omega
  obtain ⟨xv,hxv⟩:∃xv,xs.getD k 0=xv:=⟨_,rfl⟩
  rw [hxv] at cg
  have HX:=hide hxv
  have R:Hid (PtAt w2 D (touchP S wh (k:Int)) n rv'∧PStep D rv w w2 rv'):=⟨by rw [←ep];exact h2,k1.trans k2⟩
  clear h1 h2 k1 k2 ARI CG HC p1 p2 hk ep r0 r1 s1 hxv hkl
  go_wp2
  go_ret
  exact ⟨by rw [unhide EK,Int.toNat_natCast,unhide HX];rfl,rv',by rw [unhide EK];exact (unhide R).1,(unhide R).2⟩
def wordP (D:PD) (S:PSt) (u:ByteArray) (vs:List Int):Int×PSt:=
 if u=sSEL then (if vs.getD 0 0≠0 then vs.getD 1 0 else vs.getD 2 0,S) else
 if u=sMIN then (min (vs.getD 0 0) (vs.getD 1 0),S) else
 if u=sMAX then (max (vs.getD 0 0) (vs.getD 1 0),S) else
 if u=sPEEK then (wrap32 (D.opens.getD (placeV D (vs.getD 0 0) (vs.getD 1 0)).toNat 0),touchP S 0 (placeV D (vs.getD 0 0) (vs.getD 1 0))) else
 if u=sSPY then (wrap32 (D.hids.getD (placeV D (vs.getD 0 0) (vs.getD 1 0)).toNat 0),touchP S 1 (placeV D (vs.getD 0 0) (vs.getD 1 0))) else
 (S.vals u,S)
def wordN (u:ByteArray) (n:Nat):Prop:=(u=sSEL→n=3)∧(u=sMIN∨u=sMAX∨u=sPEEK∨u=sSPY→n=2)
theorem zero32 (w:World):(zeroValue 21).run Tryz.prog w = .ok (.int .i32 0) w:=by kernel_rfl
theorem PtAt.look {w:World} {D:PD} {S:PSt} {n:Nat} {rv:Value} (h:PtAt w D S n rv) {s:ByteArray} (hs:s.size≤300):(Instr.lookup 80 (.map (some D.mb)) (.string s) false).run Tryz.prog w = .ok (.int .i32 (S.vals s)) w:=
 h.map.look Tryz.underlying80 Tryz.underlying21 (zero32 w) (by unfold maxLen;omega)
def PWOut (w:World) (D:PD) (n:Nat) (rv:Value) (r:Int×PSt) (e:Ending) (w':World):Prop:=e = .returned (.int .i32 r.1)∧∃rv',PtAt w' D r.2 n rv'∧PStep D rv w w' rv'
theorem PtAt.drew {w:World} {D:PD} {S:PSt} {n:Nat} {rv:Value} (h:PtAt w D S n rv):PtAt w.drew D S n rv:=h.later (fun _ _=>rfl)
theorem str_is (u s:ByteArray):(u.toList==s.data.toList)=decide (u=s):=by
 by_cases h:u=s
 ·rw [h,ByteArray.toList_eq];simp
 ·have:¬ u.toList=s.data.toList:=fun e=>h (bytes_eq (by rw [e,ByteArray.toList_eq]))
  simp [h,this]
set_option maxHeartbeats 4000000 in
theorem ofWord_any (w:World) (D:PD) (S:PSt) (n:Nat) (rv:Value) (u:ByteArray) (vs:List Int) (oo:Option Addr) (c:Nat) (hD:D.Ok) (h:PtAt w D S n rv) (ho:NumsAt w oo vs) (hv:∀v∈vs,In31 v) (hn:wordN u vs.length) (hu:u.size≤300) (ht0:0≤S.touched) (ht1:S.touched≤1000000) :
  Calls Tryz.prog 94 #[.pointer (some ⟨D.pb,0,none⟩),.string u,.slice oo vs.length c] w (PWOut w D n rv (wordP D S u vs)):=by
 have hb0:=h.blk
 unfold ptO at hb0
 obtain ⟨cs,zs⟩:=bk13 hb0
 obtain ⟨x0,x1,x2,x3,x4,x5,x6,x7,-⟩:=cs
 have g1:(u.toList==[115,101,108])=decide (u=sSEL):=str_is u sSEL
 have g2:(u.toList==[109,105,110])=decide (u=sMIN):=str_is u sMIN
 have g3:(u.toList==[109,97,120])=decide (u=sMAX):=str_is u sMAX
 have g4:(u.toList==[112,101,101,107])=decide (u=sPEEK):=str_is u sPEEK
 have g5:(u.toList==[115,112,121])=decide (u=sSPY):=str_is u sSPY
 by_cases h1:u=sSEL
 ·have hl:=hn.1 h1
  have ew:wordP D S u vs=(if vs.getD 0 0≠0 then vs.getD 1 0 else vs.getD 2 0,S):=by unfold wordP;rw [if_pos h1]
  rw [decide_eq_true h1] at g1
  have FIN:Hid (∀v,v=(if vs.getD 0 0≠0 then vs.getD 1 0 else vs.getD 2 0)→PWOut w D n rv (wordP D S u vs) (.returned (.int .i32 v)) w):=fun v e=>by
   rw [ew];subst e;exact ⟨rfl,rv,h,PStep.refl _ _ _⟩
  match vs,hl with
  | [a,b,d],_=>
   obtain ⟨og,rfl,oc⟩:=ho.cells
   have o0:=oc 0 a rfl
   have o1:=oc 1 b rfl
   have o2:=oc 2 d rfl
   clear h hb0 ho hn oc zs x0 x1 x2 x3 x4 x5 x6 x7 hv hD g2 g3 g4 g5 ew h1 hu
   by_cases ha:a=0
   ·subst ha
    go_enter Tryz.func94,Tryz.ntmps94
    go_wp2
    go_ret
    exact unhide FIN _ rfl
   ·have ha':(a != 0)=true:=by simp [ha]
    go_enter Tryz.func94,Tryz.ntmps94
    go_wp2
    go_ret
    exact unhide FIN _ (by show b=if a≠0 then b else d;rw [if_pos ha])
 rw [decide_eq_false h1] at g1
 by_cases h2:u=sMIN
 ·have hl:=hn.2 (.inl h2)
  have ew:wordP D S u vs=(min (vs.getD 0 0) (vs.getD 1 0),S):=by unfold wordP;rw [if_neg h1,if_pos h2]
  rw [decide_eq_true h2] at g2
  have FIN:Hid (∀v,v=min (vs.getD 0 0) (vs.getD 1 0)→PWOut w D n rv (wordP D S u vs) (.returned (.int .i32 v)) w.drew):=fun v e=>by
   rw [ew];subst e;exact ⟨rfl,rv,h.drew,PStep.drew _ _ _⟩
  match vs,hl with
  | [a,b],_=>
   obtain ⟨og,rfl,oc⟩:=ho.cells
   have o0:=oc 0 a rfl
   have o1:=oc 1 b rfl
   clear h hb0 ho hn oc zs x0 x1 x2 x3 x4 x5 x6 x7 hv hD g3 g4 g5 ew h2 hu
   go_enter Tryz.func94,Tryz.ntmps94
   go_wp2
   go_region
   all_goals go_wp2
   all_goals go_ret
   all_goals exact unhide FIN _ rfl
 rw [decide_eq_false h2] at g2
 by_cases h3:u=sMAX
 ·have hl:=hn.2 (.inr (.inl h3))
  have ew:wordP D S u vs=(max (vs.getD 0 0) (vs.getD 1 0),S):=by unfold wordP;rw [if_neg h1,if_neg h2,if_pos h3]
  rw [decide_eq_true h3] at g3
  have FIN:Hid (∀v,v=max (vs.getD 0 0) (vs.getD 1 0)→PWOut w D n rv (wordP D S u vs) (.returned (.int .i32 v)) w.drew):=fun v e=>by
   rw [ew];subst e;exact ⟨rfl,rv,h.drew,PStep.drew _ _ _⟩
  match vs,hl with
  | [a,b],_=>
   obtain ⟨og,rfl,oc⟩:=ho.cells
   have o0:=oc 0 a rfl
   have o1:=oc 1 b rfl
   clear h hb0 ho hn oc zs x0 x1 x2 x3 x4 x5 x6 x7 hv hD g4 g5 ew h3 hu
   go_enter Tryz.func94,Tryz.ntmps94
   go_wp2
   go_region
   all_goals go_wp2
   all_goals go_ret
   all_goals exact unhide FIN _ rfl
 rw [decide_eq_false h3] at g3
 by_cases h4:u=sPEEK
 ·have hl:=hn.2 (.inr (.inr (.inl h4)))
  have ew:wordP D S u vs=(wrap32 (D.opens.getD (placeV D (vs.getD 0 0) (vs.getD 1 0)).toNat 0),touchP S 0 (placeV D (vs.getD 0 0) (vs.getD 1 0))):=by unfold wordP;rw [if_neg h1,if_neg h2,if_neg h3,if_pos h4]
  rw [decide_eq_true h4] at g4
  match vs,hl with
  | [a,b],_=>
   have TX:=hide (texel_any w D S n rv 0 a b D.so oo D.c1 c D.opens hD h hD.lo h.tex1 ho (hv a (by simp)) (hv b (by simp)) ht0 ht1)
   rw [ew]
   clear h hb0 ho hn zs x0 x1 x3 x4 x5 x6 x7 hv hD g5 ew h4 hu
   go_enter Tryz.func94,Tryz.ntmps94
   go_wp2_with fail
   refine (unhide TX).mono ?_
   rintro e w' ⟨rfl,rv',h',k'⟩
   go_wp2
   go_ret
   exact ⟨rfl,rv',h',k'⟩
 rw [decide_eq_false h4] at g4
 by_cases h5:u=sSPY
 ·have hl:=hn.2 (.inr (.inr (.inr h5)))
  have ew:wordP D S u vs=(wrap32 (D.hids.getD (placeV D (vs.getD 0 0) (vs.getD 1 0)).toNat 0),touchP S 1 (placeV D (vs.getD 0 0) (vs.getD 1 0))):=by unfold wordP;rw [if_neg h1,if_neg h2,if_neg h3,if_neg h4,if_pos h5]
  rw [decide_eq_true h5] at g5
  match vs,hl with
  | [a,b],_=>
   have TX:=hide (texel_any w D S n rv 1 a b D.sd oo D.c2 c D.hids hD h hD.lh h.tex2 ho (hv a (by simp)) (hv b (by simp)) ht0 ht1)
   rw [ew]
   clear h hb0 ho hn zs x0 x1 x2 x4 x5 x6 x7 hv hD  ew h5 hu
   go_enter Tryz.func94,Tryz.ntmps94
   go_wp2_with fail
   refine (unhide TX).mono ?_
   rintro e w' ⟨rfl,rv',h',k'⟩
   go_wp2
   go_ret
   exact ⟨rfl,rv',h',k'⟩
 rw [decide_eq_false h5] at g5
 have ew:wordP D S u vs=(S.vals u,S):=by unfold wordP;rw [if_neg h1,if_neg h2,if_neg h3,if_neg h4,if_neg h5]
 have lk:=h.look hu
 have FIN:Hid (PWOut w D n rv (wordP D S u vs) (.returned (.int .i32 (S.vals u))) w):=by
  rw [ew];exact ⟨rfl,rv,h,PStep.refl _ _ _⟩
 clear h hb0 ho hn zs x0 x1 x2 x3 x4 x5 x6 hv hD ew
 go_enter Tryz.func94,Tryz.ntmps94
 go_wp2
 go_ret
 exact unhide FIN
end Go.Proofs.YthmmgiaobakilaaGreat
