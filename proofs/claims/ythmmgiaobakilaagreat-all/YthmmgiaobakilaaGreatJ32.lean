import Derived.Test.YthmmgiaobakilaaGreatJ31
import Derived.Deep.RegionWith
import Derived.Deep.RegionHeld3
set_option maxRecDepth 100000
set_option maxHeartbeats 8000000
set_option linter.all false
namespace Go.Proofs.YthmmgiaobakilaaGreat
open Go.RowKit Go.Deep
def gu (D:PD) (a b:Int):Int:=fP b D.sh*D.sw+fP a D.sw
theorem Ba {n c:Int} (hc:1<=c):0<=fP n c/\fP n c<=c-1:=by unfold fP;omega
theorem Mm {D:PD} (a b:Int) (hw:1<=D.sw) (hh:1<=D.sh):0<=gu D a b/\gu D a b<D.sw*D.sh:=by
 obtain⟨a1,a2⟩:=Ba (n:=a) hw;obtain⟨b1,b2⟩:=Ba (n:=b) hh;have m1:0<=fP b D.sh*D.sw:=Int.mul_nonneg b1 (by omega);have m2:fP b D.sh*D.sw<=(D.sh-1)*D.sw:=Int.mul_le_mul_of_nonneg_right b2 (by omega);have m3:(D.sh-1)*D.sw=D.sw*D.sh-D.sw:=by rw[Int.sub_mul,Int.mul_comm,Int.one_mul]
 unfold gu;omega
structure PD.Ok (D:PD):Prop where
 w1:1<=D.sw
 w2:D.sw<=6
 h1:1<=D.sh
 h2:D.sh<=6
 lo:(D.opens.length:Int)=D.sw*D.sh
 lh:(D.hids.length:Int)=D.sw*D.sh
theorem KJ (w:World) (D:PD) (S:dx) (n:Nat) (rv:Value) (wh a b:Int) (ao oo:Option Addr) (c1 c2:Nat) (xs:List Int) (hD:D.Ok) (h:bI w D S n rv) (hl:(xs.length:Int)=D.sw*D.sh) (hx:aF D.B w ao xs) (ho:vM w oo [a,b]) (ha:lK a) (hb:lK b) (ht0:0<=S.touched) (ht1:S.touched<=1000000) :
  Calls Tryz.prog 123 #[.pointer (some ⟨D.pb,0,none⟩),.int .i64 wh,.slice ao xs.length c1,.slice oo 2 c2] w λe w'=>e=.returned (.int .i32 (wrap32 (xs.getD (gu D a b).toNat 0)))/\∃rv',bI w' D (bC S wh (gu D a b)) n rv'/\aS D rv w w' rv':=by
 obtain⟨p1,p2⟩:=Mm (D:=D) a b hD.w1 hD.h1;obtain⟨q1,q2⟩:=Ba (n:=a) hD.w1;obtain⟨q3,q4⟩:=Ba (n:=b) hD.h1;have hw:=hD.w1;have hw2:=hD.w2;have hh:=hD.h1;have hh2:=hD.h2;obtain⟨k,hk⟩:∃k:Nat,gu D a b=(k:Int):=⟨(gu D a b).toNat,by omega⟩;have hkl:k<xs.length:=by omega
 have hxs:xs≠[]:=by intro e;rw[e]at hkl;simp at hkl
 rcases hx with e|⟨g,off,rfl,hg,hc⟩
 .exact absurd e hxs
 obtain⟨og,rfl,oc⟩:=ho.cells;have o0:=oc 0 a rfl;have o1:=oc 1 b rfl;have hb0:=h.blk;unfold Jt at hb0;obtain⟨cs,zs⟩:=qR hb0;obtain⟨x0,x1,-⟩:=cs;have hpb:=h.base _ (.inl rfl);have hltP:=h.ltP;have hgl:g<w.heap.size:=by omega
 have fin:∀w1,w1=(w.alloc (.cells #[.int .i64 (fP a D.sw),.int .i64 (fP b D.sh)] 77)).drew->bI w1 D S n rv/\aS D rv w w1 rv/\w1.heap[w.heap.size]?=some (.cells #[.int .i64 (fP a D.sw),.int .i64 (fP b D.sh)] 77 (0,0)):=λw1 e=>by
  subst e;exact⟨h.later (λk hk=>av w _ k hk),(aS.alloc D rv w _).trans (aS.drew D rv _),aA w _⟩
 have FIN:=aj fin;have HC:=aj hc;have WW:Hid (∀(w:World) (n c:Int),(n=a/\c=D.sw)∨(n=b/\c=D.sh)->Calls Tryz.prog 135 #[.int .i32 n,.int .i64 c] w λe w'=>e=.returned (.int .i64 (fP n c))/\w'=w):=λw n c hnc=>by
  rcases hnc with⟨rfl,rfl⟩|⟨rfl,rfl⟩
  .exact Gf w _ _ ha ⟨hw,by omega⟩
  .exact Gf w _ _ hb ⟨hh,by omega⟩
 have ARI:=aj (And.intro (And.intro p1 p2) (And.intro (And.intro q1 q2) (And.intro (And.intro q3 q4) (And.intro hkl hk))));have CG:Hid (∀(w2:World) (rv':Value),aS D rv w w2 rv'->∀ {o:Nat},w2.cell? ⟨g,o,none⟩=w.cell? ⟨g,o,none⟩):=λw2 rv' st o=>iY (st.block g hgl (λho=>by have:=h.base g ho;omega) (λe=>by have:=(h.rowR.lt g e).1;omega));have EK:Hid (gu D a b=(k:Int)):=hk;have QA:Hid (0<=fP a D.sw/\fP a D.sw<=100):=⟨q1,by omega⟩;have QB:Hid (0<=fP b D.sh/\fP b D.sh<=100):=⟨q3,by omega⟩;have QW:Hid (1<=D.sw/\D.sw<=100):=⟨hw,by omega⟩;clear hb0 h fin hc zs oc ho p1 p2 q1 q2 q3 q4 hkl hk hl hxs hg hpb hD ha hb hw hw2 hh hh2;go_enter Tryz.func123,Tryz.ntmps123;go_wp2
 go_region_held3 (λw'=>w'.cell? ⟨og,0,none⟩=some (.int .i32 a)/\w'.cell? ⟨og,1,none⟩=some (.int .i32 b)/\w'.cell? ⟨D.pb,0,none⟩=some (.int .i64 D.sw)/\w'.cell? ⟨D.pb,1,none⟩=some (.int .i64 D.sh)) (go_keep)
  (first
   | (go_at_call 135;refine(aa WW _ _ _ (by first|exact .inl ⟨rfl,rfl⟩|exact .inr ⟨rfl,rfl⟩)).mono ?_;rintro e w9 ⟨rfl,rfl⟩))
 all_goals
  obtain⟨w1,hw1⟩:∃w1,(w.alloc (.cells #[.int .i64 (fP a D.sw),.int .i64 (fP b D.sh)] 77)).drew=w1:=⟨_,rfl⟩;rw[hw1];obtain⟨h1,k1,s1⟩:=aa FIN w1 hw1.symm;have z1:w1.heap.size=w.heap.size+1:=by rw[<-hw1];simp
  obtain⟨⟨r0,r1⟩,_⟩:=yo s1;clear hw1 FIN o0 o1 x0 x1 WW;go_wp2_with fail;refine(Gs w1 D S n rv (fP a D.sw) (fP b D.sh) wh h1 ht0 ht1 (aa QA) (aa QB) (aa QW)).mono ?_;rintro e w2 ⟨rfl,rv',h2,k2⟩;obtain⟨⟨p1,p2⟩,_,_,hkl,hk⟩:=aa ARI;have ep:fP b D.sh*D.sw+fP a D.sw=(k:Int):=hk;rw[ep];have cg:w2.cell? ⟨g,off+k,none⟩=some (.int .i64 (xs.getD k 0)):=(aa CG w2 rv' ((k1.trans k2))).trans (aa HC k hkl);have hkl':(k:Int)<(xs.length:Int):=by omega
  obtain⟨xv,hxv⟩:∃xv,xs.getD k 0=xv:=⟨_,rfl⟩;rw[hxv]at cg;have HX:=aj hxv;have R:Hid (bI w2 D (bC S wh (k:Int)) n rv'/\aS D rv w w2 rv'):=⟨by rw[<-ep];exact h2,k1.trans k2⟩;clear h1 h2 k1 k2 ARI CG HC p1 p2 hk ep r0 r1 s1 hxv hkl;go_wp2;go_ret;exact⟨by rw[aa EK,gU,aa HX];rfl,rv',by rw[aa EK];exact(aa R).1,(aa R).2⟩
def fQ (D:PD) (S:dx) (u:ByteArray) (vs:List Int):Int×dx:=
 if u=jo then(if vs.getD 0 0≠0 then vs.getD 1 0 else vs.getD 2 0,S) else
 if u=kU then(min (vs.getD 0 0) (vs.getD 1 0),S) else
 if u=kI then(max (vs.getD 0 0) (vs.getD 1 0),S) else
 if u=bf then(wrap32 (D.opens.getD (gu D (vs.getD 0 0) (vs.getD 1 0)).toNat 0),bC S 0 (gu D (vs.getD 0 0) (vs.getD 1 0))) else
 if u=cz then(wrap32 (D.hids.getD (gu D (vs.getD 0 0) (vs.getD 1 0)).toNat 0),bC S 1 (gu D (vs.getD 0 0) (vs.getD 1 0))) else
 (S.vals u,S)
def Sc (u:ByteArray) (n:Nat):Prop:=(u=jo->n=3)/\(u=kU∨u=kI∨u=bf∨u=cz->n=2)
theorem Ql1 (w:World):(zeroValue 21).run Tryz.prog w=.ok (.int .i32 0) w:=by kernel_rfl
theorem bI.look {w:World} {D:PD} {S:dx} {n:Nat} {rv:Value} (h:bI w D S n rv) {s:ByteArray} (hs:s.size<=300):(Instr.lookup 80 (.map (some D.mb)) (.string s) false).run Tryz.prog w=.ok (.int .i32 (S.vals s)) w:=
 h.map.look Tryz.underlying80 Tryz.underlying21 (Ql1 w) (by unfold maxLen;omega)
def zx (w:World) (D:PD) (n:Nat) (rv:Value) (r:Int×dx) (e:Ending) (w':World):Prop:=e=.returned (.int .i32 r.1)/\∃rv',bI w' D r.2 n rv'/\aS D rv w w' rv'
theorem bI.drew {w:World} {D:PD} {S:dx} {n:Nat} {rv:Value} (h:bI w D S n rv):bI w.drew D S n rv:=h.later (λ_ _=>rfl)
theorem DR (u s:ByteArray):(u.toList==s.data.toList)=decide (u=s):=by
 by_cases h:u=s
 .rw[h,aJ];simp
 .have:¬ u.toList=s.data.toList:=λe=>h (gV (by rw[e,aJ]));simp[h,this]
theorem Pp (w:World) (D:PD) (S:dx) (n:Nat) (rv:Value) (u:ByteArray) (vs:List Int) (oo:Option Addr) (c:Nat) (hD:D.Ok) (h:bI w D S n rv) (ho:vM w oo vs) (hv:∀v∈vs,lK v) (hn:Sc u vs.length) (hu:u.size<=300) (ht0:0<=S.touched) (ht1:S.touched<=1000000) :
  Calls Tryz.prog 94 #[.pointer (some ⟨D.pb,0,none⟩),.string u,.slice oo vs.length c] w (zx w D n rv (fQ D S u vs)):=by
 have hb0:=h.blk;unfold Jt at hb0;obtain⟨cs,zs⟩:=qR hb0;obtain⟨x0,x1,x2,x3,x4,x5,x6,x7,-⟩:=cs;have g1:(u.toList==[115,101,108])=decide (u=jo):=DR u jo;have g2:(u.toList==[109,105,110])=decide (u=kU):=DR u kU;have g3:(u.toList==[109,97,120])=decide (u=kI):=DR u kI;have g4:(u.toList==[112,101,101,107])=decide (u=bf):=DR u bf;have g5:(u.toList==[115,112,121])=decide (u=cz):=DR u cz;by_cases h1:u=jo
 .have hl:=hn.1 h1;have ew:fQ D S u vs=(if vs.getD 0 0≠0 then vs.getD 1 0 else vs.getD 2 0,S):=by unfold fQ;rw[ag h1]
  rw[jP h1]at g1;have FIN:Hid (∀v,v=(if vs.getD 0 0≠0 then vs.getD 1 0 else vs.getD 2 0)->zx w D n rv (fQ D S u vs) (.returned (.int .i32 v)) w):=λv e=>by
   rw[ew];subst e;exact⟨rfl,rv,h,aS.refl _ _ _⟩
  match vs,hl with
  | [a,b,d],_=>
   obtain⟨og,rfl,oc⟩:=ho.cells;have o0:=oc 0 a rfl;have o1:=oc 1 b rfl;have o2:=oc 2 d rfl;clear h hb0 ho hn oc zs x0 x1 x2 x3 x4 x5 x6 x7 hv hD g2 g3 g4 g5 ew h1 hu;by_cases ha:a=0
   .subst ha;go_enter Tryz.func94,Tryz.ntmps94;go_wp2;go_ret;exact aa FIN _ rfl
   .have ha':(a != 0)=true:=by simp[ha]
    go_enter Tryz.func94,Tryz.ntmps94;go_wp2;go_ret;exact aa FIN _ (by show b=if a≠0 then b else d;rw[ag ha])
 rw[pJ h1]at g1;by_cases h2:u=kU
 .have hl:=hn.2 (.inl h2);have ew:fQ D S u vs=(min (vs.getD 0 0) (vs.getD 1 0),S):=by unfold fQ;rw[ae h1,ag h2]
  rw[jP h2]at g2;have FIN:Hid (∀v,v=min (vs.getD 0 0) (vs.getD 1 0)->zx w D n rv (fQ D S u vs) (.returned (.int .i32 v)) w.drew):=λv e=>by
   rw[ew];subst e;exact⟨rfl,rv,h.drew,aS.drew _ _ _⟩
  match vs,hl with
  | [a,b],_=>
   obtain⟨og,rfl,oc⟩:=ho.cells;have o0:=oc 0 a rfl;have o1:=oc 1 b rfl;clear h hb0 ho hn oc zs x0 x1 x2 x3 x4 x5 x6 x7 hv hD g3 g4 g5 ew h2 hu;go_enter Tryz.func94,Tryz.ntmps94;go_wp2
   go_region
   all_goals go_wp2
   all_goals go_ret
   all_goals exact aa FIN _ rfl
 rw[pJ h2]at g2;by_cases h3:u=kI
 .have hl:=hn.2 (.inr (.inl h3));have ew:fQ D S u vs=(max (vs.getD 0 0) (vs.getD 1 0),S):=by unfold fQ;rw[ae h1,ae h2,ag h3]
  rw[jP h3]at g3;have FIN:Hid (∀v,v=max (vs.getD 0 0) (vs.getD 1 0)->zx w D n rv (fQ D S u vs) (.returned (.int .i32 v)) w.drew):=λv e=>by
   rw[ew];subst e;exact⟨rfl,rv,h.drew,aS.drew _ _ _⟩
  match vs,hl with
  | [a,b],_=>
   obtain⟨og,rfl,oc⟩:=ho.cells;have o0:=oc 0 a rfl;have o1:=oc 1 b rfl;clear h hb0 ho hn oc zs x0 x1 x2 x3 x4 x5 x6 x7 hv hD g4 g5 ew h3 hu;go_enter Tryz.func94,Tryz.ntmps94;go_wp2
   go_region
   all_goals go_wp2
   all_goals go_ret
   all_goals exact aa FIN _ rfl
 rw[pJ h3]at g3;by_cases h4:u=bf
 .have hl:=hn.2 (.inr (.inr (.inl h4)));have ew:fQ D S u vs=(wrap32 (D.opens.getD (gu D (vs.getD 0 0) (vs.getD 1 0)).toNat 0),bC S 0 (gu D (vs.getD 0 0) (vs.getD 1 0))):=by unfold fQ;rw[ae h1,ae h2,ae h3,ag h4]
  rw[jP h4]at g4
  match vs,hl with
  | [a,b],_=>
   have TX:=aj (KJ w D S n rv 0 a b D.so oo D.c1 c D.opens hD h hD.lo h.tex1 ho (hv a (by simp)) (hv b (by simp)) ht0 ht1);rw[ew];clear h hb0 ho hn zs x0 x1 x3 x4 x5 x6 x7 hv hD g5 ew h4 hu;go_enter Tryz.func94,Tryz.ntmps94;go_wp2_with fail;refine(aa TX).mono ?_;rintro e w' ⟨rfl,rv',h',k'⟩;go_wp2;go_ret;exact⟨rfl,rv',h',k'⟩
 rw[pJ h4]at g4;by_cases h5:u=cz
 .have hl:=hn.2 (.inr (.inr (.inr h5)));have ew:fQ D S u vs=(wrap32 (D.hids.getD (gu D (vs.getD 0 0) (vs.getD 1 0)).toNat 0),bC S 1 (gu D (vs.getD 0 0) (vs.getD 1 0))):=by unfold fQ;rw[ae h1,ae h2,ae h3,ae h4,ag h5]
  rw[jP h5]at g5
  match vs,hl with
  | [a,b],_=>
   have TX:=aj (KJ w D S n rv 1 a b D.sd oo D.c2 c D.hids hD h hD.lh h.tex2 ho (hv a (by simp)) (hv b (by simp)) ht0 ht1);rw[ew];clear h hb0 ho hn zs x0 x1 x2 x4 x5 x6 x7 hv hD  ew h5 hu;go_enter Tryz.func94,Tryz.ntmps94;go_wp2_with fail;refine(aa TX).mono ?_;rintro e w' ⟨rfl,rv',h',k'⟩;go_wp2;go_ret;exact⟨rfl,rv',h',k'⟩
 rw[pJ h5]at g5;have ew:fQ D S u vs=(S.vals u,S):=by unfold fQ;rw[ae h1,ae h2,ae h3,ae h4,ae h5]
 have lk:=h.look hu;have FIN:Hid (zx w D n rv (fQ D S u vs) (.returned (.int .i32 (S.vals u))) w):=by
  rw[ew];exact⟨rfl,rv,h,aS.refl _ _ _⟩
 clear h hb0 ho hn zs x0 x1 x2 x3 x4 x5 x6 hv hD ew;go_enter Tryz.func94,Tryz.ntmps94;go_wp2;go_ret;exact aa FIN
end Go.Proofs.YthmmgiaobakilaaGreat
