import Derived.Test.YthmmgiaobakilaaGreatJ01
import Derived.Test.YthmmgiaobakilaaGreatJ12
import Derived.Test.YthmmgiaobakilaaGreatJ33
import Derived.Test.YthmmgiaobakilaaGreatJ34
import Derived.Deep.RegionHeld3
set_option maxRecDepth 100000
set_option maxHeartbeats 8000000
set_option linter.all false
namespace Go.Proofs.YthmmgiaobakilaaGreat
open Go.RowKit Go.Deep
variable {D:PD} {Q:Nat->Prop} {S:dx} {b m n:Nat} {e:Ex} {l:List Int} {rv v:Value} {w:World}
def iT (D:PD) (S:dx):Int:=S.cy*D.sw+S.cx
def sU (D:PD) (S:dx) (out:Bool) (v:Int):dx:=
 if out then { bC S 2 (iT D S) with opn:=S.opn.set (iT D S).toNat (rU v) } else { bC S 3 (iT D S) with hid:=S.hid.set (iT D S).toNat (rU v) }
structure zJ (D:PD) (S:dx):Prop where
 vals:Vf S
 s0:0<=S.steps
 t0:0<=S.touched
 t1:S.touched<=S.steps
 lo:(S.opn.length:Int)=D.sw*D.sh
 lh:(S.hid.length:Int)=D.sw*D.sh
 x0:0<=S.cx
 x1:S.cx<=D.sw-1
 y0:0<=S.cy
 y1:S.cy<=D.sh-1
theorem ZY (hD:D.Ok) (h:zJ D S):0<=iT D S/\iT D S<D.sw*D.sh:=by
 have a1:=h.x0;have a2:=h.x1;have b1:=h.y0;have b2:=h.y1;have hw:=hD.w1;have m1:0<=S.cy*D.sw:=Int.mul_nonneg b1 (by omega);have m2:S.cy*D.sw<=(D.sh-1)*D.sw:=Int.mul_le_mul_of_nonneg_right b2 (by omega);have m3:(D.sh-1)*D.sw=D.sw*D.sh-D.sw:=by rw[Int.sub_mul,Int.mul_comm,Int.one_mul]
 unfold iT;omega
def JB (w:World) (D:PD) (n:Nat) (rv:Value) (S':dx) (e:Ending) (w':World):Prop:=e=.returned (.tuple #[])/\∃rv',bI w' D S' n rv'/\aS D rv w w' rv'
theorem Re (l:List Int) (i:Nat) (v:Int):((l.map (Value.int .i64)).toArray.setIfInBounds i (.int .i64 v))=((l.set i v).map (Value.int .i64)).toArray:=by
 rw[List.setIfInBounds_toArray,List.map_set]
section
variable {w:World} {D:PD} {S:dx} {n:Nat} {rv:Value}
theorem bI.paintO (h:bI w D S n rv) (i:Nat) (v:Int):bI (w.setCell ⟨D.ob,i,none⟩ (.int .i64 v)) D { S with opn:=S.opn.set i v } n rv:=by
 obtain⟨n1,n2,n3,n4,n5,n6⟩:=h.ne;have oth:∀k,k≠D.ob->(w.setCell ⟨D.ob,i,none⟩ (.int .i64 v)).heap[k]?=w.heap[k]?:=λk hk=>ay _ _ _ _ hk;have hB:=λk=>h.base k;refine⟨(oth _ n2).trans ?_,h.map.later (oth _ n4),?_,(oth _ (Ne.symm n6)).trans h.rowH,cu h.rowR (λk e=>oth k (λe2=>h.away k e (.inr (.inr (.inl e2))))),h.ne,h.base,h.away,h.tex1.sameP (λk hk=>oth k (by have:=hB D.ob (.inr (.inr (.inl rfl)));omega)),h.tex2.sameP (λk hk=>oth k (by have:=hB D.ob (.inr (.inr (.inl rfl)));omega))⟩
 .rw[h.blk];unfold Jt;simp
 .have:=aM w D.ob i _ _ (.int .i64 v) h.rowO;rw[this];unfold kY;rw[Re]
theorem bI.paintH (h:bI w D S n rv) (i:Nat) (v:Int):bI (w.setCell ⟨D.hb,i,none⟩ (.int .i64 v)) D { S with hid:=S.hid.set i v } n rv:=by
 obtain⟨n1,n2,n3,n4,n5,n6⟩:=h.ne;have oth:∀k,k≠D.hb->(w.setCell ⟨D.hb,i,none⟩ (.int .i64 v)).heap[k]?=w.heap[k]?:=λk hk=>ay _ _ _ _ hk;have hB:=λk=>h.base k;refine⟨(oth _ n3).trans ?_,h.map.later (oth _ n5),(oth _ n6).trans h.rowO,?_,cu h.rowR (λk e=>oth k (λe2=>h.away k e (.inr (.inr (.inr e2))))),h.ne,h.base,h.away,h.tex1.sameP (λk hk=>oth k (by have:=hB D.hb (.inr (.inr (.inr rfl)));omega)),h.tex2.sameP (λk hk=>oth k (by have:=hB D.hb (.inr (.inr (.inr rfl)));omega))⟩
 .rw[h.blk];unfold Jt;simp
 .have:=aM w D.hb i _ _ (.int .i64 v) h.rowH;rw[this];unfold kY;rw[Re]
theorem lZ (h:w.heap[b]?=some (kY l)) {i:Nat} (hi:i<l.length):w.cell? ⟨b,i,none⟩=some (.int .i64 (l.getD i 0))/\w.frozen? ⟨b,i,none⟩=false:=by
 unfold kY at h;constructor
 .simp only[World.cell?,h];simp[aU hi,List.getD]
 .simp[World.frozen?,h]
end
theorem CV (D:PD) (h:gD w Q v e) (S:dx):∃m,1<=m/\m<=eu e/\M7 S (lL D e S).2 m:=by
 obtain⟨b,o,t,k,r,sv,rfl,_,_⟩:=h;exact⟨eu k+1,by omega,by simp[eu],LA D S⟩
theorem zJ.ev {D:PD} {S S':dx} {m:Nat} (h:zJ D S) (e:M7 S S' m):zJ D S':=by
 have a:=e.steps;have b:=e.t1;have c:=e.t2;have d:=h.s0;have f:=h.t0;have g:=h.t1;exact⟨h.vals.ev e,by omega,by omega,by omega,by rw[e.opn];exact h.lo,by rw[e.hid];exact h.lh,by rw[e.cx];exact h.x0,by rw[e.cx];exact h.x1,by rw[e.cy];exact h.y0,by rw[e.cy];exact h.y1⟩
theorem IR {a b:Int} (h:bI w D (bC S a b) n rv):w.cell? ⟨D.pb,5,none⟩=some (.int .i64 S.cx)/\w.cell? ⟨D.pb,6,none⟩=some (.int .i64 S.cy)/\w.cell? ⟨D.pb,8,none⟩=some (.slice (some ⟨D.ob,0,none⟩) S.opn.length S.opn.length)/\w.cell? ⟨D.pb,9,none⟩=some (.slice (some ⟨D.hb,0,none⟩) S.hid.length S.hid.length)/\w.heap[D.ob]?=some (kY S.opn)/\w.heap[D.hb]?=some (kY S.hid):=by
 obtain⟨_,_,_,e4,e5,e6,e7⟩:=fO S a b;have hb:=h.blk;unfold Jt at hb;obtain⟨⟨_,_,_,_,_,x5,x6,_,x8,x9,_⟩,_⟩:=qR hb;rw[e6]at x5;rw[e7]at x6;rw[e4]at x8;rw[e5]at x9;have o:=h.rowO;have g:=h.rowH;rw[e4]at o;rw[e5]at g;exact⟨x5,x6,x8,x9,o,g⟩
theorem Vk (w:World) (D:PD) (S:dx) (n:Nat) (rv:Value) (Q:Nat->Prop) (t x:aH) (so:Option Addr) (sl sc:Nat) (e:Ex) (hD:D.Ok) (h:bI w D S n rv) (hv:gD w Q (qV x (.slice so sl sc)) e) (hw:Gq e) (hQ:∀k,Q k->k<D.B) (ho:zJ D S) (hs:S.steps+eu e<=900000) (hsz:eu e<=100000) :
  Calls Tryz.prog 66 #[.pointer (some ⟨D.pb,0,none⟩),.agg #[.int .i64 (kP t),.int .i64 t.place,.string (wP t),.int .i32 (nP t),.int .i32 (sP t),.int .i64 (kP x),.int .i64 x.place,.string (wP x),.int .i32 (nP x),.int .i32 (sP x),.slice so sl sc]] w (JB w D n rv (sU D (lL D e S).2 (decide (wP t=lD)) (lL D e S).1)):=by
 obtain⟨w1,hw1⟩:∃w1,w.alloc (.cells #[.int .i64 (kP t),.int .i64 t.place,.string (wP t),.int .i32 (nP t),.int .i32 (sP t),.int .i64 (kP x),.int .i64 x.place,.string (wP x),.int .i32 (nP x),.int .i32 (sP x),.slice so sl sc] 130)=w1:=⟨_,rfl⟩;have s1:w1.heap[w.heap.size]?=some (.cells #[.int .i64 (kP t),.int .i64 t.place,.string (wP t),.int .i32 (nP t),.int .i32 (sP t),.int .i64 (kP x),.int .i64 x.place,.string (wP x),.int .i32 (nP x),.int .i32 (sP x),.slice so sl sc] 130 (0,0)):=by rw[<-hw1];exact aA w _
 have h1:bI w1 D S n rv:=by rw[<-hw1];exact h.later (λk hk=>av w _ k hk)
 have k1:aS D rv w w1 rv:=by rw[<-hw1];exact aS.alloc D rv w _
 have z1:w1.heap.size=w.heap.size+1:=by rw[<-hw1];simp
 have v1:gD w1 Q (qV x (.slice so sl sc)) e:=by rw[<-hw1];exact gD.later (λj _ hl=>av w _ j hl) (λj hj _=>hj) hv
 have hnb:¬ D.own w.heap.size:=by
  rintro(o|o|o|o)
  .have:=h.ltP;omega
  .have:=h.ltM;omega
  .have:=h.ltO;omega
  .have:=h.ltH;omega
 have hnr:rv.ownBlock≠some w.heap.size:=λe=>by have:=(h.rowR.lt _ e).2;omega
 have val:=AF 100000 (af _) e w1 D S n rv Q _ hsz h1 v1 hw hQ hD ho.vals ho.s0 (by omega) ho.t0 (by have:=ho.t1;omega);obtain⟨m,hm1,hm2,zt⟩:=CV D hv S;obtain⟨r0,hr0⟩:∃r0,lL D e S=r0:=⟨_,rfl⟩;obtain⟨vv,S1⟩:=r0;rw[hr0]at val zt ⊢;have zt:M7 S S1 m:=zt;have qG:zJ D S1:=ho.ev zt;obtain⟨p0,p1⟩:=ZY hD qG;obtain⟨kk,hkk⟩:∃kk:Nat,iT D S1=(kk:Int):=⟨(iT D S1).toNat,by omega⟩;have hko:kk<S1.opn.length:=by have:=qG.lo;omega
 have hkh:kk<S1.hid.length:=by have:=qG.lh;omega
 have st1:=zt.steps;have t1s:=qG.t1;have hw1':=hD.w1;have hw2':=hD.w2;have TCH:Hid (∀(wh:Int) (w2:World) (rv2:Value),bI w2 D S1 n rv2->Calls Tryz.prog 96 #[.pointer (some ⟨D.pb,0,none⟩),.int .i64 wh,.agg #[.int .i64 S1.cx,.int .i64 S1.cy]] w2 λe w'=>e=.returned (.int .i64 (kk:Int))/\∃rv',bI w' D (bC S1 wh (kk:Int)) n rv'/\aS D rv2 w2 w' rv'):=λwh w2 rv2 h2=>by
  have:=Gs w2 D S1 n rv2 S1.cx S1.cy wh h2 qG.t0 (by omega) ⟨qG.x0,by have:=qG.x1;omega⟩ ⟨qG.y0,by have:=qG.y1;have:=hD.h2;omega⟩ ⟨hw1',by omega⟩;have e:S1.cy*D.sw+S1.cx=(kk:Int):=hkk;rw[e]at this;exact this
 have FO:Hid (∀(w3:World) (rv3:Value),bI w3 D (bC S1 2 (kk:Int)) n rv3->aS D rv w w3 rv3->JB w D n rv (sU D S1 true vv) (.returned (.tuple #[])) (w3.setCell ⟨D.ob,kk,none⟩ (.int .i64 (rU vv)))):=λw3 rv3 h3 k3=>by
  have:=h3.paintO kk (rU vv);rw[(fO S1 2 (kk:Int)).2.2.2.1]at this;refine⟨rfl,rv3,?_,k3.set (.inr (.inr (.inl rfl))) _⟩;unfold sU;rw[ag rfl,hkk,gU];exact this
 have FH:Hid (∀(w3:World) (rv3:Value),bI w3 D (bC S1 3 (kk:Int)) n rv3->aS D rv w w3 rv3->JB w D n rv (sU D S1 false vv) (.returned (.tuple #[])) (w3.setCell ⟨D.hb,kk,none⟩ (.int .i64 (rU vv)))):=λw3 rv3 h3 k3=>by
  have:=h3.paintH kk (rU vv);rw[(fO S1 3 (kk:Int)).2.2.2.2.1]at this;refine⟨rfl,rv3,?_,k3.set (.inr (.inr (.inr rfl))) _⟩;unfold sU;rw[ae (by simp),hkk,gU];exact this
 have g1:((wP t).toList==[111,117,116])=decide (wP t=lD):=DR (wP t) lD;obtain⟨d0,d1,d2,d3,d4,d5,d6,d7,d8,d9,d10⟩:=(zR s1).1;have nO:¬ D.pb=D.ob:=h.ne.2.1;have nH:¬ D.pb=D.hb:=h.ne.2.2.1;have nO':¬ D.ob=D.pb:=λe=>nO e.symm;have nH':¬ D.hb=D.pb:=λe=>nH e.symm;have VAL:=aj val;clear val h v1 hv hw hQ ho zt qG p0 p1 hkk hD hr0 hs hsz h1 st1 t1s hw1' hw2' hm1 hm2;show Calls _ _ _ _ (JB w D n rv (sU D S1 (decide (wP t=lD)) vv));obtain⟨bo,hbo⟩:∃bo,decide (wP t=lD)=bo:=⟨_,rfl⟩;rw[hbo]at g1 ⊢;clear hbo;go_enter Tryz.func66,Tryz.ntmps66;go_wp2_with fail;clear hw1;unfold qV at VAL;refine(aa VAL).mono ?_;rintro e w2 ⟨rfl,rv2,h2,k2⟩;have s2:=(k2.block _ (by omega) hnb hnr).trans s1;have kk2:=k1.trans k2;have hz2:=k2.size;clear VAL d0 d1 d2 d3 d4 d5 d6 d7 d8 d9 d10 s1 k2 k1;go_wp2_with fail;refine(WS w2 vv).mono ?_;rintro e w9 ⟨rfl,h9⟩;obtain rfl:=h9.symm;obtain⟨d0,d1,d2,d3,d4,d5,d6,d7,d8,d9,d10⟩:=(zR s2).1;have hb2:=h2.blk;unfold Jt at hb2;obtain⟨⟨x0,x1,x2,x3,x4,x5,x6,x7,x8,x9,x10,x11,x12⟩,_⟩:=qR hb2;have h2d:bI w2.drew D S1 n rv2:=h2.drew;have k2d:aS D rv w w2.drew rv2:=kk2.trans (aS.drew D rv2 w2);clear s2 hb2 x0 x1 x2 x3 x4 x7 x10 x11 x12 h2 kk2
 cases bo
 .have AFT:Hid (∀(w3:World) (rv3:Value),bI w3 D (bC S1 3 (kk:Int)) n rv3->aS D rv2 w2.drew w3 rv3->(w3.cell? ⟨D.pb,5,none⟩=some (.int .i64 S1.cx)/\w3.cell? ⟨D.pb,6,none⟩=some (.int .i64 S1.cy)/\w3.cell? ⟨D.pb,9,none⟩=some (.slice (some ⟨D.hb,0,none⟩) S1.hid.length S1.hid.length))/\w3.cell? ⟨D.hb,kk,none⟩=some (.int .i64 (S1.hid.getD kk 0))/\w3.frozen? ⟨D.hb,kk,none⟩=false/\Hid (JB w D n rv (sU D S1 false vv) (.returned (.tuple #[])) (w3.setCell ⟨D.hb,kk,none⟩ (.int .i64 (rU vv))))):=λw3 rv3 h3 k3=>by
   obtain⟨a,b,c,d,f,g⟩:=IR h3;exact⟨⟨a,b,d⟩,(lZ g hkh).1,(lZ g hkh).2,aa FH w3 rv3 h3 (k2d.trans k3)⟩
  have hlt:(kk:Int)<(S1.hid.length:Int):=by omega
  obtain⟨L,hL⟩:∃L,S1.hid.length=L:=⟨_,rfl⟩;obtain⟨old,hold⟩:∃old,S1.hid.getD kk 0=old:=⟨_,rfl⟩;obtain⟨tv,htv⟩:∃tv,rU vv=tv:=⟨_,rfl⟩;rw[hL]at AFT hlt x9;rw[hold,htv]at AFT;rw[htv];clear hL hold htv FO FH x8 hko hkh;go_wp2
  go_region_held3 (λw'=>w'.cell? ⟨D.pb,5,none⟩=some (.int .i64 S1.cx)/\w'.cell? ⟨D.pb,6,none⟩=some (.int .i64 S1.cy)/\w'.cell? ⟨D.pb,9,none⟩=some (.slice (some ⟨D.hb,0,none⟩) L L)) (go_keep)
   (first
    | (go_at_call 96;refine(aa TCH 3 _ rv2 h2d).mono ?_;rintro e w3 ⟨rfl,rv3,h3,k3⟩;have fx:=aa AFT w3 rv3 h3 k3;clear h3 k3;obtain⟨⟨fa,fb,fc⟩,fd,fe,fin⟩:=fx))
  all_goals go_wp2
  all_goals go_end0
  all_goals exact aa fin
 .have AFT:Hid (∀(w3:World) (rv3:Value),bI w3 D (bC S1 2 (kk:Int)) n rv3->aS D rv2 w2.drew w3 rv3->(w3.cell? ⟨D.pb,5,none⟩=some (.int .i64 S1.cx)/\w3.cell? ⟨D.pb,6,none⟩=some (.int .i64 S1.cy)/\w3.cell? ⟨D.pb,8,none⟩=some (.slice (some ⟨D.ob,0,none⟩) S1.opn.length S1.opn.length))/\w3.cell? ⟨D.ob,kk,none⟩=some (.int .i64 (S1.opn.getD kk 0))/\w3.frozen? ⟨D.ob,kk,none⟩=false/\Hid (JB w D n rv (sU D S1 true vv) (.returned (.tuple #[])) (w3.setCell ⟨D.ob,kk,none⟩ (.int .i64 (rU vv))))):=λw3 rv3 h3 k3=>by
   obtain⟨a,b,c,d,f,g⟩:=IR h3;exact⟨⟨a,b,c⟩,(lZ f hko).1,(lZ f hko).2,aa FO w3 rv3 h3 (k2d.trans k3)⟩
  have hlt:(kk:Int)<(S1.opn.length:Int):=by omega
  obtain⟨L,hL⟩:∃L,S1.opn.length=L:=⟨_,rfl⟩;obtain⟨old,hold⟩:∃old,S1.opn.getD kk 0=old:=⟨_,rfl⟩;obtain⟨tv,htv⟩:∃tv,rU vv=tv:=⟨_,rfl⟩;rw[hL]at AFT hlt x8;rw[hold,htv]at AFT;rw[htv];clear hL hold htv FO FH x9 hko hkh;go_wp2
  go_region_held3 (λw'=>w'.cell? ⟨D.pb,5,none⟩=some (.int .i64 S1.cx)/\w'.cell? ⟨D.pb,6,none⟩=some (.int .i64 S1.cy)/\w'.cell? ⟨D.pb,8,none⟩=some (.slice (some ⟨D.ob,0,none⟩) L L)) (go_keep)
   (first
    | (go_at_call 96;refine(aa TCH 2 _ rv2 h2d).mono ?_;rintro e w3 ⟨rfl,rv3,h3,k3⟩;have fx:=aa AFT w3 rv3 h3 k3;clear h3 k3;obtain⟨⟨fa,fb,fc⟩,fd,fe,fin⟩:=fx))
  all_goals go_wp2
  all_goals go_end0
  all_goals exact aa fin
def uL (S:dx) (nm:ByteArray) (v:Int):dx:={ S with vals:=mU S.vals nm v }
def fA (body:dx->dx) (nm:ByteArray):Nat->Int->dx->dx
 | 0,_,S=>S
 | q+1,i,S=>fA body nm q (i+1) (body (uL (aK S) nm i))
def iA (D:PD):Sx->dx->dx
 | .nil,S=>S
 | .node _ _ p k r,S=>if 20000<S.steps then S else iA D r (
  if p.tag=0 then uL (lL D p.e (aK S)).2 (wP p.t) (lL D p.e (aK S)).1 else
  if p.tag=1 then(match k with
   | .nil=>(lL D p.e (aK S)).2
   | .node _ _ _ s u=>if(lL D p.e (aK S)).1≠0 then iA D s (lL D p.e (aK S)).2 else iA D u (lL D p.e (aK S)).2) else
  if p.tag=2 then fA (λT=>iA D k T) (wP p.t) (nP p.b-nP p.a+1).toNat (nP p.a) (aK S) else
  sU D (lL D p.e (aK S)).2 (decide (wP p.t=lD)) (lL D p.e (aK S)).1)
section
variable {D:PD} {b o:Nat} {p:SP} {k r:Sx} {S:dx}
theorem kK (h:20000<S.steps):∀s:Sx,iA D s S=S
 | .nil=>rfl
 | .node _ _ p k r=>by cases k<;>(show(if 20000<S.steps then S else _)=S;rw[ag h])
theorem Np (h:¬ 20000<S.steps) (t:p.tag=0):iA D (.node b o p k r) S=iA D r (uL (lL D p.e (aK S)).2 (wP p.t) (lL D p.e (aK S)).1):=by
 cases k<;>(show(if 20000<S.steps then S else iA D r (if p.tag=0 then _ else _))=_;rw[ae h,ag t])
theorem NV {b1 o1:Nat} {q:SP} {s u:Sx} (h:¬ 20000<S.steps) (t:p.tag=1):iA D (.node b o p (.node b1 o1 q s u) r) S=iA D r (if(lL D p.e (aK S)).1≠0 then iA D s (lL D p.e (aK S)).2 else iA D u (lL D p.e (aK S)).2):=by
 show(if 20000<S.steps then S else iA D r (if p.tag=0 then _ else if p.tag=1 then _ else _))=_;rw[ae h,ae (by omega),ag t]
theorem NZ (h:¬ 20000<S.steps) (t:p.tag=2):iA D (.node b o p k r) S=iA D r (fA (iA D k) (wP p.t) (nP p.b-nP p.a+1).toNat (nP p.a) (aK S)):=by
 cases k<;>(show(if 20000<S.steps then S else iA D r (if p.tag=0 then _ else if p.tag=1 then _ else if p.tag=2 then _ else _))=_;rw[ae h,ae (by omega),ae (by omega),ag t])
theorem Qe5 (h:¬ 20000<S.steps) (t:p.tag=3∨p.tag=4):iA D (.node b o p k r) S=iA D r (sU D (lL D p.e (aK S)).2 (decide (wP p.t=lD)) (lL D p.e (aK S)).1):=by
 cases k<;>(show(if 20000<S.steps then S else iA D r (if p.tag=0 then _ else if p.tag=1 then _ else if p.tag=2 then _ else _))=_;rw[ae h,ae (by omega),ae (by omega),ae (by omega)])
end
def zK:Sx->Nat
 | .nil=>0
 | .node _ _ p k r=>eu p.e+22+zK k+zK r
def Ul:Sx->Prop
 | .nil=>True
 | .node _ _ p k r=>(Gq p.e/\kD p.t/\kD p.a/\kD p.b/\(p.tag=2->nP p.b<=20))/\Ul k/\Ul r
theorem RJ (D:PD) (e:Ex) (S:dx):∃m,m<=eu e/\M7 S (lL D e S).2 m:=by
 cases e with
 | nil=>exact⟨0,bO _,M7.refl S⟩
 | node b o t k r=>exact⟨eu k+1,by simp[eu],LA D S⟩
theorem WL (D:PD) (hw:Gq e) (hS:Vf S):lK (lL D e S).1:=by
 cases e with
 | nil=>show lK 0;unfold lK;decide
 | node b o t k r=>exact QR D hw.1.2.2 (hS.ev (vL D k S)).step (LZ D k S hw.2.1 hS)
theorem zJ.step (h:zJ D S):zJ D (aK S):=⟨h.vals,by have:=h.s0;show 0<=S.steps+1;omega,h.t0,by have:=h.t1;show S.touched<=S.steps+1;omega,h.lo,h.lh,h.x0,h.x1,h.y0,h.y1⟩
theorem zJ.set (h:zJ D S) (nm:ByteArray) {v:Int} (hv:lK v):zJ D (uL S nm v):=⟨λs=>by
 show lK (mU S.vals nm v s);unfold mU;split
 .exact hv
 .exact h.vals s,h.s0,h.t0,h.t1,h.lo,h.lh,h.x0,h.x1,h.y0,h.y1⟩
theorem zJ.put (h:zJ D S) (ht:S.touched+1<=S.steps) (out:Bool) (v:Int):zJ D (sU D S out v)/\(sU D S out v).steps=S.steps:=by
 unfold sU;split
 .obtain⟨a,b,c,d,e,f,g⟩:=fO S 2 (iT D S);refine⟨⟨λs=>?_,?_,?_,?_,?_,?_,?_,?_,?_,?_⟩,a⟩
  .show lK ((bC S 2 (iT D S)).vals s);rw[b];exact h.vals s
  .show 0<=(bC S 2 (iT D S)).steps;rw[a];exact h.s0
  .show 0<=(bC S 2 (iT D S)).touched;rw[c];have:=h.t0;omega
  .show(bC S 2 (iT D S)).touched<=(bC S 2 (iT D S)).steps;rw[a,c];exact ht
  .show((S.opn.set _ _).length:Int)=_;rw[uo];exact h.lo
  .show((bC S 2 (iT D S)).hid.length:Int)=_;rw[e];exact h.lh
  .show 0<=(bC S 2 (iT D S)).cx;rw[f];exact h.x0
  .show(bC S 2 (iT D S)).cx<=_;rw[f];exact h.x1
  .show 0<=(bC S 2 (iT D S)).cy;rw[g];exact h.y0
  .show(bC S 2 (iT D S)).cy<=_;rw[g];exact h.y1
 .obtain⟨a,b,c,d,e,f,g⟩:=fO S 3 (iT D S);refine⟨⟨λs=>?_,?_,?_,?_,?_,?_,?_,?_,?_,?_⟩,a⟩
  .show lK ((bC S 3 (iT D S)).vals s);rw[b];exact h.vals s
  .show 0<=(bC S 3 (iT D S)).steps;rw[a];exact h.s0
  .show 0<=(bC S 3 (iT D S)).touched;rw[c];have:=h.t0;omega
  .show(bC S 3 (iT D S)).touched<=(bC S 3 (iT D S)).steps;rw[a,c];exact ht
  .show((bC S 3 (iT D S)).opn.length:Int)=_;rw[d];exact h.lo
  .show((S.hid.set _ _).length:Int)=_;rw[uo];exact h.lh
  .show 0<=(bC S 3 (iT D S)).cx;rw[f];exact h.x0
  .show(bC S 3 (iT D S)).cx<=_;rw[f];exact h.x1
  .show 0<=(bC S 3 (iT D S)).cy;rw[g];exact h.y0
  .show(bC S 3 (iT D S)).cy<=_;rw[g];exact h.y1
structure VA (D:PD) (S S':dx) (B:Int):Prop where
 ok:zJ D S'
 le:S.steps<=S'.steps
 ub:S'.steps<=max S.steps B
theorem Fb {D:PD} {body:dx->dx} {nm:ByteArray} {B:Int} (hb:∀T,zJ D T->VA D T (body T) B):∀(q:Nat) (i:Int) (S:dx),zJ D S->0<=i->i+q<=2000000000->zJ D (fA body nm q i S)/\S.steps+q<=(fA body nm q i S).steps/\(fA body nm q i S).steps<=max S.steps B+q
 | 0,i,S,h,_,_=>⟨h,by show S.steps+0<=S.steps;omega,by show S.steps<=max S.steps B+0;omega⟩
 | q+1,i,S,h,h0,h1=>by
  have g:=hb (uL (aK S) nm i) (h.step.set nm ⟨by omega,by omega⟩);have e1:(uL (aK S) nm i).steps=S.steps+1:=rfl;obtain⟨a,c,d⟩:=Fb hb q (i+1) (body (uL (aK S) nm i)) g.ok (by omega) (by omega);have g2:=g.le;have g3:=g.ub;rw[e1]at g2 g3;refine⟨a,?_,?_⟩
  .show S.steps+((q+1:Nat):Int)<=(fA body nm q (i+1) (body (uL (aK S) nm i))).steps;omega
  .show(fA body nm q (i+1) (body (uL (aK S) nm i))).steps<=max S.steps B+((q+1:Nat):Int);omega
theorem Lh (n:Nat):∀(s:Sx),dS s<=n->Ul s->∀S,zJ D S->VA D S (iA D s S) (20001+zK s):=by
 induction n with
 | zero=>
  intro s hs _ S h
  cases s with
  | nil=>exact⟨h,dn _,by show S.steps<=max S.steps _;omega⟩
  | node b o p k r=>simp[dS]at hs
 | succ n ih=>
  intro s hs hw S h
  cases s with
  | nil=>exact⟨h,dn _,by show S.steps<=max S.steps _;omega⟩
  | node b o p k r=>
   by_cases hov:20000<S.steps
   .rw[kK hov];exact⟨h,dn _,by omega⟩
   simp only[dS]at hs;obtain⟨⟨wv,wt,wa,wb,w2⟩,wk,wr⟩:=hw;obtain⟨m,hm,ev⟩:=RJ D p.e (aK S);have e1:=ev.steps;have e2:(aK S).steps=S.steps+1:=rfl;have qG:=h.step.ev ev;have hwt:(zK (.node b o p k r):Int)=eu p.e+22+zK k+zK r:=by simp[zK]
   have rest:∀T,zJ D T->S.steps<=T.steps->T.steps<=20001+eu p.e+22+zK k->VA D S (iA D r T) (20001+zK (.node b o p k r)):=λT hT h1 h2=>by
    have g:=ih r (by omega) wr T hT;have g2:=g.le;have g3:=g.ub;exact⟨g.ok,by omega,by omega⟩
   by_cases t0:p.tag=0
   .rw[Np hov t0];exact rest _ (qG.set _ (WL D wv h.step.vals)) (by show S.steps<=(lL D p.e (aK S)).2.steps;omega) (by show(lL D p.e (aK S)).2.steps<=_;omega)
   by_cases t1:p.tag=1
   .cases k with
    | nil=>
     have:iA D (.node b o p .nil r) S=iA D r (lL D p.e (aK S)).2:=by
      show(if 20000<S.steps then S else iA D r (if p.tag=0 then _ else if p.tag=1 then _ else _))=_;rw[ae hov,ae t0,ag t1]
     rw[this];exact rest _ qG (by omega) (by omega)
    | node b1 o1 q s u=>
     simp only[dS]at hs;have hk2:(zK (.node b1 o1 q s u):Int)=eu q.e+22+zK s+zK u:=by simp[zK]
     rw[NV hov t1];split
     .have g:=ih s (by omega) wk.2.1 _ qG;have g2:=g.le;have g3:=g.ub;exact rest _ g.ok (by omega) (by omega)
     .have g:=ih u (by omega) wk.2.2 _ qG;have g2:=g.le;have g3:=g.ub;exact rest _ g.ok (by omega) (by omega)
   by_cases t2:p.tag=2
   .rw[NZ hov t2];have hb:=w2 t2;have ha:=wa.2;obtain⟨a,c,d⟩:=Fb (D:=D) (body:=iA D k) (nm:=wP p.t) (B:=20001+zK k) (λT hT=>ih k (by omega) wk T hT) (nP p.b-nP p.a+1).toNat (nP p.a) (aK S) h.step (by omega) (by omega);have hq:((nP p.b-nP p.a+1).toNat:Int)<=21:=by omega
    exact rest _ a (by omega) (by omega)
   .have e3:iA D (.node b o p k r) S=iA D r (sU D (lL D p.e (aK S)).2 (decide (wP p.t=lD)) (lL D p.e (aK S)).1):=by
     cases k<;>(show(if 20000<S.steps then S else iA D r (if p.tag=0 then _ else if p.tag=1 then _ else if p.tag=2 then _ else _))=_;rw[ae hov,ae t0,ae t1,ae t2])
    rw[e3];have tt:(lL D p.e (aK S)).2.touched+1<=(lL D p.e (aK S)).2.steps:=by
     have:=ev.t2;have:=h.t1;have:(aK S).touched=S.touched:=rfl;omega
    obtain⟨a,c⟩:=qG.put tt (decide (wP p.t=lD)) (lL D p.e (aK S)).1;exact rest _ a (by omega) (by omega)
theorem bI.store {w:World} {D:PD} {S:dx} {n:Nat} {rv:Value} (h:bI w D S n rv) {s:ByteArray} (hs:s.size<=300) {c:Int} (hc:lK c) (hn:n<=1000000):∃w9,(Instr.mapUpdate 80 (.map (some D.mb)) (.string s) (.int .i32 c)).run Tryz.prog w=.ok () w9/\bI w9 D (uL S s c) (n+1) rv/\aS D rv w w9 rv:=by
 obtain⟨w9,hrun,hmap,ht⟩:=h.map.store Tryz.underlying80 Tryz.underlying21 (by unfold maxLen;omega) (s:=s) (by unfold maxLen;omega) (c:=c) (by
  obtain⟨a,b⟩:=hc;have e1:IntKind.i32.min=-2147483648:=rfl;have e2:IntKind.i32.max=2147483647:=rfl;simp only[Lit.wf,e1,e2,dC,decide_eq_true_eq];omega)
 have hg:=ht.grown;have oth:∀k,k<w.heap.size->k≠D.mb->w9.heap[k]?=w.heap[k]?:=λk hk hne=>hg.block k hk (λe=>hne (by cases e;rfl));obtain⟨n1,n2,n3,n4,n5,n6⟩:=h.ne;have hB:D.B<=D.mb:=h.base _ (.inr (.inl rfl));have hlm:=h.ltM;refine⟨w9,hrun,⟨(oth _ h.ltP n1).trans h.blk,hmap,(oth _ h.ltO (Ne.symm n4)).trans h.rowO,(oth _ h.ltH (Ne.symm n5)).trans h.rowH,cu h.rowR (λk e=>oth k (h.rowR.lt k e).2 (λe2=>h.away k e (.inr (.inl e2)))),h.ne,h.base,h.away,h.tex1.sameP (λk hk=>oth k (by omega) (by omega)),h.tex2.sameP (λk hk=>oth k (by omega) (by omega))⟩,⟨hg.size,λk hk ho _=>oth k hk (λe=>ho (.inr (.inl e))),bY.grown hg,.inl rfl⟩⟩
def EI (w:World) (D:PD) (rv:Value) (S':dx) (e:Ending) (w':World):Prop:=e=.returned (.tuple #[])/\∃n' rv',bI w' D S' n' rv'/\aS D rv w w' rv'/\(n':Int)<=S'.steps+2
def O9 (m:Nat):Prop:=∀(s:Sx) (w:World) (D:PD) (S:dx) (n:Nat) (rv:Value) (Q:Nat->Prop) (v:Value),dS s<m->bI w D S n rv->dh w Q v s->Ul s->(∀k,Q k->k<D.B)->D.Ok->zJ D S->S.steps<=150000->zK s<=100000->(n:Int)<=S.steps+2 ->
 Calls Tryz.prog 38 #[.pointer (some ⟨D.pb,0,none⟩),v] w (EI w D rv (iA D s S))
theorem bI.fresh (h:bI w D S n rv):¬ D.own w.heap.size/\rv.ownBlock≠some w.heap.size:=by
 refine⟨?_,λe=>by have:=(h.rowR.lt _ e).2;omega⟩;rintro(o|o|o|o)
 .have:=h.ltP;omega
 .have:=h.ltM;omega
 .have:=h.ltO;omega
 .have:=h.ltH;omega
theorem aS.stay {w':World} {rv':Value} (h:aS D rv w w' rv') (p:bI w D S n rv) (hQ:∀k,Q k->k<D.B):nz Q w w':=λj hj _=>h.low p (hQ j hj)
theorem Q4 (ih:O9 m) (w:World) (D:PD) (S:dx) (n:Nat) (rv:Value) (Q:Nat->Prop) (t x:aH) (so ao bo:Option Addr) (sl sc al ac bl bc:Nat) (e:Ex) (s u:Sx) (hD:D.Ok) (h:bI w D S n rv) (hv:gD w Q (qV x (.slice so sl sc)) e) (ha:dh w Q (.slice ao al ac) s) (hb:dh w Q (.slice bo bl bc) u) (hw:Gq e) (hws:Ul s) (hwu:Ul u) (hQ:∀k,Q k->k<D.B) (ho:zJ D S) (hs:S.steps<=20001) (hsz:eu e<=100000) (hss:dS s<m) (hsu:dS u<m) (hts:zK s<=100000) (htu:zK u<=100000) (hn:(n:Int)<=S.steps+2) :
  Calls Tryz.prog 64 #[.pointer (some ⟨D.pb,0,none⟩),.agg #[.int .i64 (kP t),.int .i64 t.place,.string (wP t),.int .i32 (nP t),.int .i32 (sP t),.int .i64 (kP x),.int .i64 x.place,.string (wP x),.int .i32 (nP x),.int .i32 (sP x),.slice so sl sc,.slice ao al ac,.slice bo bl bc]] w (EI w D rv (if(lL D e S).1≠0 then iA D s (lL D e S).2 else iA D u (lL D e S).2)):=by
 obtain⟨w1,hw1⟩:∃w1,w.alloc (.cells #[.int .i64 (kP t),.int .i64 t.place,.string (wP t),.int .i32 (nP t),.int .i32 (sP t),.int .i64 (kP x),.int .i64 x.place,.string (wP x),.int .i32 (nP x),.int .i32 (sP x),.slice so sl sc,.slice ao al ac,.slice bo bl bc] 124)=w1:=⟨_,rfl⟩;have s1:w1.heap[w.heap.size]?=some (.cells #[.int .i64 (kP t),.int .i64 t.place,.string (wP t),.int .i32 (nP t),.int .i32 (sP t),.int .i64 (kP x),.int .i64 x.place,.string (wP x),.int .i32 (nP x),.int .i32 (sP x),.slice so sl sc,.slice ao al ac,.slice bo bl bc] 124 (0,0)):=by rw[<-hw1];exact aA w _
 have h1:bI w1 D S n rv:=by rw[<-hw1];exact h.later (λk hk=>av w _ k hk)
 have k1:aS D rv w w1 rv:=by rw[<-hw1];exact aS.alloc D rv w _
 have z1:w1.heap.size=w.heap.size+1:=by rw[<-hw1];simp
 have v1:gD w1 Q (qV x (.slice so sl sc)) e:=gD.later (k1.stay h hQ) (λj hj _=>hj) hv;obtain⟨hnb,hnr⟩:=h.fresh;have val:=AF 100000 (af _) e w1 D S n rv Q _ hsz h1 v1 hw hQ hD ho.vals ho.s0 (by omega) ho.t0 (by have:=ho.t1;omega);obtain⟨q,_,hq2,zt⟩:=CV D hv S;obtain⟨r0,hr0⟩:∃r0,lL D e S=r0:=⟨_,rfl⟩;obtain⟨vv,S1⟩:=r0;rw[hr0]at val zt ⊢;have zt:M7 S S1 q:=zt;have qG:zJ D S1:=ho.ev zt;have st1:=zt.steps;have CS:Hid (∀w2 rv2,bI w2 D S1 n rv2->aS D rv w1 w2 rv2->Calls Tryz.prog 38 #[.pointer (some ⟨D.pb,0,none⟩),.slice ao al ac] w2 (λe w3=>e=.returned (.tuple #[])/\Hid (EI w D rv (iA D s S1) (.returned (.tuple #[])) w3))):=λw2 rv2 h2 k2=>by
  refine(ih s w2 D S1 n rv2 Q _ hss h2 (dh.later (k2.stay h1 hQ) (λj hj _=>hj) (dh.later (k1.stay h hQ) (λj hj _=>hj) ha)) hws hQ hD qG (by omega) hts (by omega)).mono ?_;rintro e w3 ⟨rfl,n',rv',p3,k3,hn3⟩;exact⟨rfl,rfl,n',rv',p3,(k1.trans k2).trans k3,hn3⟩
 have CU:Hid (∀w2 rv2,bI w2 D S1 n rv2->aS D rv w1 w2 rv2->Calls Tryz.prog 38 #[.pointer (some ⟨D.pb,0,none⟩),.slice bo bl bc] w2 (λe w3=>e=.returned (.tuple #[])/\Hid (EI w D rv (iA D u S1) (.returned (.tuple #[])) w3))):=λw2 rv2 h2 k2=>by
  refine(ih u w2 D S1 n rv2 Q _ hsu h2 (dh.later (k2.stay h1 hQ) (λj hj _=>hj) (dh.later (k1.stay h hQ) (λj hj _=>hj) hb)) hwu hQ hD qG (by omega) htu (by omega)).mono ?_;rintro e w3 ⟨rfl,n',rv',p3,k3,hn3⟩;exact⟨rfl,rfl,n',rv',p3,(k1.trans k2).trans k3,hn3⟩
 obtain⟨d0,d1,d2,d3,d4,d5,d6,d7,d8,d9,d10,d11,d12⟩:=(qR s1).1;have VAL:=aj val;clear val h v1 hv ha hb hw hws hwu hQ ho zt qG hD hr0 hs hsz h1 st1 hq2 hss hsu hts htu hn k1 ih;show Calls _ _ _ _ (EI w D rv (if vv≠0 then iA D s S1 else iA D u S1));unfold qV at VAL;by_cases hvv:vv=0
 .have hv2:(vv != 0)=false:=by simp[hvv]
  rw[ae (λhh=>hh hvv)];clear hvv CS;go_enter Tryz.func64,Tryz.ntmps64;go_wp2_with fail;clear hw1;refine(aa VAL).mono ?_;rintro e w2 ⟨rfl,rv2,h2,k2⟩;have s2:=(k2.block _ (by omega) hnb hnr).trans s1;have hz2:=k2.size;have CU2:=aj (aa CU w2 rv2 h2 k2);clear VAL d0 d1 d2 d3 d4 d5 d6 d7 d8 d9 d10 d11 d12 s1 k2 h2 CU;obtain⟨d0,d1,d2,d3,d4,d5,d6,d7,d8,d9,d10,d11,d12⟩:=(qR s2).1;go_wp2_with fail;refine(aa CU2).mono ?_;rintro e w3 ⟨rfl,fin⟩;clear CU2 s2 d0 d1 d2 d3 d4 d5 d6 d7 d8 d9 d10 d11 d12;go_wp2
  go_end0
  exact aa fin
 .have hv2:(vv != 0)=true:=by simp[hvv]
  rw[ag hvv];clear hvv CU;go_enter Tryz.func64,Tryz.ntmps64;go_wp2_with fail;clear hw1;refine(aa VAL).mono ?_;rintro e w2 ⟨rfl,rv2,h2,k2⟩;have s2:=(k2.block _ (by omega) hnb hnr).trans s1;have hz2:=k2.size;have CS2:=aj (aa CS w2 rv2 h2 k2);clear VAL d0 d1 d2 d3 d4 d5 d6 d7 d8 d9 d10 d11 d12 s1 k2 h2 CS;obtain⟨d0,d1,d2,d3,d4,d5,d6,d7,d8,d9,d10,d11,d12⟩:=(qR s2).1;go_wp2_with fail;refine(aa CS2).mono ?_;rintro e w3 ⟨rfl,fin⟩;clear CS2 s2 d0 d1 d2 d3 d4 d5 d6 d7 d8 d9 d10 d11 d12;go_wp2
  go_end0
  exact aa fin
structure Kb (D:PD) (S:dx) (rv:Value) (nm:ByteArray) (k:Sx) (a:Int) (N:Nat) (w1:World) (q:Nat) (i:Int) (S':dx) (n':Nat) (rv':Value) (wr:World):Prop where
 le:q<=N
 at_:i+q=a+N
 pt:bI wr D S' n' rv'
 st:aS D rv w1 wr rv'
 fold:fA (iA D k) nm q i S'=fA (iA D k) nm N a S
 ok:zJ D S'
 cnt:(n':Int)<=S'.steps+2
 ub:S'.steps+q<=20001+zK k+N
theorem QI (ih:O9 m) (w:World) (D:PD) (S:dx) (n:Nat) (rv:Value) (Q:Nat->Prop) (t x y:aH) (ao:Option Addr) (al ac:Nat) (k:Sx) (hD:D.Ok) (h:bI w D S n rv) (ha:dh w Q (.slice ao al ac) k) (hwk:Ul k) (htt:kD t) (htx:kD x) (hty:nP y<=20) (hQ:∀k,Q k->k<D.B) (ho:zJ D S) (hs:S.steps<=20001) (hss:dS k<m) (hts:zK k<=100000) (hn:(n:Int)<=S.steps+2) :
  Calls Tryz.prog 65 #[.pointer (some ⟨D.pb,0,none⟩),.agg #[.int .i64 (kP t),.int .i64 t.place,.string (wP t),.int .i32 (nP t),.int .i32 (sP t),.int .i64 (kP x),.int .i64 x.place,.string (wP x),.int .i32 (nP x),.int .i32 (sP x),.int .i64 (kP y),.int .i64 y.place,.string (wP y),.int .i32 (nP y),.int .i32 (sP y),.slice ao al ac]] w (EI w D rv (fA (iA D k) (wP t) (nP y-nP x+1).toNat (nP x) S)):=by
 obtain⟨w1,hw1⟩:∃w1,w.alloc (.cells #[.int .i64 (kP t),.int .i64 t.place,.string (wP t),.int .i32 (nP t),.int .i32 (sP t),.int .i64 (kP x),.int .i64 x.place,.string (wP x),.int .i32 (nP x),.int .i32 (sP x),.int .i64 (kP y),.int .i64 y.place,.string (wP y),.int .i32 (nP y),.int .i32 (sP y),.slice ao al ac] 127)=w1:=⟨_,rfl⟩;have s1:w1.heap[w.heap.size]?=some (.cells #[.int .i64 (kP t),.int .i64 t.place,.string (wP t),.int .i32 (nP t),.int .i32 (sP t),.int .i64 (kP x),.int .i64 x.place,.string (wP x),.int .i32 (nP x),.int .i32 (sP x),.int .i64 (kP y),.int .i64 y.place,.string (wP y),.int .i32 (nP y),.int .i32 (sP y),.slice ao al ac] 127 (0,0)):=by rw[<-hw1];exact aA w _
 have h1:bI w1 D S n rv:=by rw[<-hw1];exact h.later (λk hk=>av w _ k hk)
 have k1:aS D rv w w1 rv:=by rw[<-hw1];exact aS.alloc D rv w _
 have z1:w1.heap.size=w.heap.size+1:=by rw[<-hw1];simp
 have a1:dh w1 Q (.slice ao al ac) k:=dh.later (k1.stay h hQ) (λj hj _=>hj) ha;obtain⟨hnb,hnr⟩:=h.fresh;have hx0:=htx.2.1;have hx1:=htx.2.2;obtain⟨N,hN⟩:∃N,(nP y-nP x+1).toNat=N:=⟨_,rfl⟩;have hN2:N<=21:=by omega
 have hN3:0<N->nP x+N=nP y+1:=by omega
 have hN4:nP y<nP x+N:=by omega
 rw[hN];obtain⟨A,hA⟩:∃A,nP x=A:=⟨_,rfl⟩;obtain⟨Bn,hBn⟩:∃Bn,nP y=Bn:=⟨_,rfl⟩;have L0:Kb D S rv (wP t) k A N w1 N A S n rv w1:=⟨af _,rfl,h1,aS.refl _ _ _,rfl,ho,hn,by omega⟩;have rnd:∀(q:Nat) (i:Int) (S':dx) (n':Nat) (rv':Value) (wr:World),Kb D S rv (wP t) k A N w1 (q+1) i S' n' rv' wr->∀w3,bI w3 D (aK S') n' rv'->aS D rv' wr w3 rv'->w3.heap[w.heap.size]?=w1.heap[w.heap.size]?/\∃w9,(Instr.mapUpdate 80 (.map (some D.mb)) (.string (wP t)) (.int .i32 i)).run Tryz.prog w3.drew=.ok () w9/\w9.heap[w.heap.size]?=w1.heap[w.heap.size]?/\Calls Tryz.prog 38 #[.pointer (some ⟨D.pb,0,none⟩),.slice ao al ac] w9 (λe w5=>e=.returned (.tuple #[])/\∃S5 n5 rv5,Kb D S rv (wP t) k A N w1 q (i+1) S5 n5 rv5 w5/\w5.heap[w.heap.size]?=w1.heap[w.heap.size]?):=λq i S' n' rv' wr L w3 h3 k3=>by
  have lub:=L.ub;have lle:=L.le;have lat:=L.at_;have lcnt:=L.cnt;have ls0:=L.ok.s0;have k13:=L.st.trans k3;obtain⟨w9,hrun,h9,k9⟩:=h3.drew.store htt.1 (c:=i) ⟨by omega,by omega⟩ (by omega);have k19:=(k13.trans (aS.drew D rv' w3)).trans k9;refine⟨k13.block _ (by omega) hnb hnr,w9,hrun,k19.block _ (by omega) hnb hnr,?_⟩;have ok9:zJ D (uL (aK S') (wP t) i):=L.ok.step.set _ ⟨by omega,by omega⟩;have e9:(uL (aK S') (wP t) i).steps=S'.steps+1:=rfl;refine(ih k w9 D (uL (aK S') (wP t) i) (n'+1) rv' Q _ hss h9 (dh.later (k19.stay h1 hQ) (λj hj _=>hj) a1) hwk hQ hD ok9 (by rw[e9];omega) hts (by rw[e9];omega)).mono ?_;rintro e w5 ⟨rfl,n5,rv5,p5,k5,hn5⟩;have g:=Lh (D:=D) _ k (af _) hwk _ ok9;have g2:=g.ub;rw[e9]at g2;refine⟨rfl,_,n5,rv5,⟨by omega,by omega,p5,k19.trans k5,?_,g.ok,hn5,by omega⟩,(k19.trans k5).block _ (by omega) hnb hnr⟩;have:=L.fold;exact this
 have fin:∀(i:Int) (S':dx) (n':Nat) (rv':Value) (wr:World),Kb D S rv (wP t) k A N w1 0 i S' n' rv' wr->EI w D rv (fA (iA D k) (wP t) N A S) (.returned (.tuple #[])) wr:=λi S' n' rv' wr L=>by
  have f:S'=fA (iA D k) (wP t) N A S:=L.fold;rw[<-f];exact⟨rfl,n',rv',L.pt,k1.trans L.st,L.cnt⟩
 have box:∀(q:Nat) (i:Int) (S':dx) (n':Nat) (rv':Value) (wr:World),Kb D S rv (wP t) k A N w1 q i S' n' rv' wr->wr.heap[w.heap.size]?=w1.heap[w.heap.size]?:=λq i S' n' rv' wr L=>L.st.block _ (by omega) hnb hnr;have RND:=aj rnd;have FIN:=aj fin;have BOX:=aj box;have HL0:=aj L0;rw[hA,hBn]at s1;rw[hA,hBn]at hw1;rw[hA]at hN3 hN4 hx0 hx1 ⊢;rw[hBn]at hN3 hN4 hty ⊢;obtain⟨d0,d1,d2,d3,d4,d5,d6,d7,d8,d9,d10,d11,d12,d13,d14,d15⟩:=(zF s1).1;clear rnd fin box L0 h ha a1 h1 k1 ho hs hss hn hQ hD ih hwk htt htx hA hBn hN hnb hnr;go_enter Tryz.func65,Tryz.ntmps65;go_wp2;clear hw1 d0 d1 d2 d3 d4 d5 d6 d7 d8 d9 d10 d11 d12 d13 d14 d15
 go_loopg [4] N (λq v wr=>∃i S' n' rv',v=.int .i32 i/\Kb D S rv (wP t) k A N w1 q i S' n' rv' wr)
 case atStart=>exact⟨A,S,n,rv,rfl,aa HL0⟩
 case round=>
  clear HL0;obtain⟨i,S',n',rv',rfl,L⟩:=hrel;have bx:=(aa BOX gk i S' n' rv' wr L).trans s1;have lat:=L.at_;have lle:=L.le;obtain⟨d0,d1,d2,d3,d4,d5,d6,d7,d8,d9,d10,d11,d12,d13,d14,d15⟩:=(zF bx).1
  cases gk with
  | zero=>
   have hle:decide (i<=Bn)=false:=by simp;omega
   have FF:=aj (aa FIN i S' n' rv' wr L);clear RND FIN BOX L;go_wp2
   go_end0
   exact aa FF
  | succ q=>
   have hle:decide (i<=Bn)=true:=by simp;omega
   have hi0:0<=i:=by omega
   have hi1:i<=21:=by omega
   have STP:=aj (GY wr D S' n' rv' L.pt L.ok.s0 (by have:=L.ub;omega));have RN:=aj (aa RND q i S' n' rv' wr L);clear RND FIN BOX L;go_wp2_with fail;refine(aa STP).mono ?_;rintro e w3 ⟨rfl,h3,k3⟩;obtain⟨b3,w9,hrun,b9,CC⟩:=aa RN w3 h3 k3;have s3:=b3.trans s1;have s9:=b9.trans s1;have C9:=aj CC;have hb3:=h3.blk;unfold Jt at hb3;obtain⟨⟨x0,x1,x2,x3,x4,x5,x6,x7,x8,x9,x10,x11,x12⟩,_⟩:=qR hb3;clear RN STP d0 d1 d2 d3 d4 d5 d6 d7 d8 d9 d10 d11 d12 d13 d14 d15 h3 k3 CC hb3 x0 x1 x2 x3 x4 x5 x6 x8 x9 x10 x11 x12;obtain⟨d0,d1,d2,d3,d4,d5,d6,d7,d8,d9,d10,d11,d12,d13,d14,d15⟩:=(zF s3).1;go_wp2;clear b3 b9
   go_region
   clear d0 d1 d2 d3 d4 d5 d6 d7 d8 d9 d10 d11 d12 d13 d14 d15 x7 hrun s3;obtain⟨d0,d1,d2,d3,d4,d5,d6,d7,d8,d9,d10,d11,d12,d13,d14,d15⟩:=(zF s9).1;go_wp2_with fail;refine(aa C9).mono ?_;rintro e w5 ⟨rfl,S5,n5,rv5,L5,b5⟩;clear C9 d0 d1 d2 d3 d4 d5 d6 d7 d8 d9 d10 d11 d12 d13 d14 d15 s9;go_wp2
   go_roundg q
   case rel=>exact⟨i+1,S5,n5,rv5,rfl,L5⟩
   case measure=>omega
structure Ik (D:PD) (S:dx) (rv:Value) (Q:Nat->Prop) (s:Sx) (ao:Option Addr) (w:World) (q:Nat) (rest:Sx) (S':dx) (n':Nat) (rv':Value) (wr:World):Prop where
 le:q<=lenS s
 len:lenS rest=q
 sz:dS rest<=dS s
 wt:zK rest<=zK s
 wf:Ul rest
 pt:bI wr D S' n' rv'
 st:aS D rv w wr rv'
 fold:iA D rest S'=iA D s S
 ok:zJ D S'
 cnt:(n':Int)<=S'.steps+2
 ub:S'.steps<=150000
 rep:Ko wr Q rest ao (lenS s-q)
theorem PK {o:Nat} {p:SP} {k r:Sx} {T:dx} (hw:Ul (.node b o p k r)) (ho:zJ D S) (e:iA D (.node b o p k .nil) S=T):zJ D T/\T.steps<=max S.steps (20001+zK (.node b o p k .nil)):=by
 have g:=Lh (D:=D) _ (.node b o p k .nil) (af _) ⟨hw.1,hw.2.1,trivial⟩ S ho;rw[e]at g;exact⟨g.ok,g.ub⟩
theorem Tk (hm:m<=100000) (ih:O9 m):O9 (m+1):=by
 intro s w D S n rv Q v hsz h hv hwf hQ hD ho hst hwt hn;obtain⟨ao,c,rfl,rep⟩:=hv.a;clear hv;have hlen:lenS s<=100000:=by have:=Lb s;omega
 have HL0:Hid (Ik D S rv Q s ao w (lenS s) s S n rv w):=⟨af _,rfl,af _,af _,hwf,h,aS.refl _ _ _,rfl,ho,hn,hst,by rw[cZ];exact rep⟩;have FIN:Hid (∀S' n' rv' wr,bI wr D S' n' rv'->aS D rv w wr rv'->(n':Int)<=S'.steps+2->S'=iA D s S->EI w D rv (iA D s S) (.returned (.tuple #[])) wr):=λS' n' rv' wr a b c d=>by
  rw[<-d];exact⟨rfl,n',rv',a,b,c⟩
 obtain⟨RES,hRES⟩:∃RES,iA D s S=RES:=⟨_,rfl⟩;rw[hRES]at FIN ⊢;clear h rep ho hn hst;go_enter Tryz.func38,Tryz.ntmps38;go_wp2
 go_loopg [12] (lenS s) (λq v wr=>∃rest S' n' rv',v=.int .i64 ((lenS s-q:Nat):Int)/\Ik D S rv Q s ao w q rest S' n' rv' wr)
 case atStart=>exact⟨s,S,n,rv,by rw[cZ];rfl,aa HL0⟩
 case round=>
 clear HL0;obtain⟨rest,S',n',rv',rfl,L⟩:=hrel
 cases rest with
 | nil=>
  have hq0:gk=0:=by rw[<-L.len];rfl
  subst hq0;have hge:decide (((lenS s-0:Nat):Int)<(lenS s:Int))=false:=by simp
  have FF:=aj (aa FIN S' n' rv' wr L.pt L.st L.cnt (by rw[<-hRES];exact L.fold));clear FIN L;go_wp2
  go_end0
  exact aa FF
 | node b1 o1 p k r1=>
 have hl1:lenS r1+1=gk:=L.len;have hle:=L.le;obtain⟨d,hd⟩:∃d,d+gk=lenS s:=⟨lenS s-gk,by omega⟩;have hnd:lenS s-gk=d:=by omega
 have hrep:=L.rep;rw[hnd]at hrep ⊢;have hlt:decide ((d:Int)<(lenS s:Int))=true:=by simp;omega
 rcases hrep with hnl|⟨g,rfl,hg,hrf⟩
 .cases hnl
 rw[yh]at hrf;obtain⟨⟨v,hcell,hrp⟩,hrest⟩:=hrf;obtain⟨⟨wfe,wft,wfa,wfb,wf2⟩,wfk,wfr⟩:=L.wf;have hszk:dS k+dS r1+1<=dS s:=L.sz;have hwtk:eu p.e+22+zK k+zK r1<=zK s:=L.wt;have hgw:g<wr.heap.size:=fB _ _ hcell;have OV:=aj (MP wr D S' n' rv' L.pt);by_cases hov:20000<S'.steps
 .have hov':decide (20000<S'.steps)=true:=by simp[hov]
  have FF:=aj (aa FIN S' n' rv' wr L.pt L.st L.cnt (by rw[<-hRES,<-L.fold,kK hov]));rw[hov']at OV;clear FIN L hrp hrest;go_wp2_with fail;refine(aa OV).mono ?_;rintro e w9 ⟨rfl,h9⟩;obtain rfl:=h9.symm;go_wp2
  go_end0
  exact aa FF
 have hov':decide (20000<S'.steps)=false:=by simp[hov]
 rw[hov']at OV;have hs2:S'.steps<=20000:=by omega
 have hs0:=L.ok.s0;have hcnt:=L.cnt;have ht1:=L.ok.t1;have qG:zJ D (aK S'):=L.ok.step;have e1s:(aK S').steps=S'.steps+1:=rfl;have e1t:(aK S').touched=S'.touched:=rfl;have NX:Hid (∀(w3:World) (T:dx) (n3:Nat) (rv3:Value),bI w3 D T n3 rv3->aS D rv' wr w3 rv3->(∀r,iA D (.node b1 o1 p k r) S'=iA D r T)->(n3:Int)<=T.steps+2->∃rest S'' n'' rv'',Value.int .i64 ((d:Int)+1)=.int .i64 ((lenS s-lenS r1:Nat):Int)/\Ik D S rv Q s (some ⟨g,0,none⟩) w (lenS r1) rest S'' n'' rv'' w3):=λw3 T n3 rv3 h3 k3 eT hn3=>by
  obtain⟨okT,ubT⟩:=PK (T:=T) L.wf L.ok (eT .nil);have hw1:(zK (.node b1 o1 p k .nil):Int)=eu p.e+22+zK k:=by simp[zK]
  refine⟨r1,T,n3,rv3,by congr 1;omega,by omega,rfl,by omega,by omega,wfr,h3,L.st.trans k3,(eT r1).symm.trans L.fold,okT,hn3,by omega,.inr ⟨g,rfl,hg,?_⟩⟩;rw[show lenS s-lenS r1=d+1 by omega];exact ul.later (k3.stay L.pt hQ) (λj hj _=>hj) r1 g (d+1) hg hrest
 have STP:=aj (GY wr D S' n' rv' L.pt hs0 (by omega));have STY:Hid (∀w3,aS D rv' wr w3 rv'->nz Q wr w3):=λw3 k3=>k3.stay L.pt hQ;have hgB:=hQ g hg;have hrv0:∀j,rv'.ownBlock=some j->D.B<=j:=λj e=>(L.pt.rowR.lt j e).1;have hP0:=L.pt;clear L hrest FIN;go_wp2_with fail;refine(aa OV).mono ?_;rintro e w9 ⟨rfl,h9⟩;obtain rfl:=h9.symm;go_wp2_with fail;refine(aa STP).mono ?_;rintro e w3 ⟨rfl,h3,k3⟩;have sty:=aa STY w3 k3;obtain⟨fnb,fnr⟩:=h3.fresh;have hz3:=k3.size;clear OV STP STY hcell;rcases hrp with⟨ht0,x,k1,sv,hhead,rfl,hkx⟩|⟨ht0,x,k1,sv,a1,b2,hhead,rfl,hkx,hkids⟩|⟨ht0,a1,rfl,hkids⟩|⟨ht0,x,k1,sv,hhead,rfl,hkx⟩
 .obtain⟨so1,sc1,rfl⟩:=qA.form hkx;have hve:gD wr Q (qV x (.slice so1 (lenE k1) sc1)) p.e:=by obtain⟨b,o,r,he⟩:=hhead;exact⟨b,o,x,k1,r,_,he,rfl,hkx⟩
  unfold Zx;have ta0:=tC;obtain⟨w4,hw4⟩:∃w4,w3.alloc (.cells #[.int .i64 (kP p.t),.int .i64 p.t.place,.string (wP p.t),.int .i32 (nP p.t),.int .i32 (sP p.t),.int .i64 (kP x),.int .i64 x.place,.string (wP x),.int .i32 (nP x),.int .i32 (sP x),.slice so1 (lenE k1) sc1] 121)=w4:=⟨_,rfl⟩;have s4:w4.heap[w3.heap.size]?=some (.cells #[.int .i64 (kP p.t),.int .i64 p.t.place,.string (wP p.t),.int .i32 (nP p.t),.int .i32 (sP p.t),.int .i64 (kP x),.int .i64 x.place,.string (wP x),.int .i32 (nP x),.int .i32 (sP x),.slice so1 (lenE k1) sc1] 121 (0,0)):=by rw[<-hw4];exact aA w3 _
  have h4:bI w4 D (aK S') n' rv':=by rw[<-hw4];exact h3.later (λj hj=>av w3 _ j hj)
  have k4:aS D rv' w3 w4 rv':=by rw[<-hw4];exact aS.alloc D rv' w3 _
  have z4:w4.heap.size=w3.heap.size+1:=by rw[<-hw4];simp
  have v4:gD w4.drew Q (qV x (.slice so1 (lenE k1) sc1)) p.e:=gD.later (w':=w4.drew) (λj hj hl=>(((k4.stay h3 hQ) j hj (by omega)).trans (sty j hj hl))) (λj hj _=>hj) hve;obtain⟨q,hq1,hq2,zt⟩:=CV D hve (aK S');have val:=AF 100000 (af _) p.e w4.drew D (aK S') n' rv' Q _ (by omega) h4.drew v4 wfe hQ hD qG.vals qG.s0 (by omega) qG.t0 (by omega);have in1:=WL D wfe qG.vals;have eT:∀r,iA D (.node b1 o1 p k r) S'=iA D r (uL (lL D p.e (aK S')).2 (wP p.t) (lL D p.e (aK S')).1):=λr=>Np (show ¬ 20000<S'.steps by omega) ht0;obtain⟨r0,hr0⟩:∃r0,lL D p.e (aK S')=r0:=⟨_,rfl⟩;obtain⟨vv,S5⟩:=r0;rw[hr0]at val zt in1 eT;have st5:S5.steps=S'.steps+1+q:=zt.steps
  have AFT:Hid (∀w5 rv5,bI w5 D S5 n' rv5->aS D rv' w4.drew w5 rv5->(w5.cell? ⟨D.pb,7,none⟩=some (.map (some D.mb))/\w5.heap[w3.heap.size]?=some (.cells #[.int .i64 (kP p.t),.int .i64 p.t.place,.string (wP p.t),.int .i32 (nP p.t),.int .i32 (sP p.t),.int .i64 (kP x),.int .i64 x.place,.string (wP x),.int .i32 (nP x),.int .i32 (sP x),.slice so1 (lenE k1) sc1] 121 (0,0)))/\∃w9,(Instr.mapUpdate 80 (.map (some D.mb)) (.string (wP p.t)) (.int .i32 vv)).run Tryz.prog w5=.ok () w9/\(w9.cell? ⟨D.pb,7,none⟩=some (.map (some D.mb))/\w9.heap[w3.heap.size]?=some (.cells #[.int .i64 (kP p.t),.int .i64 p.t.place,.string (wP p.t),.int .i32 (nP p.t),.int .i32 (sP p.t),.int .i64 (kP x),.int .i64 x.place,.string (wP x),.int .i32 (nP x),.int .i32 (sP x),.slice so1 (lenE k1) sc1] 121 (0,0)))/\Hid (∃rest S'' n'' rv'',Value.int .i64 ((d:Int)+1)=.int .i64 ((lenS s-lenS r1:Nat):Int)/\Ik D S rv Q s (some ⟨g,0,none⟩) w (lenS r1) rest S'' n'' rv'' w9)):=λw5 rv5 h5 k5=>by
   have pc:∀ {w':World} {T:dx} {nn:Nat} {rr:Value},bI w' D T nn rr->w'.cell? ⟨D.pb,7,none⟩=some (.map (some D.mb)):=λhh=>by
    have hb:=hh.blk;unfold Jt at hb;exact(qR hb).1.2.2.2.2.2.2.2.1
   have b5:=(k5.block w3.heap.size (by show _<w4.heap.size;omega) fnb fnr).trans s4;obtain⟨w9,hrun,h9,k9⟩:=h5.store wft.1 in1 (by omega);have fn5:rv5.ownBlock≠some w3.heap.size:=by
    rcases k5.tr with e|⟨j,e,hj⟩
    .rw[e];exact fnr
    .rw[e];intro e2;cases e2;have hj':w4.heap.size<=w3.heap.size:=hj;omega
   have b9:=(k9.block w3.heap.size (by have:=k5.size;have:w4.drew.heap.size=w4.heap.size:=rfl;omega) fnb fn5).trans b5;refine⟨⟨pc h5,b5⟩,w9,hrun,⟨pc h9,b9⟩,?_⟩;exact aa NX w9 _ (n'+1) rv5 h9 ((((k3.trans k4).trans (aS.drew D rv' w4)).trans k5).trans k9) eT (by show((n'+1:Nat):Int)<=S5.steps+2;omega)
  have VAL:=aj val;obtain⟨d0,d1,d2,d3,d4,d5,d6,d7,d8,d9,d10⟩:=(zR s4).1;have hb4:=h4.blk;unfold Jt at hb4;obtain⟨⟨y0,y1,y2,y3,y4,y5,y6,y7,y8,y9,y10,y11,y12⟩,_⟩:=qR hb4;clear val hkx hhead hve v4 s4 h4 k4 h3 k3 sty NX eT in1 zt hr0 ih hQ hD qG hb4 y0 y1 y2 y3 y4 y5 y6 y8 y9 y10 y11 y12 hP0 hrv0 wfe wft wfa wfb wf2 wfk wfr;unfold qV at VAL;go_wp2;clear hw4
  go_region_held3 (λw'=>w'.cell? ⟨D.pb,7,none⟩=some (.map (some D.mb))/\w'.cell? ⟨w3.heap.size,2,none⟩=some (.string (wP p.t))/\w'.cell? ⟨w3.heap.size,5,none⟩=some (.int .i64 (kP x))/\w'.cell? ⟨w3.heap.size,6,none⟩=some (.int .i64 x.place)/\w'.cell? ⟨w3.heap.size,7,none⟩=some (.string (wP x))/\w'.cell? ⟨w3.heap.size,8,none⟩=some (.int .i32 (nP x))/\w'.cell? ⟨w3.heap.size,9,none⟩=some (.int .i32 (sP x))/\w'.cell? ⟨w3.heap.size,10,none⟩=some (.slice so1 (lenE k1) sc1)) (go_keep)
   (first
    | (go_at_call 63;refine(aa VAL).mono ?_;rintro e w5 ⟨rfl,rv5,h5,k5⟩;have fx:=aa AFT w5 rv5 h5 k5;clear h5 k5;obtain⟨⟨f5,g5⟩,w9,hrun,⟨f9,g9⟩,fin⟩:=fx;have m5:=(zR g5).1;have m9:=(zR g9).1))
  all_goals go_wp2
  all_goals go_roundg (lenS r1)
  all_goals first
   | exact aa fin
   | omega
 .obtain⟨so1,sc1,rfl⟩:=qA.form hkx;have hve:gD wr Q (qV x (.slice so1 (lenE k1) sc1)) p.e:=by obtain⟨b,o,r,he⟩:=hhead;exact⟨b,o,x,k1,r,_,he,rfl,hkx⟩
  unfold ifV;have ta0:=yJ;have ta1:=Ib
  cases k with
  | nil=>exact hkids.elim
  | node b3 o3 p3 s1' u1'=>
  obtain⟨ao1,ac1,e1⟩:=dh.form hkids.1;obtain⟨bo1,bc1,e2⟩:=dh.form hkids.2;obtain⟨al1,hal1⟩:∃al1,lenS s1'=al1:=⟨_,rfl⟩;obtain⟨bl1,hbl1⟩:∃bl1,lenS u1'=bl1:=⟨_,rfl⟩;rw[hal1]at e1;rw[hbl1]at e2;subst e1;subst e2;have hsz2:dS (.node b3 o3 p3 s1' u1')=dS s1'+dS u1'+1:=rfl;have hwt2:zK (.node b3 o3 p3 s1' u1')=eu p3.e+22+zK s1'+zK u1':=rfl;obtain⟨w4,hw4⟩:∃w4,w3.alloc (.cells #[.int .i64 (kP p.t),.int .i64 p.t.place,.string (wP p.t),.int .i32 (nP p.t),.int .i32 (sP p.t),.int .i64 (kP x),.int .i64 x.place,.string (wP x),.int .i32 (nP x),.int .i32 (sP x),.slice so1 (lenE k1) sc1,.slice ao1 al1 ac1,.slice bo1 bl1 bc1] 124)=w4:=⟨_,rfl⟩;have s4:w4.heap[w3.heap.size]?=some (.cells #[.int .i64 (kP p.t),.int .i64 p.t.place,.string (wP p.t),.int .i32 (nP p.t),.int .i32 (sP p.t),.int .i64 (kP x),.int .i64 x.place,.string (wP x),.int .i32 (nP x),.int .i32 (sP x),.slice so1 (lenE k1) sc1,.slice ao1 al1 ac1,.slice bo1 bl1 bc1] 124 (0,0)):=by rw[<-hw4];exact aA w3 _
  have h4:bI w4 D (aK S') n' rv':=by rw[<-hw4];exact h3.later (λj hj=>av w3 _ j hj)
  have k4:aS D rv' w3 w4 rv':=by rw[<-hw4];exact aS.alloc D rv' w3 _
  have st4:nz Q wr w4:=λj hj hl=>((k4.stay h3 hQ) j hj (by omega)).trans (sty j hj hl);have eT:∀r,iA D (.node b1 o1 p (.node b3 o3 p3 s1' u1') r) S'=iA D r (if(lL D p.e (aK S')).1≠0 then iA D s1' (lL D p.e (aK S')).2 else iA D u1' (lL D p.e (aK S')).2):=λr=>NV (show ¬ 20000<S'.steps by omega) ht0;have CH:Hid (Calls Tryz.prog 64 #[.pointer (some ⟨D.pb,0,none⟩),.agg #[.int .i64 (kP p.t),.int .i64 p.t.place,.string (wP p.t),.int .i32 (nP p.t),.int .i32 (sP p.t),.int .i64 (kP x),.int .i64 x.place,.string (wP x),.int .i32 (nP x),.int .i32 (sP x),.slice so1 (lenE k1) sc1,.slice ao1 al1 ac1,.slice bo1 bl1 bc1]] w4 (λe w5=>e=.returned (.tuple #[])/\Hid (∃rest S'' n'' rv'',Value.int .i64 ((d:Int)+1)=.int .i64 ((lenS s-lenS r1:Nat):Int)/\Ik D S rv Q s (some ⟨g,0,none⟩) w (lenS r1) rest S'' n'' rv'' w5))):=by
   refine(Q4 ih w4 D (aK S') n' rv' Q p.t x so1 ao1 bo1 (lenE k1) sc1 al1 ac1 bl1 bc1 p.e s1' u1' hD h4 (gD.later st4 (λj hj _=>hj) hve) (dh.later st4 (λj hj _=>hj) hkids.1) (dh.later st4 (λj hj _=>hj) hkids.2) wfe wfk.2.1 wfk.2.2 hQ qG (by omega) (by omega) (by omega) (by omega) (by omega) (by omega) (by omega)).mono ?_;rintro e w5 ⟨rfl,n5,rv5,p5,k5,hn5⟩;exact⟨rfl,aa NX w5 _ n5 rv5 p5 ((k3.trans k4).trans k5) eT hn5⟩
  obtain⟨d0,d1,d2,d3,d4,d5,d6,d7,d8,d9,d10,d11,d12⟩:=(qR s4).1;clear hkx hhead hve st4 h4 k4 h3 k3 sty NX eT ih hQ hD qG hP0 hrv0 wfe wft wfa wfb wf2 wfk wfr hkids hal1 hbl1 s4;go_wp2_with fail;clear hw4;refine(aa CH).mono ?_;rintro e w5 ⟨rfl,fin⟩;clear CH d0 d1 d2 d3 d4 d5 d6 d7 d8 d9 d10 d11 d12;go_wp2
  go_roundg (lenS r1)
  case rel=>exact aa fin
  case measure=>omega
 .unfold ZT;have ta0:=xg;have ta1:=Ep;have ta2:=Cb;obtain⟨ao1,ac1,e1⟩:=dh.form hkids;obtain⟨al1,hal1⟩:∃al1,lenS k=al1:=⟨_,rfl⟩;rw[hal1]at e1;subst e1;obtain⟨w4,hw4⟩:∃w4,w3.alloc (.cells #[.int .i64 (kP p.t),.int .i64 p.t.place,.string (wP p.t),.int .i32 (nP p.t),.int .i32 (sP p.t),.int .i64 (kP p.a),.int .i64 p.a.place,.string (wP p.a),.int .i32 (nP p.a),.int .i32 (sP p.a),.int .i64 (kP p.b),.int .i64 p.b.place,.string (wP p.b),.int .i32 (nP p.b),.int .i32 (sP p.b),.slice ao1 al1 ac1] 127)=w4:=⟨_,rfl⟩;have s4:w4.heap[w3.heap.size]?=some (.cells #[.int .i64 (kP p.t),.int .i64 p.t.place,.string (wP p.t),.int .i32 (nP p.t),.int .i32 (sP p.t),.int .i64 (kP p.a),.int .i64 p.a.place,.string (wP p.a),.int .i32 (nP p.a),.int .i32 (sP p.a),.int .i64 (kP p.b),.int .i64 p.b.place,.string (wP p.b),.int .i32 (nP p.b),.int .i32 (sP p.b),.slice ao1 al1 ac1] 127 (0,0)):=by rw[<-hw4];exact aA w3 _
  have h4:bI w4 D (aK S') n' rv':=by rw[<-hw4];exact h3.later (λj hj=>av w3 _ j hj)
  have k4:aS D rv' w3 w4 rv':=by rw[<-hw4];exact aS.alloc D rv' w3 _
  have st4:nz Q wr w4:=λj hj hl=>((k4.stay h3 hQ) j hj (by omega)).trans (sty j hj hl);have eT:∀r,iA D (.node b1 o1 p k r) S'=iA D r (fA (iA D k) (wP p.t) (nP p.b-nP p.a+1).toNat (nP p.a) (aK S')):=λr=>NZ (show ¬ 20000<S'.steps by omega) ht0;have CH:Hid (Calls Tryz.prog 65 #[.pointer (some ⟨D.pb,0,none⟩),.agg #[.int .i64 (kP p.t),.int .i64 p.t.place,.string (wP p.t),.int .i32 (nP p.t),.int .i32 (sP p.t),.int .i64 (kP p.a),.int .i64 p.a.place,.string (wP p.a),.int .i32 (nP p.a),.int .i32 (sP p.a),.int .i64 (kP p.b),.int .i64 p.b.place,.string (wP p.b),.int .i32 (nP p.b),.int .i32 (sP p.b),.slice ao1 al1 ac1]] w4 (λe w5=>e=.returned (.tuple #[])/\Hid (∃rest S'' n'' rv'',Value.int .i64 ((d:Int)+1)=.int .i64 ((lenS s-lenS r1:Nat):Int)/\Ik D S rv Q s (some ⟨g,0,none⟩) w (lenS r1) rest S'' n'' rv'' w5))):=by
   refine(QI ih w4 D (aK S') n' rv' Q p.t p.a p.b ao1 al1 ac1 k hD h4 (dh.later st4 (λj hj _=>hj) hkids) wfk wft wfa (wf2 ht0) hQ qG (by omega) (by omega) (by omega) (by omega)).mono ?_;rintro e w5 ⟨rfl,n5,rv5,p5,k5,hn5⟩;exact⟨rfl,aa NX w5 _ n5 rv5 p5 ((k3.trans k4).trans k5) eT hn5⟩
  obtain⟨d0,d1,d2,d3,d4,d5,d6,d7,d8,d9,d10,d11,d12,d13,d14,d15⟩:=(zF s4).1;clear st4 h4 k4 h3 k3 sty NX eT ih hQ hD qG hP0 hrv0 wfe wft wfa wfb wf2 wfk wfr hkids hal1 s4;go_wp2_with fail;clear hw4;refine(aa CH).mono ?_;rintro e w5 ⟨rfl,fin⟩;clear CH d0 d1 d2 d3 d4 d5 d6 d7 d8 d9 d10 d11 d12 d13 d14 d15;go_wp2
  go_roundg (lenS r1)
  case rel=>exact aa fin
  case measure=>omega
 .obtain⟨so1,sc1,rfl⟩:=qA.form hkx;have hve:gD wr Q (qV x (.slice so1 (lenE k1) sc1)) p.e:=by obtain⟨b,o,r,he⟩:=hhead;exact⟨b,o,x,k1,r,_,he,rfl,hkx⟩
  unfold Qa8;have ta0:=xf;have ta1:=EB;have ta2:=BL;have ta3:=Cg;obtain⟨w4,hw4⟩:∃w4,w3.alloc (.cells #[.int .i64 (kP p.t),.int .i64 p.t.place,.string (wP p.t),.int .i32 (nP p.t),.int .i32 (sP p.t),.int .i64 (kP x),.int .i64 x.place,.string (wP x),.int .i32 (nP x),.int .i32 (sP x),.slice so1 (lenE k1) sc1] 130)=w4:=⟨_,rfl⟩;have s4:w4.heap[w3.heap.size]?=some (.cells #[.int .i64 (kP p.t),.int .i64 p.t.place,.string (wP p.t),.int .i32 (nP p.t),.int .i32 (sP p.t),.int .i64 (kP x),.int .i64 x.place,.string (wP x),.int .i32 (nP x),.int .i32 (sP x),.slice so1 (lenE k1) sc1] 130 (0,0)):=by rw[<-hw4];exact aA w3 _
  have h4:bI w4 D (aK S') n' rv':=by rw[<-hw4];exact h3.later (λj hj=>av w3 _ j hj)
  have k4:aS D rv' w3 w4 rv':=by rw[<-hw4];exact aS.alloc D rv' w3 _
  have st4:nz Q wr w4:=λj hj hl=>((k4.stay h3 hQ) j hj (by omega)).trans (sty j hj hl);have eT:∀r,iA D (.node b1 o1 p k r) S'=iA D r (sU D (lL D p.e (aK S')).2 (decide (wP p.t=lD)) (lL D p.e (aK S')).1):=λr=>Qe5 (show ¬ 20000<S'.steps by omega) ht0;obtain⟨q,hq1,hq2,zt⟩:=CV D hve (aK S');have st5:=zt.steps;have tt5:=zt.t2;have pst:=((qG.ev zt).put (by omega) (decide (wP p.t=lD)) (lL D p.e (aK S')).1).2;have CH:Hid (Calls Tryz.prog 66 #[.pointer (some ⟨D.pb,0,none⟩),.agg #[.int .i64 (kP p.t),.int .i64 p.t.place,.string (wP p.t),.int .i32 (nP p.t),.int .i32 (sP p.t),.int .i64 (kP x),.int .i64 x.place,.string (wP x),.int .i32 (nP x),.int .i32 (sP x),.slice so1 (lenE k1) sc1]] w4 (λe w5=>e=.returned (.tuple #[])/\Hid (∃rest S'' n'' rv'',Value.int .i64 ((d:Int)+1)=.int .i64 ((lenS s-lenS r1:Nat):Int)/\Ik D S rv Q s (some ⟨g,0,none⟩) w (lenS r1) rest S'' n'' rv'' w5))):=by
   refine(Vk w4 D (aK S') n' rv' Q p.t x so1 (lenE k1) sc1 p.e hD h4 (gD.later st4 (λj hj _=>hj) hve) wfe hQ qG (by omega) (by omega)).mono ?_;rintro e w5 ⟨rfl,rv5,p5,k5⟩;exact⟨rfl,aa NX w5 _ n' rv5 p5 ((k3.trans k4).trans k5) eT (by rw[pst];omega)⟩
  obtain⟨d0,d1,d2,d3,d4,d5,d6,d7,d8,d9,d10⟩:=(zR s4).1;clear hkx hhead hve st4 h4 k4 h3 k3 sty NX eT ih hQ hD qG hP0 hrv0 wfe wft wfa wfb wf2 wfk wfr s4 zt st5 tt5 pst;go_wp2_with fail;clear hw4;refine(aa CH).mono ?_;rintro e w5 ⟨rfl,fin⟩;clear CH d0 d1 d2 d3 d4 d5 d6 d7 d8 d9 d10;go_wp2
  go_roundg (lenS r1)
  case rel=>exact aa fin
  case measure=>omega
theorem O0:∀m,m<=100000->O9 m
 | 0,_=>λs w D S n rv Q v hsz=>by omega
 | m+1,hm=>Tk (by omega) (O0 m (by omega))
def YE:ByteArray:=⟨#[120]⟩
def XC:ByteArray:=⟨#[121]⟩
def xh (S:dx) (x y:Int):dx:={ S with cx:=x,cy:=y,vals:=mU (mU (λ_=>0) YE x) XC y }
theorem bI.cleared (h:bI w D S n rv) (ty:TypeId):∃w9,(Builtin.clear_ #[80] ty #[.map (some D.mb)]).run Tryz.prog w=.ok (.tuple #[]) w9/\bI w9 D { S with vals:=λ_=>0 } 0 rv/\aS D rv w w9 rv:=by
 obtain⟨w9,hrun,hmap,ht⟩:=h.map.clear Tryz.underlying80 ty;have hg:=ht.grown;have oth:∀k,k<w.heap.size->k≠D.mb->w9.heap[k]?=w.heap[k]?:=λk hk hne=>hg.block k hk (λe=>hne (by cases e;rfl));obtain⟨n1,n2,n3,n4,n5,n6⟩:=h.ne;have hB:D.B<=D.mb:=h.base _ (.inr (.inl rfl));have hlm:=h.ltM;refine⟨w9,hrun,⟨(oth _ h.ltP n1).trans h.blk,hmap,(oth _ h.ltO (Ne.symm n4)).trans h.rowO,(oth _ h.ltH (Ne.symm n5)).trans h.rowH,cu h.rowR (λk e=>oth k (h.rowR.lt k e).2 (λe2=>h.away k e (.inr (.inl e2)))),h.ne,h.base,h.away,h.tex1.sameP (λk hk=>oth k (by omega) (by omega)),h.tex2.sameP (λk hk=>oth k (by omega) (by omega))⟩,⟨hg.size,λk hk ho _=>oth k hk (λe=>ho (.inr (.inl e))),bY.grown hg,.inl rfl⟩⟩
theorem Ty (w:World) (D:PD) (S:dx) (n:Nat) (rv:Value) (x y:Int) (h:bI w D S n rv) (hx:0<=x/\x<=100) (hy:0<=y/\y<=100) :
  Calls Tryz.prog 37 #[.pointer (some ⟨D.pb,0,none⟩),.agg #[.int .i64 x,.int .i64 y]] w λe w'=>e=.returned (.tuple #[])/\bI w' D (xh S x y) 2 rv/\aS D rv w w' rv:=by
 obtain⟨w1,hw1⟩:∃w1,w.alloc (.cells #[.int .i64 x,.int .i64 y] 77)=w1:=⟨_,rfl⟩;have h1:bI w1 D S n rv:=by rw[<-hw1];exact h.later (λk hk=>av w _ k hk)
 have k1:aS D rv w w1 rv:=by rw[<-hw1];exact aS.alloc D rv w _
 have s1:w1.heap[w.heap.size]?=some (.cells #[.int .i64 x,.int .i64 y] 77 (0,0)):=by rw[<-hw1];exact aA w _
 have z1:w1.heap.size=w.heap.size+1:=by rw[<-hw1];simp
 have fnb:¬ D.own w.heap.size:=by
  rintro(o|o|o|o)
  .have:=h.ltP;omega
  .have:=h.ltM;omega
  .have:=h.ltO;omega
  .have:=h.ltH;omega
 have fnr:rv.ownBlock≠some w.heap.size:=λe=>by have:=(h.rowR.lt _ e).2;omega
 have hltp:=h.ltP;obtain⟨hx0,hx1⟩:=hx;obtain⟨hy0,hy1⟩:=hy;obtain⟨w2,hw2⟩:∃w2,(w1.setCell ⟨D.pb,5,none⟩ (.int .i64 x)).setCell ⟨D.pb,6,none⟩ (.int .i64 y)=w2:=⟨_,rfl⟩;have h2:bI w2 D { S with cx:=x,cy:=y } n rv:=by
  rw[<-hw2];have a:=h1.turn (S':={ S with cx:=x }) rfl rfl rfl rfl (aM _ D.pb 5 _ _ (.int .i64 x) h1.blk) (λk hk=>ay _ _ _ _ hk);exact a.turn (S':={ S with cx:=x,cy:=y }) rfl rfl rfl rfl (aM _ D.pb 6 _ _ (.int .i64 y) a.blk) (λk hk=>ay _ _ _ _ hk)
 have k2:aS D rv w1 w2 rv:=by rw[<-hw2];exact((aS.refl D rv w1).set (.inl rfl) _).set (.inl rfl) _
 obtain⟨w3,run3,h3,k3⟩:=h2.cleared 0;obtain⟨w4,run4,h4,k4⟩:=h3.drew.store (s:=YE) (by decide) (c:=x) ⟨by omega,by omega⟩ (by omega);obtain⟨w5,run5,h5,k5⟩:=h4.drew.store (s:=XC) (by decide) (c:=y) ⟨by omega,by omega⟩ (by omega);have k13:=k2.trans k3;have k14:=(k13.trans (aS.drew D rv w3)).trans k4;have b3:=(k13.block _ (by omega) fnb fnr).trans s1;have b4:=(k14.block _ (by omega) fnb fnr).trans s1;have pc:∀ {w':World} {T:dx} {nn:Nat} {rr:Value},bI w' D T nn rr->w'.cell? ⟨D.pb,7,none⟩=some (.map (some D.mb)):=λhh=>by
  have hb:=hh.blk;unfold Jt at hb;exact(qR hb).1.2.2.2.2.2.2.2.1
 have p2:=pc h2;have p3:=pc h3;have p4:=pc h4;have FIN:Hid (bI w5 D (xh S x y) 2 rv/\aS D rv w w5 rv):=⟨h5,k1.trans ((k14.trans (aS.drew D rv w4)).trans k5)⟩;have hb1:=h1.blk;unfold Jt at hb1;obtain⟨⟨x0,x1,x2,x3,x4,x5,x6,x7,x8,x9,x10,x11,x12⟩,⟨y0,y1,y2,y3,y4,y5,y6,y7,y8,y9,y10,y11,y12⟩⟩:=qR hb1;obtain⟨⟨q0,q1⟩,_⟩:=yo s1;obtain⟨⟨r0,r1⟩,_⟩:=yo b3;obtain⟨⟨t0,t1⟩,_⟩:=yo b4;have hne:¬ D.pb=w.heap.size:=by omega
 have ex:wrap32 x=x:=by unfold wrap32;omega
 have ey:wrap32 y=y:=by unfold wrap32;omega
 unfold YE at run4;unfold XC at run5;clear h h1 h2 h3 h4 h5 k1 k2 k3 k4 k5 k13 k14 b3 b4 s1 hb1 pc x0 x1 x2 x3 x4 x8 x9 x10 x11 x12 y0 y1 y2 y3 y4 y7 y8 y9 y10 y11 y12;go_enter Tryz.func37,Tryz.ntmps37;go_wp2
 go_region
 go_wp2
 go_region
 go_end0
 exact⟨rfl,(aa FIN).1,(aa FIN).2⟩
theorem Zd (D:PD) (e:Ex) (S:dx):S.steps+1<=(lL D e (aK S)).2.steps:=by
 obtain⟨m,_,h⟩:=RJ D e (aK S);have:(aK S).steps=S.steps+1:=rfl;rw[h.steps];omega
theorem JF (D:PD) (S:dx) (out:Bool) (v:Int):(sU D S out v).steps=S.steps:=by
 unfold sU;split
 .exact(fO S 2 (iT D S)).1
 .exact(fO S 3 (iT D S)).1
theorem ui {body:dx->dx} {nm:ByteArray} (hb:∀T:dx,T.steps<=(body T).steps):∀(q:Nat) (i:Int) (S:dx),S.steps<=(fA body nm q i S).steps
 | 0,_,_=>dn _
 | q+1,i,S=>by
  have h1:=hb (uL (aK S) nm i);have h2:=ui hb (nm:=nm) q (i+1) (body (uL (aK S) nm i));have h3:(uL (aK S) nm i).steps=S.steps+1:=rfl;show S.steps<=(fA body nm q (i+1) (body (uL (aK S) nm i))).steps;omega
theorem Az (D:PD):∀(n:Nat) (s:Sx),dS s<=n->∀S:dx,S.steps<=(iA D s S).steps
 | _,.nil,_,S=>dn _
 | 0,.node _ _ _ _ _,h,_=>by simp[dS]at h
 | n+1,.node b o p k r,h,S=>by
  by_cases h0:20000<S.steps
  .rw[kK h0];exact dn _
  have hr:dS r<=n:=by simp only[dS]at h;omega
  have hk:dS k<=n:=by simp only[dS]at h;omega
  have he:=Zd D p.e S;have tr:∀X:dx,S.steps<=X.steps->S.steps<=(iA D r X).steps:=λX hX=>Int.le_trans hX (Az D n r hr X)
  cases k with
  | nil=>
   show S.steps<=(if 20000<S.steps then S else iA D r _).steps;rw[ae h0];refine tr _ ?_;split
   .show S.steps<=(lL D p.e (aK S)).2.steps;omega
   split
   .show S.steps<=(lL D p.e (aK S)).2.steps;omega
   split
   .have h1:=ui (body:=λT=>iA D .nil T) (nm:=wP p.t) (λT=>dn _) (nP p.b-nP p.a+1).toNat (nP p.a) (aK S);have h2:(aK S).steps=S.steps+1:=rfl;omega
   .rw[JF];omega
  | node b1 o1 q s u=>
   have hs:dS s<=n:=by simp only[dS]at hk;omega
   have hu:dS u<=n:=by simp only[dS]at hk;omega
   show S.steps<=(if 20000<S.steps then S else iA D r _).steps;rw[ae h0];refine tr _ ?_;split
   .show S.steps<=(lL D p.e (aK S)).2.steps;omega
   split
   .show S.steps<=(if _ then _ else _:dx).steps;split
    .exact Int.le_trans (by omega) (Az D n s hs _)
    .exact Int.le_trans (by omega) (Az D n u hu _)
   split
   .have h1:=ui (body:=λT=>iA D (.node b1 o1 q s u) T) (nm:=wP p.t) (λT=>Az D n _ hk T) (nP p.b-nP p.a+1).toNat (nP p.a) (aK S);have h2:(aK S).steps=S.steps+1:=rfl;omega
   .rw[JF];omega
end Go.Proofs.YthmmgiaobakilaaGreat
