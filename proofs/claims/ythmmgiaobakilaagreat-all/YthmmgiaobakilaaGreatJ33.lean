import Derived.Test.YthmmgiaobakilaaGreatJ12
import Derived.Test.YthmmgiaobakilaaGreatJ32
import Derived.Deep.LoopGhost
set_option maxRecDepth 100000
set_option maxHeartbeats 8000000
set_option linter.all false
namespace Go.Proofs.YthmmgiaobakilaaGreat
open Go.RowKit Go.Deep
variable {D:PD} {S:dx} {b:Int} {n:Nat} {rv v:Value} {t:aH} {vs:List Int} {w w':World}
def jQ (D:PD) (S:dx) (t:aH) (vs:List Int):Int×dx:=if kP t=3 then(nP t,S) else if kP t=4 then(BD (sP t) vs,S) else fQ D S (wP t) vs
def xD (D:PD):Ex->dx->List Int×dx
 | .nil,S=>([],S)
 | .node _ _ t k r,S=>((jQ D (aK (xD D k S).2) t (xD D k S).1).1::(xD D r (jQ D (aK (xD D k S).2) t (xD D k S).1).2).1,(xD D r (jQ D (aK (xD D k S).2) t (xD D k S).1).2).2)
def lL (D:PD):Ex->dx->Int×dx
 | .nil,S=>(0,S)
 | .node _ _ t k _,S=>jQ D (aK (xD D k S).2) t (xD D k S).1
def Gq:Ex->Prop
 | .nil=>True
 | .node _ _ t k r=>((kP t=4->lenE k=1∨lenE k=2)/\(kP t≠3->kP t≠4->Sc (wP t) (lenE k))/\kD t)/\Gq k/\Gq r
def Vf (S:dx):Prop:=∀s,lK (S.vals s)
theorem fO (S:dx) (a b:Int):(bC S a b).steps=S.steps/\(bC S a b).vals=S.vals/\(bC S a b).touched=S.touched+1/\(bC S a b).opn=S.opn/\(bC S a b).hid=S.hid/\(bC S a b).cx=S.cx/\(bC S a b).cy=S.cy:=by
 unfold bC;split<;>exact⟨rfl,rfl,rfl,rfl,rfl,rfl,rfl⟩
structure M7 (S S':dx) (n:Nat):Prop where
 steps:S'.steps=S.steps+n
 vals:S'.vals=S.vals
 opn:S'.opn=S.opn
 hid:S'.hid=S.hid
 cx:S'.cx=S.cx
 cy:S'.cy=S.cy
 t1:S.touched<=S'.touched
 t2:S'.touched<=S.touched+n
theorem M7.refl (S:dx):M7 S S 0:=⟨by simp,rfl,rfl,rfl,rfl,rfl,by omega,by omega⟩
theorem M7.trans {a b c:dx} {n m:Nat} (h:M7 a b n) (k:M7 b c m):M7 a c (n+m):=by
 have:=h.steps;have:=k.steps;have:=h.t1;have:=h.t2;have:=k.t1;have:=k.t2;exact⟨by omega,k.vals.trans h.vals,k.opn.trans h.opn,k.hid.trans h.hid,k.cx.trans h.cx,k.cy.trans h.cy,by omega,by omega⟩
theorem WG (D:PD) (S:dx) (u:ByteArray) (vs:List Int):(fQ D S u vs).2.steps=S.steps/\(fQ D S u vs).2.vals=S.vals/\(fQ D S u vs).2.opn=S.opn/\(fQ D S u vs).2.hid=S.hid/\(fQ D S u vs).2.cx=S.cx/\(fQ D S u vs).2.cy=S.cy/\S.touched<=(fQ D S u vs).2.touched/\(fQ D S u vs).2.touched<=S.touched+1:=by
 have tt:=λa b=>fO S a b;unfold fQ
 repeat' split
 all_goals first
  | exact⟨rfl,rfl,rfl,rfl,rfl,rfl,dn _,by show S.touched<=S.touched+1;omega⟩
  | (obtain⟨a,b,c,d,e,f,g⟩:=tt _ _;exact⟨a,b,d,e,f,g,by rw[c];omega,by rw[c];omega⟩)
theorem Lr (D:PD) (S:dx) (t:aH) (vs:List Int):M7 S (jQ D (aK S) t vs).2 1:=by
 unfold jQ;split
 .exact⟨rfl,rfl,rfl,rfl,rfl,rfl,dn _,by show S.touched<=S.touched+1;omega⟩
 split
 .exact⟨rfl,rfl,rfl,rfl,rfl,rfl,dn _,by show S.touched<=S.touched+1;omega⟩
 .obtain⟨a,b,c,d,e,f,g,h⟩:=WG D (aK S) (wP t) vs;exact⟨a,b,c,d,e,f,g,h⟩
theorem vL (D:PD):∀(e:Ex) (S:dx),M7 S (xD D e S).2 (eu e)
 | .nil,S=>M7.refl S
 | .node _ _ t k r,S=>by
  have h1:=vL D k S;have h2:=Lr D (xD D k S).2 t (xD D k S).1;have h3:=vL D r (jQ D (aK (xD D k S).2) t (xD D k S).1).2;have:=(h1.trans h2).trans h3;have e:eu k+1+eu r=eu k+eu r+1:=by omega
  rw[e]at this;exact this
theorem LA (D:PD) {b o:Nat} {k r:Ex} (S:dx):M7 S (lL D (.node b o t k r) S).2 (eu k+1):=(vL D k S).trans (Lr D _ t _)
theorem R7 (D:PD):∀(e:Ex) (S:dx),(xD D e S).1.length=lenE e
 | .nil,_=>rfl
 | .node _ _ t k r,S=>by
  show(_::(xD D r _).1).length=lenE r+1;rw[kr,R7 D r]
theorem Bi (h:∀v∈vs,lK v) (i:Nat):lK (vs.getD i 0):=by
 rcases nV i vs.length with hi|hi
 .rw[List.getD,aU hi];exact h _ (jW hi)
 .rw[List.getD,ou hi];exact⟨by decide,by decide⟩
theorem WA {a:Int} (h1:lK a) (h2:lK b):lK (max a b):=by unfold lK at *;omega
theorem X7 {a:Int} (h1:lK a) (h2:lK b):lK (min a b):=by unfold lK at *;omega
theorem QR (D:PD) (ht:kD t) (hS:Vf S) (hv:∀v∈vs,lK v):lK (jQ D S t vs).1:=by
 unfold jQ;split
 .have:=ht.2;unfold lK;show _<=nP t/\nP t<=_;omega
 split
 .exact UB _ _
 .unfold fQ
  repeat' split
  all_goals first
   | exact AO _
   | exact Bi hv _
   | exact X7 (Bi hv _) (Bi hv _)
   | exact WA (Bi hv _) (Bi hv _)
   | exact hS _
   | (show lK (if _ then _ else _);split<;>exact Bi hv _)
theorem Vf.ev {S':dx} (h:Vf S) (k:M7 S S' n):Vf S':=by intro s;rw[k.vals];exact h s
theorem Vf.step (h:Vf S):Vf (aK S):=h
theorem LZ (D:PD):∀(e:Ex) (S:dx),Gq e->Vf S->∀v∈(xD D e S).1,lK v
 | .nil,_,_,_=>λv hv=>by cases hv
 | .node _ _ t k r,S,hw,hS=>by
  obtain⟨⟨_,_,hb⟩,hk,hr⟩:=hw;have h1:=LZ D k S hk hS;have o1:=hS.ev (vL D k S);have o2:=o1.ev (Lr D (xD D k S).2 t (xD D k S).1);have h3:=LZ D r _ hr o2;intro v hv;rcases aO.1 hv with rfl|hv
  .exact QR D hb o1.step h1
  .exact h3 v hv
theorem vM.own {base:Nat} (h:w.ownsRow base 21 1 v vs.length (vs.map (Value.int .i32))):∃ao c,v=.slice ao vs.length c/\vM w ao vs:=by
 rcases h.2 with⟨h1,h0⟩|⟨g,cap,cur,rfl,h1,h2,h3,h4,h6,h5⟩
 .rw[h0];exact⟨_,_,h1,.inl (xN.1 h0)⟩
 .refine⟨_,_,rfl,.inr ⟨g,rfl,λj x hx=>?_⟩⟩;have e:(cur.toList.take (vs.length*1))[j]?=some (.int .i32 x):=by
   rw[h5,lY,hx];rfl
  rw[List.getElem?_take]at e;split at e
  .simp only[World.cell?,h2];simpa using e
  .cases e
theorem Ql4:(Tryz.prog.info? 21).map (λi=>(i.zero,i.size,i.bytes))=some (some (.int .i32 0),1,4):=by kernel_rfl
theorem bI.later2 (h:bI w D S n rv) (hk:∀k,k<w.heap.size->(D.own k∨rv.ownBlock=some k∨k<D.B)->w'.heap[k]?=w.heap[k]?):bI w' D S n rv:=by
 have hB:D.B<=D.pb:=h.base _ (.inl rfl);have hp:=h.ltP;refine⟨(hk _ h.ltP (.inl (.inl rfl))).trans h.blk,h.map.later (hk _ h.ltM (.inl (.inr (.inl rfl)))),(hk _ h.ltO (.inl (.inr (.inr (.inl rfl))))).trans h.rowO,(hk _ h.ltH (.inl (.inr (.inr (.inr rfl))))).trans h.rowH,cu h.rowR (λk e=>hk k (h.rowR.lt k e).2 (.inr (.inl e))),h.ne,h.base,h.away,?_,?_⟩
 .exact h.tex1.sameP (λk hl=>hk k (by omega) (.inr (.inr hl)))
 .exact h.tex2.sameP (λk hl=>hk k (by omega) (.inr (.inr hl)))
theorem aS.low {rv':Value} (h:aS D rv w w' rv') (p:bI w D S n rv) {k:Nat} (hk:k<D.B):w'.heap[k]?=w.heap[k]?:=by
 have hB:D.B<=D.pb:=p.base _ (.inl rfl);have hp:=p.ltP;exact h.block k (by omega) (λho=>by have:=p.base k ho;omega) (λe=>by have:=(p.rowR.lt k e).1;omega)
def VOK (m:Nat):Prop:=∀(e:Ex) (w:World) (D:PD) (S:dx) (n:Nat) (rv:Value) (Q:Nat->Prop) (v:Value),eu e<=m->bI w D S n rv->gD w Q v e->Gq e->(∀k,Q k->k<D.B)->D.Ok->Vf S->0<=S.steps->S.steps+eu e<=1000000->0<=S.touched->S.touched+eu e<=1000000 ->
 Calls Tryz.prog 63 #[.pointer (some ⟨D.pb,0,none⟩),v] w (zx w D n rv (lL D e S))
structure Rf (D:PD) (S:dx) (n:Nat) (rv:Value) (Q:Nat->Prop) (k:Ex) (ao:Option Addr) (w1:World) (q:Nat) (rest:Ex) (vs:List Int) (S':dx) (rv':Value) (ov:Value) (wr:World):Prop where
 le:q<=lenE k
 len:lenE rest=q
 lv:vs.length+q=lenE k
 sz:eu rest<=eu k
 wf:Gq rest
 row:wr.ownsRow w1.heap.size 21 1 ov vs.length (vs.map (Value.int .i32))
 pt:bI wr D S' n rv'
 ap:∀g,ov.ownBlock=some g->rv'.ownBlock≠some g
 st:aS D rv w1 wr rv'
 fold:vs++(xD D rest S').1=(xD D k S).1/\(xD D rest S').2=(xD D k S).2
 rep:jD wr Q rest ao (lenE k-q)
 t0:0<=S'.touched
 t1:S'.touched+eu rest<=S.touched+eu k
theorem PI {m:Nat} (hm:m<=100000) (ih:VOK m):VOK (m+1):=by
 intro e w D S n rv Q v hsz h hv hwf hQ hD hS hs0 hs1 ht0 ht1;obtain⟨b,o,t,k,r,sv,rfl,rfl,hk⟩:=hv;obtain⟨ao,c,rfl,rep⟩:=hk.a;clear hk;have hszk:eu k<=m:=by simp[eu]at hsz;omega
 have hs1':S.steps+eu k+1<=1000000:=by simp[eu]at hs1;omega
 have ht1':S.touched+eu k+1<=1000000:=by simp[eu]at ht1;omega
 have hlen:lenE k<=100000:=by have:=FU k;omega
 obtain⟨⟨wf4,wfw,htb⟩,wfk,_⟩:=hwf;obtain⟨w1,hw1⟩:∃w1,w.alloc (.cells #[.int .i64 (kP t),.int .i64 t.place,.string (wP t),.int .i32 (nP t),.int .i32 (sP t),.slice ao (lenE k) c] 119)=w1:=⟨_,rfl⟩;have s1:w1.heap[w.heap.size]?=some (.cells #[.int .i64 (kP t),.int .i64 t.place,.string (wP t),.int .i32 (nP t),.int .i32 (sP t),.slice ao (lenE k) c] 119 (0,0)):=by rw[<-hw1];exact aA w _
 have h1:bI w1 D S n rv:=by rw[<-hw1];exact h.later (λk hk=>av w _ k hk)
 have k1:aS D rv w w1 rv:=by rw[<-hw1];exact aS.alloc D rv w _
 have rep1:jD w1 Q k ao 0:=by rw[<-hw1];exact rep.later (λj _ hl=>av w _ j hl)
 have z1:w1.heap.size=w.heap.size+1:=by rw[<-hw1];simp
 have hnb:¬ D.own w.heap.size:=by
  rintro(o|o|o|o)
  .have:=h.ltP;omega
  .have:=h.ltM;omega
  .have:=h.ltO;omega
  .have:=h.ltH;omega
 have hnr:rv.ownBlock≠some w.heap.size:=λe=>by have:=(h.rowR.lt _ e).2;omega
 have hB0:D.B<=w.heap.size:=by have:=h.base _ (.inl rfl);have:=h.ltP;omega
 obtain⟨res,hres⟩:∃res,jQ D (aK (xD D k S).2) t (xD D k S).1=res:=⟨_,rfl⟩;have behind:∀(wr:World) (vs:List Int) (S':dx) (rv' ov:Value),Rf D S n rv Q k ao w1 0 .nil vs S' rv' ov wr->jQ D (aK S') t vs=res/\aS D rv w wr rv'/\wr.heap[w.heap.size]?=some (.cells #[.int .i64 (kP t),.int .i64 t.place,.string (wP t),.int .i32 (nP t),.int .i32 (sP t),.slice ao (lenE k) c] 119 (0,0))/\0<=S'.steps/\S'.steps+1<=1000000/\S'.touched<=1000000/\0<=S'.touched/\(∀v∈vs,lK v)/\vs.length=lenE k:=λwr vs S' rv' ov L=>by
  have f1:vs=(xD D k S).1:=by have:=L.fold.1;simpa[xD] using this
  have f2:S'=(xD D k S).2:=L.fold.2;have ev:=vL D k S;have a1:=ev.steps;have a2:=ev.t1;have a3:=ev.t2;rw[f1,f2];refine⟨hres,k1.trans L.st,(L.st.block _ (by omega) hnb hnr).trans s1,by omega,by omega,by omega,by omega,LZ D k S wfk hS,R7 D k S⟩
 have BEH:=aj behind;have HOW:Hid (D.pb<w.heap.size/\D.mb<w.heap.size/\D.ob<w.heap.size/\D.hb<w.heap.size):=⟨h.ltP,h.ltM,h.ltO,h.ltH⟩;have L0:Rf D S n rv Q k ao w1 (lenE k) k [] S rv (.slice none 0 0) w1:=⟨af _,rfl,by simp,af _,wfk,fD w1 w1.heap.size 21 1,h1,(λg e=>by cases e),aS.refl _ _ _,⟨by simp,rfl⟩,by rw[cZ];exact rep1,ht0,by omega⟩;have HL0:=aj L0;clear h rep k1 h1 rep1 L0 behind;obtain⟨⟨t0,t1,t2,t3,t4,t5⟩,_⟩:=iy s1;unfold qV;show Calls _ _ _ _ (zx w D n rv (jQ D (aK (xD D k S).2) t (xD D k S).1));rw[hres];clear hres;go_enter Tryz.func63,Tryz.ntmps63;go_wp2;clear hw1 t0 t1 t2 t3 t4 t5
 go_loopg [5,11] (lenE k) (λq ov v wr=>∃rest vs S' rv',v=.int .i64 ((lenE k-q:Nat):Int)/\Rf D S n rv Q k ao w1 q rest vs S' rv' ov wr)
 case atStart=>exact⟨k,[],S,rv,by rw[cZ];rfl,aa HL0⟩
 case round=>
  clear HL0;obtain⟨rest,vs,S',rv',rfl,L⟩:=hrel
  cases rest with
  | nil=>
   have hq0:gk=0:=by rw[<-L.len];rfl
   subst hq0;have hge:decide (((lenE k-0:Nat):Int)<(lenE k:Int))=false:=by simp
   obtain⟨f1,kst,sbx,b1,b2,b3,b4,b5,b6⟩:=aa BEH wr vs S' rv' _ L;obtain⟨oo,oc,rfl,nums⟩:=vM.own L.row;have hrv:rv'.ownBlock≠some w.heap.size:=by
    rcases L.st.tr with e|⟨j,e,hj⟩
    .rw[e];exact hnr
    .rw[e];intro e2;cases e2;omega
   have hox:∀g,oo=some ⟨g,0,none⟩->w1.heap.size<=g/\g<wr.heap.size/\rv'.ownBlock≠some g:=λg e=>by
    subst e;exact⟨(L.row.lt g rfl).1,(L.row.lt g rfl).2,L.ap g rfl⟩
   have hpt:=L.pt;have hlx:=L.pt.ltP;have hszw:=L.st.size;have keepN:∀w3,aS D rv' wr w3 rv'->vM w3 oo vs:=λw3 k3=>by
    rcases nums with e|⟨g,rfl,hc⟩
    .exact .inl e
    .obtain⟨g1,g2,g3⟩:=hox g rfl;refine .inr ⟨g,rfl,λj x hx=>(iY (k3.block g g2 ?_ g3)).trans (hc j x hx)⟩;rintro(o|o|o|o)
     .have:=hpt.ltP;have:=aa HOW;omega
     .have:=aa HOW;omega
     .have:=aa HOW;omega
     .have:=aa HOW;omega
   have KN:=aj keepN;have F1:=aj f1;clear L keepN nums hox f1;go_wp2_with fail;refine(GY wr D S' n rv' hpt b1 (by omega)).mono ?_;rintro e w3 ⟨rfl,h3,k3⟩;have s3:=(k3.block _ (by omega) hnb hrv).trans sbx;obtain⟨⟨u0,u1,u2,u3,u4,u5⟩,_⟩:=iy s3;have nm3:=aa KN w3 k3;have kk:=kst.trans k3;have hl3:=(az.1 s3).1;clear KN k3 hpt sbx s3 kst;by_cases c3:kP t=3
   .have e3:(kP t==3)=true:=by simp[c3]
    have FIN:Hid (zx w D n rv res (.returned (.int .i32 (nP t))) w3):=by
     rw[<-aa F1];unfold jQ;rw[ag c3];exact⟨rfl,rv',h3,kk⟩
    clear h3 kk nm3 c3;go_wp2;go_ret;exact aa FIN
   have e3:(kP t==3)=false:=by simp[c3]
   by_cases c4:kP t=4
   .have e4:(kP t==4)=true:=by simp[c4]
    have FIN:Hid (∀v w4,v=BD (sP t) vs->Below w3.heap.size w3 w4->zx w D n rv res (.returned (.int .i32 v)) w4):=λv w4 e hb=>by
     rw[<-aa F1];unfold jQ;rw[ae c3,ag c4];subst e;exact⟨rfl,rv',h3.below hb,kk.trans (aS.below D rv' hb)⟩
    have wl:=wf4 c4;rw[<-b6]at wl;clear h3 kk c4 c3;rcases wl with wl|wl
    .match vs,wl with
     | [x],_=>
      go_wp2_with fail;refine(Wu _ (sP t) x oo oc nm3).mono ?_;rintro e w4 ⟨rfl,hb4⟩;go_wp2;go_ret;exact aa FIN _ _ rfl hb4
    .match vs,wl with
     | [x,y],_=>
      go_wp2_with fail;refine(Y6 _ (sP t) x y oo oc nm3).mono ?_;rintro e w4 ⟨rfl,hb4⟩;go_wp2;go_ret;exact aa FIN _ _ rfl hb4
   have e4:(kP t==4)=false:=by simp[c4]
   have FIN:Hid (∀e w4,zx w3 D n rv' (fQ D (aK S') (wP t) vs) e w4->zx w D n rv res e w4):=λe w4 ho=>by
    obtain⟨a1,rv4,a2,a3⟩:=ho;rw[<-aa F1];unfold jQ;rw[ae c3,ae c4];exact⟨a1,rv4,a2,kk.trans a3⟩
   have wn:=wfw c3 c4;rw[<-b6]at wn;have ow:=Pp w3 D (aK S') n rv' (wP t) vs oo oc hD h3 nm3 b5 wn htb.1 b4 b3;rw[b6]at ow;have OW:=aj ow;clear ow;clear h3 kk c4 c3;go_wp2_with fail;refine(aa OW).mono ?_;intro e w4 ho;have ho2:=aa FIN e w4 ho;obtain⟨rfl,_⟩:=ho;clear FIN OW;go_wp2;go_ret;exact ho2
  | node b1 o1 t1 k1 r1=>
   have hl1:lenE r1+1=gk:=L.len;have hle:=L.le;obtain⟨d,hd⟩:∃d,d+gk=lenE k:=⟨lenE k-gk,by omega⟩;have hnd:lenE k-gk=d:=by omega
   have hrep:=L.rep;rw[hnd]at hrep ⊢;have hlt:decide ((d:Int)<(lenE k:Int))=true:=by simp;omega
   rcases hrep with hn|⟨g,rfl,hg,hrf⟩
   .cases hn
   obtain⟨⟨sv1,hcells,hkids⟩,hrest⟩:=hrf;obtain⟨x0,x1,x2,x3,x4,x5⟩:=hcells;have hv1:gD wr Q (qV t1 sv1) (.node b1 o1 t1 k1 r1):=⟨b1,o1,t1,k1,r1,sv1,rfl,rfl,hkids⟩;obtain⟨so1,sc1,hsv1⟩:=qA.form hkids;subst hsv1;have hsr:=L.sz;have hsz1:eu (.node b1 o1 t1 k1 r1)<=m:=by omega
   have est:S'.steps+eu (.node b1 o1 t1 k1 r1)=S.steps+eu k:=by
    have a:=(vL D (.node b1 o1 t1 k1 r1) S').steps;have b:=(vL D k S).steps;rw[L.fold.2]at a;omega
   have evl:S'.vals=S.vals:=by
    have a:=(vL D (.node b1 o1 t1 k1 r1) S').vals;have b:=(vL D k S).vals;rw[L.fold.2]at a;exact a.symm.trans b
   have hS':Vf S':=λx=>by rw[evl];exact hS x
   have lt0:=L.t0;have lt1:=L.t1;have lv:=L.lv;have hszw:=L.st.size;have hsn:0<=S'.steps:=by
    have a:=(vL D (.node b1 o1 t1 k1 r1) S').steps;omega
   obtain⟨oo,oc,rfl,-⟩:=vM.own L.row;have olt:∀j,(Value.slice oo vs.length oc).ownBlock=some j->w1.heap.size<=j/\j<wr.heap.size:=λj e=>L.row.lt j e;obtain⟨xv,hxv⟩:∃xv,(lL D (.node b1 o1 t1 k1 r1) S').1=xv:=⟨_,rfl⟩;obtain⟨S3,hS3⟩:∃S3,(lL D (.node b1 o1 t1 k1 r1) S').2=S3:=⟨_,rfl⟩;have zt:M7 S' S3 (eu k1+1):=by rw[<-hS3];exact LA D S'
   have nextF:∀(O1 U:Obj) (w3:World) (rv3:Value) (w5:World) (v':Value),bI w3 D S3 n rv3->aS D rv' (wr.alloc O1) w3 rv3->w5.ownsRow w1.heap.size 21 1 v' (vs.length+1) (vs.map (Value.int .i32)++[.int .i32 xv])->(w3.alloc U).grownBy w5 (Value.slice oo vs.length oc).ownBlock->(v'.ownBlock=(Value.slice oo vs.length oc).ownBlock∨v'.ownBlock=some (w3.heap.size+1)) ->
     Rf D S n rv Q k (some ⟨g,0,none⟩) w1 (lenE r1) r1 (vs++[xv]) S3 rv3 v' w5:=λO1 U w3 rv3 w5 v' p3 k3 own hg5 hat=>by
    have k3s:=k3.size;simp only[bE]at k3s;have how:=aa HOW;have gs:=hg5.size;simp only[bE]at gs;have ap3:∀j,(Value.slice oo vs.length oc).ownBlock=some j->rv3.ownBlock≠some j:=λj e=>by
     rcases k3.tr with e2|⟨q,e2,hq⟩
     .rw[e2];exact L.ap j e
     .rw[e2];intro e3;cases e3;have:=(olt _ e).2;simp at hq;omega
    have keep:∀j,j<w3.heap.size->(Value.slice oo vs.length oc).ownBlock≠some j->w5.heap[j]?=w3.heap[j]?:=λj hj hne=>(hg5.block j (by simp;omega) (λe=>hne e.symm)).trans (av w3 U j hj);have lowb:∀j,j<D.B->w5.heap[j]?=wr.heap[j]?:=λj hj=>by
     refine((keep j (by omega) (λe=>by have:=(olt j e).1;omega)).trans (k3.block j (by simp;omega) (λho=>by have:=L.pt.base j ho;omega) (λe=>by have:=(L.pt.rowR.lt j e).1;omega))).trans ?_;exact av wr O1 j (by omega)
    have Ru:aS D rv w1 w3 rv3:=(L.st.trans (aS.alloc D rv' wr O1)).trans k3;have t1':=zt.t1;have t2':=zt.t2;refine⟨by omega,rfl,by simp;omega,by simp[eu]at hsr;omega,L.wf.2.2,?_,?_,?_,?_,?_,?_,by omega,by simp[eu]at lt1;omega⟩
    .rw[iZ,jc];exact own
    .refine p3.later2 (λj hj hc=>keep j hj (λe=>?_));have o1:=olt j e;rcases hc with ho|hr|hb
     .rcases ho with o|o|o|o<;>omega
     .exact ap3 j e hr
     .omega
    .intro j e;rcases hat with e2|e2
     .exact ap3 j (by rw[<-e2];exact e)
     .rw[e2]at e;cases e;intro e3;have:=(p3.rowR.lt _ e3).2;omega
    .refine⟨by have:=Ru.size;omega,λj hj ho hr=>?_,Ru.same.trans (bY.trans (bY.alloc (bY.refl _) U) (bY.grown hg5)),Ru.tr⟩;exact(keep j (by have:=Ru.size;omega) (λe=>by have:=(olt j e).1;omega)).trans (Ru.block j hj ho hr)
    .obtain⟨f1,f2⟩:=L.fold;rw[<-f1,<-f2,<-hxv,<-hS3,gJ];exact⟨rfl,rfl⟩
    .rw[show lenE k-lenE r1=d+1 by omega];exact .inr ⟨g,rfl,hg,xB.later (λj hj hl=>lowb j (hQ j hj)) (λj hj _=>hj) r1 g (d+1) hg hrest⟩
   have NX:=aj nextF;have IH:Hid (∀O1,Calls Tryz.prog 63 #[.pointer (some ⟨D.pb,0,none⟩),qV t1 (.slice so1 (lenE k1) sc1)] (wr.alloc O1) (λe w'=>e=.returned (.int .i32 xv)/\∃rv3,bI w' D S3 n rv3/\aS D rv' (wr.alloc O1) w' rv3)):=λO1=>by
    have:=ih (.node b1 o1 t1 k1 r1) (wr.alloc O1) D S' n rv' Q (qV t1 (.slice so1 (lenE k1) sc1)) hsz1 (L.pt.later (λj hj=>av wr O1 j hj)) (gD.later (λj _ hl=>av wr _ j hl) (λj hj _=>hj) hv1) L.wf hQ hD hS' hsn (by omega) lt0 (by omega);unfold zx at this;rw[hxv,hS3]at this;exact this
   have OWN:Hid (∀(w3:World) (rv3:Value) (O1:Obj),aS D rv' (wr.alloc O1) w3 rv3->w3.ownsRow w1.heap.size 21 1 (.slice oo vs.length oc) vs.length (vs.map (Value.int .i32))):=λw3 rv3 O1 k3=>cu L.row (λj e=>(k3.block j (by have:=(olt j e).2;simp;omega) (λho=>by have:=(olt j e).1;have:=aa HOW;rcases ho with o|o|o|o<;>omega) (L.ap j e)).trans (av wr O1 j (olt j e).2));have hgw:g<wr.heap.size:=fB _ _ x0;obtain⟨i0,hi0,hz0,hz1,hz2⟩:=dG Ql4;have hvl:vs.length<=100000:=by omega
   clear nextF hv1 hrest hkids L est evl hS' hxv hS3 zt lt0 lt1 hsr hsz1 hsn olt hQ hS hD ih hs0 ht0 hs1' ht1' hnr hnb BEH htb wfk wfw wf4 s1 hszk hs1 hsz ht1;unfold qV at IH;go_wp2_with fail;refine(aa IH _).mono ?_;rintro e w3 ⟨rfl,rv3,h3,k3⟩;have own3:=aa OWN w3 rv3 _ k3;have NX3:=aj (λw5 v' a b c=>aa NX _ (.cells #[.int .i32 xv] 21) w3 rv3 w5 v' h3 k3 a b c);have hz3:=k3.size;simp only[bE]at hz3;clear NX OWN IH k3 h3 x0 x1 x2 x3 x4 x5;go_wp2_with (at_builtin;refine nR _ rfl _ _ 164 rfl w1.heap.size 21 i0 (.int .i32 0) 1 4 Tryz.underlying164 hi0 hz0 hz1 hz2 rfl (by decide) _ _ _ rfl (own3.alloc _) ⟨w3.heap.size,0,none⟩ 1 1 [.int .i32 xv] rfl rfl ?c1 ?c2 ?c3 ?c4 ?c5 ?_)
   case c1=>exact KC w3 _ rfl [.int .i32 xv] _
   case c2=>intro u hu;simp at hu;subst hu;rfl
   case c3=>unfold maxLen;omega
   case c4=>omega
   case c5=>simp;omega
   intro v' w5 hr5 hg5 _ hat5;have fin5:=aa NX3 w5 v' (by rw[z1];simpa using hr5) hg5 (by simpa using hat5);clear NX3 hr5 hg5 hat5 own3;go_wp2
   go_roundg (lenE r1)
   case rel=>exact⟨r1,_,_,_,by congr 1;omega,fin5⟩
   case measure=>omega
theorem AF:∀m,m<=100000->VOK m
 | 0,_=>λe w D S n rv Q v hsz h hv hwf hQ hD hS hs0 hs1 ht0 ht1=>by
  obtain⟨b,o,t,k,r,sv,rfl,rfl,hk⟩:=hv;simp[eu]at hsz
 | m+1,hm=>PI (by omega) (AF m (by omega))
end Go.Proofs.YthmmgiaobakilaaGreat
