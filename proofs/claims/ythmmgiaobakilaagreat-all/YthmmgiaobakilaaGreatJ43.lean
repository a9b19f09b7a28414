import Derived.Test.YthmmgiaobakilaaGreatJ26
import Derived.Test.YthmmgiaobakilaaGreatJ38
import Derived.Test.YthmmgiaobakilaaGreatJ42
set_option maxRecDepth 100000
set_option maxHeartbeats 8000000
set_option linter.all false
namespace Go.Proofs.YthmmgiaobakilaaGreat
open Go.RowKit Go.Deep
variable {E:bB} {S:dx} {X:Ex->Prop} {ds:List (aH×Bool)} {l:List bQ} {σ:St}
theorem vk {E:bB} (hm:E.mode=1):∀(e:Ex) (σ:St),(zo E e σ).fault=0->zg σ.cells e
 | .nil,_,_=>trivial
 | .node _ _ t k r,σ,h=>by
  have h':(zo E r (Bv E t (Cu σ.cells k) (zo E k σ))).fault=0:=h;have h2:=zW r _ h';have h3:=XU h2;have c1:(zo E k σ).cells=σ.cells:=(mY E k σ).cells;have c2:(Bv E t (Cu σ.cells k) (zo E k σ)).cells=σ.cells:=((Di E t _ _).cells).trans c1;refine⟨λht=>?_,vk hm k σ h3,?_⟩
  .have e:Bv E t (Cu σ.cells k) (zo E k σ)=lH E (zo E k σ) t:=by unfold Bv;rw[ht];rfl
   rw[e]at h2;have:=BM hm h2;rw[c1]at this;exact this
  .have:=vk hm r _ h';rw[c2]at this;exact this
theorem Y7 (hm:E.mode=1) {t:aH} {a b:Bool} (h:(dN E σ t a b).fault=0):aN σ.cells t.text<0:=by
 unfold dN qU at h;by_cases hk:0<=aN σ.cells t.text
 .rw[ag (by rw[hm];simp[hk])]at h;exact absurd h (lW (by decide))
 .omega
theorem Qj7 (hm:E.mode=1) {a b:aH} (h:(xA E σ a b).fault=0):a.num<=b.num/\b.num<=20:=by
 unfold xA at h;by_cases hk:b.num<a.num∨20<b.num
 .rw[ag (by rw[hm];simp;exact hk)]at h;exact absurd h (lW (by decide))
 .omega
theorem Ww (X:Ex->Prop) (b o:Nat) (p:SP) (k r:Sx):BO X (.node b o p k r)=(BO X r/\((p.tag=0/\p.t.kind=1/\X p.e/\k=.nil)∨(p.tag=1/\X p.e/\(match k with
  | .nil=>False
  | .node _ _ q s u=>q.tag=5/\q.e=.nil/\BO X s/\BO X u))∨(p.tag=2/\p.t.kind=1/\p.a.kind=2/\p.b.kind=2/\p.e=.nil/\BO X k)∨(p.tag=3/\p.t.kind=0/\(p.t.text.toList==dY.toList)=false/\X p.e/\k=.nil)∨(p.tag=4/\p.t.kind=0/\(p.t.text.toList==dY.toList)=true/\X p.e/\k=.nil))):=by cases k<;>rfl
theorem PX (hm:E.mode=1) (n:Nat):∀(s:Sx),dS s<=n->BO X s->∀σ:St,(oP E s σ).fault=0->fE s σ.cells:=by
 induction n with
 | zero=>
  intro s hs _ σ _
  cases s with
  | nil=>trivial
  | node b o p k r=>simp[dS]at hs
 | succ n ih=>
  intro s hs hsh σ h
  cases s with
  | nil=>trivial
  | node b o p k r=>
   simp only[dS]at hs;have hc:(uX E p (oP E k) σ).cells=σ.cells:=(lS E (.node 0 0 p k .nil) σ).cells;have hr0:(oP E r (uX E p (oP E k) σ)).fault=0:=h;have h1:=(yI hm r _ hr0).1;have shp:=hsh;rw[Ww]at shp;have fr:=ih r (by omega) shp.1 _ hr0;rw[hc]at fr;rw[qP];rcases shp.2 with⟨t0,_,_,rfl⟩|⟨t1,_,hk⟩|⟨t2,_,_,_,_,hk⟩|⟨t3,_,_,_,rfl⟩|⟨t4,_,_,_,rfl⟩
   .unfold uX at h1;rw[ag t0]at h1;have h2:=AZ h1;have hu:=Mx (zW _ _ h2);have fx:=vk hm _ _ h2;rw[(yV E σ p.t).cells]at fx;exact⟨λ_=>BM hm hu,λ_=>fx,λe=>by omega,λe=>by omega,fr⟩
   .unfold uX at h1;rw[ae (by omega),ag t1]at h1
    cases k with
    | nil=>cases hk
    | node b1 o1 q s u=>
     simp only[dS]at hs;obtain⟨q5,_,hs1,hu1⟩:=hk;have sa:=(qW E p.e σ).trans (qB E (hS E p.e σ) p.t (hH σ.cells p.e));have e5:∀τ,oP E (.node b1 o1 q s u) τ=oP E u (oP E s τ):=λτ=>by
      show oP E u (uX E q (oP E s) τ)=_;unfold uX;rw[ae (by omega),ae (by omega),ae (by omega),ae (by omega),ae (by omega)]
     rw[e5]at h1;have h2:=(yI hm u _ h1).1;have h3:=(yI hm s _ h2).1;have fx:=vk hm _ _ (Gj h3);have fs:=ih s (by omega) hs1 _ h2;have fu:=ih u (by omega) hu1 _ h1;rw[sa.cells]at fs;rw[(lS E s _).cells,sa.cells]at fu;exact⟨λe=>by omega,λ_=>fx,λ_=>⟨fs,fu⟩,λe=>by omega,fr⟩
   .unfold uX at h1;rw[ae (by omega),ae (by omega),ag t2]at h1;have h1':(oP E k (xA E (dN E σ p.t false false) p.a p.b)).fault=0:=h1;have h2:=(yI hm k _ h1').1;have fk:=ih k (by omega) hk _ h1';rw[(xP E _ p.a p.b).cells,(mf E σ p.t false false).cells]at fk;obtain⟨n1,n2⟩:=Qj7 hm h2;exact⟨λe=>by omega,λe=>absurd t2 e,λe=>by omega,λ_=>⟨Y7 hm (G5 h2),n1,n2,fk⟩,fr⟩
   .unfold uX at h1;rw[ae (by omega),ae (by omega),ae (by omega),ag t3]at h1;have fx:=vk hm _ _ (AZ h1);exact⟨λe=>by omega,λ_=>fx,λe=>by omega,λe=>by omega,fr⟩
   .unfold uX at h1;rw[ae (by omega),ae (by omega),ae (by omega),ae (by omega),ag t4]at h1;have fx:=vk hm _ _ (AZ h1);exact⟨λe=>by omega,λ_=>fx,λe=>by omega,λe=>by omega,fr⟩
section
variable {E:bB} {D:PD}
theorem Qi7 (hN:E.mode≠0) (hT:bL E) (hd:Bool) (n:Nat):∀σ i l j,i<E.toks.length->jO E.toks hd n i=some (.ok (l,j))->rH E σ i->qo E hd n ⟨i,σ⟩=some ⟨j,Av E l σ⟩/\rH E (Av E l σ) j:=by
 induction n with
 | zero=>intro σ i l j _ h;cases h
 | succ n ih=>
  intro σ i l j hi h hb;rw[jO]at h;obtain⟨t,j1,h1,h⟩:=au h;have l1:=wT hT (by decide) hi h1;obtain⟨_,et,e1⟩:=qY h1;have b1:rH E (dN E σ t hd true) j1:=hb.decl (by omega) hi t hd true;rw[qo];dsimp only;rw[(Ox hN _ h1).1,(Ox hN _ h1).2,sZ hN,ae (by simp),Lv hN,<-et,ag ⟨l1,b1.1⟩,Ez hN];split at h
  .rename_i hs;obtain⟨l',j2,h2,h⟩:=au h
   cases h;have l2:=aD hT.last l1 hs;rw[ag hs,ag l2];exact ih _ (j1+1) l' j l2 h2 (b1.same (dP.refl _) (by omega))
  .rename_i hs;obtain⟨u,j2,h2,h⟩:=au h
   cases h;rw[ae hs];have l2:=uO hT l1 h2;obtain⟨_,e2⟩:=vN h2;refine⟨?_,b1.same (dP.refl _) (by omega)⟩;rw[(il hN _ h2).1,(il hN _ h2).2];exact zl ⟨l2,b1.1⟩
theorem Qi1 (hN:E.mode≠0) (hT:bL E) (f n:Nat):∀σ i l j,i<E.toks.length->jY E.toks f n i=some (.ok (l,j))->rH E σ i->pu E f (n+1) ⟨i,σ⟩=some ⟨j,Av E l σ⟩/\rH E (Av E l σ) j:=by
 induction n with
 | zero=>intro σ i l j _ h;cases h
 | succ n ih=>
  intro σ i l j hi h hb;rw[jY]at h;rw[pu];dsimp only;rw[Ez hN,Ez hN];split at h
  .rename_i hs;have h1:i+1<E.toks.length:=by
    have hs':=hs;simp only[pU]at hs';rcases hs' with hs'|hs'<;>exact aD hT.last hi hs'
   obtain⟨a,j1,e1,h⟩:=au h;obtain⟨b,j2,e2,h⟩:=au h
   cases h;obtain⟨r1,b1⟩:=Qi7 hN hT _ f σ (i+1) a j1 h1 e1 (hb.same (dP.refl _) (by omega));have f1:=xI (bJ E.toks i bA) hT.last f (i+1) h1;rw[e1]at f1;obtain⟨r2,b2⟩:=ih (Av E a σ) j1 b j f1.2 e2 b1;rw[ag hs,ag h1,r1,aG,Ic];exact⟨r2,b2⟩
  .rename_i hs
   cases h;rw[ae hs];exact⟨rfl,hb⟩
theorem Qp1 {M:MS} {P:PS} (hE:E3 E D) (hT:bL E) (hR:YC E D M P) (hF:dL P) (hO:Oj P) (n:Nat):∀i t j,i<E.toks.length->mH P E.toks n i=some (.ok (t,j))->∀l σ S,R3 E D l 0 0 σ S->rH E σ i->fE t l->∃σ',uh M E (n+1) ⟨i,σ⟩=some σ'/\Bo E D l σ' (iA D t S):=by
 have hN:=hE.ne0
 induction n with
 | zero=>intro i t j _ h;cases h
 | succ n ih=>
  intro i t j hi h l σ S hRR hb hf;rw[mH]at h;rw[uh];dsimp only;rw[sZ hN,hRR.al];split at h
  .rename_i hs
   cases h;have hs':((aT E i).kind==4)=true:=hs;rw[hs',ag (by simp)];refine⟨σ,rfl,by rw[hRR.ce];exact eY.refl _,hb.1,.inl ⟨?_,by rw[hRR.ce];exact hRR⟩⟩;have:=hRR.lt;show S.steps<=20000;omega
  .rename_i hs;have hs':((aT E i).kind==4)=false:=gW.2 hs;obtain⟨s,j1,h1,h⟩:=au h;obtain⟨r,j2,h2,h⟩:=au h
   cases h;have f1:=FB hF hT hi h1;have ho:=hO _ _ _ _ h1;obtain⟨fs,fr⟩:=BA ho hf;obtain⟨σ1,z1,x1,x2,x3⟩:=(hR i s j1 hi h1).2 l σ S hRR hb fs;rw[hs',ae (by simp),z1,aG,Iq ho];have hb1:rH E σ1 j1:=hb.cells x2 (by rw[x1.len,hRR.ce]) (by omega);rcases x3 with⟨a,b⟩|⟨a,b⟩
   .obtain⟨σ2,e2,y1,y2,y3⟩:=ih j1 r j f1.2 h2 _ σ1 _ b hb1 (x1.found fr);exact⟨σ2,e2,x1.trans y1,y2,y3⟩
   .refine⟨σ1,?_,x1,x2,.inr ⟨by rw[kK a];exact a,b⟩⟩;rw[uh];dsimp only;rw[b,ag (by simp)]
def dcC (ds:List (aH×Bool)):List bQ:=ds.map (λd=>⟨d.1.text,0,d.2,true⟩)
theorem dc3 (hE:E3 E D):∀(ds:List (aH×Bool)) (σ:St),Av E ds σ = { σ with cells:=σ.cells++dcC ds }
 | [],σ=>by show σ = { σ with cells:=σ.cells++[] };rw[eP]
 | d::ds,σ=>by
  have e:dN E σ d.1 d.2 true=qU σ d.1 d.2 true:=by unfold dN;rw[hE.m];rfl
  show Av E ds (dN E σ d.1 d.2 true)=_;rw[e,dc3 hE ds];unfold qU dcC;simp
def kX (x y:Int) (ds:List (aH×Bool)):List bQ:=[⟨PV,x,false,false⟩,⟨TL,y,false,false⟩]++dcC ds
theorem SB (x y:Int) (ds:List (aH×Bool)) (s:ByteArray) (h:0<=aN (kX x y ds) s):((kX x y ds).getD (aN (kX x y ds) s).toNat kW).val=mU (mU (λ_=>0) YE x) XC y s:=by
 obtain⟨k,hk,hkl⟩:=ru (l:=kX x y ds) (s:=s) (by omega);obtain⟨_,hn⟩:=Ew hk;rw[hk,gU];have xy:(PV.toList==TL.toList)=false:=by decide +kernel
 rcases k with _|_|k
 .have e:PV.toList=s.toList:=by
   have hn':(PV.toList==s.toList)=true:=hn;simpa using hn'
  show x=_;unfold mU;rw[show(s.toList==XC.toList)=false by rw[<-e];exact xy,show(s.toList==YE.toList)=true by rw[<-e];exact tY _];rfl
 .have e:TL.toList=s.toList:=by
   have hn':(TL.toList==s.toList)=true:=hn;simpa using hn'
  show y=_;unfold mU;rw[show(s.toList==XC.toList)=true by rw[<-e];exact tY _];rfl
 .have no:∀j (hj:j<(kX x y ds).length),j<k+2->((kX x y ds)[j].name.toList==s.toList)=false:=λj hj hjk=>by
   unfold aN at hk
   cases hf:(kX x y ds).findIdx? (λc=>c.name.toList==s.toList) with
   | none=>rw[hf]at hk;simp at hk;omega
   | some m=>
    rw[hf]at hk;have em:m=k+2:=by simp at hk;omega
    subst em;rw[Ak]at hf;obtain⟨_,_,h3⟩:=hf;simpa using h3 j hjk
  have n0:(PV.toList==s.toList)=false:=no 0 (by show 0<_;simp[kX]) (by omega);have n1:(TL.toList==s.toList)=false:=no 1 (by show 1<_;simp[kX]) (by omega);have f0:(s.toList==YE.toList)=false:=by
   cases hc:(s.toList==YE.toList) with
   | false=>rfl
   | true=>
    have e:s.toList=YE.toList:=by simpa using hc
    rw[e]at n0;exact absurd n0 (by decide +kernel)
  have f1:(s.toList==XC.toList)=false:=by
   cases hc:(s.toList==XC.toList) with
   | false=>rfl
   | true=>
    have e:s.toList=XC.toList:=by simpa using hc
    rw[e]at n1;exact absurd n1 (by decide +kernel)
  unfold mU;rw[f0,f1];show((kX x y ds).getD (k+2) kW).val=0;have eg:(kX x y ds).getD (k+2) kW=(dcC ds).getD k kW:=rfl;rw[eg];unfold dcC;rw[List.getD,lY]
  cases ds[k]?<;>rfl
structure P3 (E:bB) (D:PD) (σ:St) (S:dx):Prop where
 al:σ.dead=false
 st:σ.steps=S.steps
 le:σ.steps<=20000
 t0:0<=σ.touched
 tk:σ.touched<=σ.steps
 tt:σ.touched=S.touched
 tr:σ.trace=S.trace
 op:σ.opn=S.opn
 hi:σ.hid=S.hid
 lo:(σ.opn.length:Int)=D.sw*D.sh
 lh:(σ.hid.length:Int)=D.sw*D.sh
theorem R3.out (h:R3 E D l 0 0 σ S):P3 E D σ S:=
 ⟨h.al,by have:=h.st;omega,h.le,h.t0,by have:=h.tk;omega,h.tt,h.tr,h.op,h.hi,h.lo,h.lh⟩
theorem ZO (hE:E3 E D) (hT:bL E) (hTW:eQ E.toks) (hlen:E.toks.length<=900) (m:Nat) {t:Sx} {j:Nat} (h:dV (m+1) E.toks=some (.ok ((ds,t),j))) (hdl:ds.length<=900) (hf:fE t (kX 0 0 ds)) (hP:P3 E D σ S) :
  ∃σ',qi (m+1) E σ=some σ'/\lI σ'/\(((nK D t S (E.point % D.sw,E.point / D.sw)).steps<=20000/\P3 E D σ' (nK D t S (E.point % D.sw,E.point / D.sw)))∨(20000<(nK D t S (E.point % D.sw,E.point / D.sw)).steps/\σ'.dead=true)):=by
 have hN:=hE.ne0;have hi:=hT.last.1;have w1:=hE.ok.w1;have w2:=hE.ok.w2;have h1':=hE.ok.h1;have p0:=hE.p0;have p1:=hE.p1;have hok:lI (iC E σ):=⟨by simp[iC],by show 0<=σ.steps;have:=hP.t0;have:=hP.tk;omega,hP.t0,by show σ.touched<=_;have:=hP.tk;have:=hP.le;omega⟩;have hs:rH E (iC E σ) 0:=⟨hok,by simp[iC];omega⟩;unfold dV at h;simp only[Nat.add_sub_cancel]at h;obtain⟨ds',j1,h1,h⟩:=au h;obtain⟨t',j2,h2,h⟩:=au h
 cases h;have f1:=xF hT.last (m+1) m 0 hi;rw[h1]at f1;obtain⟨r1,b1⟩:=Qi1 hN hT (m+1) m (iC E σ) 0 ds j1 hi h1 hs;have e0:Av E ds (iC E σ) = { σ with cells:=kX (E.point % D.sw) (E.point / D.sw) ds }:=by
  rw[dc3 hE];unfold iC kX;rw[hE.m,hE.w];rfl
 rw[e0]at r1 b1;have x0:0<=E.point % D.sw:=Int.emod_nonneg _ (by omega);have x1:E.point % D.sw<D.sw:=Int.emod_lt_of_pos _ (by omega);have y0:0<=E.point / D.sw:=Int.ediv_nonneg p0 (by omega);have y1:E.point / D.sw<=E.point:=Int.ediv_le_self _ p0;have pm:D.sw*D.sh<=36:=by
  have:=uy w2 hE.ok.h2 (by omega) (by decide);omega
 have rr:R3 E D (kX (E.point % D.sw) (E.point / D.sw) ds) 0 0 { σ with cells:=kX (E.point % D.sw) (E.point / D.sw) ds } (xh S (E.point % D.sw) (E.point / D.sw)):=by
  refine⟨hP.al,rfl,?_,by show σ.steps=S.steps+0;have:=hP.st;omega,hP.le,dn _,dn _,hP.t0,by have:=hP.tk;show σ.touched+0+0<=σ.steps;omega,hP.tt,hP.tr,hP.op,hP.hi,λs hf=>SB _ _ _ s hf,λs=>?_,?_,hP.lo,hP.lh⟩
  .unfold kX dcC;simp;omega
  .show dw (mU (mU (λ_=>0) YE (E.point % D.sw)) XC (E.point / D.sw) s);unfold mU;split
   .exact⟨by omega,by omega⟩
   .split
    .exact⟨by omega,by omega⟩
    .exact Dy
  .show(E.point / D.sw)*D.sw+E.point % D.sw=E.point;rw[Int.mul_comm];exact Int.mul_ediv_add_emod _ _
 have ff:fE t (kX (E.point % D.sw) (E.point / D.sw) ds):=eY.found (l:=kX 0 0 ds) (by unfold eY kX;simp) hf;obtain⟨σ',z1,z2,z3,z4⟩:=Qp1 hE hT (SB3 hE hT hTW (m+1)).1 (oV (m+1)).1 (FI (m+1)) m j1 t j f1.2 h2 _ _ _ rr b1 ff;refine⟨σ',?_,z3,?_⟩
 .unfold qi;rw[ae (by rw[hE.m,hE.w,jP w1,jP w2,jP p0,jP (show E.point<1000 by omega)];decide),r1,aG];exact z1
 .rcases z4 with⟨a,b⟩|⟨a,b⟩
  .exact .inl ⟨a,b.out⟩
  .exact .inr ⟨a,b⟩
end
end Go.Proofs.YthmmgiaobakilaaGreat
