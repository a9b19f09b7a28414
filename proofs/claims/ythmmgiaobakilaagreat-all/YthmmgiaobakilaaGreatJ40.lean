import Derived.Test.YthmmgiaobakilaaGreatJ38
import Derived.Test.YthmmgiaobakilaaGreatJ39
set_option maxRecDepth 100000
set_option maxHeartbeats 8000000
set_option linter.all false
namespace Go.Proofs.YthmmgiaobakilaaGreat
open Go.RowKit Go.Deep
variable {E P sh sw:Int} {e:Ending} {r:Option dx} {src:ByteArray} {w w':World} {xs ys:List Int}
def uV (sw sh:Int) (xs ys:List Int):PD:=⟨0,0,0,0,0,sw,sh,none,none,0,0,xs,ys,⟨#[]⟩⟩
def PD.data (D:PD):PD:=uV D.sw D.sh D.opens D.hids
theorem Tq (D:PD) (S:dx) (u:ByteArray) (vs:List Int):fQ D S u vs=fQ D.data S u vs:=by cases D;rfl
theorem JC (D:PD) (S:dx) (t:aH) (vs:List Int):jQ D S t vs=jQ D.data S t vs:=by
 unfold jQ;rw[Tq]
theorem Iw (D:PD):∀(e:Ex) (S:dx),xD D e S=xD D.data e S
 | .nil,_=>rfl
 | .node _ _ t k r,S=>by
  rw[xD,xD,Iw D k S,JC D,Iw D r]
theorem Da (D:PD) (e:Ex) (S:dx):lL D e S=lL D.data e S:=by
 cases e with
 | nil=>rfl
 | node b o t k r=>rw[lL,lL,Iw D k S,JC D]
theorem Vh (D:PD) (S:dx) (b:Bool) (v:Int):sU D S b v=sU D.data S b v:=by cases D;rfl
theorem NT {f g:dx->dx} (h:∀T,f T=g T) (nm:ByteArray) (q:Nat):∀(i:Int) (S:dx),fA f nm q i S=fA g nm q i S:=by
 have e:f=g:=funext h;intro i S;rw[e]
theorem VX (D:PD) (n:Nat):∀(s:Sx),dS s<=n->∀S,iA D s S=iA D.data s S:=by
 induction n with
 | zero=>
  intro s hs S
  cases s with
  | nil=>rfl
  | node b o p k r=>simp[dS]at hs
 | succ n ih=>
  intro s hs S
  cases s with
  | nil=>rfl
  | node b o p k r=>
   simp only[dS]at hs;by_cases hov:20000<S.steps
   .rw[kK hov,kK hov]
   have hr:∀T,iA D r T=iA D.data r T:=ih r (by omega);by_cases t0:p.tag=0
   .rw[Np hov t0,Np hov t0,Da D,hr]
   by_cases t1:p.tag=1
   .cases k with
    | nil=>
     have e:∀E:PD,iA E (.node b o p .nil r) S=iA E r (lL E p.e (aK S)).2:=λE=>by
      show(if 20000<S.steps then S else iA E r (if p.tag=0 then _ else if p.tag=1 then _ else _))=_;rw[ae hov,ae t0,ag t1]
     rw[e D,e D.data,Da D,hr]
    | node b1 o1 q s u=>
     simp only[dS]at hs;rw[NV hov t1,NV hov t1,Da D,ih s (by omega),ih u (by omega),hr]
   by_cases t2:p.tag=2
   .rw[NZ hov t2,NZ hov t2,NT (ih k (by omega)),hr]
   .have e:∀E:PD,iA E (.node b o p k r) S=iA E r (sU E (lL E p.e (aK S)).2 (decide (wP p.t=lD)) (lL E p.e (aK S)).1):=λE=>by
     cases k<;>(show(if 20000<S.steps then S else iA E r (if p.tag=0 then _ else if p.tag=1 then _ else if p.tag=2 then _ else _))=_;rw[ae hov,ae t0,ae t1,ae t2])
    rw[e D,e D.data,Da D,Vh D,hr]
theorem Ol (D:PD) (t:Sx):∀(l:List (Int×Int)) (S:dx),Cm D t l S=Cm D.data t l S
 | [],_=>rfl
 | x::l,S=>by
  have e:nK D t S x=nK D.data t S x:=VX D _ t (af _) _;rw[Cm,Cm,e,Ol D t l]
def X9 (w:World) (sw sh:Int) (xs ys:List Int) (src:ByteArray) (e:Ending) (w':World):Prop:=
 (bi sw sh xs ys≠0/\Below w.heap.size w w'/\e=.returned (.tuple #[lV,.int .i64 (bi sw sh xs ys),.int .i64 0])) ∨
 (bi sw sh xs ys=0/\(iX src).1≠0/\Below w.heap.size w w'/\e=.returned (.tuple #[lV,.int .i64 (iX src).1,.int .i64 (iX src).2])) ∨
 (bi sw sh xs ys=0/\iX src=(0,0)/\∃ds t,yL src ds t/\OU w (Cm (uV sw sh xs ys) t (fV sw.toNat sh.toNat) (jg (sw.toNat*sh.toNat))) e w')
theorem QL (w:World) (sw sh:Int) (so sd:Option Addr) (c1 c2:Nat) (xs ys:List Int) (src:ByteArray) (hx:aF w.heap.size w so xs) (hy:aF w.heap.size w sd ys) (hlx:xs.length<=maxLen) (hly:ys.length<=maxLen) (hsrc:src.size<=maxLen) :
  Calls Tryz.prog 21 #[Cz sw sh so sd c1 c2 xs ys src] w (X9 w sw sh xs ys src):=by
 by_cases h1:bi sw sh xs ys=0
 .by_cases h2:(iX src).1=0
  .obtain⟨ds,t,hT,hR⟩:=QP h2;obtain⟨wf,sz,wt⟩:=Zu hT;obtain⟨⟨a1,a2⟩,⟨b1,b2⟩,_,_⟩:=Oo h1;obtain⟨pw,hpw⟩:∃pw:Nat,sw=pw:=⟨sw.toNat,by omega⟩;obtain⟨ph,hph⟩:∃ph:Nat,sh=ph:=⟨sh.toNat,by omega⟩;subst hpw;subst hph;refine(MU w pw ph so sd c1 c2 xs ys src hx hy hlx hly h1 hsrc hR ds t hT wf sz wt).mono ?_;rintro e w' ⟨D,d1,d2,d3,d4,ho⟩;refine .inr (.inr ⟨h1,hR,ds,t,hT,?_⟩);rw[Ol]at ho;have e:D.data=uV pw ph xs ys:=by unfold PD.data;rw[d1,d2,d3,d4]
   rw[e]at ho;exact ho
  .exact(Q6 w sw sh so sd c1 c2 xs ys src hx hy hlx hly h1 hsrc h2).mono λe w' ⟨a,b⟩=>.inr (.inl ⟨h1,h2,a,b⟩)
 .exact(Oa w sw sh so sd c1 c2 xs ys src hx hy hlx hly h1).mono λe w' ⟨a,b⟩=>.inl ⟨h1,a,b⟩
def tF (w:World) (E P:Int) (r:Option dx) (e:Ending) (w':World):Prop:=Below w.heap.size w w'/\match r with
 | none=>e=.returned (.tuple #[lV,.int .i64 E,.int .i64 P])
 | some S=>∃ob hb rv,e=.returned (.tuple #[.agg #[.slice (some ⟨ob,0,none⟩) S.opn.length S.opn.length,.slice (some ⟨hb,0,none⟩) S.hid.length S.hid.length,.int .i64 S.steps,.int .i64 S.touched,rv],.int .i64 E,.int .i64 P])/\w'.heap[ob]?=some (kY S.opn)/\w'.heap[hb]?=some (kY S.hid)/\w'.ownsRow w.heap.size 61 2 rv S.trace.length (yg S.trace)/\w.heap.size<=ob/\w.heap.size<=hb/\ob≠hb/\rv.ownBlock≠some ob/\rv.ownBlock≠some hb
def YD (sw sh:Int) (xs ys:List Int) (src:ByteArray) (E P:Int) (r:Option dx):Prop:=
 (bi sw sh xs ys≠0/\E=bi sw sh xs ys/\P=0/\r=none) ∨
 (bi sw sh xs ys=0/\(iX src).1≠0/\E=(iX src).1/\P=(iX src).2/\r=none) ∨
 (bi sw sh xs ys=0/\iX src=(0,0)/\P=0/\∃ds t,yL src ds t/\r=Cm (uV sw sh xs ys) t (fV sw.toNat sh.toNat) (jg (sw.toNat*sh.toNat))/\E=if r.isSome then 0 else 12)
theorem ZF (h:X9 w sw sh xs ys src e w'):∃E P r,YD sw sh xs ys src E P r/\tF w E P r e w':=by
 rcases h with⟨h1,hb,he⟩|⟨h1,h2,hb,he⟩|⟨h1,h2,ds,t,hT,ho⟩
 .exact⟨_,_,none,.inl ⟨h1,rfl,rfl,rfl⟩,hb,he⟩
 .exact⟨_,_,none,.inr (.inl ⟨h1,h2,rfl,rfl,rfl⟩),hb,he⟩
 .cases hg:Cm (uV sw sh xs ys) t (fV sw.toNat sh.toNat) (jg (sw.toNat*sh.toNat)) with
  | none=>
   rw[hg]at ho;exact⟨12,0,none,.inr (.inr ⟨h1,h2,rfl,ds,t,hT,hg.symm,rfl⟩),ho.1,ho.2⟩
  | some S=>
   rw[hg]at ho;exact⟨0,0,some S,.inr (.inr ⟨h1,h2,rfl,ds,t,hT,hg.symm,rfl⟩),ho.1,ho.2⟩
theorem tF.form (h:tF w E P r e w'):∃ao n c bo m d i j to k f,e=.returned (.tuple #[.agg #[.slice ao n c,.slice bo m d,.int .i64 i,.int .i64 j,.slice to k f],.int .i64 E,.int .i64 P]):=by
 cases r with
 | none=>exact⟨none,0,0,none,0,0,0,0,none,0,0,h.2⟩
 | some S=>
  obtain⟨hb,ob,hb',rv,he,_,_,hr,_⟩:=h;rcases hr.2 with⟨h1,h0⟩|⟨g,cap,cur,rfl,_⟩
  .rw[h1]at he;exact⟨_,_,_,_,_,_,_,_,_,_,_,he⟩
  .exact⟨_,_,_,_,_,_,_,_,_,_,_,he⟩
theorem tF.later {w1:World} {w3:World} (h:tF w1 E P r e w') (hb:Below w.heap.size w w1) (hk:∀k,w1.heap.size<=k->w3.heap[k]?=w'.heap[k]?) (h3:Below w.heap.size w w3):tF w E P r e w3:=by
 have hsz:=hb.size
 cases r with
 | none=>exact⟨h3,h.2⟩
 | some S=>
  obtain⟨hb',ob,hb2,rv,he,a1,a2,a3,a4,a5,a6,a7,a8⟩:=h;refine⟨h3,ob,hb2,rv,he,(hk _ a4).trans a1,(hk _ a5).trans a2,?_,by omega,by omega,a6,a7,a8⟩;exact IM (cu a3 (λk e=>hk k (a3.lt k e).1)) hsz
theorem Kh (w:World) (sw sh:Int) (so sd:Option Addr) (c1 c2:Nat) (xs ys:List Int) (src:ByteArray) (hx:aF w.heap.size w so xs) (hy:aF w.heap.size w sd ys) (hlx:xs.length<=maxLen) (hly:ys.length<=maxLen) (hsrc:src.size<=maxLen) :
  Calls Tryz.prog 8 #[Cz sw sh so sd c1 c2 xs ys src] w λe w'=>∃E P r,YD sw sh xs ys src E P r/\tF w E P r e w':=by
 obtain⟨w1,hw1⟩:∃w1,(w.alloc (.cells #[.int .i64 sw,.int .i64 sh,.slice so xs.length c1,.slice sd ys.length c2,.string src] 24)).alloc (.cells #[.slice none 0 0,.slice none 0 0,.int .i64 0,.int .i64 0,.slice none 0 0] 36)=w1:=⟨_,rfl⟩;have b1:Below w.heap.size w w1:=by rw[<-hw1];exact((ax _ w).alloc (af _) _).alloc (by simp) _
 have z1:w1.heap.size=w.heap.size+2:=by rw[<-hw1];simp
 have s1:w1.heap[w.heap.size+1]?=some (.cells #[.slice none 0 0,.slice none 0 0,.int .i64 0,.int .i64 0,.slice none 0 0] 36 (0,0)):=by
  rw[<-hw1];exact(by simpa using aA (w.alloc _) (.cells #[.slice none 0 0,.slice none 0 0,.int .i64 0,.int .i64 0,.slice none 0 0] 36))
 have s0:w1.heap[w.heap.size]?=some (.cells #[.int .i64 sw,.int .i64 sh,.slice so xs.length c1,.slice sd ys.length c2,.string src] 24 (0,0)):=by
  rw[<-hw1];exact(av _ _ _ (by simp)).trans (aA w _)
 obtain⟨x0,x1,x2,x3,x4⟩:=(kE s0).1;have SC:=aj (QL w1 sw sh so sd c1 c2 xs ys src ((hx.later b1 (af _)).mono (by omega)) ((hy.later b1 (af _)).mono (by omega)) hlx hly hsrc);have HB1:=aj b1;have HZ1:=aj z1;clear hx hy hlx hly hsrc b1;unfold Cz at SC ⊢;go_enter Tryz.func8,Tryz.ntmps8;go_wp2_with fail;clear hw1 z1 x0 x1 x2 x3 x4;refine(aa SC).mono ?_;intro e w2 ho;obtain⟨E,P,r,hans,hres⟩:=ZF ho;obtain⟨ao,n,c,bo,m,d,i,j,to,k,f,he⟩:=hres.form;have s2:=(hres.1.block _ (by have:=aa HZ1;omega)).trans s1;obtain⟨⟨y0,y1,y2,y3,y4⟩,yz⟩:=kE s2;have s3:=ZK s2 (.slice ao n c) (.slice bo m d) (.int .i64 i) (.int .i64 j) (.slice to k f);have FIN:Hid (∃E' P' r',YD sw sh xs ys src E' P' r'/\tF w E' P' r' (.returned (.tuple #[.agg #[.slice ao n c,.slice bo m d,.int .i64 i,.int .i64 j,.slice to k f],.int .i64 E,.int .i64 P])) (((((w2.setCell ⟨w.heap.size+1,0,none⟩ (.slice ao n c)).setCell ⟨w.heap.size+1,1,none⟩ (.slice bo m d)).setCell ⟨w.heap.size+1,2,none⟩ (.int .i64 i)).setCell ⟨w.heap.size+1,3,none⟩ (.int .i64 j)).setCell ⟨w.heap.size+1,4,none⟩ (.slice to k f))):=by
  have hz:=aa HZ1;refine⟨E,P,r,hans,?_⟩;rw[<-he];refine hres.later (aa HB1) (λq hq=>?_) ?_
  .have ne:q≠w.heap.size+1:=by omega
   exact(ay _ _ _ _ ne).trans ((ay _ _ _ _ ne).trans ((ay _ _ _ _ ne).trans ((ay _ _ _ _ ne).trans (ay _ _ _ _ ne))))
  .have b2:Below w.heap.size w w2:=(aa HB1).trans (hres.1.mono (by omega));exact((((b2.setCell (p:=⟨w.heap.size+1,0,none⟩) (by simp) _).setCell (p:=⟨w.heap.size+1,1,none⟩) (by simp) _).setCell (p:=⟨w.heap.size+1,2,none⟩) (by simp) _).setCell (p:=⟨w.heap.size+1,3,none⟩) (by simp) _).setCell (p:=⟨w.heap.size+1,4,none⟩) (by simp) _
 obtain⟨z0,z1,z2,z3,z4⟩:=(kE s3).1;subst he;have Z0:=aj z0;have Z1:=aj z1;have Z2:=aj z2;have Z3:=aj z3;have Z4:=aj z4;clear z0 z1 z2 z3 z4 s3 s2 s1 s0 hres hans ho HB1 HZ1 SC;go_wp2;refine aL (v:=.tuple #[.agg #[.slice ao n c,.slice bo m d,.int .i64 i,.int .i64 j,.slice to k f],.int .i64 E,.int .i64 P]) (by simp[results,Tryz.results8,go_sem,aa Z0,aa Z1,aa Z2,aa Z3,aa Z4]) rfl (aa FIN)
structure pz (S T:dx):Prop where
 op:T.opn.length=S.opn.length
 hi:T.hid.length=S.hid.length
 tr:S.trace.length<=100->T.trace.length<=100
theorem pz.refl (S:dx):pz S S:=⟨rfl,rfl,id⟩
theorem pz.trans {S T R:dx} (h:pz S T) (k:pz T R):pz S R:=⟨k.op.trans h.op,k.hi.trans h.hi,λx=>k.tr (h.tr x)⟩
theorem Ce (S:dx) (a b:Int):pz S (bC S a b):=by
 unfold bC;split
 .exact⟨rfl,rfl,λ_=>by show(S.trace++[_]).length<=100;simp;omega⟩
 .exact⟨rfl,rfl,id⟩
theorem vC (S:dx):pz S (aK S):=⟨rfl,rfl,id⟩
theorem I5 (S:dx) (nm:ByteArray) (v:Int):pz S (uL S nm v):=⟨rfl,rfl,id⟩
theorem Vd (D:PD) (S:dx) (u:ByteArray) (vs:List Int):pz S (fQ D S u vs).2:=by
 unfold fQ
 repeat' split
 all_goals first|exact pz.refl S|exact Ce S _ _
theorem JO (D:PD) (S:dx) (t:aH) (vs:List Int):pz S (jQ D S t vs).2:=by
 unfold jQ
 repeat' split
 all_goals first|exact pz.refl S|exact Vd D S _ _
theorem GD (D:PD):∀(e:Ex) (S:dx),pz S (xD D e S).2
 | .nil,S=>pz.refl S
 | .node _ _ t k r,S=>((((GD D k S).trans (vC _)).trans (JO D _ t _)).trans (GD D r _))
theorem XT (D:PD) (e:Ex) (S:dx):pz S (lL D e S).2:=by
 cases e with
 | nil=>exact pz.refl S
 | node b o t k r=>exact((GD D k S).trans (vC _)).trans (JO D _ t _)
theorem Mv (D:PD) (S:dx) (out:Bool) (v:Int):pz S (sU D S out v):=by
 unfold sU;split
 .exact(Ce S _ _).trans ⟨by show(List.set _ _ _).length=_;rw[uo,(fO S 2 (iT D S)).2.2.2.1],rfl,id⟩
 .exact(Ce S _ _).trans ⟨rfl,by show(List.set _ _ _).length=_;rw[uo,(fO S 3 (iT D S)).2.2.2.2.1],id⟩
theorem zS {body:dx->dx} {nm:ByteArray} (hb:∀T,pz T (body T)):∀(q:Nat) (i:Int) (S:dx),pz S (fA body nm q i S)
 | 0,_,S=>pz.refl S
 | q+1,i,S=>(((vC S).trans (I5 _ nm i)).trans (hb _)).trans (zS hb q (i+1) _)
theorem AP (D:PD):∀(n:Nat) (s:Sx),dS s<=n->∀S,pz S (iA D s S)
 | _,.nil,_,S=>pz.refl S
 | 0,.node _ _ _ _ _,h,_=>by simp[dS]at h
 | n+1,.node b o p k r,h,S=>by
  by_cases h0:20000<S.steps
  .rw[kK h0];exact pz.refl S
  have hr:dS r<=n:=by simp only[dS]at h;omega
  have hk:dS k<=n:=by simp only[dS]at h;omega
  have hE:pz S (lL D p.e (aK S)).2:=(vC S).trans (XT D p.e _)
  cases k with
  | nil=>
   show pz S (if 20000<S.steps then S else iA D r _);rw[ae h0];refine pz.trans ?_ (AP D n r hr _);split
   .exact hE.trans (I5 _ _ _)
   split
   .exact hE
   split
   .exact(vC S).trans (zS (λT=>pz.refl T) _ _ _)
   .exact hE.trans (Mv _ _ _ _)
  | node b1 o1 q s u=>
   have hs:dS s<=n:=by simp only[dS]at hk;omega
   have hu:dS u<=n:=by simp only[dS]at hk;omega
   show pz S (if 20000<S.steps then S else iA D r _);rw[ae h0];refine pz.trans ?_ (AP D n r hr _);split
   .exact hE.trans (I5 _ _ _)
   split
   .refine hE.trans ?_;split
    .exact AP D n s hs _
    .exact AP D n u hu _
   split
   .exact(vC S).trans (zS (λT=>AP D n _ hk T) _ _ _)
   .exact hE.trans (Mv _ _ _ _)
theorem Rh (D:PD) (t:Sx):∀(l:List (Int×Int)) (S T:dx),Cm D t l S=some T->pz S T
 | [],S,T,h=>by cases h;exact pz.refl S
 | x::l,S,T,h=>by
  rw[Cm]at h;split at h
  .cases h
  .have hb:pz S (xh S x.1 x.2):=⟨rfl,rfl,id⟩;exact(hb.trans (AP D _ t (af _) _)).trans (Rh D t l _ T h)
theorem VI {S:dx} (h:YD sw sh xs ys src E P (some S)):S.opn.length<=36/\S.hid.length<=36/\S.trace.length<=100:=by
 rcases h with⟨_,_,_,h⟩|⟨_,_,_,_,h⟩|⟨hs,_,_,ds,t,_,hr,_⟩
 .cases h
 .cases h
 .have L:=Rh _ t _ _ S hr.symm;have h36:sw.toNat*sh.toNat<=36:=by
   unfold bi at hs;split at hs
   .rename_i hb;rw[dC]at hb;obtain⟨a,_,c,_,_,f⟩:=pO hb.1 hb.2;have e:((sw.toNat*sh.toNat:Nat):Int)=sw*sh:=by rw[Int.natCast_mul,Int.toNat_of_nonneg (by omega),Int.toNat_of_nonneg (by omega)]
    omega
   .cases hs
  have h1:=L.op;have h2:=L.hi;have h3:=L.tr (by show(0:Nat)<=100;omega);have e1:(jg (sw.toNat*sh.toNat)).opn.length=sw.toNat*sh.toNat:=mO;have e2:(jg (sw.toNat*sh.toNat)).hid.length=sw.toNat*sh.toNat:=mO;exact⟨by omega,by omega,h3⟩
end Go.Proofs.YthmmgiaobakilaaGreat
