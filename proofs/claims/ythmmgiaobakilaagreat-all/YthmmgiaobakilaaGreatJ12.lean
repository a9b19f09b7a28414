import Derived.Test.YthmmgiaobakilaaGreatJ04
import Derived.Test.YthmmgiaobakilaaGreatJ10
import Derived.Test.YthmmgiaobakilaaGreatJ11
import Derived.Deep.RegionWith
import Derived.Deep.LoopGhost
set_option maxRecDepth 100000
set_option maxHeartbeats 8000000
set_option linter.all false
namespace Go.Proofs.YthmmgiaobakilaaGreat
open Go.RowKit Go.Deep
variable {H l:List ByteArray} {Q:Nat->Prop} {R R':ByteArray->Int} {ao:Option Addr} {b cb m mb n o x:Nat} {k r:Sx} {p q:SP} {sv:Value} {w w':World}
abbrev sj:=Int×Int
variable {F:sj}
def jL (F:sj) (e p:Int):sj:=if F.1=0 then(e,p) else F
def nmT (t:aH):Bool:=(kP t==2) && !uS.any (λu=>(wP t).toList==u.toList)
def Ct (R:ByteArray->Int) (t:aH) (F:sj):sj:=if nmT t&&(R (wP t)==0) then jL F 10 t.place else F
def Eh (R:ByteArray->Int):Ex->sj->sj
 | .nil,F=>F
 | .node _ _ t k r,F=>Eh R r (Eh R k (Ct R t F))
def zH (R:ByteArray->Int):Ex->sj->sj
 | .nil,F=>F
 | .node _ _ t k _,F=>Eh R k (Ct R t F)
abbrev Fh:=(ByteArray->Int)×sj
variable {σ:Fh}
def uC (σ:Fh) (t:aH) (c:Int):Fh:=(mU σ.1 (wP t) c,if decide (6<(wP t).size)||(σ.1 (wP t) != 0) then jL σ.2 10 t.place else σ.2)
def ED (a b:aH) (σ:Fh):Fh:=(σ.1,if decide (nP b<nP a)||decide (20<nP b) then jL σ.2 10 a.place else σ.2)
def nM:Sx->Fh->Fh
 | .nil,σ=>σ
 | .node _ _ p k r,σ=>nM r (
  if p.tag=0 then(σ.1,zH σ.1 p.e (if σ.1 (wP p.t) != 1 then jL σ.2 10 p.t.place else σ.2)) else
  if p.tag=1 then(match k with
   | .nil=>σ
   | .node _ _ _ s u=>nM u (nM s (σ.1,zH σ.1 p.e σ.2))) else
  if p.tag=2 then(λτ:Fh=>(mU τ.1 (wP p.t) 0,τ.2)) (nM k (ED p.a p.b (uC σ p.t 2))) else
  (σ.1,zH σ.1 p.e σ.2))
theorem WU (h:p.tag=0):nM (.node b o p k r) σ=nM r (σ.1,zH σ.1 p.e (if σ.1 (wP p.t) != 1 then jL σ.2 10 p.t.place else σ.2)):=by
 cases k<;>(show nM r (if p.tag=0 then _ else _)=_;rw[ag h])
theorem QO {b1 o1:Nat} {s u:Sx} (h:p.tag=1):nM (.node b o p (.node b1 o1 q s u) r) σ=nM r (nM u (nM s (σ.1,zH σ.1 p.e σ.2))):=by
 show nM r (if p.tag=0 then _ else if p.tag=1 then _ else _)=_;rw[ae (by omega),ag h]
theorem RZ (h:p.tag=2):nM (.node b o p k r) σ=nM r ((λτ:Fh=>(mU τ.1 (wP p.t) 0,τ.2)) (nM k (ED p.a p.b (uC σ p.t 2)))):=by
 cases k<;>(show nM r (if p.tag=0 then _ else if p.tag=1 then _ else if p.tag=2 then _ else _)=_;rw[ae (by omega),ae (by omega),ag h])
theorem Y9 (h:p.tag=3∨p.tag=4):nM (.node b o p k r) σ=nM r (σ.1,zH σ.1 p.e σ.2):=by
 cases k<;>(show nM r (if p.tag=0 then _ else if p.tag=1 then _ else if p.tag=2 then _ else _)=_;rw[ae (by omega),ae (by omega),ae (by omega)])
def kD (t:aH):Prop:=(wP t).size<=300/\0<=nP t/\nP t<=65536
structure fZ (w:World) (cb mb n:Nat) (R:ByteArray->Int) (F:sj):Prop where
 blk:w.heap[cb]?=some (.cells #[.map (some mb),.int .i64 F.1,.int .i64 F.2] 158 (0,0))
 map:mQ 155 .i64 w mb n R
theorem fZ.ne (h:fZ w cb mb n R F):cb≠mb:=λe=>by
 obtain⟨es,c,hb⟩:=h.map.obj;rw[<-e,h.blk]at hb
 cases hb
theorem fZ.lt (h:fZ w cb mb n R F):cb<w.heap.size:=(az.1 h.blk).1
theorem fZ.later {w w':World} {cb mb n:Nat} {R:ByteArray->Int} {F:sj} (h:fZ w cb mb n R F) (h1:w'.heap[cb]?=w.heap[cb]?) (h2:w'.heap[mb]?=w.heap[mb]?):fZ w' cb mb n R F:=⟨h1.trans h.blk,h.map.later h2⟩
theorem fZ.below (h:fZ w cb mb n R F) (hb:Below w.heap.size w w'):fZ w' cb mb n R F:=h.later (hb.block _ h.lt) (hb.block _ h.map.lt)
theorem WX (w:World):(zeroValue 155).run Tryz.prog w=.ok (.int .i64 0) w:=by kernel_rfl
theorem fZ.look {w:World} {cb mb n:Nat} {R:ByteArray->Int} {F:sj} (h:fZ w cb mb n R F) {s:ByteArray} (hs:s.size<=300):(Instr.lookup 156 (.map (some mb)) (.string s) false).run Tryz.prog w=.ok (.int .i64 (R s)) w:=
 h.map.look Tryz.underlying156 Tryz.underlying155 (WX w) (by unfold maxLen;omega)
theorem MV (w:World) (b k:Nat) (f pl er at_:Int) (c1:w.cell? ⟨b,k,none⟩=some (.int .i64 f)) (c2:w.cell? ⟨b,k+1,none⟩=some (.int .i64 pl)) (z1:w.frozen? ⟨b,k,none⟩=false) (z2:w.frozen? ⟨b,k+1,none⟩=false) :
  Calls Tryz.prog 117 #[.pointer (some ⟨b,k,none⟩),.int .i64 er,.int .i64 at_] w λe w'=>e=.returned (.tuple #[])/\w'=if f=0 then(w.setCell ⟨b,k,none⟩ (.int .i64 er)).setCell ⟨b,k+1,none⟩ (.int .i64 at_) else w:=by
 by_cases hf:f=0
 .rw[ag hf];go_enter Tryz.func117,Tryz.ntmps117;go_wp2
  go_end0
  exact⟨rfl,rfl⟩
 .rw[ae hf];go_enter Tryz.func117,Tryz.ntmps117;go_wp2
  go_end0
  exact⟨rfl,rfl⟩
theorem vB (w:World) (cb mb n:Nat) (R:ByteArray->Int) (F:sj) (er at_:Int) (h:fZ w cb mb n R F) :
  Calls Tryz.prog 117 #[.pointer (some ⟨cb,1,none⟩),.int .i64 er,.int .i64 at_] w λe w'=>e=.returned (.tuple #[])/\fZ w' cb mb n R (jL F er at_)/\aB cb w w':=by
 obtain⟨⟨c0,c1,c2⟩,z0,z1,z2⟩:=yQ h.blk;refine(MV w cb 1 F.1 F.2 er at_ c1 c2 z1 z2).mono ?_;rintro e w' ⟨he,rfl⟩;refine⟨he,?_⟩;unfold jL;split
 .refine⟨⟨?_,?_⟩,(aB.set cb w 1 _).trans (aB.set cb _ 2 _)⟩
  .exact aM _ cb 2 _ _ _ (aM _ cb 1 _ _ _ h.blk)
  .exact(h.map.later (ay _ _ _ _ (λe=>h.ne e.symm))).later (ay _ _ _ _ (λe=>h.ne e.symm))
 .exact⟨h,aB.refl _ _⟩
def Ei (t:aH) (l:List ByteArray):Bool:=(kP t==2)&&l.any (λu=>(wP t).toList==u.toList)
def Am (H:List ByteArray) (t:aH):Bool:=Ei t [cz]||Ei t H
def ry (H:List ByteArray):Ex->Bool
 | .nil=>false
 | .node _ _ t k r=>(Am H t||ry H k)||ry H r
def Uu (H:List ByteArray):Ex->Bool
 | .nil=>false
 | .node _ _ t k _=>Am H t||ry H k
def Es (H:List ByteArray) (t:aH) (k:Ex) (F:sj):sj:=if Ei t [bf,cz]&&ry H k then jL F 11 t.place else F
def DC (H:List ByteArray):Ex->sj->sj
 | .nil,F=>F
 | .node _ _ t k r,F=>DC H r (DC H k (Es H t k F))
def Ll (H:List ByteArray):Ex->sj->sj
 | .nil,F=>F
 | .node _ _ t k _,F=>DC H k (Es H t k F)
def KM (H:List ByteArray) (t:aH) (e:Ex) (may:Bool) (F:sj):sj:=Ll H e (if !may&&Uu H e then jL F 11 t.place else F)
def vo (H:List ByteArray):Sx->sj->sj
 | .nil,F=>F
 | .node _ _ p k r,F=>vo H r (
  if p.tag=0 then KM H p.t p.e (Ei p.t H) F else
  if p.tag=1 then(match k with
   | .nil=>F
   | .node _ _ _ s u=>vo H u (vo H s (KM H p.t p.e false F))) else
  if p.tag=2 then vo H k F else
  KM H p.t p.e (Ei p.t [dY]) F)
theorem XE (h:p.tag=0):vo H (.node b o p k r) F=vo H r (KM H p.t p.e (Ei p.t H) F):=by
 cases k<;>(show vo H r (if p.tag=0 then _ else _)=_;rw[ag h])
theorem XD {b1 o1:Nat} {s u:Sx} (h:p.tag=1):vo H (.node b o p (.node b1 o1 q s u) r) F=vo H r (vo H u (vo H s (KM H p.t p.e false F))):=by
 show vo H r (if p.tag=0 then _ else if p.tag=1 then _ else _)=_;rw[ae (by omega),ag h]
theorem Yn (h:p.tag=2):vo H (.node b o p k r) F=vo H r (vo H k F):=by
 cases k<;>(show vo H r (if p.tag=0 then _ else if p.tag=1 then _ else if p.tag=2 then _ else _)=_;rw[ae (by omega),ae (by omega),ag h])
theorem VW (h:p.tag=3∨p.tag=4):vo H (.node b o p k r) F=vo H r (KM H p.t p.e (Ei p.t [dY]) F):=by
 cases k<;>(show vo H r (if p.tag=0 then _ else if p.tag=1 then _ else if p.tag=2 then _ else _)=_;rw[ae (by omega),ae (by omega),ae (by omega)])
def Gx (w:World) (ao:Option Addr) (l:List ByteArray):Prop:=l=[]∨∃b off,ao=some ⟨b,off,none⟩/\Ch w b off l
theorem Gx.later (h:Gx w ao l) (hs:∀k,k<w.heap.size->(∀b,ao.map (·.block)=some b->k=b->w'.heap[k]?=w.heap[k]?)):Gx w' ao l:=by
 rcases h with h|⟨b,off,rfl,hc⟩
 .exact .inl h
 .refine .inr ⟨b,off,rfl,λj hj=>?_⟩;have h0:=hc j hj;have hb:=fB _ _ h0;have e:=hs b hb b rfl rfl;simp only[World.cell?]at h0 ⊢;rw[e];exact h0
structure kg (w:World) (cb:Nat) (ho:Option Addr) (hc:Nat) (H:List ByteArray) (F:sj):Prop where
 blk:w.heap[cb]?=some (.cells #[.slice ho H.length hc,.int .i64 F.1,.int .i64 F.2] 163 (0,0))
 strs:Gx w ho H
 off:ho.map (·.block)≠some cb
 few:H.length<=1000
section
variable {w w':World} {cb hc:Nat} {ho:Option Addr} {H:List ByteArray} {F:sj}
theorem kg.lt (h:kg w cb ho hc H F):cb<w.heap.size:=(az.1 h.blk).1
theorem kg.later (h:kg w cb ho hc H F) (hs:∀k,k<w.heap.size->w'.heap[k]?=w.heap[k]?):kg w' cb ho hc H F:=⟨(hs cb h.lt).trans h.blk,h.strs.later (λk hk _ _ _=>hs k hk),h.off,h.few⟩
theorem kg.below (h:kg w cb ho hc H F) (hb:Below w.heap.size w w'):kg w' cb ho hc H F:=h.later (λk hk=>hb.block k hk)
end
theorem JL (w:World) (cb hc:Nat) (ho:Option Addr) (H:List ByteArray) (F:sj) (er at_:Int) (h:kg w cb ho hc H F) :
  Calls Tryz.prog 117 #[.pointer (some ⟨cb,1,none⟩),.int .i64 er,.int .i64 at_] w λe w'=>e=.returned (.tuple #[])/\kg w' cb ho hc H (jL F er at_)/\aB cb w w':=by
 obtain⟨⟨c0,c1,c2⟩,z0,z1,z2⟩:=yQ h.blk;refine(MV w cb 1 F.1 F.2 er at_ c1 c2 z1 z2).mono ?_;rintro e w' ⟨he,rfl⟩;refine⟨he,?_⟩;unfold jL;split
 .refine⟨⟨?_,?_,h.off,h.few⟩,(aB.set cb w 1 _).trans (aB.set cb _ 2 _)⟩
  .exact aM _ cb 2 _ _ _ (aM _ cb 1 _ _ _ h.blk)
  .refine h.strs.later (λk hk b hb e=>?_);have hne:k≠cb:=λe2=>h.off (by rw[hb,<-e,e2]);exact(ay _ _ _ _ hne).trans (ay _ _ _ _ hne)
 .exact⟨h,aB.refl _ _⟩
theorem Qp (w:World) (ao:Option Addr) (c:Nat) (v:ByteArray) :
  Calls Tryz.prog 128 #[.slice ao 0 c,Value.string v] w λe w'=>e=.returned (.int .i64 (-1))/\w'=w:=by
 go_enter Tryz.func128,Tryz.ntmps128;go_wp2
 go_loop [8] (λi=>i=.int .i64 0) (λ_=>0)
 case atStart=>rfl
 case round=>
  subst hrel;go_wp2;go_ret;exact⟨rfl,rfl⟩
theorem J5 (w:World) (ao:Option Addr) (c:Nat) (v:ByteArray) :
  Calls Tryz.prog 107 #[.slice ao 0 c,Value.string v] w λe w'=>e=.returned (.bool false)/\w'=w:=by
 go_enter Tryz.func107,Tryz.ntmps107;go_wp2_with fail;refine(Qp w ao c v).mono ?_;rintro e w1 ⟨rfl,rfl⟩;go_wp2;go_ret;exact⟨rfl,rfl⟩
theorem OM (w:World) (k p n s:Int) (wd:ByteArray) (ao:Option Addr) (c:Nat) :
  Calls Tryz.prog 86 #[pE k p wd n s,.slice ao 0 c] w λe w'=>e=.returned (.bool false)/\Below w.heap.size w w':=by
 unfold pE
 cases hk:(k==2)
 .go_enter Tryz.func86,Tryz.ntmps86;go_wp2;go_ret;exact⟨rfl,(ax _ w).alloc (af _) _⟩
 .go_enter Tryz.func86,Tryz.ntmps86;go_wp2_with fail;refine(J5 _ ao c wd).mono ?_;rintro e w1 ⟨rfl,hw⟩;have hb:Below w.heap.size w w1:=by rw[hw];exact(ax _ w).alloc (af _) _
  clear hw;go_wp2;go_ret;exact⟨rfl,hb⟩
theorem nS (w:World) (t:aH) (ao:Option Addr) (c:Nat) (l:List ByteArray) (hs:Gx w ao l) (hl:l.length<=1000) :
  Calls Tryz.prog 86 #[pE (kP t) t.place (wP t) (nP t) (sP t),.slice ao l.length c] w λe w'=>e=.returned (.bool (Ei t l))/\Below w.heap.size w w':=by
 rcases hs with rfl|⟨b,off,rfl,hc⟩
 .refine(OM w (kP t) t.place (nP t) (sP t) (wP t) ao c).mono ?_;rintro e w' ⟨rfl,hb⟩;exact⟨by unfold Ei;simp,hb⟩
 .exact dm w (kP t) t.place (nP t) (sP t) (wP t) b off c l hc hl
def jD (w:World) (Q:Nat->Prop) (rest:Ex) (ao:Option Addr) (i:Nat):Prop:=rest=.nil∨∃g,ao=some ⟨g,0,none⟩/\Q g/\xB w Q rest g i
theorem qA.a {k:Ex} (h:qA w Q sv k):∃ao c,sv=.slice ao (lenE k) c/\jD w Q k ao 0:=by
 rcases h with⟨rfl,ao,c,rfl⟩|⟨_,g,c,rfl,hg,hf⟩
 .exact⟨ao,c,rfl,.inl rfl⟩
 .exact⟨_,c,rfl,.inr ⟨g,rfl,hg,hf⟩⟩
theorem jD.later {w w':World} {Q:Nat->Prop} (hk:nz Q w w') {rest:Ex} {ao:Option Addr} {i:Nat} (h:jD w Q rest ao i):jD w' Q rest ao i:=by
 rcases h with h|⟨g,e,hg,hf⟩
 .exact .inl h
 .exact .inr ⟨g,e,hg,xB.later hk (λj hj _=>hj) rest g i hg hf⟩
theorem FU (e:Ex):lenE e<=eu e:=by
 induction e with
 | nil=>exact af _
 | node b o t k r ihk ihr=>simp only[lenE,eu];omega
def Ko (w:World) (Q:Nat->Prop) (rest:Sx) (ao:Option Addr) (i:Nat):Prop:=rest=.nil∨∃g,ao=some ⟨g,0,none⟩/\Q g/\ul w Q rest g i
theorem dh.a (h:dh w Q sv k):∃ao c,sv=.slice ao (lenS k) c/\Ko w Q k ao 0:=by
 rcases h with⟨rfl,ao,c,rfl⟩|⟨_,g,c,rfl,hg,hf⟩
 .exact⟨ao,c,rfl,.inl rfl⟩
 .exact⟨_,c,rfl,.inr ⟨g,rfl,hg,hf⟩⟩
theorem Lb (e:Sx):lenS e<=dS e:=by
 induction e with
 | nil=>exact af _
 | node b o t k r ihk ihr=>simp only[lenS,dS];omega
def Nr (m:Nat):Prop:=∀(e:Ex) (w:World) (cb hc:Nat) (ho:Option Addr) (H:List ByteArray) (F:sj) (Q:Nat->Prop) (v:Value),eu e<=m->kg w cb ho hc H F->gD w Q v e ->
 Calls Tryz.prog 133 #[.pointer (some ⟨cb,0,none⟩),v] w λr w'=>r=.returned (.bool (Uu H e))/\Below w.heap.size w w'
theorem WY (ih:Nr m) (k:Ex) (w:World) (cb hc c:Nat) (ho ao:Option Addr) (H:List ByteArray) (F:sj) (Q:Nat->Prop) (hsz:eu k<=m) (hm:m<=100000) (h:kg w cb ho hc H F) (rep:jD w Q k ao 0) :
  Calls Tryz.prog 145 #[.slice ao (lenE k) c,.func (.func 133) #[.pointer (some ⟨cb,0,none⟩)] #[]] w λr w'=>(∃i:Int,r=.returned (.int .i64 i)/\decide (0<=i)=ry H k)/\Below w.heap.size w w':=by
 have hlen:lenE k<=100000:=by have:=FU k;omega
 go_enter Tryz.func145,Tryz.ntmps145;go_wp2
 go_loopg [8] (lenE k) (λq v wr=>∃rest,v=.int .i64 ((lenE k-q:Nat):Int)/\q<=lenE k/\lenE rest=q/\eu rest<=eu k/\kg wr cb ho hc H F/\Below w.heap.size w wr/\ry H rest=ry H k/\jD wr Q rest ao (lenE k-q))
 case atStart=>exact⟨k,by rw[cZ];rfl,af _,rfl,af _,h,ax _ _,rfl,by rw[cZ];exact rep⟩
 case round=>
 clear h rep;obtain⟨rest,rfl,hq,hlr,hsr,hfc,kw,hfold,hrep⟩:=hrel
 cases rest with
 | nil=>
  have hq0:gk=0:=by rw[<-hlr];rfl
  subst hq0;have hge:decide (((lenE k-0:Nat):Int)<(lenE k:Int))=false:=by simp
  have HF:=aj hfold;clear hfold;go_wp2;go_ret;exact⟨⟨-1,rfl,by rw[<-aa HF];simp[ry]⟩,kw⟩
 | node b1 o1 t1 k1 r1=>
  have hl1:lenE r1+1=gk:=hlr;obtain⟨d,hd⟩:∃d,d+gk=lenE k:=⟨lenE k-gk,by omega⟩;have hnd:lenE k-gk=d:=by omega
  rw[hnd]at hrep ⊢;have hlt:decide ((d:Int)<(lenE k:Int))=true:=by simp;omega
  rcases hrep with hn|⟨g,rfl,hg,hrf⟩
  .cases hn
  obtain⟨⟨sv1,hcells,hkids⟩,hrest⟩:=hrf;obtain⟨x0,x1,x2,x3,x4,x5⟩:=hcells;have hv1:gD wr Q (qV t1 sv1) (.node b1 o1 t1 k1 r1):=⟨b1,o1,t1,k1,r1,sv1,rfl,rfl,hkids⟩;obtain⟨so1,sc1,hsv1⟩:=qA.form hkids;subst hsv1;have hsz1:eu (.node b1 o1 t1 k1 r1)<=m:=by omega
  have hgw:g<wr.heap.size:=fB _ _ x0;have HF:=aj hfold;clear hkids hfold;go_wp2_with fail;refine(ih (.node b1 o1 t1 k1 r1) wr cb hc ho H F Q (qV t1 (.slice so1 (lenE k1) sc1)) hsz1 hfc hv1).mono ?_;rintro e w3 ⟨rfl,B3⟩;have K3:=kw.trans (B3.mono kw.size);have f3:=hfc.below B3;have hr3:jD w3 Q r1 (some ⟨g,0,none⟩) (d+1):=.inr ⟨g,rfl,hg,xB.later (λj hj hl=>B3.block j hl) (λj hj _=>hj) r1 g (d+1) hg hrest⟩;clear hv1 hrest B3 hfc kw
  cases hh:Uu H (.node b1 o1 t1 k1 r1)
  .go_wp2
   go_roundg (lenE r1)
   case rel=>
    refine⟨r1,by congr 1;omega,by omega,rfl,by simp[eu]at hsr;omega,f3,K3,?_,by rw[show lenE k-lenE r1=d+1 by omega];exact hr3⟩;have:=aa HF;have hh:(Am H t1||ry H k1)=false:=hh;have this:((Am H t1||ry H k1)||ry H r1)=ry H k:=this;rw[hh,Bool.false_or]at this;exact this
   case measure=>omega
  .have hk:ry H k=true:=by
    have:=aa HF;have hh:(Am H t1||ry H k1)=true:=hh;have this:((Am H t1||ry H k1)||ry H r1)=ry H k:=this;rw[hh,Bool.true_or]at this;exact this.symm
   go_wp2;go_ret;exact⟨⟨(d:Int),rfl,by rw[hk];simp⟩,K3⟩
theorem Kw (ih:Nr m) (k:Ex) (w:World) (cb hc c:Nat) (ho ao:Option Addr) (H:List ByteArray) (F:sj) (Q:Nat->Prop) (hsz:eu k<=m) (hm:m<=100000) (h:kg w cb ho hc H F) (rep:jD w Q k ao 0) :
  Calls Tryz.prog 142 #[.slice ao (lenE k) c,.func (.func 133) #[.pointer (some ⟨cb,0,none⟩)] #[]] w λr w'=>r=.returned (.bool (ry H k))/\Below w.heap.size w w':=by
 go_enter Tryz.func142,Tryz.ntmps142;go_wp2_with fail;refine(WY ih k w cb hc c ho ao H F Q hsz hm h rep).mono ?_;rintro e w1 ⟨⟨n,rfl,hn⟩,hb⟩;have HN:=aj hn;clear hn;go_wp2;go_ret;exact⟨cO (aa HN),hb⟩
theorem GI (w:World) (l:List ByteArray):Gx (w.alloc (.cells (l.map Value.string).toArray 9)) (some ⟨w.heap.size,0,none⟩) l:=.inr ⟨_,_,rfl,fJ w l⟩
theorem Sw (hm:m<=100000) (ih:Nr m):Nr (m+1):=by
 intro e w cb hc ho H F Q v hsz h hv;obtain⟨b,o,t,k,r,sv,rfl,rfl,hk⟩:=hv;obtain⟨ao,c,rfl,rep⟩:=hk.a;clear hk;have hszk:eu k<=m:=by simp[eu]at hsz;omega
 have hlt:=h.lt;obtain⟨w1,hw1⟩:∃w1,w.alloc (.cells #[.int .i64 (kP t),.int .i64 t.place,.string (wP t),.int .i32 (nP t),.int .i32 (sP t),.slice ao (lenE k) c] 119)=w1:=⟨_,rfl⟩;have s1:w1.heap[w.heap.size]?=some (.cells #[.int .i64 (kP t),.int .i64 t.place,.string (wP t),.int .i32 (nP t),.int .i32 (sP t),.slice ao (lenE k) c] 119 (0,0)):=by rw[<-hw1];exact aA w _
 have f1:kg w1 cb ho hc H F:=by rw[<-hw1];exact h.later (λj hj=>av w _ j hj)
 have B1:Below w.heap.size w w1:=by rw[<-hw1];exact(ax _ w).alloc (af _) _
 have rep1:jD w1 Q k ao 0:=by rw[<-hw1];exact rep.later (λj _ hl=>av w _ j hl)
 have lt1:w.heap.size<w1.heap.size:=(az.1 s1).1;have keep:∀w2,Below w1.heap.size w1 w2->kg w2 cb ho hc H F/\w2.heap[w.heap.size]?=some (.cells #[.int .i64 (kP t),.int .i64 t.place,.string (wP t),.int .i32 (nP t),.int .i32 (sP t),.slice ao (lenE k) c] 119 (0,0))/\jD w2 Q k ao 0/\Below w.heap.size w w2:=λw2 B2=>
  ⟨f1.below B2,(B2.block _ lt1).trans s1,rep1.later (λj _ hl=>B2.block j hl),B1.trans (B2.mono B1.size)⟩
 have KP:=aj keep;clear keep h rep;unfold qV;show Calls _ _ _ _ λr w'=>r=.returned (.bool (Am H t||ry H k))/\Below w.heap.size w w';go_enter Tryz.func133,Tryz.ntmps133;go_wp2;clear hw1;have d1:=(iy s1).1;have c1:=(yQ f1.blk).1
 cases h1:Ei t [cz]
 .cases h2:Ei t H
  .have eH:(Am H t||ry H k)=ry H k:=by unfold Am;rw[h1,h2];rfl
   first|(go_region_with (first
    | (go_at_call_of 86 (Value.slice ho H.length hc);refine(nS _ t ho hc H ?_ f1.few).mono ?_;exact f2.strs;rintro e w3 ⟨rfl,b3⟩;rw[h2];have B3:=B2.trans (b3.mono B2.size);have fx:=aa KP w3 B3;obtain⟨f3,s3,rep3,BW3⟩:=fx;have d3:=(iy s3).1;have c3:=(yQ f3.blk).1)
    | (go_at_call 86;refine(nS _ t (some ⟨w1.heap.size,0,none⟩) 1 [cz] ?_ (by simp)).mono ?_;exact GI w1 [cz];rintro e w2 ⟨rfl,b2⟩;rw[h1];have B2:Below w1.heap.size w1 w2:=((ax _ w1).alloc (af _) _).drew.trans (b2.mono (by simp));have fx:=aa KP w2 B2;obtain⟨f2,s2,rep2,BW2⟩:=fx;have d2:=(iy s2).1;have c2:=(yQ f2.blk).1)
    | (go_at_call 142;refine(Kw ih k _ cb hc c ho ao H F Q hszk hm f3 rep3).mono ?_;rintro e w4 ⟨rfl,b4⟩;have B4:=BW3.trans (b4.mono BW3.size))))|fail
   all_goals go_wp2
   all_goals go_ret
   all_goals exact⟨cO eH.symm,B4⟩
  .have eH:(Am H t||ry H k)=true:=by unfold Am;rw[h1,h2];rfl
   refine wp_region_any (by kernel_rfl) ?_
   try (change wpAny _ _ _ _ _ _ _ (World.drew _))
   refine bV (i:=0) (v:=(.pointer (some ⟨w.heap.size,0,none⟩))) rfl (by kernel_rfl) (by kernel_rfl) (by kernel_rfl) (λ_ _ _ h=>h) (Or.inl ⟨by kernel_rfl,λ_=>by first|kernel_rfl|go_simp⟩) ?_;refine mV (rs:=[1,2]) (by kernel_rfl) (by simp) ?_;refine jU rfl (λK hK=>?_) (jU rfl (λK hK=>?_) mP)
   go_simp
   refine hK _ _ ?_;clear hK K;refine mV (rs:=[2]) (by kernel_rfl) (by simp) ?_;refine jU rfl (λK hK=>?_) mP
   go_simp
   refine hK _ _ ?_;clear hK K
   rotate_left
   go_simp
   refine hK _ _ ?_;clear hK K;refine mV (rs:=[1]) (by kernel_rfl) (by simp) ?_;refine jU rfl (λK hK=>?_) mP
   go_simp
   refine hK _ _ ?_;clear hK K
   all_goals
    refine mV (rs:=[3]) (by kernel_rfl) (by simp) ?_;refine jU rfl (λK hK=>?_) mP
    go_simp
    refine(nS _ t (some ⟨w1.heap.size,0,none⟩) 1 [cz] ?_ (by simp)).mono ?_
    .exact GI w1 [cz]
    rintro e w2 ⟨rfl,b2⟩;rw[h1];have B2:Below w1.heap.size w1 w2:=((ax _ w1).alloc (af _) _).drew.trans (b2.mono (by simp));obtain⟨f2,s2,rep2,BW2⟩:=aa KP w2 B2;have d2:=(iy s2).1;have c2:=(yQ f2.blk).1;go_wp2_with fail;refine bV (i:=4) (v:=(.bool false)) rfl (by kernel_rfl) (by kernel_rfl) (by kernel_rfl) (λ_ _ _ h=>h) (Or.inl ⟨by kernel_rfl,λ_=>by first|kernel_rfl|go_simp⟩) ?_;refine bV (i:=5) (v:=(.pointer (some ⟨w.heap.size,0,none⟩))) rfl (by kernel_rfl) (by kernel_rfl) (by kernel_rfl) (λ_ _ _ h=>h) (Or.inl ⟨by kernel_rfl,λ_=>by first|kernel_rfl|go_simp⟩) ?_;refine bV (i:=7) (v:=(.pointer (some ⟨cb,0,none⟩))) rfl (by kernel_rfl) (by kernel_rfl) (by kernel_rfl) (λ_ _ _ h=>h) (Or.inl ⟨by kernel_rfl,λ_=>by first|kernel_rfl|go_simp⟩) ?_;refine bV (i:=8) (v:=(.pointer (some ⟨cb,0,none⟩))) rfl (by kernel_rfl) (by kernel_rfl) (by kernel_rfl) (λ_ _ _ h=>h) (Or.inl ⟨by kernel_rfl,λ_=>by first|kernel_rfl|go_simp⟩) ?_;refine bV (i:=9) (v:=(.pointer (some ⟨cb,0,none⟩))) rfl (by kernel_rfl) (by kernel_rfl) (by kernel_rfl) (λ_ _ _ h=>h) (Or.inl ⟨by kernel_rfl,λ_=>by first|kernel_rfl|go_simp⟩) ?_;refine mV (rs:=[6,10]) (by kernel_rfl) (by simp) ?_;refine jU rfl (λK hK=>?_) (jU rfl (λK hK=>?_) mP)
    go_simp
    refine hK _ _ ?_;clear hK K;refine mV (rs:=[10]) (by kernel_rfl) (by simp) ?_;refine jU rfl (λK hK=>?_) mP
    go_simp
    refine hK _ _ ?_;clear hK K
    rotate_left
    go_simp
    refine hK _ _ ?_;clear hK K;refine mV (rs:=[6]) (by kernel_rfl) (by simp) ?_;refine jU rfl (λK hK=>?_) mP
    go_simp
    refine hK _ _ ?_;clear hK K
   all_goals
    refine mV (rs:=[11]) (by kernel_rfl) (by simp) ?_;refine jU rfl (λK hK=>?_) mP
    go_simp
    refine(nS _ t ho hc H ?_ f1.few).mono ?_
    .exact f2.strs
    rintro e w3 ⟨rfl,b3⟩;rw[h2];have B3:=B2.trans (b3.mono B2.size);obtain⟨f3,s3,rep3,BW3⟩:=aa KP w3 B3;have d3:=(iy s3).1;have c3:=(yQ f3.blk).1;go_wp2_with fail;refine bV (i:=12) (v:=(.bool true)) rfl (by kernel_rfl) (by kernel_rfl) (by kernel_rfl) (λ_ _ _ h=>h) (Or.inl ⟨by kernel_rfl,λ_=>by first|kernel_rfl|go_simp⟩) ?_;refine bV (i:=13) (v:=(.bool true)) rfl (by kernel_rfl) (by kernel_rfl) (by kernel_rfl) (λ_ _ _ h=>h) (Or.inl ⟨by kernel_rfl,λ_=>by first|kernel_rfl|go_simp⟩) ?_;refine bV (i:=14) (v:=undef) rfl (by kernel_rfl) (by kernel_rfl) (by kernel_rfl) (λ_ _ _ h=>h) (Or.inr ⟨by kernel_rfl,rfl⟩) ?_;refine bV (i:=15) (v:=undef) rfl (by kernel_rfl) (by kernel_rfl) (by kernel_rfl) (λ_ _ _ h=>h) (Or.inr ⟨by kernel_rfl,rfl⟩) ?_;refine bV (i:=16) (v:=undef) rfl (by kernel_rfl) (by kernel_rfl) (by kernel_rfl) (λ_ _ _ h=>h) (Or.inr ⟨by kernel_rfl,rfl⟩) ?_;refine bV (i:=17) (v:=undef) rfl (by kernel_rfl) (by kernel_rfl) (by kernel_rfl) (λ_ _ _ h=>h) (Or.inr ⟨by kernel_rfl,rfl⟩) ?_;refine bV (i:=18) (v:=undef) rfl (by kernel_rfl) (by kernel_rfl) (by kernel_rfl) (λ_ _ _ h=>h) (Or.inr ⟨by kernel_rfl,rfl⟩) ?_;refine bV (i:=19) (v:=(.bool true)) rfl (by kernel_rfl) (by kernel_rfl) (by kernel_rfl) (λ_ _ _ h=>h) (Or.inl ⟨by kernel_rfl,λ_=>by first|kernel_rfl|go_simp⟩) ?_;refine bV (i:=20) (v:=(.bool true)) rfl (by kernel_rfl) (by kernel_rfl) (by kernel_rfl) (λ_ _ _ h=>h) (Or.inl ⟨by kernel_rfl,λ_=>by first|kernel_rfl|go_simp⟩) ?_;refine wpAny_done (by kernel_rfl) ?_ _
    go_simp
    go_wp2;go_ret;exact⟨cO eH.symm,BW3⟩
 .have eH:(Am H t||ry H k)=true:=by unfold Am;rw[h1];simp
  refine wp_region_any (by kernel_rfl) ?_
  try (change wpAny _ _ _ _ _ _ _ (World.drew _))
  refine bV (i:=0) (v:=(.pointer (some ⟨w.heap.size,0,none⟩))) rfl (by kernel_rfl) (by kernel_rfl) (by kernel_rfl) (λ_ _ _ h=>h) (Or.inl ⟨by kernel_rfl,λ_=>by first|kernel_rfl|go_simp⟩) ?_;refine mV (rs:=[1,2]) (by kernel_rfl) (by simp) ?_;refine jU rfl (λK hK=>?_) (jU rfl (λK hK=>?_) mP)
  go_simp
  refine hK _ _ ?_;clear hK K;refine mV (rs:=[2]) (by kernel_rfl) (by simp) ?_;refine jU rfl (λK hK=>?_) mP
  go_simp
  refine hK _ _ ?_;clear hK K
  rotate_left
  go_simp
  refine hK _ _ ?_;clear hK K;refine mV (rs:=[1]) (by kernel_rfl) (by simp) ?_;refine jU rfl (λK hK=>?_) mP
  go_simp
  refine hK _ _ ?_;clear hK K
  all_goals
   refine mV (rs:=[3]) (by kernel_rfl) (by simp) ?_;refine jU rfl (λK hK=>?_) mP
   go_simp
   refine(nS _ t (some ⟨w1.heap.size,0,none⟩) 1 [cz] ?_ (by simp)).mono ?_
   .exact GI w1 [cz]
   rintro e w2 ⟨rfl,b2⟩;rw[h1];have B2:Below w1.heap.size w1 w2:=((ax _ w1).alloc (af _) _).drew.trans (b2.mono (by simp));obtain⟨f2,s2,rep2,BW2⟩:=aa KP w2 B2;have d2:=(iy s2).1;have c2:=(yQ f2.blk).1;go_wp2_with fail;refine bV (i:=4) (v:=(.bool true)) rfl (by kernel_rfl) (by kernel_rfl) (by kernel_rfl) (λ_ _ _ h=>h) (Or.inl ⟨by kernel_rfl,λ_=>by first|kernel_rfl|go_simp⟩) ?_;refine bV (i:=5) (v:=undef) rfl (by kernel_rfl) (by kernel_rfl) (by kernel_rfl) (λ_ _ _ h=>h) (Or.inr ⟨by kernel_rfl,rfl⟩) ?_;refine bV (i:=6) (v:=undef) rfl (by kernel_rfl) (by kernel_rfl) (by kernel_rfl) (λ_ _ _ h=>h) (Or.inr ⟨by kernel_rfl,rfl⟩) ?_;refine bV (i:=7) (v:=undef) rfl (by kernel_rfl) (by kernel_rfl) (by kernel_rfl) (λ_ _ _ h=>h) (Or.inr ⟨by kernel_rfl,rfl⟩) ?_;refine bV (i:=8) (v:=undef) rfl (by kernel_rfl) (by kernel_rfl) (by kernel_rfl) (λ_ _ _ h=>h) (Or.inr ⟨by kernel_rfl,rfl⟩) ?_;refine bV (i:=9) (v:=undef) rfl (by kernel_rfl) (by kernel_rfl) (by kernel_rfl) (λ_ _ _ h=>h) (Or.inr ⟨by kernel_rfl,rfl⟩) ?_;refine bV (i:=10) (v:=undef) rfl (by kernel_rfl) (by kernel_rfl) (by kernel_rfl) (λ_ _ _ h=>h) (Or.inr ⟨by kernel_rfl,rfl⟩) ?_;refine bV (i:=11) (v:=undef) rfl (by kernel_rfl) (by kernel_rfl) (by kernel_rfl) (λ_ _ _ h=>h) (Or.inr ⟨by kernel_rfl,rfl⟩) ?_;refine bV (i:=12) (v:=(.bool true)) rfl (by kernel_rfl) (by kernel_rfl) (by kernel_rfl) (λ_ _ _ h=>h) (Or.inl ⟨by kernel_rfl,λ_=>by first|kernel_rfl|go_simp⟩) ?_
   refine bV (i:=13) (v:=(.bool true)) rfl (by kernel_rfl) (by kernel_rfl) (by kernel_rfl) (λ_ _ _ h=>h) (Or.inl ⟨by kernel_rfl,λ_=>by first|kernel_rfl|go_simp⟩) ?_;refine bV (i:=14) (v:=undef) rfl (by kernel_rfl) (by kernel_rfl) (by kernel_rfl) (λ_ _ _ h=>h) (Or.inr ⟨by kernel_rfl,rfl⟩) ?_;refine bV (i:=15) (v:=undef) rfl (by kernel_rfl) (by kernel_rfl) (by kernel_rfl) (λ_ _ _ h=>h) (Or.inr ⟨by kernel_rfl,rfl⟩) ?_;refine bV (i:=16) (v:=undef) rfl (by kernel_rfl) (by kernel_rfl) (by kernel_rfl) (λ_ _ _ h=>h) (Or.inr ⟨by kernel_rfl,rfl⟩) ?_;refine bV (i:=17) (v:=undef) rfl (by kernel_rfl) (by kernel_rfl) (by kernel_rfl) (λ_ _ _ h=>h) (Or.inr ⟨by kernel_rfl,rfl⟩) ?_;refine bV (i:=18) (v:=undef) rfl (by kernel_rfl) (by kernel_rfl) (by kernel_rfl) (λ_ _ _ h=>h) (Or.inr ⟨by kernel_rfl,rfl⟩) ?_;refine bV (i:=19) (v:=(.bool true)) rfl (by kernel_rfl) (by kernel_rfl) (by kernel_rfl) (λ_ _ _ h=>h) (Or.inl ⟨by kernel_rfl,λ_=>by first|kernel_rfl|go_simp⟩) ?_;refine bV (i:=20) (v:=(.bool true)) rfl (by kernel_rfl) (by kernel_rfl) (by kernel_rfl) (λ_ _ _ h=>h) (Or.inl ⟨by kernel_rfl,λ_=>by first|kernel_rfl|go_simp⟩) ?_;refine wpAny_done (by kernel_rfl) ?_ _
   go_simp
   go_wp2;go_ret;exact⟨cO eH.symm,BW2⟩
theorem GR:∀m,m<=100000->Nr m
 | 0,_=>λe w cb hc ho H F Q v hsz h hv=>by
  obtain⟨b,o,t,k,r,sv,rfl,rfl,hk⟩:=hv;simp[eu]at hsz
 | m+1,hm=>Sw (by omega) (GR m (by omega))
def VP (m:Nat):Prop:=∀(e:Ex) (w:World) (cb hc:Nat) (ho:Option Addr) (H:List ByteArray) (F:sj) (Q:Nat->Prop) (v:Value),eu e<=m->kg w cb ho hc H F->gD w Q v e->(∀k,Q k->k≠cb) ->
 Calls Tryz.prog 134 #[.pointer (some ⟨cb,0,none⟩),v] w λr w'=>r=.returned (.tuple #[])/\kg w' cb ho hc H (Ll H e F)/\aB cb w w'
theorem TA (hm:m<=100000) (ih:VP m):VP (m+1):=by
 intro e w cb hc ho H F Q v hsz h hv hQ;obtain⟨b,o,t,k,r,sv,rfl,rfl,hk⟩:=hv;obtain⟨ao,c,rfl,rep⟩:=hk.a;clear hk;have hszk:eu k<=m:=by simp[eu]at hsz;omega
 have hlen:lenE k<=100000:=by have:=FU k;omega
 have hlt:=h.lt;obtain⟨w1,hw1⟩:∃w1,w.alloc (.cells #[.int .i64 (kP t),.int .i64 t.place,.string (wP t),.int .i32 (nP t),.int .i32 (sP t),.slice ao (lenE k) c] 119)=w1:=⟨_,rfl⟩;have s1:w1.heap[w.heap.size]?=some (.cells #[.int .i64 (kP t),.int .i64 t.place,.string (wP t),.int .i32 (nP t),.int .i32 (sP t),.slice ao (lenE k) c] 119 (0,0)):=by rw[<-hw1];exact aA w _
 have f1:kg w1 cb ho hc H F:=by rw[<-hw1];exact h.later (λj hj=>av w _ j hj)
 have B1:Below w.heap.size w w1:=by rw[<-hw1];exact(ax _ w).alloc (af _) _
 have rep1:jD w1 Q k ao 0:=by rw[<-hw1];exact rep.later (λj _ hl=>av w _ j hl)
 have lt1:w.heap.size<w1.heap.size:=(az.1 s1).1;have keep:∀w2,Below w1.heap.size w1 w2->kg w2 cb ho hc H F/\w2.heap[w.heap.size]?=some (.cells #[.int .i64 (kP t),.int .i64 t.place,.string (wP t),.int .i32 (nP t),.int .i32 (sP t),.slice ao (lenE k) c] 119 (0,0))/\jD w2 Q k ao 0/\aB cb w w2:=λw2 B2=>
  ⟨f1.below B2,(B2.block _ lt1).trans s1,rep1.later (λj _ hl=>B2.block j hl),aB.below (B1.trans (B2.mono B1.size))⟩
 have KP:=aj keep;clear keep h rep;unfold qV;show Calls _ _ _ _ λr w'=>r=.returned (.tuple #[])/\kg w' cb ho hc H (DC H k (Es H t k F))/\aB cb w w';have d1:=(iy s1).1;go_enter Tryz.func134,Tryz.ntmps134;go_wp2_with fail;clear hw1;refine(nS _ t (some ⟨w1.heap.size,0,none⟩) 2 [bf,cz] (GI w1 [bf,cz]) (by simp)).mono ?_;rintro e w2 ⟨rfl,b2⟩;have B2:Below w1.heap.size w1 w2:=((ax _ w1).alloc (af _) _).trans (b2.mono (by simp));obtain⟨h2,s2,rep2,K2⟩:=aa KP w2 B2;have d2:=(iy s2).1;have c2:=(yQ h2.blk).1;clear f1 s1 d1 rep1 b2
 cases hwd:Ei t [bf,cz]
 .have e2:Es H t k F=F:=by unfold Es;rw[hwd];rfl
  rw[<-e2]at h2;clear KP B2
  all_goals go_wp2
  all_goals
   go_loopg [27] (lenE k) (λq v wr=>∃rest F',v=.int .i64 ((lenE k-q:Nat):Int)/\q<=lenE k/\lenE rest=q/\eu rest<=eu k/\kg wr cb ho hc H F'/\aB cb w wr/\DC H rest F'=DC H k (Es H t k F)/\jD wr Q rest ao (lenE k-q))
   case atStart=>exact⟨k,_,by rw[cZ];rfl,af _,rfl,af _,h2,K2,rfl,by rw[cZ];exact rep2⟩
   case round=>
    clear h2 K2 rep2;obtain⟨rest,F',rfl,hq,hlr,hsr,hnc,kw,hfold,hrep⟩:=hrel
    cases rest with
    | nil=>
     have hq0:gk=0:=by rw[<-hlr];rfl
     subst hq0;have hge:decide (((lenE k-0:Nat):Int)<(lenE k:Int))=false:=by simp
     have hf:F'=DC H k (Es H t k F):=hfold;subst hf;clear hfold;go_wp2
     go_end0
     exact⟨rfl,hnc,kw⟩
    | node b1 o1 t1 k1 r1=>
     have hl1:lenE r1+1=gk:=hlr;obtain⟨d,hd⟩:∃d,d+gk=lenE k:=⟨lenE k-gk,by omega⟩;have hnd:lenE k-gk=d:=by omega
     rw[hnd]at hrep ⊢;have hlt:decide ((d:Int)<(lenE k:Int))=true:=by simp;omega
     rcases hrep with hn|⟨g,rfl,hg,hrf⟩
     .cases hn
     obtain⟨⟨sv1,hcells,hkids⟩,hrest⟩:=hrf;obtain⟨x0,x1,x2,x3,x4,x5⟩:=hcells;have hv1:gD wr Q (qV t1 sv1) (.node b1 o1 t1 k1 r1):=⟨b1,o1,t1,k1,r1,sv1,rfl,rfl,hkids⟩;obtain⟨so1,sc1,hsv1⟩:=qA.form hkids;subst hsv1;have hsz1:eu (.node b1 o1 t1 k1 r1)<=m:=by omega
     have hszw:=kw.1;have nextF:∀w3,kg w3 cb ho hc H (Ll H (.node b1 o1 t1 k1 r1) F')->aB cb wr w3->∃rest F'',Value.int .i64 ((d:Int)+1)=.int .i64 ((lenE k-lenE r1:Nat):Int)/\lenE r1<=lenE k/\lenE rest=lenE r1/\eu rest<=eu k/\kg w3 cb ho hc H F''/\aB cb w w3/\DC H rest F''=DC H k (Es H t k F)/\jD w3 Q rest (some ⟨g,0,none⟩) (lenE k-lenE r1):=λw3 h3 k3=>by
      refine⟨r1,_,by congr 1;omega,by omega,rfl,by simp[eu]at hsr;omega,h3,kw.trans k3,hfold,.inr ⟨g,rfl,hg,?_⟩⟩;rw[show lenE k-lenE r1=d+1 by omega];exact xB.later (λj hj hl=>k3.2 j hl (hQ j hj)) (λj hj _=>hj) r1 g (d+1) hg hrest
     have NX:=aj nextF;have HV1:=aj hv1;have hgw:g<wr.heap.size:=fB _ _ x0;have hgcb:=hQ g hg;clear nextF hv1 hrest hkids hfold;go_wp2_with fail;refine(ih (.node b1 o1 t1 k1 r1) _ cb hc ho H F' Q (qV t1 (.slice so1 (lenE k1) sc1)) hsz1 (hnc.later (λj hj=>av wr _ j hj)) (gD.later (λj _ hl=>av wr _ j hl) (λj hj _=>hj) (aa HV1)) hQ).mono ?_;rintro e w3 ⟨rfl,h3,k3⟩;have fin3:=aa NX w3 h3 ((aB.alloc cb wr _).trans k3);clear NX HV1 k3 hnc;go_wp2
     go_roundg (lenE r1)
     case rel=>exact fin3
     case measure=>omega
 .go_wp2_with fail;refine(Kw (GR m hm) k w2 cb hc c ho ao H F Q hszk hm h2 rep2).mono ?_;rintro e w3 ⟨rfl,b3⟩;have B3:=B2.trans (b3.mono B2.size);clear h2 s2 rep2 K2 d2 c2;obtain⟨h2,s2,rep2,K2⟩:=aa KP w3 B3;have d2:=(iy s2).1;have c2:=(yQ h2.blk).1
  cases hhk:ry H k
  .have e2:Es H t k F=F:=by unfold Es;rw[hwd,hhk];rfl
   rw[<-e2]at h2;clear KP B2 B3 b3
   all_goals go_wp2
   all_goals
    go_loopg [27] (lenE k) (λq v wr=>∃rest F',v=.int .i64 ((lenE k-q:Nat):Int)/\q<=lenE k/\lenE rest=q/\eu rest<=eu k/\kg wr cb ho hc H F'/\aB cb w wr/\DC H rest F'=DC H k (Es H t k F)/\jD wr Q rest ao (lenE k-q))
    case atStart=>exact⟨k,_,by rw[cZ];rfl,af _,rfl,af _,h2,K2,rfl,by rw[cZ];exact rep2⟩
    case round=>
     clear h2 K2 rep2;obtain⟨rest,F',rfl,hq,hlr,hsr,hnc,kw,hfold,hrep⟩:=hrel
     cases rest with
     | nil=>
      have hq0:gk=0:=by rw[<-hlr];rfl
      subst hq0;have hge:decide (((lenE k-0:Nat):Int)<(lenE k:Int))=false:=by simp
      have hf:F'=DC H k (Es H t k F):=hfold;subst hf;clear hfold;go_wp2
      go_end0
      exact⟨rfl,hnc,kw⟩
     | node b1 o1 t1 k1 r1=>
      have hl1:lenE r1+1=gk:=hlr;obtain⟨d,hd⟩:∃d,d+gk=lenE k:=⟨lenE k-gk,by omega⟩;have hnd:lenE k-gk=d:=by omega
      rw[hnd]at hrep ⊢;have hlt:decide ((d:Int)<(lenE k:Int))=true:=by simp;omega
      rcases hrep with hn|⟨g,rfl,hg,hrf⟩
      .cases hn
      obtain⟨⟨sv1,hcells,hkids⟩,hrest⟩:=hrf;obtain⟨x0,x1,x2,x3,x4,x5⟩:=hcells;have hv1:gD wr Q (qV t1 sv1) (.node b1 o1 t1 k1 r1):=⟨b1,o1,t1,k1,r1,sv1,rfl,rfl,hkids⟩;obtain⟨so1,sc1,hsv1⟩:=qA.form hkids;subst hsv1;have hsz1:eu (.node b1 o1 t1 k1 r1)<=m:=by omega
      have hszw:=kw.1;have nextF:∀w3,kg w3 cb ho hc H (Ll H (.node b1 o1 t1 k1 r1) F')->aB cb wr w3->∃rest F'',Value.int .i64 ((d:Int)+1)=.int .i64 ((lenE k-lenE r1:Nat):Int)/\lenE r1<=lenE k/\lenE rest=lenE r1/\eu rest<=eu k/\kg w3 cb ho hc H F''/\aB cb w w3/\DC H rest F''=DC H k (Es H t k F)/\jD w3 Q rest (some ⟨g,0,none⟩) (lenE k-lenE r1):=λw3 h3 k3=>by
       refine⟨r1,_,by congr 1;omega,by omega,rfl,by simp[eu]at hsr;omega,h3,kw.trans k3,hfold,.inr ⟨g,rfl,hg,?_⟩⟩;rw[show lenE k-lenE r1=d+1 by omega];exact xB.later (λj hj hl=>k3.2 j hl (hQ j hj)) (λj hj _=>hj) r1 g (d+1) hg hrest
      have NX:=aj nextF;have HV1:=aj hv1;have hgw:g<wr.heap.size:=fB _ _ x0;have hgcb:=hQ g hg;clear nextF hv1 hrest hkids hfold;go_wp2_with fail;refine(ih (.node b1 o1 t1 k1 r1) _ cb hc ho H F' Q (qV t1 (.slice so1 (lenE k1) sc1)) hsz1 (hnc.later (λj hj=>av wr _ j hj)) (gD.later (λj _ hl=>av wr _ j hl) (λj hj _=>hj) (aa HV1)) hQ).mono ?_;rintro e w3 ⟨rfl,h3,k3⟩;have fin3:=aa NX w3 h3 ((aB.alloc cb wr _).trans k3);clear NX HV1 k3 hnc;go_wp2
      go_roundg (lenE r1)
      case rel=>exact fin3
      case measure=>omega
  .have e2:Es H t k F=jL F 11 t.place:=by unfold Es;rw[hwd,hhk];rfl
   have l3:w.heap.size<w3.heap.size:=(az.1 s2).1;go_wp2
   first|(go_region_with (go_at_call 117;refine(JL _ cb hc ho H F 11 t.place ?_).mono ?_;exact h2.later (λ_ _=>rfl);rintro e w4 ⟨rfl,h4,k4⟩;have s4:=(k4.2 _ (by show _<w3.heap.size;omega) (by omega)).trans s2;have K4:=K2.trans (by first|exact k4|exact k4.undrew|exact k4.undrew.undrew|exact k4.undrew.undrew.undrew);have rep4:=jD.later (w:=w3) (w':=w4) (λj hj hl=>k4.2 j hl (hQ j hj)) rep2;clear h2 s2 rep2 K2 d2 c2;have d2:=(iy s4).1;have h2:=h4;have K2:=K4;have rep2:=rep4;rw[<-e2]at h2))|fail
   all_goals clear KP B2 B3 b3
   all_goals go_wp2
   all_goals
    go_loopg [27] (lenE k) (λq v wr=>∃rest F',v=.int .i64 ((lenE k-q:Nat):Int)/\q<=lenE k/\lenE rest=q/\eu rest<=eu k/\kg wr cb ho hc H F'/\aB cb w wr/\DC H rest F'=DC H k (Es H t k F)/\jD wr Q rest ao (lenE k-q))
    case atStart=>exact⟨k,_,by rw[cZ];rfl,af _,rfl,af _,h2,K2,rfl,by rw[cZ];exact rep2⟩
    case round=>
     clear h2 K2 rep2;obtain⟨rest,F',rfl,hq,hlr,hsr,hnc,kw,hfold,hrep⟩:=hrel
     cases rest with
     | nil=>
      have hq0:gk=0:=by rw[<-hlr];rfl
      subst hq0;have hge:decide (((lenE k-0:Nat):Int)<(lenE k:Int))=false:=by simp
      have hf:F'=DC H k (Es H t k F):=hfold;subst hf;clear hfold;go_wp2
      go_end0
      exact⟨rfl,hnc,kw⟩
     | node b1 o1 t1 k1 r1=>
      have hl1:lenE r1+1=gk:=hlr;obtain⟨d,hd⟩:∃d,d+gk=lenE k:=⟨lenE k-gk,by omega⟩;have hnd:lenE k-gk=d:=by omega
      rw[hnd]at hrep ⊢;have hlt:decide ((d:Int)<(lenE k:Int))=true:=by simp;omega
      rcases hrep with hn|⟨g,rfl,hg,hrf⟩
      .cases hn
      obtain⟨⟨sv1,hcells,hkids⟩,hrest⟩:=hrf;obtain⟨x0,x1,x2,x3,x4,x5⟩:=hcells;have hv1:gD wr Q (qV t1 sv1) (.node b1 o1 t1 k1 r1):=⟨b1,o1,t1,k1,r1,sv1,rfl,rfl,hkids⟩;obtain⟨so1,sc1,hsv1⟩:=qA.form hkids;subst hsv1;have hsz1:eu (.node b1 o1 t1 k1 r1)<=m:=by omega
      have hszw:=kw.1;have nextF:∀w3,kg w3 cb ho hc H (Ll H (.node b1 o1 t1 k1 r1) F')->aB cb wr w3->∃rest F'',Value.int .i64 ((d:Int)+1)=.int .i64 ((lenE k-lenE r1:Nat):Int)/\lenE r1<=lenE k/\lenE rest=lenE r1/\eu rest<=eu k/\kg w3 cb ho hc H F''/\aB cb w w3/\DC H rest F''=DC H k (Es H t k F)/\jD w3 Q rest (some ⟨g,0,none⟩) (lenE k-lenE r1):=λw3 h3 k3=>by
       refine⟨r1,_,by congr 1;omega,by omega,rfl,by simp[eu]at hsr;omega,h3,kw.trans k3,hfold,.inr ⟨g,rfl,hg,?_⟩⟩;rw[show lenE k-lenE r1=d+1 by omega];exact xB.later (λj hj hl=>k3.2 j hl (hQ j hj)) (λj hj _=>hj) r1 g (d+1) hg hrest
      have NX:=aj nextF;have HV1:=aj hv1;have hgw:g<wr.heap.size:=fB _ _ x0;have hgcb:=hQ g hg;clear nextF hv1 hrest hkids hfold;go_wp2_with fail;refine(ih (.node b1 o1 t1 k1 r1) _ cb hc ho H F' Q (qV t1 (.slice so1 (lenE k1) sc1)) hsz1 (hnc.later (λj hj=>av wr _ j hj)) (gD.later (λj _ hl=>av wr _ j hl) (λj hj _=>hj) (aa HV1)) hQ).mono ?_;rintro e w3 ⟨rfl,h3,k3⟩;have fin3:=aa NX w3 h3 ((aB.alloc cb wr _).trans k3);clear NX HV1 k3 hnc;go_wp2
      go_roundg (lenE r1)
      case rel=>exact fin3
      case measure=>omega
theorem Nu:∀m,m<=100000->VP m
 | 0,_=>λe w cb hc ho H F Q v hsz h hv hQ=>by
  obtain⟨b,o,t,k,r,sv,rfl,rfl,hk⟩:=hv;simp[eu]at hsz
 | m+1,hm=>TA (by omega) (Nu m (by omega))
theorem Ee (m:Nat) (hm:m<=100000) (e:Ex) (w:World) (cb hc:Nat) (ho:Option Addr) (H:List ByteArray) (F:sj) (Q:Nat->Prop) (t x:aH) (k:Ex) (ao:Option Addr) (c:Nat) (may:Bool) (hsz:eu e<=m) (h:kg w cb ho hc H F) (hv:gD w Q (qV x (.slice ao (lenE k) c)) e) (hQ:∀k,Q k->k≠cb) :
  Calls Tryz.prog 120 #[.pointer (some ⟨cb,0,none⟩),jC t,qV x (.slice ao (lenE k) c),.bool may] w λr w'=>r=.returned (.tuple #[])/\kg w' cb ho hc H (KM H t e may F)/\aB cb w w':=by
 have hlt:=h.lt;obtain⟨w1,hw1⟩:∃w1,(w.alloc (.cells #[.int .i64 (kP t),.int .i64 t.place,.string (wP t),.int .i32 (nP t),.int .i32 (sP t)] 116)).alloc (.cells #[.int .i64 (kP x),.int .i64 x.place,.string (wP x),.int .i32 (nP x),.int .i32 (sP x),.slice ao (lenE k) c] 119)=w1:=⟨_,rfl⟩;have s1:w1.heap[w.heap.size+1]?=some (.cells #[.int .i64 (kP x),.int .i64 x.place,.string (wP x),.int .i32 (nP x),.int .i32 (sP x),.slice ao (lenE k) c] 119 (0,0)):=by rw[<-hw1];simpa using aA (w.alloc (.cells #[.int .i64 (kP t),.int .i64 t.place,.string (wP t),.int .i32 (nP t),.int .i32 (sP t)] 116)) (.cells #[.int .i64 (kP x),.int .i64 x.place,.string (wP x),.int .i32 (nP x),.int .i32 (sP x),.slice ao (lenE k) c] 119)
 have t1:w1.heap[w.heap.size]?=some (.cells #[.int .i64 (kP t),.int .i64 t.place,.string (wP t),.int .i32 (nP t),.int .i32 (sP t)] 116 (0,0)):=by rw[<-hw1];exact(av _ _ _ (by simp)).trans (aA w _)
 have B1:Below w.heap.size w w1:=by rw[<-hw1];exact((ax _ w).alloc (af _) _).alloc (by simp) _
 have f1:kg w1 cb ho hc H F:=h.below B1;have v1:gD w1 Q (qV x (.slice ao (lenE k) c)) e:=hv.later (λj _ hl=>B1.block j hl) (λj hj _=>hj);have lt1:w.heap.size+1<w1.heap.size:=(az.1 s1).1;clear h hv;have d1:=(iy s1).1;have y1:=(kE t1).1;have c1:=(yQ f1.blk).1;have nobr:∀F2 w2,kg w2 cb ho hc H F2->aB cb w w2->gD w2 Q (qV x (.slice ao (lenE k) c)) e->F2=(if !may&&Uu H e then jL F 11 t.place else F)->Calls Tryz.prog 134 #[.pointer (some ⟨cb,0,none⟩),qV x (.slice ao (lenE k) c)] w2 λr w'=>r=.returned (.tuple #[])/\kg w' cb ho hc H (KM H t e may F)/\aB cb w w':=λF2 w2 a1 a2 a3 a4=>by
  refine(Nu m hm e w2 cb hc ho H F2 Q _ hsz a1 a3 hQ).mono ?_;rintro r w' ⟨g1,g2,g3⟩;exact⟨g1,by unfold KM;rw[<-a4];exact g2,a2.trans g3⟩
 have NB:=aj nobr;clear nobr;have V1:=aj v1;unfold qV jC pE at *;go_enter Tryz.func120,Tryz.ntmps120
 cases hmay:may
 .go_wp2_with fail;clear hw1;refine(GR m hm e w1 cb hc ho H F Q _ hsz f1 (aa V1)).mono ?_;rintro r w2 ⟨rfl,b2⟩;have f2:=f1.below b2;have v2:gD w2 Q (qV x (.slice ao (lenE k) c)) e:=(aa V1).later (λj _ hl=>b2.block j hl) (λj hj _=>hj);have s2:=(b2.block _ lt1).trans s1;have t2:=(b2.block _ (by omega)).trans t1;have K2:aB cb w w2:=aB.below (B1.trans (b2.mono B1.size));have l2:=b2.size;have d2:=(iy s2).1;have y2:=(kE t2).1;have c2:=(yQ f2.blk).1
  cases hh:Uu H e
  .have fx:=aa NB F w2 f2 K2 v2 (by rw[hmay,hh];rfl);rw[hmay]at fx;have FX:=aj fx;clear NB V1 fx;go_wp2_with fail;refine(aa FX).mono ?_;rintro r w3 ⟨rfl,h3,k3⟩;go_wp2
   go_end0
   exact⟨rfl,h3,k3⟩
  .go_wp2
   first|(go_region_with (go_at_call 117;refine(JL _ cb hc ho H F 11 t.place ?_).mono ?_;exact f2.later (λ_ _=>rfl);rintro r w3 ⟨rfl,h3,k3⟩;have s3:=(k3.2 _ (by show _<w2.heap.size;omega) (by omega)).trans s2;have d3:=(iy s3).1;have K3:=K2.trans (by first|exact k3|exact k3.undrew|exact k3.undrew.undrew|exact k3.undrew.undrew.undrew);have v3:=gD.later (w:=w2) (w':=w3) (λj hj hl=>k3.2 j hl (hQ j hj)) (λj hj _=>hj) v2;have fx:=aa NB _ w3 h3 K3 v3 (by rw[hmay,hh];rfl);rw[hmay]at fx;have FX:=aj fx;clear fx))|fail
   all_goals clear NB V1
   all_goals go_wp2_with fail
   all_goals
    refine(aa FX).mono ?_;rintro r w4 ⟨rfl,h4,k4⟩;go_wp2
    go_end0
    exact⟨rfl,h4,k4⟩
 .have fx:=aa NB F w1 f1 (aB.below B1) (aa V1) (by rw[hmay];rfl);rw[hmay]at fx;have FX:=aj fx;clear NB V1 fx;go_wp2_with fail;clear hw1;refine(aa FX).mono ?_;rintro r w3 ⟨rfl,h3,k3⟩;go_wp2
  go_end0
  exact⟨rfl,h3,k3⟩
structure iU (a b:Nat) (w w':World):Prop where
 size:w.heap.size<=w'.heap.size
 block:∀k,k<w.heap.size->k≠a->k≠b->w'.heap[k]?=w.heap[k]?
 same:bY w w'
theorem iU.refl (a b:Nat) (w:World):iU a b w w:=⟨af _,λ_ _ _ _=>rfl,bY.refl _⟩
theorem iU.trans {x y:Nat} {a b c:World} (h1:iU x y a b) (h2:iU x y b c):iU x y a c:=⟨iJ h1.1 h2.1,λk hk hx hy=>(h2.2 k (by have:=h1.1;omega) hx hy).trans (h1.2 k hk hx hy),h1.same.trans h2.same⟩
theorem aB.two {a b:World} (h:aB x a b) (y:Nat):iU x y a b:=⟨h.1,λk hk hx _=>h.2 k hk hx,h.same⟩
theorem iU.turned {y:Nat} {a b:World} (h:a.mapTurned b y):iU x y a b:=⟨h.grown.size,λk hk _ hy=>h.grown.block k hk (λe=>hy (by cases e;rfl)),bY.grown h.grown⟩
theorem fZ.stored (h:fZ w cb mb n R F) (ht:w.mapTurned w' mb) (hm:mQ 155 .i64 w' mb m R'):fZ w' cb mb m R' F:=
 ⟨(ht.grown.block cb h.lt (λe=>h.ne (by cases e;rfl))).trans h.blk,hm⟩
theorem Ht (w:World) (cb mb n:Nat) (R:ByteArray->Int) (F:sj) (t:aH) (c:Int) (hc:c=1∨c=2) (h:fZ w cb mb n R F) (ht:kD t) (hn:n<=100000) :
  Calls Tryz.prog 90 #[.pointer (some ⟨cb,0,none⟩),jC t,.int .i64 c] w λe w'=>e=.returned (.tuple #[])/\fZ w' cb mb (n+1) (uC (R,F) t c).1 (uC (R,F) t c).2/\iU cb mb w w':=by
 have hlt:=h.lt;have hmt:=h.map.lt;have hsz:=ht.1;obtain⟨w1,hw1⟩:∃w1,w.alloc (.cells #[.int .i64 (kP t),.int .i64 t.place,.string (wP t),.int .i32 (nP t),.int .i32 (sP t)] 116)=w1:=⟨_,rfl⟩;have s1:w1.heap[w.heap.size]?=some (.cells #[.int .i64 (kP t),.int .i64 t.place,.string (wP t),.int .i32 (nP t),.int .i32 (sP t)] 116 (0,0)):=by rw[<-hw1];exact aA w _
 have h1:fZ w1 cb mb n R F:=by rw[<-hw1];exact h.later (av w _ _ hlt) (av w _ _ hmt)
 have k1:iU cb mb w w1:=by rw[<-hw1];exact(aB.alloc cb w _).two mb
 have lt1:w.heap.size<w1.heap.size:=(az.1 s1).1;have fin:∀(w2:World) (F2:sj),fZ w2 cb mb n R F2->iU cb mb w1 w2->F2=(uC (R,F) t c).2->∃w9,(Instr.mapUpdate 156 (.map (some mb)) (.string (wP t)) (.int .i64 c)).run Tryz.prog w2.drew=.ok () w9/\fZ w9 cb mb (n+1) (uC (R,F) t c).1 (uC (R,F) t c).2/\iU cb mb w w9:=by
  intro w2 F2 h2 k2 e2;have h2d:fZ w2.drew cb mb n R F2:=h2.later rfl rfl;obtain⟨w9,hrun,hmap,hturn⟩:=h2d.map.store Tryz.underlying156 Tryz.underlying155 (by unfold maxLen;omega) (s:=wP t) (by unfold maxLen;omega) (c:=c) (by rcases hc with rfl|rfl<;>decide);exact⟨w9,hrun,by rw[<-e2];exact h2d.stored hturn hmap,(k1.trans k2).trans (iU.trans (b:=w2.drew) ⟨af _,λ_ _ _ _=>rfl,⟨rfl,rfl,rfl⟩⟩ (iU.turned hturn))⟩
 have FIN:=aj fin;clear h fin;unfold jC pE;go_enter Tryz.func90,Tryz.ntmps90;go_wp2;clear hw1;obtain⟨⟨t0,t1,t2,t3,t4⟩,y0,y1,y2,y3,y4⟩:=kE s1;obtain⟨⟨c0,c1,c2⟩,z0,z1,z2⟩:=yQ h1.blk;by_cases hlong:6<(wP t).size
 .have e2:(uC (R,F) t c).2=jL F 10 t.place:=by unfold uC;simp[hlong]
  have hdl:decide ((6:Int)<((wP t).size:Int))=true:=by simp;omega
  go_region
  go_wp2;have h1d:fZ w1.drew cb mb n R F:=h1.later rfl rfl;have h1e:fZ w1.drew.drew cb mb n R F:=h1.later rfl rfl
  go_region_with (go_at_call 117;refine(vB _ cb mb n R F 10 t.place ?_).mono ?_;exact h1e;rintro e w2 ⟨rfl,h2,k2⟩;have fx:=aa FIN w2 _ h2 (aB.two (a:=w1) (by first|exact k2|exact k2.undrew|exact k2.undrew.undrew|exact k2.undrew.undrew.undrew) mb) e2.symm;obtain⟨w9,hrun,h9,k9⟩:=fx;have s2:=(k2.2 _ (by show _<w1.heap.size;omega) (by omega)).trans s1;have d2:=kE s2;have c2:=yQ h2.blk)
  all_goals go_wp2
  all_goals go_region
  all_goals go_end0
  all_goals exact⟨rfl,h9,k9⟩
 .have hdl:decide ((6:Int)<((wP t).size:Int))=false:=by simp;omega
  have hl:(Instr.lookup 156 (.map (some mb)) (.string (wP t)) false).run Tryz.prog w1.drew=.ok (.int .i64 (R (wP t))) w1.drew:=(h1.later (w':=w1.drew) rfl rfl).look hsz;by_cases hR:R (wP t)=0
  .have e2:F=(uC (R,F) t c).2:=by unfold uC;simp[hlong,hR]
   obtain⟨w9,hrun,h9,k9⟩:=aa FIN w1.drew F (h1.later rfl rfl) ⟨af _,λ_ _ _ _=>rfl,⟨rfl,rfl,rfl⟩⟩ e2;have H9:=aj (And.intro h9 k9);clear FIN h9 k9 e2
   go_region
   all_goals go_wp2
   all_goals go_region
   all_goals go_end0
   all_goals exact⟨rfl,(aa H9).1,(aa H9).2⟩
  .have e2:(uC (R,F) t c).2=jL F 10 t.place:=by unfold uC;simp[hR]
   go_region
   go_wp2;have h1e:fZ w1.drew.drew cb mb n R F:=h1.later rfl rfl
   go_region_with (go_at_call 117;refine(vB _ cb mb n R F 10 t.place ?_).mono ?_;exact h1e;rintro e w2 ⟨rfl,h2,k2⟩;have fx:=aa FIN w2 _ h2 (aB.two (a:=w1) (by first|exact k2|exact k2.undrew|exact k2.undrew.undrew|exact k2.undrew.undrew.undrew) mb) e2.symm;obtain⟨w9,hrun,h9,k9⟩:=fx;have s2:=(k2.2 _ (by show _<w1.heap.size;omega) (by omega)).trans s1;have d2:=kE s2;have c2:=yQ h2.blk)
   all_goals go_wp2
   all_goals go_region
   all_goals go_end0
   all_goals exact⟨rfl,h9,k9⟩
def Wj (m:Nat):Prop:=∀(e:Ex) (w:World) (cb mb n:Nat) (R:ByteArray->Int) (F:sj) (Q:Nat->Prop) (v:Value),eu e<=m->fZ w cb mb n R F->gD w Q v e->uE kD e->(∀k,Q k->k≠cb) ->
 Calls Tryz.prog 118 #[.pointer (some ⟨cb,0,none⟩),v] w λe' w'=>e'=.returned (.tuple #[])/\fZ w' cb mb n R (zH R e F)/\aB cb w w'
theorem OB (hm:m<=100000) (ih:Wj m):Wj (m+1):=by
 intro e w cb mb n R F Q v hsz h hv hall hQ;obtain⟨b,o,t,k,r,sv,rfl,rfl,hk⟩:=hv;obtain⟨ao,c,rfl,rep⟩:=hk.a;clear hk;have hsz':eu (.node 0 0 t k .nil)<=m+1:=by simp[eu]at hsz ⊢;omega
 have hlen:lenE k<=100000:=by have:=FU k;simp[eu]at hsz';omega
 have hlt:=h.lt;have hmt:=h.map.lt;have htb:=hall.1.1;obtain⟨w1,hw1⟩:∃w1,w.alloc (.cells #[.int .i64 (kP t),.int .i64 t.place,.string (wP t),.int .i32 (nP t),.int .i32 (sP t),.slice ao (lenE k) c] 119)=w1:=⟨_,rfl⟩;have s1:w1.heap[w.heap.size]?=some (.cells #[.int .i64 (kP t),.int .i64 t.place,.string (wP t),.int .i32 (nP t),.int .i32 (sP t),.slice ao (lenE k) c] 119 (0,0)):=by rw[<-hw1];exact aA w _
 have h1:fZ w1 cb mb n R F:=by rw[<-hw1];exact h.later (av w _ _ hlt) (av w _ _ hmt)
 have k1:aB cb w w1:=by rw[<-hw1];exact aB.alloc cb w _
 have rep1:jD w1 Q k ao 0:=by rw[<-hw1];exact rep.later (λj _ hl=>av w _ j hl)
 have lt1:w.heap.size<w1.heap.size:=(az.1 s1).1;clear h rep;unfold qV;show Calls _ _ _ _ λe' w'=>e'=.returned (.tuple #[])/\fZ w' cb mb n R (Eh R k (Ct R t F))/\aB cb w w';go_enter Tryz.func118,Tryz.ntmps118;go_wp2;clear hw1;obtain⟨⟨t0,t1,t2,t3,t4,t5⟩,_⟩:=iy s1;have h1d:fZ w1.drew cb mb n R F:=h1.later rfl rfl;have onw:∀w2,Below w1.drew.heap.size w1.drew w2->fZ w2 cb mb n R F/\w2.heap[w.heap.size]?=some (.cells #[.int .i64 (kP t),.int .i64 t.place,.string (wP t),.int .i32 (nP t),.int .i32 (sP t),.slice ao (lenE k) c] 119 (0,0))/\aB cb w w2/\jD w2 Q k ao 0/\(Instr.lookup 156 (.map (some mb)) (.string (wP t)) false).run Tryz.prog w2=.ok (.int .i64 (R (wP t))) w2:=λw2 B2=>by
  have n2:=h1d.below B2;exact⟨n2,(B2.block _ lt1).trans s1,k1.trans (⟨B2.size,λj hj _=>B2.block j hj,⟨B2.os,B2.tape,B2.output⟩⟩:aB cb w1 w2),jD.later (w:=w1) (λj _ hl=>B2.block j hl) rep1,n2.look htb⟩
 have ONW:=aj onw;clear onw h1d
 cases hnm:nmT t
 .have es:((kP t==2) && !uS.any (λu=>(wP t).toList==u.toList))=false:=hnm;have e2:Ct R t F=F:=by unfold Ct;rw[hnm];rfl
  first|(go_region_with (go_at_call 112;refine(gG _ (kP t) t.place (nP t) (sP t) (wP t)).mono ?_;rintro e w2 ⟨rfl,B2⟩;rw[es];have fx:=aa ONW w2 B2;obtain⟨h2,s2,K2,rep2,hl2⟩:=fx;have d2:=(iy s2).1;have c2:=yQ h2.blk;rw[<-e2]at h2))|fail
  all_goals clear ONW
  all_goals go_wp2
  all_goals
   go_loopg [30] (lenE k) (λq v wr=>∃rest F',v=.int .i64 ((lenE k-q:Nat):Int)/\q<=lenE k/\lenE rest=q/\eu rest<=eu k/\uE kD rest/\fZ wr cb mb n R F'/\aB cb w wr/\Eh R rest F'=Eh R k (Ct R t F)/\jD wr Q rest ao (lenE k-q))
   case atStart=>exact⟨k,_,by rw[cZ];rfl,af _,rfl,af _,hall.2.1,h2,K2,rfl,by rw[cZ];exact rep2⟩
   case round=>
    clear h2 K2 rep2;obtain⟨rest,F',rfl,hq,hlr,hsr,har,hnc,kw,hfold,hrep⟩:=hrel
    cases rest with
    | nil=>
     have hq0:gk=0:=by rw[<-hlr];rfl
     subst hq0;have hge:decide (((lenE k-0:Nat):Int)<(lenE k:Int))=false:=by simp
     have hf:F'=Eh R k (Ct R t F):=hfold;subst hf;clear hfold;go_wp2
     go_end0
     exact⟨rfl,hnc,kw⟩
    | node b1 o1 t1 k1 r1=>
     have hl1:lenE r1+1=gk:=hlr;obtain⟨d,hd⟩:∃d,d+gk=lenE k:=⟨lenE k-gk,by omega⟩;have hnd:lenE k-gk=d:=by omega
     rw[hnd]at hrep ⊢;have hlt:decide ((d:Int)<(lenE k:Int))=true:=by simp;omega
     rcases hrep with hn|⟨g,rfl,hg,hrf⟩
     .cases hn
     obtain⟨⟨sv1,hcells,hkids⟩,hrest⟩:=hrf;obtain⟨x0,x1,x2,x3,x4,x5⟩:=hcells;have hv1:gD wr Q (qV t1 sv1) (.node b1 o1 t1 k1 r1):=⟨b1,o1,t1,k1,r1,sv1,rfl,rfl,hkids⟩;obtain⟨so1,sc1,hsv1⟩:=qA.form hkids;subst hsv1;have hsz1:eu (.node b1 o1 t1 k1 r1)<=m:=by have:eu (.node 0 0 t k .nil)<=m+1:=hsz';simp[eu]at this hsr ⊢;omega
     have hszw:=kw.1;have nextF:∀w3,fZ w3 cb mb n R (zH R (.node b1 o1 t1 k1 r1) F')->aB cb wr w3->∃rest F'',Value.int .i64 ((d:Int)+1)=.int .i64 ((lenE k-lenE r1:Nat):Int)/\lenE r1<=lenE k/\lenE rest=lenE r1/\eu rest<=eu k/\uE kD rest/\fZ w3 cb mb n R F''/\aB cb w w3/\Eh R rest F''=Eh R k (Ct R t F)/\jD w3 Q rest (some ⟨g,0,none⟩) (lenE k-lenE r1):=λw3 h3 k3=>by
      refine⟨r1,_,by congr 1;omega,by omega,rfl,by simp[eu]at hsr;omega,har.2.2,h3,kw.trans k3,hfold,.inr ⟨g,rfl,hg,?_⟩⟩;rw[show lenE k-lenE r1=d+1 by omega];exact xB.later (λj hj hl=>k3.2 j hl (hQ j hj)) (λj hj _=>hj) r1 g (d+1) hg hrest
     have NX:=aj nextF;have HV1:=aj hv1;have hgw:g<wr.heap.size:=fB _ _ x0;have hgcb:=hQ g hg;clear nextF hv1 hrest hkids hfold;go_wp2_with fail;refine(ih (.node b1 o1 t1 k1 r1) _ cb mb n R F' Q (qV t1 (.slice so1 (lenE k1) sc1)) hsz1 (hnc.later (av wr _ _ hnc.lt) (av wr _ _ hnc.map.lt)) (gD.later (λj _ hl=>av wr _ j hl) (λj hj _=>hj) (aa HV1)) har hQ).mono ?_;rintro e w3 ⟨rfl,h3,k3⟩;have fin3:=aa NX w3 h3 ((aB.alloc cb wr _).trans k3);clear NX HV1 k3 hnc;go_wp2
     go_roundg (lenE r1)
     case rel=>exact fin3
     case measure=>omega
 .have es:((kP t==2) && !uS.any (λu=>(wP t).toList==u.toList))=true:=hnm;by_cases hR:R (wP t)=0
  .have e2:Ct R t F=jL F 10 t.place:=by unfold Ct;rw[hnm,hR];rfl
   have onn:∀w2,fZ w2 cb mb n R F->w2.heap[w.heap.size]?=some (.cells #[.int .i64 (kP t),.int .i64 t.place,.string (wP t),.int .i32 (nP t),.int .i32 (sP t),.slice ao (lenE k) c] 119 (0,0))->aB cb w w2->jD w2 Q k ao 0->∀w3,fZ w3 cb mb n R (jL F 10 t.place)->aB cb w2.drew w3->fZ w3 cb mb n R (Ct R t F)/\w3.heap[w.heap.size]?=some (.cells #[.int .i64 (kP t),.int .i64 t.place,.string (wP t),.int .i32 (nP t),.int .i32 (sP t),.slice ao (lenE k) c] 119 (0,0))/\aB cb w w3/\jD w3 Q k ao 0:=λw2 a1 a2 a3 a4 w3 b1 b2=>by
    have l2:=(az.1 a2).1;exact⟨by rw[e2];exact b1,(b2.2 _ l2 (by omega)).trans a2,a3.trans b2.undrew,jD.later (w:=w2) (λj hj hl=>b2.2 j hl (hQ j hj)) a4⟩
   have ONN:=aj onn;clear onn
   first|(go_region_with (go_at_call 112;refine(gG _ (kP t) t.place (nP t) (sP t) (wP t)).mono ?_;rintro e w2 ⟨rfl,B2⟩;rw[es];have fx:=aa ONW w2 B2;obtain⟨h2,s2,K2,rep2,hl2⟩:=fx;have d2:=(iy s2).1;have c2:=yQ h2.blk;have ON3:=aj (aa ONN w2 h2 s2 K2 rep2);rw[hR]at hl2))|fail
   all_goals clear ONW ONN
   all_goals go_wp2
   all_goals first|(go_region_with (go_at_call 117;refine(vB _ cb mb n R F 10 t.place ?_).mono ?_;exact h2.later rfl rfl;rintro e w3 ⟨rfl,h3,k3⟩;have fx:=aa ON3 w3 h3 k3;clear h2 s2 K2 rep2 d2 hl2;obtain⟨h2,s2,K2,rep2⟩:=fx;have d2:=(iy s2).1))|fail
   all_goals clear ON3
   all_goals go_wp2
   all_goals
    go_loopg [30] (lenE k) (λq v wr=>∃rest F',v=.int .i64 ((lenE k-q:Nat):Int)/\q<=lenE k/\lenE rest=q/\eu rest<=eu k/\uE kD rest/\fZ wr cb mb n R F'/\aB cb w wr/\Eh R rest F'=Eh R k (Ct R t F)/\jD wr Q rest ao (lenE k-q))
    case atStart=>exact⟨k,_,by rw[cZ];rfl,af _,rfl,af _,hall.2.1,h2,K2,rfl,by rw[cZ];exact rep2⟩
    case round=>
     clear h2 K2 rep2;obtain⟨rest,F',rfl,hq,hlr,hsr,har,hnc,kw,hfold,hrep⟩:=hrel
     cases rest with
     | nil=>
      have hq0:gk=0:=by rw[<-hlr];rfl
      subst hq0;have hge:decide (((lenE k-0:Nat):Int)<(lenE k:Int))=false:=by simp
      have hf:F'=Eh R k (Ct R t F):=hfold;subst hf;clear hfold;go_wp2
      go_end0
      exact⟨rfl,hnc,kw⟩
     | node b1 o1 t1 k1 r1=>
      have hl1:lenE r1+1=gk:=hlr;obtain⟨d,hd⟩:∃d,d+gk=lenE k:=⟨lenE k-gk,by omega⟩;have hnd:lenE k-gk=d:=by omega
      rw[hnd]at hrep ⊢;have hlt:decide ((d:Int)<(lenE k:Int))=true:=by simp;omega
      rcases hrep with hn|⟨g,rfl,hg,hrf⟩
      .cases hn
      obtain⟨⟨sv1,hcells,hkids⟩,hrest⟩:=hrf;obtain⟨x0,x1,x2,x3,x4,x5⟩:=hcells;have hv1:gD wr Q (qV t1 sv1) (.node b1 o1 t1 k1 r1):=⟨b1,o1,t1,k1,r1,sv1,rfl,rfl,hkids⟩;obtain⟨so1,sc1,hsv1⟩:=qA.form hkids;subst hsv1;have hsz1:eu (.node b1 o1 t1 k1 r1)<=m:=by have:eu (.node 0 0 t k .nil)<=m+1:=hsz';simp[eu]at this hsr ⊢;omega
      have hszw:=kw.1;have nextF:∀w3,fZ w3 cb mb n R (zH R (.node b1 o1 t1 k1 r1) F')->aB cb wr w3->∃rest F'',Value.int .i64 ((d:Int)+1)=.int .i64 ((lenE k-lenE r1:Nat):Int)/\lenE r1<=lenE k/\lenE rest=lenE r1/\eu rest<=eu k/\uE kD rest/\fZ w3 cb mb n R F''/\aB cb w w3/\Eh R rest F''=Eh R k (Ct R t F)/\jD w3 Q rest (some ⟨g,0,none⟩) (lenE k-lenE r1):=λw3 h3 k3=>by
       refine⟨r1,_,by congr 1;omega,by omega,rfl,by simp[eu]at hsr;omega,har.2.2,h3,kw.trans k3,hfold,.inr ⟨g,rfl,hg,?_⟩⟩;rw[show lenE k-lenE r1=d+1 by omega];exact xB.later (λj hj hl=>k3.2 j hl (hQ j hj)) (λj hj _=>hj) r1 g (d+1) hg hrest
      have NX:=aj nextF;have HV1:=aj hv1;have hgw:g<wr.heap.size:=fB _ _ x0;have hgcb:=hQ g hg;clear nextF hv1 hrest hkids hfold;go_wp2_with fail;refine(ih (.node b1 o1 t1 k1 r1) _ cb mb n R F' Q (qV t1 (.slice so1 (lenE k1) sc1)) hsz1 (hnc.later (av wr _ _ hnc.lt) (av wr _ _ hnc.map.lt)) (gD.later (λj _ hl=>av wr _ j hl) (λj hj _=>hj) (aa HV1)) har hQ).mono ?_;rintro e w3 ⟨rfl,h3,k3⟩;have fin3:=aa NX w3 h3 ((aB.alloc cb wr _).trans k3);clear NX HV1 k3 hnc;go_wp2
      go_roundg (lenE r1)
      case rel=>exact fin3
      case measure=>omega
  .have e2:Ct R t F=F:=by unfold Ct;rw[hnm];simp[hR]
   first|(go_region_with (go_at_call 112;refine(gG _ (kP t) t.place (nP t) (sP t) (wP t)).mono ?_;rintro e w2 ⟨rfl,B2⟩;rw[es];have fx:=aa ONW w2 B2;obtain⟨h2,s2,K2,rep2,hl2⟩:=fx;have d2:=(iy s2).1;have c2:=yQ h2.blk;rw[<-e2]at h2))|fail
   all_goals clear ONW
   all_goals go_wp2
   all_goals
    go_loopg [30] (lenE k) (λq v wr=>∃rest F',v=.int .i64 ((lenE k-q:Nat):Int)/\q<=lenE k/\lenE rest=q/\eu rest<=eu k/\uE kD rest/\fZ wr cb mb n R F'/\aB cb w wr/\Eh R rest F'=Eh R k (Ct R t F)/\jD wr Q rest ao (lenE k-q))
    case atStart=>exact⟨k,_,by rw[cZ];rfl,af _,rfl,af _,hall.2.1,h2,K2,rfl,by rw[cZ];exact rep2⟩
    case round=>
     clear h2 K2 rep2;obtain⟨rest,F',rfl,hq,hlr,hsr,har,hnc,kw,hfold,hrep⟩:=hrel
     cases rest with
     | nil=>
      have hq0:gk=0:=by rw[<-hlr];rfl
      subst hq0;have hge:decide (((lenE k-0:Nat):Int)<(lenE k:Int))=false:=by simp
      have hf:F'=Eh R k (Ct R t F):=hfold;subst hf;clear hfold;go_wp2
      go_end0
      exact⟨rfl,hnc,kw⟩
     | node b1 o1 t1 k1 r1=>
      have hl1:lenE r1+1=gk:=hlr;obtain⟨d,hd⟩:∃d,d+gk=lenE k:=⟨lenE k-gk,by omega⟩;have hnd:lenE k-gk=d:=by omega
      rw[hnd]at hrep ⊢;have hlt:decide ((d:Int)<(lenE k:Int))=true:=by simp;omega
      rcases hrep with hn|⟨g,rfl,hg,hrf⟩
      .cases hn
      obtain⟨⟨sv1,hcells,hkids⟩,hrest⟩:=hrf;obtain⟨x0,x1,x2,x3,x4,x5⟩:=hcells;have hv1:gD wr Q (qV t1 sv1) (.node b1 o1 t1 k1 r1):=⟨b1,o1,t1,k1,r1,sv1,rfl,rfl,hkids⟩;obtain⟨so1,sc1,hsv1⟩:=qA.form hkids;subst hsv1;have hsz1:eu (.node b1 o1 t1 k1 r1)<=m:=by have:eu (.node 0 0 t k .nil)<=m+1:=hsz';simp[eu]at this hsr ⊢;omega
      have hszw:=kw.1;have nextF:∀w3,fZ w3 cb mb n R (zH R (.node b1 o1 t1 k1 r1) F')->aB cb wr w3->∃rest F'',Value.int .i64 ((d:Int)+1)=.int .i64 ((lenE k-lenE r1:Nat):Int)/\lenE r1<=lenE k/\lenE rest=lenE r1/\eu rest<=eu k/\uE kD rest/\fZ w3 cb mb n R F''/\aB cb w w3/\Eh R rest F''=Eh R k (Ct R t F)/\jD w3 Q rest (some ⟨g,0,none⟩) (lenE k-lenE r1):=λw3 h3 k3=>by
       refine⟨r1,_,by congr 1;omega,by omega,rfl,by simp[eu]at hsr;omega,har.2.2,h3,kw.trans k3,hfold,.inr ⟨g,rfl,hg,?_⟩⟩;rw[show lenE k-lenE r1=d+1 by omega];exact xB.later (λj hj hl=>k3.2 j hl (hQ j hj)) (λj hj _=>hj) r1 g (d+1) hg hrest
      have NX:=aj nextF;have HV1:=aj hv1;have hgw:g<wr.heap.size:=fB _ _ x0;have hgcb:=hQ g hg;clear nextF hv1 hrest hkids hfold;go_wp2_with fail;refine(ih (.node b1 o1 t1 k1 r1) _ cb mb n R F' Q (qV t1 (.slice so1 (lenE k1) sc1)) hsz1 (hnc.later (av wr _ _ hnc.lt) (av wr _ _ hnc.map.lt)) (gD.later (λj _ hl=>av wr _ j hl) (λj hj _=>hj) (aa HV1)) har hQ).mono ?_;rintro e w3 ⟨rfl,h3,k3⟩;have fin3:=aa NX w3 h3 ((aB.alloc cb wr _).trans k3);clear NX HV1 k3 hnc;go_wp2
      go_roundg (lenE r1)
      case rel=>exact fin3
      case measure=>omega
end Go.Proofs.YthmmgiaobakilaaGreat
