import Derived.Test.YthmmgiaobakilaaGreatJ01
import Derived.Test.YthmmgiaobakilaaGreatJ10
import Derived.Test.YthmmgiaobakilaaGreatJ12
import Derived.Test.YthmmgiaobakilaaGreatJ13
import Derived.Deep.RegionHeld3
set_option maxRecDepth 100000
set_option maxHeartbeats 8000000
set_option linter.all false
namespace Go.Proofs.YthmmgiaobakilaaGreat
open Go.RowKit Go.Deep
variable {l:List ByteArray} {so:Option Addr} {w:World}
def Nz:Sx->Prop
 | .nil=>True
 | .node _ _ s k r=>eu s.e<=100000/\Nz k/\Nz r
def Wm (m:Nat):Prop:=∀(s:Sx) (w:World) (cb hc:Nat) (ho:Option Addr) (H:List ByteArray) (F:sj) (Q:Nat->Prop) (v:Value),dS s<m->kg w cb ho hc H F->dh w Q v s->Nz s->(∀k,Q k->k≠cb)->m<=100000 ->
 Calls Tryz.prog 92 #[.pointer (some ⟨cb,0,none⟩),v] w λe w'=>e=.returned (.tuple #[])/\kg w' cb ho hc H (vo H s F)/\aB cb w w'
theorem UX {m:Nat} (ih:Wm m):Wm (m+1):=by
 intro s w cb hc ho H F Q v hsz h hv hall hQ hm;obtain⟨ao,c,rfl,rep⟩:=hv.a;clear hv;have hszk':m<=100000:=by omega
 have hlen:lenS s<=100000:=by have:=Lb s;omega
 go_enter Tryz.func92,Tryz.ntmps92;go_wp2
 go_loopg [12] (lenS s) (λq v wr=>∃rest F',v=.int .i64 ((lenS s-q:Nat):Int)/\q<=lenS s/\lenS rest=q/\dS rest<=dS s/\Nz rest/\kg wr cb ho hc H F'/\aB cb w wr/\vo H rest F'=vo H s F/\Ko wr Q rest ao (lenS s-q))
 case atStart=>exact⟨s,F,by rw[cZ];rfl,af _,rfl,af _,hall,h,aB.refl _ _,rfl,by rw[cZ];exact rep⟩
 case round=>
 clear h rep;obtain⟨rest,F',rfl,hq,hlr,hsr,har,hnc,kw,hfold,hrep⟩:=hrel
 cases rest with
 | nil=>
  have hq0:gk=0:=by rw[<-hlr];rfl
  subst hq0;have hge:decide (((lenS s-0:Nat):Int)<(lenS s:Int))=false:=by simp
  have hf:F'=vo H s F:=hfold;subst hf;clear hfold;go_wp2
  go_end0
  exact⟨rfl,hnc,kw⟩
 | node b1 o1 p k r1=>
 have hl1:lenS r1+1=gk:=hlr;obtain⟨d,hd⟩:∃d,d+gk=lenS s:=⟨lenS s-gk,by omega⟩;have hnd:lenS s-gk=d:=by omega
 rw[hnd]at hrep ⊢;have hlt:decide ((d:Int)<(lenS s:Int))=true:=by simp;omega
 rcases hrep with hnl|⟨g,rfl,hg,hrf⟩
 .cases hnl
 rw[yh]at hrf;obtain⟨⟨v,hcell,hrp⟩,hrest⟩:=hrf;obtain⟨hsze,hak,harz⟩:=har;have hszk:dS k+dS r1+1<=dS s:=hsr;have hgw:g<wr.heap.size:=fB _ _ hcell;have hgcb:=hQ g hg;have nextF:∀(w3:World) (τ:sj),kg w3 cb ho hc H τ->aB cb wr w3->vo H s F=vo H r1 τ->∃rest F'',Value.int .i64 ((d:Int)+1)=.int .i64 ((lenS s-lenS r1:Nat):Int)/\lenS r1<=lenS s/\lenS rest=lenS r1/\dS rest<=dS s/\Nz rest/\kg w3 cb ho hc H F''/\aB cb w w3/\vo H rest F''=vo H s F/\Ko w3 Q rest (some ⟨g,0,none⟩) (lenS s-lenS r1):=λw3 τ h3 k3 e3=>by
  refine⟨r1,τ,by congr 1;omega,by omega,rfl,by omega,harz,h3,kw.trans k3,e3.symm,.inr ⟨g,rfl,hg,?_⟩⟩;rw[show lenS s-lenS r1=d+1 by omega];exact ul.later (λj hj hl=>k3.2 j hl (hQ j hj)) (λj hj _=>hj) r1 g (d+1) hg hrest
 have NX:=aj nextF;have hfold0:p.tag=0->vo H r1 (KM H p.t p.e (Ei p.t H) F')=vo H s F:=λht=>by rw[XE ht]at hfold;exact hfold
 have hfold3:(p.tag=3∨p.tag=4)->vo H r1 (KM H p.t p.e (Ei p.t [dY]) F')=vo H s F:=λht=>by rw[VW ht]at hfold;exact hfold
 have hfold2:p.tag=2->vo H r1 (vo H k F')=vo H s F:=λht=>by rw[Yn ht]at hfold;exact hfold
 have HF:=aj hfold;clear nextF hrest hfold harz;rcases hrp with⟨ht0,x,k1,sv,hhead,rfl,hkx⟩|⟨ht0,x,k1,sv,a1,b2,hhead,rfl,hkx,hkids⟩|⟨ht0,a1,rfl,hkids⟩|⟨ht0,x,k1,sv,hhead,rfl,hkx⟩
 .obtain⟨so1,sc1,rfl⟩:=qA.form hkx;have HVE:=aj (show gD wr Q (qV x (.slice so1 (lenE k1) sc1)) p.e by obtain⟨b,o,r,he⟩:=hhead;exact⟨b,o,x,k1,r,_,he,rfl,hkx⟩);unfold Zx at hcell;have ta0:=tC;clear hkx hhead;obtain⟨w1,hw1⟩:∃w1,wr.alloc (.cells #[.int .i64 (kP p.t),.int .i64 p.t.place,.string (wP p.t),.int .i32 (nP p.t),.int .i32 (sP p.t),.int .i64 (kP x),.int .i64 x.place,.string (wP x),.int .i32 (nP x),.int .i32 (sP x),.slice so1 (lenE k1) sc1] 121)=w1:=⟨_,rfl⟩;have s1:w1.heap[wr.heap.size]?=some (.cells #[.int .i64 (kP p.t),.int .i64 p.t.place,.string (wP p.t),.int .i32 (nP p.t),.int .i32 (sP p.t),.int .i64 (kP x),.int .i64 x.place,.string (wP x),.int .i32 (nP x),.int .i32 (sP x),.slice so1 (lenE k1) sc1] 121 (0,0)):=by rw[<-hw1];exact aA wr _
  have h1:kg w1 cb ho hc H F':=by rw[<-hw1];exact hnc.later (λj hj=>av wr _ j hj)
  have k1':aB cb wr w1:=by rw[<-hw1];exact aB.alloc cb wr _
  have lt1:wr.heap.size<w1.heap.size:=(az.1 s1).1;have d1:=(zR s1).1;have c1:=(yQ h1.blk).1;have hc1:=hnc.lt;have onw:∀w2,Below w1.heap.size w1 w2->kg w2 cb ho hc H F'/\w2.heap[wr.heap.size]?=some (.cells #[.int .i64 (kP p.t),.int .i64 p.t.place,.string (wP p.t),.int .i32 (nP p.t),.int .i32 (sP p.t),.int .i64 (kP x),.int .i64 x.place,.string (wP x),.int .i32 (nP x),.int .i32 (sP x),.slice so1 (lenE k1) sc1] 121 (0,0))/\aB cb wr w2/\gD w2 Q (qV x (.slice so1 (lenE k1) sc1)) p.e/\wr.heap.size<w2.heap.size:=λw2 B2=>
   ⟨h1.below B2,(B2.block _ lt1).trans s1,k1'.trans (aB.below B2),gD.later (λj hj hl=>(B2.block j (by have:=k1'.1;omega)).trans (k1'.2 j hl (hQ j hj))) (λj hj _=>hj) (aa HVE),by have:=B2.size;omega⟩
  have ONW:=aj onw;clear onw;go_wp2;clear hw1
  go_region_held3 (λw'=>w'.cell? ⟨wr.heap.size,0,none⟩=some (.int .i64 (kP p.t))/\w'.cell? ⟨wr.heap.size,1,none⟩=some (.int .i64 p.t.place)/\w'.cell? ⟨wr.heap.size,2,none⟩=some (.string (wP p.t))/\w'.cell? ⟨wr.heap.size,3,none⟩=some (.int .i32 (nP p.t))/\w'.cell? ⟨wr.heap.size,4,none⟩=some (.int .i32 (sP p.t))/\w'.cell? ⟨wr.heap.size,5,none⟩=some (.int .i64 (kP x))/\w'.cell? ⟨wr.heap.size,6,none⟩=some (.int .i64 x.place)/\w'.cell? ⟨wr.heap.size,7,none⟩=some (.string (wP x))/\w'.cell? ⟨wr.heap.size,8,none⟩=some (.int .i32 (nP x))/\w'.cell? ⟨wr.heap.size,9,none⟩=some (.int .i32 (sP x))/\w'.cell? ⟨wr.heap.size,10,none⟩=some (.slice so1 (lenE k1) sc1)/\w'.cell? ⟨cb,0,none⟩=some (.slice ho H.length hc)) (go_keep)
   (first
   | (go_at_call 86;refine(nS _ p.t ho hc H ?_ h1.few).mono ?_;exact h1.strs.later (λ_ _ _ _ _=>rfl);rintro e w2 ⟨rfl,b2⟩;have fx:=aa ONW w2 (Below.trans (b:=w1.drew) ((ax _ w1).drew) b2);obtain⟨h2,s2,K2,v2,l2⟩:=fx;have d2:=(zR s2).1;have c2:=(yQ h2.blk).1)
   | (go_at_call 120;refine(Ee 100000 (af _) p.e w2 cb hc ho H F' Q p.t x k1 so1 sc1 (Ei p.t H) hsze h2 v2 hQ).mono ?_;rintro e w3 ⟨rfl,h3,k3⟩;have fin3:=aa NX w3 _ h3 (K2.trans k3) (hfold0 ht0).symm;have s3:=(k3.2 _ l2 (by omega)).trans s2;have d3:=(zR s3).1;have c3:=(yQ h3.blk).1))
  all_goals clear h1 k1' s1 d1 c1
  all_goals
   go_wp2
   go_roundg (lenS r1)
   case rel=>exact fin3
   case measure=>omega
 .obtain⟨so1,sc1,rfl⟩:=qA.form hkx;have HVE:=aj (show gD wr Q (qV x (.slice so1 (lenE k1) sc1)) p.e by obtain⟨b,o,r,he⟩:=hhead;exact⟨b,o,x,k1,r,_,he,rfl,hkx⟩);unfold ifV at hcell;have ta0:=yJ;have ta1:=Ib;clear hkx hhead
  cases k with
  | nil=>exact hkids.elim
  | node b3 o3 p3 s1' u1'=>
  obtain⟨ao1,ac1,e1⟩:=dh.form hkids.1;obtain⟨bo1,bc1,e2⟩:=dh.form hkids.2;obtain⟨al1,hal1⟩:∃al1,lenS s1'=al1:=⟨_,rfl⟩;obtain⟨bl1,hbl1⟩:∃bl1,lenS u1'=bl1:=⟨_,rfl⟩;rw[hal1]at e1;rw[hbl1]at e2;subst e1;subst e2;clear hal1 hbl1;have has1:Nz s1':=hak.2.1;have hau1:Nz u1':=hak.2.2;have hszk2:dS (.node b3 o3 p3 s1' u1')=dS s1'+dS u1'+1:=rfl;have hfold1:p.tag=1->vo H r1 (vo H u1' (vo H s1' (KM H p.t p.e false F')))=vo H s F:=λht=>by have hfold:=aa HF;rw[XD ht]at hfold;exact hfold
  obtain⟨w1,hw1⟩:∃w1,wr.alloc (.cells #[.int .i64 (kP p.t),.int .i64 p.t.place,.string (wP p.t),.int .i32 (nP p.t),.int .i32 (sP p.t),.int .i64 (kP x),.int .i64 x.place,.string (wP x),.int .i32 (nP x),.int .i32 (sP x),.slice so1 (lenE k1) sc1,.slice ao1 al1 ac1,.slice bo1 bl1 bc1] 124)=w1:=⟨_,rfl⟩;have s1:w1.heap[wr.heap.size]?=some (.cells #[.int .i64 (kP p.t),.int .i64 p.t.place,.string (wP p.t),.int .i32 (nP p.t),.int .i32 (sP p.t),.int .i64 (kP x),.int .i64 x.place,.string (wP x),.int .i32 (nP x),.int .i32 (sP x),.slice so1 (lenE k1) sc1,.slice ao1 al1 ac1,.slice bo1 bl1 bc1] 124 (0,0)):=by rw[<-hw1];exact aA wr _
  have h1:kg w1 cb ho hc H F':=by rw[<-hw1];exact hnc.later (λj hj=>av wr _ j hj)
  have k1':aB cb wr w1:=by rw[<-hw1];exact aB.alloc cb wr _
  have lt1:wr.heap.size<w1.heap.size:=(az.1 s1).1;have d1:=(qR s1).1;have c1:=(yQ h1.blk).1;have hc1:=hnc.lt;go_wp2_with fail;clear hw1;refine(Ee 100000 (af _) p.e w1 cb hc ho H F' Q p.t x k1 so1 sc1 false hsze h1 (gD.later (λj hj hl=>k1'.2 j hl (hQ j hj)) (λj hj _=>hj) (aa HVE)) hQ).mono ?_;rintro e w2 ⟨rfl,h2,k2⟩;have s2:=(k2.2 _ lt1 (by omega)).trans s1;have d2:=(qR s2).1;have K2:=k1'.trans k2;have l2:=k2.1;clear h1 k1' s1 d1 c1 k2;go_wp2_with fail;refine(ih s1' w2 cb hc ho H (KM H p.t p.e false F') Q (.slice ao1 al1 ac1) (by omega) h2 (dh.later (λj hj hl=>K2.2 j hl (hQ j hj)) (λj hj _=>hj) hkids.1) has1 hQ hszk').mono ?_;rintro e w3 ⟨rfl,h3,k3⟩;have s3:=(k3.2 _ (by omega) (by omega)).trans s2;have d3:=(qR s3).1;have K3:=K2.trans k3;have l3:=k3.1;clear h2 K2 s2 d2 k3;go_wp2_with fail;refine(ih u1' w3 cb hc ho H (vo H s1' (KM H p.t p.e false F')) Q (.slice bo1 bl1 bc1) (by omega) h3 (dh.later (λj hj hl=>K3.2 j hl (hQ j hj)) (λj hj _=>hj) hkids.2) hau1 hQ hszk').mono ?_;rintro e w4 ⟨rfl,h4,k4⟩;have fin3:=aa NX w4 _ h4 (K3.trans k4) (hfold1 ht0).symm;clear h3 h4 K3 k4 s3 d3;go_wp2
  go_roundg (lenS r1)
  case rel=>exact fin3
  case measure=>omega
 .obtain⟨ao1,ac1,e1⟩:=dh.form hkids;obtain⟨al1,hal1⟩:∃al1,lenS k=al1:=⟨_,rfl⟩;rw[hal1]at e1;subst e1;clear hal1;unfold ZT at hcell;have ta0:=xg;have ta1:=Ep;have ta2:=Cb;obtain⟨w1,hw1⟩:∃w1,wr.alloc (.cells #[.int .i64 (kP p.t),.int .i64 p.t.place,.string (wP p.t),.int .i32 (nP p.t),.int .i32 (sP p.t),.int .i64 (kP p.a),.int .i64 p.a.place,.string (wP p.a),.int .i32 (nP p.a),.int .i32 (sP p.a),.int .i64 (kP p.b),.int .i64 p.b.place,.string (wP p.b),.int .i32 (nP p.b),.int .i32 (sP p.b),.slice ao1 al1 ac1] 127)=w1:=⟨_,rfl⟩;have s1:w1.heap[wr.heap.size]?=some (.cells #[.int .i64 (kP p.t),.int .i64 p.t.place,.string (wP p.t),.int .i32 (nP p.t),.int .i32 (sP p.t),.int .i64 (kP p.a),.int .i64 p.a.place,.string (wP p.a),.int .i32 (nP p.a),.int .i32 (sP p.a),.int .i64 (kP p.b),.int .i64 p.b.place,.string (wP p.b),.int .i32 (nP p.b),.int .i32 (sP p.b),.slice ao1 al1 ac1] 127 (0,0)):=by rw[<-hw1];exact aA wr _
  have h1:kg w1 cb ho hc H F':=by rw[<-hw1];exact hnc.later (λj hj=>av wr _ j hj)
  have k1':aB cb wr w1:=by rw[<-hw1];exact aB.alloc cb wr _
  have lt1:wr.heap.size<w1.heap.size:=(az.1 s1).1;have d1:=(zF s1).1;have c1:=(yQ h1.blk).1;have hc1:=hnc.lt;go_wp2_with fail;clear hw1;refine(ih k w1 cb hc ho H F' Q (.slice ao1 al1 ac1) (by omega) h1 (dh.later (λj hj hl=>k1'.2 j hl (hQ j hj)) (λj hj _=>hj) hkids) hak hQ hszk').mono ?_;rintro e w3 ⟨rfl,h3,k3⟩;have fin3:=aa NX w3 _ h3 (k1'.trans k3) (hfold2 ht0).symm;clear h1 h3 k1' k3 s1 d1 c1;go_wp2
  go_roundg (lenS r1)
  case rel=>exact fin3
  case measure=>omega
 .obtain⟨so1,sc1,rfl⟩:=qA.form hkx;have HVE:=aj (show gD wr Q (qV x (.slice so1 (lenE k1) sc1)) p.e by obtain⟨b,o,r,he⟩:=hhead;exact⟨b,o,x,k1,r,_,he,rfl,hkx⟩);unfold Qa8 at hcell;have ta0:=xf;have ta1:=EB;have ta2:=BL;have ta3:=Cg;clear hkx hhead;obtain⟨w1,hw1⟩:∃w1,wr.alloc (.cells #[.int .i64 (kP p.t),.int .i64 p.t.place,.string (wP p.t),.int .i32 (nP p.t),.int .i32 (sP p.t),.int .i64 (kP x),.int .i64 x.place,.string (wP x),.int .i32 (nP x),.int .i32 (sP x),.slice so1 (lenE k1) sc1] 130)=w1:=⟨_,rfl⟩;have s1:w1.heap[wr.heap.size]?=some (.cells #[.int .i64 (kP p.t),.int .i64 p.t.place,.string (wP p.t),.int .i32 (nP p.t),.int .i32 (sP p.t),.int .i64 (kP x),.int .i64 x.place,.string (wP x),.int .i32 (nP x),.int .i32 (sP x),.slice so1 (lenE k1) sc1] 130 (0,0)):=by rw[<-hw1];exact aA wr _
  have h1:kg w1 cb ho hc H F':=by rw[<-hw1];exact hnc.later (λj hj=>av wr _ j hj)
  have k1':aB cb wr w1:=by rw[<-hw1];exact aB.alloc cb wr _
  have lt1:wr.heap.size<w1.heap.size:=(az.1 s1).1;have d1:=(zR s1).1;have c1:=(yQ h1.blk).1;have hc1:=hnc.lt;have onw:∀w2,Below w1.heap.size w1 w2->kg w2 cb ho hc H F'/\w2.heap[wr.heap.size]?=some (.cells #[.int .i64 (kP p.t),.int .i64 p.t.place,.string (wP p.t),.int .i32 (nP p.t),.int .i32 (sP p.t),.int .i64 (kP x),.int .i64 x.place,.string (wP x),.int .i32 (nP x),.int .i32 (sP x),.slice so1 (lenE k1) sc1] 130 (0,0))/\aB cb wr w2/\gD w2 Q (qV x (.slice so1 (lenE k1) sc1)) p.e/\wr.heap.size<w2.heap.size:=λw2 B2=>
   ⟨h1.below B2,(B2.block _ lt1).trans s1,k1'.trans (aB.below B2),gD.later (λj hj hl=>(B2.block j (by have:=k1'.1;omega)).trans (k1'.2 j hl (hQ j hj))) (λj hj _=>hj) (aa HVE),by have:=B2.size;omega⟩
  have ONW:=aj onw;clear onw;have ltn:wr.heap.size≠w1.heap.size:=by omega
  go_wp2;clear hw1
  go_region_held3 (λw'=>w'.cell? ⟨wr.heap.size,0,none⟩=some (.int .i64 (kP p.t))/\w'.cell? ⟨wr.heap.size,1,none⟩=some (.int .i64 p.t.place)/\w'.cell? ⟨wr.heap.size,2,none⟩=some (.string (wP p.t))/\w'.cell? ⟨wr.heap.size,3,none⟩=some (.int .i32 (nP p.t))/\w'.cell? ⟨wr.heap.size,4,none⟩=some (.int .i32 (sP p.t))/\w'.cell? ⟨wr.heap.size,5,none⟩=some (.int .i64 (kP x))/\w'.cell? ⟨wr.heap.size,6,none⟩=some (.int .i64 x.place)/\w'.cell? ⟨wr.heap.size,7,none⟩=some (.string (wP x))/\w'.cell? ⟨wr.heap.size,8,none⟩=some (.int .i32 (nP x))/\w'.cell? ⟨wr.heap.size,9,none⟩=some (.int .i32 (sP x))/\w'.cell? ⟨wr.heap.size,10,none⟩=some (.slice so1 (lenE k1) sc1)) (go_keep)
   (first
   | (go_at_call 86;refine(nS _ p.t (some ⟨w1.heap.size,0,none⟩) 1 [dY] ?_ (by simp)).mono ?_;exact GI w1 [dY];rintro e w2 ⟨rfl,b2⟩;have fx:=aa ONW w2 (((ax _ w1).alloc (af _) _).drew.trans (b2.mono (by simp)));obtain⟨h2,s2,K2,v2,l2⟩:=fx;have d2:=(zR s2).1;have c2:=(yQ h2.blk).1)
   | (go_at_call 120;refine(Ee 100000 (af _) p.e w2 cb hc ho H F' Q p.t x k1 so1 sc1 (Ei p.t [dY]) hsze h2 v2 hQ).mono ?_;rintro e w3 ⟨rfl,h3,k3⟩;have fin3:=aa NX w3 _ h3 (K2.trans k3) (hfold3 ht0).symm;have s3:=(k3.2 _ l2 (by omega)).trans s2;have d3:=(zR s3).1;have c3:=(yQ h3.blk).1))
  all_goals clear h1 k1' s1 d1 c1
  all_goals
   go_wp2
   go_roundg (lenS r1)
   case rel=>exact fin3
   case measure=>omega
theorem Ni:∀m,Wm m
 | 0=>λ_ _ _ _ _ _ _ _ _ hsz _ _ _ _ _=>absurd hsz (Nat.not_lt_zero _)
 | m+1=>UX (Ni m)
def mg (ds:List (aH×Bool)):List ByteArray:=(ds.filter (·.2)).map (λd=>wP d.1)
def uq (ds:List (aH×Bool)) (s:Sx):sj:=vo (mg ds) s (0,0)
theorem Zn:(Tryz.prog.info? 9).map (λi=>(i.zero,i.size,i.bytes))=some (some (.string ⟨#[]⟩),1,16):=by kernel_rfl
theorem Gu (ds:List (aH×Bool)) (t:aH) (h:Bool):mg (ds++[(t,h)])=if h then mg ds++[wP t] else mg ds:=by
 cases h<;>simp[mg]
theorem Kj (ds:List (aH×Bool)):(mg ds).length<=ds.length:=by
 unfold mg;rw[tK];exact List.length_filter_le _ _
theorem zi.y:∀ {s:Sx},zi s->Nz s
 | .nil,_=>trivial
 | .node _ _ _ _ _,⟨a,b,c⟩=>⟨a,zi.y b,zi.y c⟩
theorem XQ {base:Nat} {sl sc:Nat} (h:w.ownsRow base 9 1 (.slice so sl sc) l.length (l.map Value.string)):sl=l.length/\Gx w so l/\∀b,so.map (·.block)=some b->base<=b:=by
 rcases h.2 with⟨e,h0⟩|⟨g,cap,cur,e,hb,hg,hn,hc,hs,ht⟩
 .cases e;exact⟨h0.symm,.inl (xN.1 h0),λb hb=>by cases hb⟩
 .cases e;refine⟨rfl,.inr ⟨g,0,rfl,λj hj=>?_⟩,λb e=>by cases e;exact hb⟩;have:=h.cellAt j (by omega);rw[pM,this,lY,aU hj];rfl
theorem BH (w:World) (Q:Nat->Prop) (hQ:∀k,Q k->k<w.heap.size) (ds:List (aH×Bool)) (s:Sx) (nv bv:Value) (hd:wI w Q nv ds) (hs:dh w Q bv s) (has:zi s) (hdn:ds.length<=1000) (hn:dS s<100000) :
  Calls Tryz.prog 60 #[.agg #[nv,bv]] w λe w'=>e=.returned (.agg #[.int .i64 (uq ds s).1,.int .i64 (uq ds s).2])/\Below w.heap.size w w':=by
 obtain⟨no,nc,rfl,hda⟩:=hd.a;obtain⟨bo,bc,hbf⟩:=dh.form hs;subst hbf;obtain⟨bl,hbl⟩:∃bl,lenS s=bl:=⟨_,rfl⟩;rw[hbl]at hs ⊢;clear hbl hd;obtain⟨i0,hi0,hz0,hz1,hz2⟩:=dG Zn;obtain⟨w4,hw4⟩:∃w4,((w.alloc (.cells #[.slice no ds.length nc,.slice bo bl bc] 68)).alloc (.cells #[.int .i64 0,.int .i64 0] 105)).alloc (.cells #[.slice none 0 0,.int .i64 0,.int .i64 0] 163)=w4:=⟨_,rfl⟩;have z4:w4.heap.size=w.heap.size+3:=by rw[<-hw4];simp
 have b4:∀(W:World) (o:Obj) (k:Nat),k<W.heap.size->(W.alloc o).heap[k]?=W.heap[k]?:=λW o k hk=>av W o k hk;have t4:w4.heap[w.heap.size]?=some (.cells #[.slice no ds.length nc,.slice bo bl bc] 68 (0,0)):=by rw[<-hw4,b4 _ _ _ (by simp;omega),b4 _ _ _ (by simp)];exact aA w _
 have r4:w4.heap[w.heap.size+1]?=some (.cells #[.int .i64 0,.int .i64 0] 105 (0,0)):=by rw[<-hw4,b4 _ _ _ (by simp)];exact(by simpa using aA (w.alloc (.cells #[.slice no ds.length nc,.slice bo bl bc] 68)) (.cells #[.int .i64 0,.int .i64 0] 105))
 have c4:w4.heap[w.heap.size+2]?=some (.cells #[.slice none 0 0,.int .i64 0,.int .i64 0] 163 (0,0)):=by rw[<-hw4];exact(by simpa using aA ((w.alloc (.cells #[.slice no ds.length nc,.slice bo bl bc] 68)).alloc (.cells #[.int .i64 0,.int .i64 0] 105)) (.cells #[.slice none 0 0,.int .i64 0,.int .i64 0] 163))
 have sm4:bY w w4:=by rw[<-hw4];exact⟨rfl,rfl,rfl⟩
 have B4:∀j,j<w.heap.size->w4.heap[j]?=w.heap[j]?:=λj hj=>by rw[<-hw4,b4 _ _ _ (by simp;omega),b4 _ _ _ (by simp;omega),b4 _ _ _ hj]
 have d4:KF w4 Q ds no:=hda.later (λj hj hl=>B4 j hl) (by omega);have hb4:=aj (hs.later (w':=w4) (λj hj hl=>B4 j hl) (λj hj _=>hj));have hlen:ds.length<=100000:=by omega
 have hcne:∀k,Q k->k≠w.heap.size+2:=λk hk=>by have:=hQ k hk;omega
 clear hda hs b4;have x4:=(Md t4).1;go_enter Tryz.func60,Tryz.ntmps60;go_wp2;clear hw4;rw[show w.heap.size+1+1=w.heap.size+2 from rfl]
 go_loopg [9] ds.length (λq v wr=>∃so sl sc,v=.int .i64 ((ds.length-q:Nat):Int)/\q<=ds.length/\wr.heap[w.heap.size+2]?=some (.cells #[.slice so sl sc,.int .i64 0,.int .i64 0] 163 (0,0))/\wr.ownsRow (w.heap.size+3) 9 1 (.slice so sl sc) (mg (ds.take (ds.length-q))).length ((mg (ds.take (ds.length-q))).map Value.string)/\aB (w.heap.size+2) w4 wr)
 case atStart=>exact⟨none,0,0,by rw[cZ];rfl,af _,c4,by rw[cZ];exact fD _ _ _ _,aB.refl _ _⟩
 case round=>
 clear c4;obtain⟨so,sl,sc,rfl,hq,hcb,own,kw⟩:=hrel;have hszw:=kw.1;have tr:=(kw.2 _ (by omega) (by omega)).trans t4;have rr:=(kw.2 _ (by omega) (by omega)).trans r4;have xr:=(Md tr).1
 cases gk with
 | zero=>
  have hge:decide (((ds.length-0:Nat):Int)<(ds.length:Int))=false:=by simp
  rw[Nat.sub_zero,List.take_length]at own;obtain⟨hsl,hstr,hbase⟩:=XQ own;have fc:kg wr (w.heap.size+2) so sc (mg ds) (0,0):=⟨by rw[<-hsl];exact hcb,hstr,λe=>by have:=hbase _ e;omega,by have:=Kj ds;omega⟩;go_wp2_with fail;refine(Ni (dS s+1) s wr _ sc so (mg ds) (0,0) Q (.slice bo bl bc) (by omega) fc (dh.later (λj hj hl=>kw.2 j hl (hcne j hj)) (λj hj _=>hj) (aa hb4)) has.y hcne (by omega)).mono ?_;rintro e w5 ⟨rfl,h5,k5⟩;have l5:=k5.1;have r5:=(k5.2 _ (by omega) (by omega)).trans rr;obtain⟨⟨y0,y1⟩,v0,v1⟩:=Md r5;have c5:=(yQ h5.blk).1;have fin:∀W:World,bY w5 W->w5.heap.size<=W.heap.size->(∀j,j≠w.heap.size+1->W.heap[j]?=w5.heap[j]?)->Below w.heap.size w W:=by
   intro W smW a b;have smA:=((sm4.trans kw.same).trans k5.same).trans smW;exact⟨smA.os,smA.tape,smA.output,by omega,λj hj=>(b j (by omega)).trans ((k5.2 j (by omega) (by omega)).trans ((kw.2 j (by omega) (by omega)).trans (B4 j hj)))⟩
  have FIN:=aj fin;clear kw k5 tr rr fin own fc hcb;go_wp2;refine aL (v:=.agg #[.int .i64 (uq ds s).1,.int .i64 (uq ds s).2]) (by simp[results,Tryz.results60,go_sem,y0,y1,uq]) rfl ⟨rfl,aa FIN _ (((bY.refl _).set _ _).set _ _) (by simp) (λj hj=>(ay _ _ _ _ hj).trans (ay _ _ _ _ hj))⟩
 | succ gk=>
  obtain⟨d,hd⟩:∃d,d+(gk+1)=ds.length:=⟨ds.length-(gk+1),by omega⟩;have hnd:ds.length-(gk+1)=d:=by omega
  rw[hnd]at own ⊢;have hlt:decide ((d:Int)<(ds.length:Int))=true:=by simp;omega
  obtain⟨⟨t,hb⟩,hget⟩:∃p,ds[d]?=some p:=⟨ds[d],aU (by omega)⟩;have htk:ds.take (d+1)=ds.take d++[(t,hb)]:=by rw[List.take_add_one,hget];rfl
  have dr:=d4.later (w':=wr) (λj hj hl=>kw.2 j hl (hcne j hj)) kw.1;rcases dr with hn0|⟨g,rfl,hg,hgl,hcs⟩
  .rw[hn0]at hd;simp at hd
  obtain⟨q0,q1,q2,q3,q4,q5⟩:=JD hcs hget;have hgw:=hQ g hg;have hl1:=Kj (ds.take d);have hl2:(ds.take d).length<=ds.length:=List.length_take_le' _ _;have HTK:=aj htk;clear hcs htk;obtain⟨⟨e0,e1,e2⟩,f0,f1,f2⟩:=yQ hcb
  cases hb
  .have nx:∃so' sl' sc',Value.int .i64 ((d:Int)+1)=.int .i64 ((ds.length-gk:Nat):Int)/\gk<=ds.length/\(wr.alloc (.cells #[.int .i64 (kP t),.int .i64 t.place,.string (wP t),.int .i32 (nP t),.int .i32 (sP t),.bool false] 160)).heap[w.heap.size+2]?=some (.cells #[.slice so' sl' sc',.int .i64 0,.int .i64 0] 163 (0,0))/\(wr.alloc (.cells #[.int .i64 (kP t),.int .i64 t.place,.string (wP t),.int .i32 (nP t),.int .i32 (sP t),.bool false] 160)).ownsRow (w.heap.size+3) 9 1 (.slice so' sl' sc') (mg (ds.take (ds.length-gk))).length ((mg (ds.take (ds.length-gk))).map Value.string)/\aB (w.heap.size+2) w4 (wr.alloc (.cells #[.int .i64 (kP t),.int .i64 t.place,.string (wP t),.int .i32 (nP t),.int .i32 (sP t),.bool false] 160)):=by
    refine⟨so,sl,sc,by congr 1;omega,by omega,(av wr _ _ (by omega)).trans hcb,?_,kw.trans (aB.alloc _ _ _)⟩;rw[show ds.length-gk=d+1 by omega,aa HTK,Gu];exact own.alloc _
   have NX:=aj nx;clear nx own kw tr rr;go_wp2
   go_roundg gk
   case rel=>exact aa NX
   case measure=>omega
  .have hlw:w.heap.size+2<wr.heap.size:=by have:=kw.1;omega
   have hlx:¬ w.heap.size+2=wr.heap.size:=by omega
   go_wp2_with (at_builtin;refine wpList_append_lies _ rfl _ _ 88 rfl (w.heap.size+3) 9 i0 (.string ⟨#[]⟩) 1 16 Tryz.underlying88 hi0 hz0 hz1 hz2 rfl (by decide) (.slice so sl sc) (mg (ds.take d)).length ((mg (ds.take d)).map Value.string) rfl ((own.alloc _).alloc _) ⟨wr.heap.size+1,0,none⟩ 1 1 [.string (wP t)] rfl rfl (World.news_of_block (by simpa using aA (wr.alloc _) _)) (by simp[Value.oneCell']) (by decide) (by unfold maxLen;omega) (by omega) (by simp;omega) (wr.heap.size+2) (by simp) ?_;intro g' cap' wn hown hgrow hat hltn;have hzn:=hgrow.size;simp at hzn;have cbn:wn.heap[w.heap.size+2]?=some (.cells #[.slice so sl sc,.int .i64 0,.int .i64 0] 163 (0,0)):=(hgrow.block _ (by simp;omega) (λe=>by have:=(own.lt _ e.symm).1;omega)).trans ((av _ _ _ (by simp;omega)).trans ((av wr _ _ (by omega)).trans hcb));have e9:=(yQ cbn).1.1;have f9:=(yQ cbn).2.1)
   have nx:∃so' sl' sc',Value.int .i64 ((d:Int)+1)=.int .i64 ((ds.length-gk:Nat):Int)/\gk<=ds.length/\(wn.setCell ⟨w.heap.size+2,0,none⟩ (.slice (some ⟨g',0,none⟩) ((mg (ds.take d)).length+1) cap')).heap[w.heap.size+2]?=some (.cells #[.slice so' sl' sc',.int .i64 0,.int .i64 0] 163 (0,0))/\(wn.setCell ⟨w.heap.size+2,0,none⟩ (.slice (some ⟨g',0,none⟩) ((mg (ds.take d)).length+1) cap')).ownsRow (w.heap.size+3) 9 1 (.slice so' sl' sc') (mg (ds.take (ds.length-gk))).length ((mg (ds.take (ds.length-gk))).map Value.string)/\aB (w.heap.size+2) w4 (wn.setCell ⟨w.heap.size+2,0,none⟩ (.slice (some ⟨g',0,none⟩) ((mg (ds.take d)).length+1) cap')):=by
    refine⟨_,_,_,by congr 1;omega,by omega,aM _ (w.heap.size+2) 0 _ _ _ cbn,?_,?_⟩
    .rw[show ds.length-gk=d+1 by omega,aa HTK,Gu,ag rfl];have:=bH hown (w':=wn.setCell ⟨w.heap.size+2,0,none⟩ (.slice (some ⟨g',0,none⟩) ((mg (ds.take d)).length+1) cap')) (λk hk=>ay _ _ _ _ (by have:=(hown.lt k hk).1;show k≠w.heap.size+2;omega));simpa using this
    .refine⟨by simp;omega,λk hk hn=>?_,?_⟩
     .refine(ay _ _ _ _ hn).trans ((hgrow.block k (by simp;omega) (λe=>by have:=(own.lt _ e.symm).1;omega)).trans ((av _ _ _ (by simp;omega)).trans ((av wr _ _ (by omega)).trans (kw.2 k hk hn))))
     .exact kw.same.trans (((((bY.refl wr).alloc _).alloc _).trans (bY.grown hgrow)).set _ _)
   have NX:=aj nx;clear nx own kw tr rr hown hgrow cbn;go_wp2
   go_roundg gk
   case rel=>exact aa NX
   case measure=>omega
open Go.Shelf
theorem PG (s:ByteArray) (h:s.size<=300) (l:List aH) (p:Nat) (hx:oN s s.size 0 []=(some l,p)) (n:Nat) (ds:List (aH×Bool)) (sx:Sx) (jj:Nat) (hn:n<=1000) (hr:dV n (l++[aI p])=some (.ok ((ds,sx),jj))) (hfew:(l++[aI p]).length<=1000) (had:∀d∈ds,kD d.1) (has:uR kD sx/\zi sx) (hsz:ds.length+dS sx+2<=100000) (hne:(lN ds sx).1≠0) (w:World):Calls Tryz.prog 34 #[.string s] w λe w'=>Below w.heap.size w w'/\e=.returned (.tuple #[qD,.int .i64 (lN ds sx).1,.int .i64 (lN ds sx).2]):=by
 obtain⟨nf,hnf⟩:∃nf,lN ds sx=nf:=⟨_,rfl⟩;have HNF:=aj hnf;rw[hnf]at hne ⊢;clear hnf;have hW:=rF h hx;go_enter Tryz.func34,Tryz.ntmps34;go_wp2_with fail;obtain⟨w1,hw1⟩:∃w1,w.alloc (.cells #[.slice none 0 0,.slice none 0 0] 68)=w1:=⟨_,rfl⟩;rw[hw1];refine(Mq s h w1).mono ?_;rintro e w2 ⟨hb,ho⟩;rw[hx]at ho;obtain⟨hp,g,c,hg,hc,rfl,htk⟩:p=s.size/\∃g c,(w1.heap.size<=g/\g<w2.heap.size)/\((l++[aI p]).length<=c/\c<=maxLen)/\e=.returned (.tuple #[.slice (some ⟨g,0,none⟩) (l++[aI p]).length c,.agg #[.int .i64 0,.int .i64 0]])/\uH w2 g (l++[aI p]):=ho;obtain⟨T,hTe⟩:∃T,l++[aI p]=T:=⟨_,rfl⟩;rw[hTe]at hr hfew hc htk hW ⊢;have z1:w1.heap.size=w.heap.size+1:=by rw[<-hw1];simp
 have hz:=hb.size;have r1:w2.heap[w.heap.size]?=some (.cells #[.slice none 0 0,.slice none 0 0] 68 (0,0)):=(hb.block _ (by omega)).trans (by rw[<-hw1];exact aA w _);have b0:Below w.heap.size w w1:=by rw[<-hw1];exact(ax _ w).alloc (af _) _
 have bw:Below w.heap.size w w2:=b0.trans ⟨hb.os,hb.tape,hb.output,hb.size,λk hk=>hb.block k (by omega)⟩;have hl1:w.heap.size<w2.heap.size:=by omega
 have HTE:=aj hTe;clear hx hb hw1 hTe hp;go_wp2_with fail;obtain⟨w3,hw3⟩:∃w3,w2.alloc (.cells #[.int .i64 0,.int .i64 0] 105)=w3:=⟨_,rfl⟩;rw[hw3];have z3:w3.heap.size=w2.heap.size+1:=by rw[<-hw3];simp
 have htk3:uH w3 g T:=by
  have hg3:w3.heap[g]?=w2.heap[g]?:=by rw[<-hw3];exact av w2 _ g hg.2
  have f:∀o,w3.cell? ⟨g,o,none⟩=w2.cell? ⟨g,o,none⟩:=λo=>iY hg3;intro j hj;have:=htk j hj;rw[f,f,f,f,f];exact this
 refine(AA w3 g c T hW htk3 (by omega) hfew hc n hn _ hr).mono ?_;rintro e w4 ⟨hb4,no,nl,nc,bo,bl,bc,f,pl,rfl,hout⟩;obtain⟨rfl,rfl,hD,hL⟩:f=0/\pl=0/\wI w4 (λg=>w3.heap.size<=g) (.slice no nl nc) ds/\dh w4 (λg=>w3.heap.size<=g) (.slice bo bl bc) sx:=by
  rcases hout with⟨ds',s',j,hq,h1,h2,h3,h4⟩|⟨y,hq,_⟩
  .cases hq;exact⟨h1,h2,h3,h4⟩
  .cases hq
 have hz4:=hb4.size;have r4:w4.heap[w.heap.size]?=some (.cells #[.slice none 0 0,.slice none 0 0] 68 (0,0)):=(hb4.block _ (by omega)).trans (by rw[<-hw3];exact(av w2 _ _ (by omega)).trans r1);have q4:w4.heap[w2.heap.size]?=some (.cells #[.int .i64 0,.int .i64 0] 105 (0,0)):=(hb4.block _ (by omega)).trans (by rw[<-hw3];exact aA w2 _);have bw4:Below w.heap.size w w4:=by
  have b3:Below w.heap.size w w3:=by rw[<-hw3];exact bw.alloc (by omega) _
  exact b3.trans ⟨hb4.os,hb4.tape,hb4.output,hb4.size,λk hk=>hb4.block k (by omega)⟩
 have r4c:=tq r4;have q4c:=tq q4;have hl4:w.heap.size<w4.heap.size:=by omega
 have hl5:w2.heap.size<w4.heap.size:=by omega
 have hl6:¬ w.heap.size=w2.heap.size:=by omega
 have hl7:¬ w2.heap.size=w.heap.size:=by omega
 have hl8:¬ w.heap.size=w4.heap.size:=by omega
 have hl9:¬ w2.heap.size=w4.heap.size:=by omega
 have HD:=aj hD;have HL:=aj hL;clear hout hb4 hw3 htk htk3 hr r1 bw b0 hD hL;go_wp2_with fail;obtain⟨w5,hw5⟩:∃w5,(((w4.setCell ⟨w2.heap.size,0,none⟩ (.int .i64 0)).setCell ⟨w2.heap.size,1,none⟩ (.int .i64 0)).alloc (.cells #[.slice no nl nc,.slice bo bl bc] 68))=w5:=⟨_,rfl⟩;rw[hw5];have z5:w5.heap.size=w4.heap.size+1:=by rw[<-hw5];simp
 have o5:∀j,j≠w2.heap.size->j<w4.heap.size->w5.heap[j]?=w4.heap[j]?:=λj hj hl=>by
  rw[<-hw5];exact(av _ _ _ (by simp;omega)).trans ((ay _ _ _ _ hj).trans (ay _ _ _ _ hj))
 have bw5:Below w.heap.size w w5:=by
  rw[<-hw5];exact((bw4.setCell (p:=⟨w2.heap.size,0,none⟩) (by simp;omega) _).setCell (p:=⟨w2.heap.size,1,none⟩) (by simp;omega) _).alloc (by simp;omega) _
 have hD5:wI w5 (λk=>w3.heap.size<=k/\k<w5.heap.size) (.slice no nl nc) ds:=(aa HD).later (λj hj hl=>o5 j (by have:w3.heap.size<=j:=hj;omega) hl) (λk hk hl=>⟨hk,by omega⟩);have hL5:dh w5 (λk=>w3.heap.size<=k/\k<w5.heap.size) (.slice bo bl bc) sx:=(aa HL).later (λj hj hl=>o5 j (by have:w3.heap.size<=j:=hj;omega) hl) (λk hk hl=>⟨hk,by omega⟩);refine(vP w5 (λk=>w3.heap.size<=k/\k<w5.heap.size) (λk hk=>hk.2) ds sx _ _ hD5 hL5 had has hsz).mono ?_;rintro e w6 ⟨he,hb6⟩;rw[aa HNF]at he;subst he;have hz6:=hb6.size;have r6:=(hb6.block _ (by omega)).trans ((o5 _ (by omega) (by omega)).trans r4);have bw6:Below w.heap.size w w6:=bw5.trans ⟨hb6.os,hb6.tape,hb6.output,hb6.size,λk hk=>hb6.block k (by omega)⟩;have hl10:w.heap.size<w6.heap.size:=by omega
 have hl11:¬ w.heap.size=w6.heap.size:=by omega
 obtain⟨⟨c0,c1⟩,f0,f1⟩:=tq r6;clear hD5 hL5 o5 hb6 hw5 r4c q4c r4 q4 HD HL HNF;go_wp2
 go_region
 all_goals go_wp2
 refine aL (v:=.tuple #[qD,.int .i64 nf.1,.int .i64 nf.2]) (by simp[results,Tryz.results34,go_sem,qD,c0,c1,hl10]) rfl ⟨?_,rfl⟩;exact(((bw6.setCell (p:=⟨w.heap.size,0,none⟩) (af _) _).setCell (p:=⟨w.heap.size,1,none⟩) (af _) _).alloc (by simp;omega) _).drew
theorem Tz (s:ByteArray) (h:s.size<=300) (l:List aH) (p:Nat) (hx:oN s s.size 0 []=(some l,p)) (n:Nat) (ds:List (aH×Bool)) (sx:Sx) (jj:Nat) (hn:n<=1000) (hr:dV n (l++[aI p])=some (.ok ((ds,sx),jj))) (hfew:(l++[aI p]).length<=1000) (had:∀d∈ds,kD d.1) (has:uR kD sx/\zi sx) (hsz:ds.length+dS sx+2<=100000) (hn0:(lN ds sx).1=0) (hdn:ds.length<=1000) (hne:(uq ds sx).1≠0) (w:World):Calls Tryz.prog 34 #[.string s] w λe w'=>Below w.heap.size w w'/\e=.returned (.tuple #[qD,.int .i64 (uq ds sx).1,.int .i64 (uq ds sx).2]):=by
 obtain⟨nf,hnf⟩:∃nf,lN ds sx=nf:=⟨_,rfl⟩;have HNF:=aj hnf;rw[hnf]at hn0;clear hnf;obtain⟨ff,hff⟩:∃ff,uq ds sx=ff:=⟨_,rfl⟩;have HFF:=aj hff;rw[hff]at hne ⊢;clear hff;have hW:=rF h hx;go_enter Tryz.func34,Tryz.ntmps34;go_wp2_with fail;obtain⟨w1,hw1⟩:∃w1,w.alloc (.cells #[.slice none 0 0,.slice none 0 0] 68)=w1:=⟨_,rfl⟩;rw[hw1];refine(Mq s h w1).mono ?_;rintro e w2 ⟨hb,ho⟩;rw[hx]at ho;obtain⟨hp,g,c,hg,hc,rfl,htk⟩:p=s.size/\∃g c,(w1.heap.size<=g/\g<w2.heap.size)/\((l++[aI p]).length<=c/\c<=maxLen)/\e=.returned (.tuple #[.slice (some ⟨g,0,none⟩) (l++[aI p]).length c,.agg #[.int .i64 0,.int .i64 0]])/\uH w2 g (l++[aI p]):=ho;obtain⟨T,hTe⟩:∃T,l++[aI p]=T:=⟨_,rfl⟩;rw[hTe]at hr hfew hc htk hW ⊢;have z1:w1.heap.size=w.heap.size+1:=by rw[<-hw1];simp
 have hz:=hb.size;have r1:w2.heap[w.heap.size]?=some (.cells #[.slice none 0 0,.slice none 0 0] 68 (0,0)):=(hb.block _ (by omega)).trans (by rw[<-hw1];exact aA w _);have b0:Below w.heap.size w w1:=by rw[<-hw1];exact(ax _ w).alloc (af _) _
 have bw:Below w.heap.size w w2:=b0.trans ⟨hb.os,hb.tape,hb.output,hb.size,λk hk=>hb.block k (by omega)⟩;have hl1:w.heap.size<w2.heap.size:=by omega
 have HTE:=aj hTe;clear hx hb hw1 hTe hp;go_wp2_with fail;obtain⟨w3,hw3⟩:∃w3,w2.alloc (.cells #[.int .i64 0,.int .i64 0] 105)=w3:=⟨_,rfl⟩;rw[hw3];have z3:w3.heap.size=w2.heap.size+1:=by rw[<-hw3];simp
 have htk3:uH w3 g T:=by
  have hg3:w3.heap[g]?=w2.heap[g]?:=by rw[<-hw3];exact av w2 _ g hg.2
  have f:∀o,w3.cell? ⟨g,o,none⟩=w2.cell? ⟨g,o,none⟩:=λo=>iY hg3;intro j hj;have:=htk j hj;rw[f,f,f,f,f];exact this
 refine(AA w3 g c T hW htk3 (by omega) hfew hc n hn _ hr).mono ?_;rintro e w4 ⟨hb4,no,nl,nc,bo,bl,bc,f,pl,rfl,hout⟩;obtain⟨rfl,rfl,hD,hL⟩:f=0/\pl=0/\wI w4 (λg=>w3.heap.size<=g) (.slice no nl nc) ds/\dh w4 (λg=>w3.heap.size<=g) (.slice bo bl bc) sx:=by
  rcases hout with⟨ds',s',j,hq,h1,h2,h3,h4⟩|⟨y,hq,_⟩
  .cases hq;exact⟨h1,h2,h3,h4⟩
  .cases hq
 have hz4:=hb4.size;have r4:w4.heap[w.heap.size]?=some (.cells #[.slice none 0 0,.slice none 0 0] 68 (0,0)):=(hb4.block _ (by omega)).trans (by rw[<-hw3];exact(av w2 _ _ (by omega)).trans r1);have q4:w4.heap[w2.heap.size]?=some (.cells #[.int .i64 0,.int .i64 0] 105 (0,0)):=(hb4.block _ (by omega)).trans (by rw[<-hw3];exact aA w2 _);have bw4:Below w.heap.size w w4:=by
  have b3:Below w.heap.size w w3:=by rw[<-hw3];exact bw.alloc (by omega) _
  exact b3.trans ⟨hb4.os,hb4.tape,hb4.output,hb4.size,λk hk=>hb4.block k (by omega)⟩
 have r4c:=tq r4;have q4c:=tq q4;have hl4:w.heap.size<w4.heap.size:=by omega
 have hl5:w2.heap.size<w4.heap.size:=by omega
 have hl6:¬ w.heap.size=w2.heap.size:=by omega
 have hl7:¬ w2.heap.size=w.heap.size:=by omega
 have hl8:¬ w.heap.size=w4.heap.size:=by omega
 have hl9:¬ w2.heap.size=w4.heap.size:=by omega
 have HD:=aj hD;have HL:=aj hL;clear hout hb4 hw3 htk htk3 hr r1 bw b0 hD hL;go_wp2_with fail;obtain⟨w5,hw5⟩:∃w5,(((w4.setCell ⟨w2.heap.size,0,none⟩ (.int .i64 0)).setCell ⟨w2.heap.size,1,none⟩ (.int .i64 0)).alloc (.cells #[.slice no nl nc,.slice bo bl bc] 68))=w5:=⟨_,rfl⟩;rw[hw5];have z5:w5.heap.size=w4.heap.size+1:=by rw[<-hw5];simp
 have o5:∀j,j≠w2.heap.size->j<w4.heap.size->w5.heap[j]?=w4.heap[j]?:=λj hj hl=>by
  rw[<-hw5];exact(av _ _ _ (by simp;omega)).trans ((ay _ _ _ _ hj).trans (ay _ _ _ _ hj))
 have bw5:Below w.heap.size w w5:=by
  rw[<-hw5];exact((bw4.setCell (p:=⟨w2.heap.size,0,none⟩) (by simp;omega) _).setCell (p:=⟨w2.heap.size,1,none⟩) (by simp;omega) _).alloc (by simp;omega) _
 have hD5:wI w5 (λk=>w3.heap.size<=k/\k<w5.heap.size) (.slice no nl nc) ds:=(aa HD).later (λj hj hl=>o5 j (by have:w3.heap.size<=j:=hj;omega) hl) (λk hk hl=>⟨hk,by omega⟩);have hL5:dh w5 (λk=>w3.heap.size<=k/\k<w5.heap.size) (.slice bo bl bc) sx:=(aa HL).later (λj hj hl=>o5 j (by have:w3.heap.size<=j:=hj;omega) hl) (λk hk hl=>⟨hk,by omega⟩);refine(vP w5 (λk=>w3.heap.size<=k/\k<w5.heap.size) (λk hk=>hk.2) ds sx _ _ hD5 hL5 had has hsz).mono ?_;rintro e w6 ⟨he,hb6⟩;rw[aa HNF,hn0]at he;subst he;have hz6:=hb6.size;have r6:=(hb6.block _ (by omega)).trans ((o5 _ (by omega) (by omega)).trans r4);have t6:w6.heap[w4.heap.size]?=some (.cells #[.slice no nl nc,.slice bo bl bc] 68 (0,0)):=(hb6.block _ (by omega)).trans (by rw[<-hw5];simpa using aA ((w4.setCell ⟨w2.heap.size,0,none⟩ (.int .i64 0)).setCell ⟨w2.heap.size,1,none⟩ (.int .i64 0)) (.cells #[.slice no nl nc,.slice bo bl bc] 68));have bw6:Below w.heap.size w w6:=bw5.trans ⟨hb6.os,hb6.tape,hb6.output,hb6.size,λk hk=>hb6.block k (by omega)⟩;have HD:=aj (hD5.later (w':=w6) (Q':=λk=>w3.heap.size<=k/\k<w5.heap.size) (λj hj hl=>hb6.block j hl) (λk hk _=>hk));have HL:=aj (hL5.later (w':=w6) (Q':=λk=>w3.heap.size<=k/\k<w5.heap.size) (λj hj hl=>hb6.block j hl) (λk hk _=>hk));have hl10:w.heap.size<w6.heap.size:=by omega
 have hl11:¬ w.heap.size=w6.heap.size:=by omega
 have hl12:w4.heap.size<w6.heap.size:=by omega
 have hl13:¬ w4.heap.size=w6.heap.size:=by omega
 have t6c:=tq t6;clear hD5 hL5 o5 hb6 hw5 r4c q4c r4 q4 HNF;go_wp2_with fail;obtain⟨w7,hw7⟩:∃w7,w6.alloc (.cells #[.int .i64 0,.int .i64 nf.2] 105)=w7:=⟨_,rfl⟩;rw[hw7];have z7:w7.heap.size=w6.heap.size+1:=by rw[<-hw7];simp
 have o7:∀j,j<w6.heap.size->w7.heap[j]?=w6.heap[j]?:=λj hl=>by rw[<-hw7];exact av w6 _ j hl
 have bw7:Below w.heap.size w w7:=by rw[<-hw7];exact bw6.alloc (by omega) _
 have hD7:wI w7 (λk=>k<w7.heap.size) (.slice no nl nc) ds:=(aa HD).later (λj hj hl=>o7 j hl) (λk hk hl=>by show k<w7.heap.size;omega);have hL7:dh w7 (λk=>k<w7.heap.size) (.slice bo bl bc) sx:=(aa HL).later (λj hj hl=>o7 j hl) (λk hk hl=>by show k<w7.heap.size;omega);refine(BH w7 (λk=>k<w7.heap.size) (λk hk=>hk) ds sx _ _ hD7 hL7 has.2 hdn (by omega)).mono ?_;rintro e w8 ⟨he,hb8⟩;rw[aa HFF]at he;subst he;have hz8:=hb8.size;have r8:=(hb8.block _ (by omega)).trans ((o7 _ (by omega)).trans r6);have bw8:Below w.heap.size w w8:=bw7.trans ⟨hb8.os,hb8.tape,hb8.output,hb8.size,λk hk=>hb8.block k (by omega)⟩;have hl14:w.heap.size<w8.heap.size:=by omega
 have hl15:¬ w.heap.size=w8.heap.size:=by omega
 obtain⟨⟨c0,c1⟩,f0,f1⟩:=tq r8;clear hD7 hL7 o7 hb8 hw7 t6c t6 r6 HD HL HFF;go_wp2
 go_region
 all_goals go_wp2
 refine aL (v:=.tuple #[qD,.int .i64 ff.1,.int .i64 ff.2]) (by simp[results,Tryz.results34,go_sem,qD,c0,c1,hl14]) rfl ⟨?_,rfl⟩;exact(((bw8.setCell (p:=⟨w.heap.size,0,none⟩) (af _) _).setCell (p:=⟨w.heap.size,1,none⟩) (af _) _).alloc (by simp;omega) _).drew
theorem Qb2 (s:ByteArray) (h:s.size<=300) (l:List aH) (p:Nat) (hx:oN s s.size 0 []=(some l,p)) (n:Nat) (ds:List (aH×Bool)) (sx:Sx) (jj:Nat) (hn:n<=1000) (hr:dV n (l++[aI p])=some (.ok ((ds,sx),jj))) (hfew:(l++[aI p]).length<=1000) (had:∀d∈ds,kD d.1) (has:uR kD sx/\zi sx) (hsz:ds.length+dS sx+2<=100000) (hn0:(lN ds sx).1=0) (hdn:ds.length<=1000) (hne:(uq ds sx).1=0) (w:World):Calls Tryz.prog 34 #[.string s] w λe w'=>Below w.heap.size w w'/\∃nv bv,e=.returned (.tuple #[.agg #[nv,bv],.int .i64 0,.int .i64 0])/\wI w' (λk=>w.heap.size<k/\k<w'.heap.size) nv ds/\dh w' (λk=>w.heap.size<k/\k<w'.heap.size) bv sx:=by
 obtain⟨nf,hnf⟩:∃nf,lN ds sx=nf:=⟨_,rfl⟩;have HNF:=aj hnf;rw[hnf]at hn0;clear hnf;obtain⟨ff,hff⟩:∃ff,uq ds sx=ff:=⟨_,rfl⟩;have HFF:=aj hff;rw[hff]at hne;clear hff;have hW:=rF h hx;go_enter Tryz.func34,Tryz.ntmps34;go_wp2_with fail;obtain⟨w1,hw1⟩:∃w1,w.alloc (.cells #[.slice none 0 0,.slice none 0 0] 68)=w1:=⟨_,rfl⟩;rw[hw1];refine(Mq s h w1).mono ?_;rintro e w2 ⟨hb,ho⟩;rw[hx]at ho;obtain⟨hp,g,c,hg,hc,rfl,htk⟩:p=s.size/\∃g c,(w1.heap.size<=g/\g<w2.heap.size)/\((l++[aI p]).length<=c/\c<=maxLen)/\e=.returned (.tuple #[.slice (some ⟨g,0,none⟩) (l++[aI p]).length c,.agg #[.int .i64 0,.int .i64 0]])/\uH w2 g (l++[aI p]):=ho;obtain⟨T,hTe⟩:∃T,l++[aI p]=T:=⟨_,rfl⟩;rw[hTe]at hr hfew hc htk hW ⊢;have z1:w1.heap.size=w.heap.size+1:=by rw[<-hw1];simp
 have hz:=hb.size;have r1:w2.heap[w.heap.size]?=some (.cells #[.slice none 0 0,.slice none 0 0] 68 (0,0)):=(hb.block _ (by omega)).trans (by rw[<-hw1];exact aA w _);have b0:Below w.heap.size w w1:=by rw[<-hw1];exact(ax _ w).alloc (af _) _
 have bw:Below w.heap.size w w2:=b0.trans ⟨hb.os,hb.tape,hb.output,hb.size,λk hk=>hb.block k (by omega)⟩;have hl1:w.heap.size<w2.heap.size:=by omega
 have HTE:=aj hTe;clear hx hb hw1 hTe hp;go_wp2_with fail;obtain⟨w3,hw3⟩:∃w3,w2.alloc (.cells #[.int .i64 0,.int .i64 0] 105)=w3:=⟨_,rfl⟩;rw[hw3];have z3:w3.heap.size=w2.heap.size+1:=by rw[<-hw3];simp
 have htk3:uH w3 g T:=by
  have hg3:w3.heap[g]?=w2.heap[g]?:=by rw[<-hw3];exact av w2 _ g hg.2
  have f:∀o,w3.cell? ⟨g,o,none⟩=w2.cell? ⟨g,o,none⟩:=λo=>iY hg3;intro j hj;have:=htk j hj;rw[f,f,f,f,f];exact this
 refine(AA w3 g c T hW htk3 (by omega) hfew hc n hn _ hr).mono ?_;rintro e w4 ⟨hb4,no,nl,nc,bo,bl,bc,f,pl,rfl,hout⟩;obtain⟨rfl,rfl,hD,hL⟩:f=0/\pl=0/\wI w4 (λg=>w3.heap.size<=g) (.slice no nl nc) ds/\dh w4 (λg=>w3.heap.size<=g) (.slice bo bl bc) sx:=by
  rcases hout with⟨ds',s',j,hq,h1,h2,h3,h4⟩|⟨y,hq,_⟩
  .cases hq;exact⟨h1,h2,h3,h4⟩
  .cases hq
 have hz4:=hb4.size;have r4:w4.heap[w.heap.size]?=some (.cells #[.slice none 0 0,.slice none 0 0] 68 (0,0)):=(hb4.block _ (by omega)).trans (by rw[<-hw3];exact(av w2 _ _ (by omega)).trans r1);have q4:w4.heap[w2.heap.size]?=some (.cells #[.int .i64 0,.int .i64 0] 105 (0,0)):=(hb4.block _ (by omega)).trans (by rw[<-hw3];exact aA w2 _);have bw4:Below w.heap.size w w4:=by
  have b3:Below w.heap.size w w3:=by rw[<-hw3];exact bw.alloc (by omega) _
  exact b3.trans ⟨hb4.os,hb4.tape,hb4.output,hb4.size,λk hk=>hb4.block k (by omega)⟩
 have r4c:=tq r4;have q4c:=tq q4;have hl4:w.heap.size<w4.heap.size:=by omega
 have hl5:w2.heap.size<w4.heap.size:=by omega
 have hl6:¬ w.heap.size=w2.heap.size:=by omega
 have hl7:¬ w2.heap.size=w.heap.size:=by omega
 have hl8:¬ w.heap.size=w4.heap.size:=by omega
 have hl9:¬ w2.heap.size=w4.heap.size:=by omega
 have HD:=aj hD;have HL:=aj hL;clear hout hb4 hw3 htk htk3 hr r1 bw b0 hD hL;go_wp2_with fail;obtain⟨w5,hw5⟩:∃w5,(((w4.setCell ⟨w2.heap.size,0,none⟩ (.int .i64 0)).setCell ⟨w2.heap.size,1,none⟩ (.int .i64 0)).alloc (.cells #[.slice no nl nc,.slice bo bl bc] 68))=w5:=⟨_,rfl⟩;rw[hw5];have z5:w5.heap.size=w4.heap.size+1:=by rw[<-hw5];simp
 have o5:∀j,j≠w2.heap.size->j<w4.heap.size->w5.heap[j]?=w4.heap[j]?:=λj hj hl=>by
  rw[<-hw5];exact(av _ _ _ (by simp;omega)).trans ((ay _ _ _ _ hj).trans (ay _ _ _ _ hj))
 have bw5:Below w.heap.size w w5:=by
  rw[<-hw5];exact((bw4.setCell (p:=⟨w2.heap.size,0,none⟩) (by simp;omega) _).setCell (p:=⟨w2.heap.size,1,none⟩) (by simp;omega) _).alloc (by simp;omega) _
 have hD5:wI w5 (λk=>w3.heap.size<=k/\k<w5.heap.size) (.slice no nl nc) ds:=(aa HD).later (λj hj hl=>o5 j (by have:w3.heap.size<=j:=hj;omega) hl) (λk hk hl=>⟨hk,by omega⟩);have hL5:dh w5 (λk=>w3.heap.size<=k/\k<w5.heap.size) (.slice bo bl bc) sx:=(aa HL).later (λj hj hl=>o5 j (by have:w3.heap.size<=j:=hj;omega) hl) (λk hk hl=>⟨hk,by omega⟩);refine(vP w5 (λk=>w3.heap.size<=k/\k<w5.heap.size) (λk hk=>hk.2) ds sx _ _ hD5 hL5 had has hsz).mono ?_;rintro e w6 ⟨he,hb6⟩;rw[aa HNF,hn0]at he;subst he;have hz6:=hb6.size;have r6:=(hb6.block _ (by omega)).trans ((o5 _ (by omega) (by omega)).trans r4);have t6:w6.heap[w4.heap.size]?=some (.cells #[.slice no nl nc,.slice bo bl bc] 68 (0,0)):=(hb6.block _ (by omega)).trans (by rw[<-hw5];simpa using aA ((w4.setCell ⟨w2.heap.size,0,none⟩ (.int .i64 0)).setCell ⟨w2.heap.size,1,none⟩ (.int .i64 0)) (.cells #[.slice no nl nc,.slice bo bl bc] 68));have bw6:Below w.heap.size w w6:=bw5.trans ⟨hb6.os,hb6.tape,hb6.output,hb6.size,λk hk=>hb6.block k (by omega)⟩;have HD:=aj (hD5.later (w':=w6) (Q':=λk=>w3.heap.size<=k/\k<w5.heap.size) (λj hj hl=>hb6.block j hl) (λk hk _=>hk));have HL:=aj (hL5.later (w':=w6) (Q':=λk=>w3.heap.size<=k/\k<w5.heap.size) (λj hj hl=>hb6.block j hl) (λk hk _=>hk));have hl10:w.heap.size<w6.heap.size:=by omega
 have hl11:¬ w.heap.size=w6.heap.size:=by omega
 have hl12:w4.heap.size<w6.heap.size:=by omega
 have hl13:¬ w4.heap.size=w6.heap.size:=by omega
 have t6c:=tq t6;clear hD5 hL5 o5 hb6 hw5 r4c q4c r4 q4 HNF;go_wp2_with fail;obtain⟨w7,hw7⟩:∃w7,w6.alloc (.cells #[.int .i64 0,.int .i64 nf.2] 105)=w7:=⟨_,rfl⟩;rw[hw7];have z7:w7.heap.size=w6.heap.size+1:=by rw[<-hw7];simp
 have o7:∀j,j<w6.heap.size->w7.heap[j]?=w6.heap[j]?:=λj hl=>by rw[<-hw7];exact av w6 _ j hl
 have bw7:Below w.heap.size w w7:=by rw[<-hw7];exact bw6.alloc (by omega) _
 have hD7:wI w7 (λk=>w3.heap.size<=k/\k<w7.heap.size) (.slice no nl nc) ds:=(aa HD).later (λj hj hl=>o7 j hl) (λk hk hl=>⟨hk.1,by omega⟩);have hL7:dh w7 (λk=>w3.heap.size<=k/\k<w7.heap.size) (.slice bo bl bc) sx:=(aa HL).later (λj hj hl=>o7 j hl) (λk hk hl=>⟨hk.1,by omega⟩);refine(BH w7 (λk=>w3.heap.size<=k/\k<w7.heap.size) (λk hk=>hk.2) ds sx _ _ hD7 hL7 has.2 hdn (by omega)).mono ?_;rintro e w8 ⟨he,hb8⟩;rw[aa HFF,hne]at he;subst he;have hz8:=hb8.size;have r8:=(hb8.block _ (by omega)).trans ((o7 _ (by omega)).trans r6);have t8:=(hb8.block _ (by omega)).trans ((o7 _ (by omega)).trans t6);have bw8:Below w.heap.size w w8:=bw7.trans ⟨hb8.os,hb8.tape,hb8.output,hb8.size,λk hk=>hb8.block k (by omega)⟩;have fin:∀W:World,w8.heap.size<=W.heap.size->(∀j,j≠w.heap.size->j<w8.heap.size->W.heap[j]?=w8.heap[j]?)->wI W (λk=>w.heap.size<k/\k<W.heap.size) (.slice no nl nc) ds/\dh W (λk=>w.heap.size<k/\k<W.heap.size) (.slice bo bl bc) sx:=λW a b=>
  ⟨hD7.later (λj hj hl=>(b j (by have:=hj.1;omega) (by omega)).trans (hb8.block j hl)) (λk hk hl=>⟨by have:=hk.1;omega,by omega⟩),hL7.later (λj hj hl=>(b j (by have:=hj.1;omega) (by omega)).trans (hb8.block j hl)) (λk hk hl=>⟨by have:=hk.1;omega,by omega⟩)⟩
 have FIN:=aj fin;have hl14:w.heap.size<w8.heap.size:=by omega
 have hl15:¬ w.heap.size=w8.heap.size:=by omega
 have hl16:w4.heap.size<w8.heap.size:=by omega
 have hl17:¬ w4.heap.size=w8.heap.size:=by omega
 obtain⟨⟨c0,c1⟩,f0,f1⟩:=tq r8;have t8c:=tq t8;clear fin hD7 hL7 o7 hb8 hw7 t6c t6 r6 HD HL HFF;go_wp2;refine aL (v:=.tuple #[.agg #[.slice no nl nc,.slice bo bl bc],.int .i64 0,.int .i64 0]) (by simp[results,Tryz.results34,go_sem,c0,c1,hl14]) rfl ⟨?_,_,_,rfl,aa FIN _ (by simp) (λj hj hl=>?_)⟩
 .exact((bw8.setCell (p:=⟨w.heap.size,0,none⟩) (af _) _).setCell (p:=⟨w.heap.size,1,none⟩) (af _) _).alloc (by simp;omega) _
 .exact(av _ _ _ (by simpa using hl)).trans ((ay _ _ _ _ hj).trans (ay _ _ _ _ hj))
end Go.Proofs.YthmmgiaobakilaaGreat
