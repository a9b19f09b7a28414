import Derived.Test.YthmmgiaobakilaaGreatK01
import Derived.Test.YthmmgiaobakilaaGreatK12
import Derived.Deep.RegionHeld3
set_option maxRecDepth 100000
namespace Go.Proofs.YthmmgiaobakilaaGreat
open Go.RowKit Go.Deep
def AllY:Sx→Prop
 | .nil=>True
 | .node _ _ s k r=>szE s.e≤100000∧AllY k∧AllY r
def FStOK (m:Nat):Prop:=∀(s:Sx) (w:World) (cb hc:Nat) (ho:Option Addr) (H:List ByteArray) (F:Flt) (Q:Nat→Prop) (v:Value),szS s < m→FcAt w cb ho hc H F→RepL w Q v s→AllY s→(∀k,Q k→k≠cb)→m≤100000 →
 Calls Tryz.prog 92 #[.pointer (some ⟨cb,0,none⟩),v] w fun e w'=>e = .returned (.tuple #[])∧FcAt w' cb ho hc H (flS H s F)∧Kept cb w w'
set_option maxHeartbeats 32000000 in
theorem fstm_step {m:Nat} (ih:FStOK m):FStOK (m+1):=by
 intro s w cb hc ho H F Q v hsz h hv hall hQ hm
 obtain ⟨ao,c,rfl,rep⟩:=hv.a
 clear hv
 have hszk':m≤100000:=by omega
 have hlen:lenS s≤100000:=by have:=lenS_le s;omega
 go_enter Tryz.func92,Tryz.ntmps92
 go_wp2
 go_loopg [12] (lenS s) (fun q v wr=>∃rest F',v = .int .i64 ((lenS s-q:Nat):Int)∧q≤lenS s∧lenS rest=q∧szS rest≤szS s∧AllY rest∧FcAt wr cb ho hc H F'∧Kept cb w wr∧flS H rest F'=flS H s F∧RepSa wr Q rest ao (lenS s-q))
 case atStart=>exact ⟨s,F,by rw [Nat.sub_self];rfl,Nat.le_refl _,rfl,Nat.le_refl _,hall,h,Kept.refl _ _,rfl,by rw [Nat.sub_self];exact rep⟩
 case round=>
 clear h rep
 obtain ⟨rest,F',rfl,hq,hlr,hsr,har,hnc,kw,hfold,hrep⟩:=hrel
 cases rest with
 | nil=>
  have hq0:gk=0:=by rw [←hlr];rfl
  subst hq0
  have hge:decide (((lenS s-0:Nat):Int) < (lenS s:Int))=false:=by simp
  have hf:F'=flS H s F:=hfold
  subst hf
  clear hfold
  go_wp2
  go_end0
  exact ⟨rfl,hnc,kw⟩
 | node b1 o1 p k r1=>
 have hl1:lenS r1+1=gk:=hlr
 obtain ⟨d,hd⟩:∃d,d+gk=lenS s:=⟨lenS s-gk,by omega⟩
 have hnd:lenS s-gk=d:=by omega
 rw [hnd] at hrep ⊢
 have hlt:decide ((d:Int) < (lenS s:Int))=true:=by simp;omega
 rcases hrep with hnl | ⟨g,rfl,hg,hrf⟩
 ·cases hnl
 rw [RepS_node] at hrf
 obtain ⟨⟨v,hcell,hrp⟩,hrest⟩:=hrf
 obtain ⟨hsze,hak,harz⟩:=har
 have hszk:szS k+szS r1+1≤szS s:=hsr
 have hgw:g < wr.heap.size:=World.block_lt_of_cell? _ _ hcell
 have hgcb:=hQ g hg
 have nextF:∀(w3:World) (τ:Flt),FcAt w3 cb ho hc H τ→Kept cb wr w3→flS H s F=flS H r1 τ→∃rest F'',Value.int .i64 ((d:Int)+1) = .int .i64 ((lenS s-lenS r1:Nat):Int)∧lenS r1≤lenS s∧lenS rest=lenS r1∧szS rest≤szS s∧AllY rest∧FcAt w3 cb ho hc H F''∧Kept cb w w3∧flS H rest F''=flS H s F∧RepSa w3 Q rest (some ⟨g,0,none⟩) (lenS s-lenS r1):=fun w3 τ h3 k3 e3=>by
  refine ⟨r1,τ,by congr 1;omega,by omega,rfl,by omega,harz,h3,kw.trans k3,e3.symm,.inr ⟨g,rfl,hg,?_⟩⟩
  rw [show lenS s-lenS r1=d+1 by omega]
  exact RepS.later (fun j hj hl=>k3.2 j hl (hQ j hj)) (fun j hj _=>hj) r1 g (d+1) hg hrest
 have NX:=hide nextF
 have hfold0:p.tag=0→flS H r1 (ldF H p.t p.e (wdT p.t H) F')=flS H s F:=fun ht=>by rw [flS_0 ht] at hfold;exact hfold
 have hfold3:(p.tag=3∨p.tag=4)→flS H r1 (ldF H p.t p.e (wdT p.t [sHIDE]) F')=flS H s F:=fun ht=>by rw [flS_3 ht] at hfold;exact hfold
 have hfold2:p.tag=2→flS H r1 (flS H k F')=flS H s F:=fun ht=>by rw [flS_2 ht] at hfold;exact hfold
 have HF:=hide hfold
 clear nextF hrest hfold harz
 rcases hrp with ⟨ht0,x,k1,sv,hhead,rfl,hkx⟩ | ⟨ht0,x,k1,sv,a1,b2,hhead,rfl,hkx,hkids⟩ | ⟨ht0,a1,rfl,hkids⟩ | ⟨ht0,x,k1,sv,hhead,rfl,hkx⟩
 ·obtain ⟨so1,sc1,rfl⟩:=RepK.form hkx
  have HVE:=hide (show RepV wr Q (exV x (.slice so1 (lenE k1) sc1)) p.e by obtain ⟨b,o,r,he⟩:=hhead;exact ⟨b,o,x,k1,r,_,he,rfl,hkx⟩)
  unfold asgV at hcell
  have ta0:=ta_Assign_Assign
  clear hkx hhead
  obtain ⟨w1,hw1⟩:∃w1,wr.alloc (.cells #[.int .i64 (kP p.t),.int .i64 p.t.place,.string (wP p.t),.int .i32 (nP p.t),.int .i32 (sP p.t),.int .i64 (kP x),.int .i64 x.place,.string (wP x),.int .i32 (nP x),.int .i32 (sP x),.slice so1 (lenE k1) sc1] 121)=w1:=⟨_,rfl⟩
  have s1:w1.heap[wr.heap.size]?=some (.cells #[.int .i64 (kP p.t),.int .i64 p.t.place,.string (wP p.t),.int .i32 (nP p.t),.int .i32 (sP p.t),.int .i64 (kP x),.int .i64 x.place,.string (wP x),.int .i32 (nP x),.int .i32 (sP x),.slice so1 (lenE k1) sc1] 121 (0,0)):=by rw [←hw1];exact heap_alloc_new wr _
  have h1:FcAt w1 cb ho hc H F':=by rw [←hw1];exact hnc.later (fun j hj=>Below.heap_alloc wr _ j hj)
  have k1':Kept cb wr w1:=by rw [←hw1];exact Kept.alloc cb wr _
  have lt1:wr.heap.size < w1.heap.size:=(Array.getElem?_eq_some_iff.1 s1).1
  have d1:=(bk11 s1).1
  have c1:=(bk3 h1.blk).1
  have hc1:=hnc.lt
  have onw:∀w2,Below w1.heap.size w1 w2→FcAt w2 cb ho hc H F'∧w2.heap[wr.heap.size]?=some (.cells #[.int .i64 (kP p.t),.int .i64 p.t.place,.string (wP p.t),.int .i32 (nP p.t),.int .i32 (sP p.t),.int .i64 (kP x),.int .i64 x.place,.string (wP x),.int .i32 (nP x),.int .i32 (sP x),.slice so1 (lenE k1) sc1] 121 (0,0))∧Kept cb wr w2∧RepV w2 Q (exV x (.slice so1 (lenE k1) sc1)) p.e∧wr.heap.size < w2.heap.size:=fun w2 B2=>
   ⟨h1.below B2,(B2.block _ lt1).trans s1,k1'.trans (Kept.below B2),RepV.later (fun j hj hl=>(B2.block j (by have:=k1'.1;omega)).trans (k1'.2 j hl (hQ j hj))) (fun j hj _=>hj) (unhide HVE),by have:=B2.size;omega⟩
  have ONW:=hide onw
  clear onw
  go_wp2
  clear hw1
  go_region_held3 (fun w'=>w'.cell? ⟨wr.heap.size,0,none⟩=some (.int .i64 (kP p.t))∧w'.cell? ⟨wr.heap.size,1,none⟩=some (.int .i64 p.t.place)∧w'.cell? ⟨wr.heap.size,2,none⟩=some (.string (wP p.t))∧w'.cell? ⟨wr.heap.size,3,none⟩=some (.int .i32 (nP p.t))∧w'.cell? ⟨wr.heap.size,4,none⟩=some (.int .i32 (sP p.t))∧w'.cell? ⟨wr.heap.size,5,none⟩=some (.int .i64 (kP x))∧w'.cell? ⟨wr.heap.size,6,none⟩=some (.int .i64 x.place)∧w'.cell? ⟨wr.heap.size,7,none⟩=some (.string (wP x))∧w'.cell? ⟨wr.heap.size,8,none⟩=some (.int .i32 (nP x))∧w'.cell? ⟨wr.heap.size,9,none⟩=some (.int .i32 (sP x))∧w'.cell? ⟨wr.heap.size,10,none⟩=some (.slice so1 (lenE k1) sc1)∧w'.cell? ⟨cb,0,none⟩=some (.slice ho H.length hc)) (go_keep)
   (first
   | (go_at_call 86;refine (isWord_gen _ p.t ho hc H ?_ h1.few).mono ?_;exact h1.strs.later (fun _ _ _ _ _=>rfl);rintro e w2 ⟨rfl,b2⟩;have fx:=unhide ONW w2 (Below.trans (b:=w1.drew) ((Below.refl _ w1).drew) b2);obtain ⟨h2,s2,K2,v2,l2⟩:=fx;have d2:=(bk11 s2).1;have c2:=(bk3 h2.blk).1)
   | (go_at_call 120;refine (flead_any 100000 (Nat.le_refl _) p.e w2 cb hc ho H F' Q p.t x k1 so1 sc1 (wdT p.t H) hsze h2 v2 hQ).mono ?_;rintro e w3 ⟨rfl,h3,k3⟩;have fin3:=unhide NX w3 _ h3 (K2.trans k3) (hfold0 ht0).symm;have s3:=(k3.2 _ l2 (by omega)).trans s2;have d3:=(bk11 s3).1;have c3:=(bk3 h3.blk).1))
  all_goals clear h1 k1' s1 d1 c1
  all_goals
   go_wp2
   go_roundg (lenS r1)
   case rel=>exact fin3
   case measure=>omega
 ·obtain ⟨so1,sc1,rfl⟩:=RepK.form hkx
  have HVE:=hide (show RepV wr Q (exV x (.slice so1 (lenE k1) sc1)) p.e by obtain ⟨b,o,r,he⟩:=hhead;exact ⟨b,o,x,k1,r,_,he,rfl,hkx⟩)
  unfold ifV at hcell
  have ta0:=ta_If_Assign
  have ta1:=ta_If_If
  clear hkx hhead
  cases k with
  | nil=>exact hkids.elim
  | node b3 o3 p3 s1' u1'=>
  obtain ⟨ao1,ac1,e1⟩:=RepL.form hkids.1
  obtain ⟨bo1,bc1,e2⟩:=RepL.form hkids.2
  obtain ⟨al1,hal1⟩:∃al1,lenS s1'=al1:=⟨_,rfl⟩
  obtain ⟨bl1,hbl1⟩:∃bl1,lenS u1'=bl1:=⟨_,rfl⟩
  rw [hal1] at e1
  rw [hbl1] at e2
  subst e1
  subst e2
  clear hal1 hbl1
  have has1:AllY s1':=hak.2.1
  have hau1:AllY u1':=hak.2.2
  have hszk2:szS (.node b3 o3 p3 s1' u1')=szS s1'+szS u1'+1:=rfl
  have hfold1:p.tag=1→flS H r1 (flS H u1' (flS H s1' (ldF H p.t p.e false F')))=flS H s F:=fun ht=>by have hfold:=unhide HF;rw [flS_1 ht] at hfold;exact hfold
  obtain ⟨w1,hw1⟩:∃w1,wr.alloc (.cells #[.int .i64 (kP p.t),.int .i64 p.t.place,.string (wP p.t),.int .i32 (nP p.t),.int .i32 (sP p.t),.int .i64 (kP x),.int .i64 x.place,.string (wP x),.int .i32 (nP x),.int .i32 (sP x),.slice so1 (lenE k1) sc1,.slice ao1 al1 ac1,.slice bo1 bl1 bc1] 124)=w1:=⟨_,rfl⟩
  have s1:w1.heap[wr.heap.size]?=some (.cells #[.int .i64 (kP p.t),.int .i64 p.t.place,.string (wP p.t),.int .i32 (nP p.t),.int .i32 (sP p.t),.int .i64 (kP x),.int .i64 x.place,.string (wP x),.int .i32 (nP x),.int .i32 (sP x),.slice so1 (lenE k1) sc1,.slice ao1 al1 ac1,.slice bo1 bl1 bc1] 124 (0,0)):=by rw [←hw1];exact heap_alloc_new wr _
  have h1:FcAt w1 cb ho hc H F':=by rw [←hw1];exact hnc.later (fun j hj=>Below.heap_alloc wr _ j hj)
  have k1':Kept cb wr w1:=by rw [←hw1];exact Kept.alloc cb wr _
  have lt1:wr.heap.size < w1.heap.size:=(Array.getElem?_eq_some_iff.1 s1).1
  have d1:=(bk13 s1).1
  have c1:=(bk3 h1.blk).1
  have hc1:=hnc.lt
  go_wp2_with fail
  clear hw1
  refine (flead_any 100000 (Nat.le_refl _) p.e w1 cb hc ho H F' Q p.t x k1 so1 sc1 false hsze h1 (RepV.later (fun j hj hl=>k1'.2 j hl (hQ j hj)) (fun j hj _=>hj) (unhide HVE)) hQ).mono ?_
  rintro e w2 ⟨rfl,h2,k2⟩
  have s2:=(k2.2 _ lt1 (by omega)).trans s1
  have d2:=(bk13 s2).1
  have K2:=k1'.trans k2
  have l2:=k2.1
  clear h1 k1' s1 d1 c1 k2
  go_wp2_with fail
  refine (ih s1' w2 cb hc ho H (ldF H p.t p.e false F') Q (.slice ao1 al1 ac1) (by omega) h2 (RepL.later (fun j hj hl=>K2.2 j hl (hQ j hj)) (fun j hj _=>hj) hkids.1) has1 hQ hszk').mono ?_
  rintro e w3 ⟨rfl,h3,k3⟩
  have s3:=(k3.2 _ (by omega) (by omega)).trans s2
  have d3:=(bk13 s3).1
  have K3:=K2.trans k3
  have l3:=k3.1
  clear h2 K2 s2 d2 k3
  go_wp2_with fail
  refine (ih u1' w3 cb hc ho H (flS H s1' (ldF H p.t p.e false F')) Q (.slice bo1 bl1 bc1) (by omega) h3 (RepL.later (fun j hj hl=>K3.2 j hl (hQ j hj)) (fun j hj _=>hj) hkids.2) hau1 hQ hszk').mono ?_
  rintro e w4 ⟨rfl,h4,k4⟩
  have fin3:=unhide NX w4 _ h4 (K3.trans k4) (hfold1 ht0).symm
  clear h3 h4 K3 k4 s3 d3
  go_wp2
  go_roundg (lenS r1)
  case rel=>exact fin3
  case measure=>omega
 ·obtain ⟨ao1,ac1,e1⟩:=RepL.form hkids
  obtain ⟨al1,hal1⟩:∃al1,lenS k=al1:=⟨_,rfl⟩
  rw [hal1] at e1
  subst e1
  clear hal1
  unfold forV at hcell
  have ta0:=ta_For_Assign
  have ta1:=ta_For_If
  have ta2:=ta_For_For
  obtain ⟨w1,hw1⟩:∃w1,wr.alloc (.cells #[.int .i64 (kP p.t),.int .i64 p.t.place,.string (wP p.t),.int .i32 (nP p.t),.int .i32 (sP p.t),.int .i64 (kP p.a),.int .i64 p.a.place,.string (wP p.a),.int .i32 (nP p.a),.int .i32 (sP p.a),.int .i64 (kP p.b),.int .i64 p.b.place,.string (wP p.b),.int .i32 (nP p.b),.int .i32 (sP p.b),.slice ao1 al1 ac1] 127)=w1:=⟨_,rfl⟩
  have s1:w1.heap[wr.heap.size]?=some (.cells #[.int .i64 (kP p.t),.int .i64 p.t.place,.string (wP p.t),.int .i32 (nP p.t),.int .i32 (sP p.t),.int .i64 (kP p.a),.int .i64 p.a.place,.string (wP p.a),.int .i32 (nP p.a),.int .i32 (sP p.a),.int .i64 (kP p.b),.int .i64 p.b.place,.string (wP p.b),.int .i32 (nP p.b),.int .i32 (sP p.b),.slice ao1 al1 ac1] 127 (0,0)):=by rw [←hw1];exact heap_alloc_new wr _
  have h1:FcAt w1 cb ho hc H F':=by rw [←hw1];exact hnc.later (fun j hj=>Below.heap_alloc wr _ j hj)
  have k1':Kept cb wr w1:=by rw [←hw1];exact Kept.alloc cb wr _
  have lt1:wr.heap.size < w1.heap.size:=(Array.getElem?_eq_some_iff.1 s1).1
  have d1:=(bk16 s1).1
  have c1:=(bk3 h1.blk).1
  have hc1:=hnc.lt
  go_wp2_with fail
  clear hw1
  refine (ih k w1 cb hc ho H F' Q (.slice ao1 al1 ac1) (by omega) h1 (RepL.later (fun j hj hl=>k1'.2 j hl (hQ j hj)) (fun j hj _=>hj) hkids) hak hQ hszk').mono ?_
  rintro e w3 ⟨rfl,h3,k3⟩
  have fin3:=unhide NX w3 _ h3 (k1'.trans k3) (hfold2 ht0).symm
  clear h1 h3 k1' k3 s1 d1 c1
  go_wp2
  go_roundg (lenS r1)
  case rel=>exact fin3
  case measure=>omega
 ·obtain ⟨so1,sc1,rfl⟩:=RepK.form hkx
  have HVE:=hide (show RepV wr Q (exV x (.slice so1 (lenE k1) sc1)) p.e by obtain ⟨b,o,r,he⟩:=hhead;exact ⟨b,o,x,k1,r,_,he,rfl,hkx⟩)
  unfold putV at hcell
  have ta0:=ta_Put_Assign
  have ta1:=ta_Put_If
  have ta2:=ta_Put_For
  have ta3:=ta_Put_Put
  clear hkx hhead
  obtain ⟨w1,hw1⟩:∃w1,wr.alloc (.cells #[.int .i64 (kP p.t),.int .i64 p.t.place,.string (wP p.t),.int .i32 (nP p.t),.int .i32 (sP p.t),.int .i64 (kP x),.int .i64 x.place,.string (wP x),.int .i32 (nP x),.int .i32 (sP x),.slice so1 (lenE k1) sc1] 130)=w1:=⟨_,rfl⟩
  have s1:w1.heap[wr.heap.size]?=some (.cells #[.int .i64 (kP p.t),.int .i64 p.t.place,.string (wP p.t),.int .i32 (nP p.t),.int .i32 (sP p.t),.int .i64 (kP x),.int .i64 x.place,.string (wP x),.int .i32 (nP x),.int .i32 (sP x),.slice so1 (lenE k1) sc1] 130 (0,0)):=by rw [←hw1];exact heap_alloc_new wr _
  have h1:FcAt w1 cb ho hc H F':=by rw [←hw1];exact hnc.later (fun j hj=>Below.heap_alloc wr _ j hj)
  have k1':Kept cb wr w1:=by rw [←hw1];exact Kept.alloc cb wr _
  have lt1:wr.heap.size < w1.heap.size:=(Array.getElem?_eq_some_iff.1 s1).1
  have d1:=(bk11 s1).1
  have c1:=(bk3 h1.blk).1
  have hc1:=hnc.lt
  have onw:∀w2,Below w1.heap.size w1 w2→FcAt w2 cb ho hc H F'∧w2.heap[wr.heap.size]?=some (.cells #[.int .i64 (kP p.t),.int .i64 p.t.place,.string (wP p.t),.int .i32 (nP p.t),.int .i32 (sP p.t),.int .i64 (kP x),.int .i64 x.place,.string (wP x),.int .i32 (nP x),.int .i32 (sP x),.slice so1 (lenE k1) sc1] 130 (0,0))∧Kept cb wr w2∧RepV w2 Q (exV x (.slice so1 (lenE k1) sc1)) p.e∧wr.heap.size < w2.heap.size:=fun w2 B2=>
   ⟨h1.below B2,(B2.block _ lt1).trans s1,k1'.trans (Kept.below B2),RepV.later (fun j hj hl=>(B2.block j (by have:=k1'.1;omega)).trans (k1'.2 j hl (hQ j hj))) (fun j hj _=>hj) (unhide HVE),by have:=B2.size;omega⟩
  have ONW:=hide onw
  clear onw
  have ltn:wr.heap.size≠w1.heap.size:=by omega
  go_wp2
  clear hw1
  go_region_held3 (fun w'=>w'.cell? ⟨wr.heap.size,0,none⟩=some (.int .i64 (kP p.t))∧w'.cell? ⟨wr.heap.size,1,none⟩=some (.int .i64 p.t.place)∧w'.cell? ⟨wr.heap.size,2,none⟩=some (.string (wP p.t))∧w'.cell? ⟨wr.heap.size,3,none⟩=some (.int .i32 (nP p.t))∧w'.cell? ⟨wr.heap.size,4,none⟩=some (.int .i32 (sP p.t))∧w'.cell? ⟨wr.heap.size,5,none⟩=some (.int .i64 (kP x))∧w'.cell? ⟨wr.heap.size,6,none⟩=some (.int .i64 x.place)∧w'.cell? ⟨wr.heap.size,7,none⟩=some (.string (wP x))∧w'.cell? ⟨wr.heap.size,8,none⟩=some (.int .i32 (nP x))∧w'.cell? ⟨wr.heap.size,9,none⟩=some (.int .i32 (sP x))∧w'.cell? ⟨wr.heap.size,10,none⟩=some (.slice so1 (lenE k1) sc1)) (go_keep)
   (first
   | (go_at_call 86;refine (isWord_gen _ p.t (some ⟨w1.heap.size,0,none⟩) 1 [sHIDE] ?_ (by simp)).mono ?_;exact strs_A w1 [sHIDE];rintro e w2 ⟨rfl,b2⟩;have fx:=unhide ONW w2 (((Below.refl _ w1).alloc (Nat.le_refl _) _).drew.trans (b2.mono (by simp)));obtain ⟨h2,s2,K2,v2,l2⟩:=fx;have d2:=(bk11 s2).1;have c2:=(bk3 h2.blk).1)
   | (go_at_call 120;refine (flead_any 100000 (Nat.le_refl _) p.e w2 cb hc ho H F' Q p.t x k1 so1 sc1 (wdT p.t [sHIDE]) hsze h2 v2 hQ).mono ?_;rintro e w3 ⟨rfl,h3,k3⟩;have fin3:=unhide NX w3 _ h3 (K2.trans k3) (hfold3 ht0).symm;have s3:=(k3.2 _ l2 (by omega)).trans s2;have d3:=(bk11 s3).1;have c3:=(bk3 h3.blk).1))
  all_goals clear h1 k1' s1 d1 c1
  all_goals
   go_wp2
   go_roundg (lenS r1)
   case rel=>exact fin3
   case measure=>omega
theorem fstm_all:∀m,FStOK m
 | 0=>fun _ _ _ _ _ _ _ _ _ hsz _ _ _ _ _=>absurd hsz (Nat.not_lt_zero _)
 | m+1=>fstm_step (fstm_all m)
end Go.Proofs.YthmmgiaobakilaaGreat
