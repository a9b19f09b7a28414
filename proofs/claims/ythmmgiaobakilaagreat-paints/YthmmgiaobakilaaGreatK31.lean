import Derived.Test.YthmmgiaobakilaaGreatK01
import Derived.Test.YthmmgiaobakilaaGreatK12
set_option maxRecDepth 100000
namespace Go.Proofs.YthmmgiaobakilaaGreat
open Go.RowKit Go.Deep
def NSOut (w:World) (cb mb n m:Nat) (τ:NSt) (e:Ending) (w':World):Prop:=e = .returned (.tuple #[])∧∃n',n'≤n+m∧NcAt w' cb mb n' τ.1 τ.2∧Kept2 cb mb w w'
set_option maxHeartbeats 16000000 in
theorem nloop_any {k:Sx} {Q:Nat→Prop} {so:Option Addr} {sl sc:Nat} (cb mb:Nat) (hbody:∀(w:World) (n:Nat) (σ:NSt),NcAt w cb mb n σ.1 σ.2→RepL w Q (.slice so sl sc) k→n+szS k≤100000→Calls Tryz.prog 91 #[.pointer (some ⟨cb,0,none⟩),.slice so sl sc] w (NSOut w cb mb n (szS k) (nxS k σ)))
  (w:World) (n:Nat) (R:ByteArray→Int) (F:Flt) (t x y:Tok) (h:NcAt w cb mb n R F) (hrep:RepL w Q (.slice so sl sc) k) (ht:TokB t) (hQ:∀j,Q j→j≠cb∧j≠mb) (hn:n+szS k+1≤100000) :
  Calls Tryz.prog 119 #[.pointer (some ⟨cb,0,none⟩),.agg #[.int .i64 (kP t),.int .i64 t.place,.string (wP t),.int .i32 (nP t),.int .i32 (sP t),.int .i64 (kP x),.int .i64 x.place,.string (wP x),.int .i32 (nP x),.int .i32 (sP x),.int .i64 (kP y),.int .i64 y.place,.string (wP y),.int .i32 (nP y),.int .i32 (sP y),.slice so sl sc]] w (NSOut w cb mb n (szS k+1) ((fun τ:NSt=>(updR τ.1 (wP t) 0,τ.2)) (nxS k (nxN x y (nbr (R,F) t 2))))):=by
 have hlt:=h.lt
 have hmt:=h.map.lt
 have htz:=ht.1
 obtain ⟨w1,hw1⟩:∃w1,w.alloc (.cells #[.int .i64 (kP t),.int .i64 t.place,.string (wP t),.int .i32 (nP t),.int .i32 (sP t),.int .i64 (kP x),.int .i64 x.place,.string (wP x),.int .i32 (nP x),.int .i32 (sP x),.int .i64 (kP y),.int .i64 y.place,.string (wP y),.int .i32 (nP y),.int .i32 (sP y),.slice so sl sc] 127)=w1:=⟨_,rfl⟩
 have s1:w1.heap[w.heap.size]?=some (.cells #[.int .i64 (kP t),.int .i64 t.place,.string (wP t),.int .i32 (nP t),.int .i32 (sP t),.int .i64 (kP x),.int .i64 x.place,.string (wP x),.int .i32 (nP x),.int .i32 (sP x),.int .i64 (kP y),.int .i64 y.place,.string (wP y),.int .i32 (nP y),.int .i32 (sP y),.slice so sl sc] 127 (0,0)):=by rw [←hw1];exact heap_alloc_new w _
 have h1:NcAt w1 cb mb n R F:=by rw [←hw1];exact h.later (Below.heap_alloc w _ _ hlt) (Below.heap_alloc w _ _ hmt)
 have k1:Kept2 cb mb w w1:=by rw [←hw1];exact (Kept.alloc cb w _).two mb
 have lt1:w.heap.size < w1.heap.size:=(Array.getElem?_eq_some_iff.1 s1).1
 clear h
 have d1:=(bk16 s1).1
 go_enter Tryz.func119,Tryz.ntmps119
 go_wp2_with fail
 clear hw1
 refine (nbring_any w1 cb mb n R F t 2 (.inr rfl) h1 ht (by omega)).mono ?_
 rintro e w2 ⟨rfl,h2,k2⟩
 have s2:=(k2.2 _ lt1 (by omega) (by omega)).trans s1
 have d2:=(bk16 s2).1
 have c2:=(bk3 h2.blk).1
 have K2:=k1.trans k2
 have lt2:=k2.1
 have onn:∀(w3:World) (F3:Flt),NcAt w3 cb mb (n+1) (nbr (R,F) t 2).1 F3→(⟨(nbr (R,F) t 2).1,F3⟩:NSt)=nxN x y (nbr (R,F) t 2)→Kept cb w2.drew w3→NcAt w3 cb mb (n+1) (nxN x y (nbr (R,F) t 2)).1 (nxN x y (nbr (R,F) t 2)).2∧Kept2 cb mb w w3∧w3.heap[w.heap.size]?=some (.cells #[.int .i64 (kP t),.int .i64 t.place,.string (wP t),.int .i32 (nP t),.int .i32 (sP t),.int .i64 (kP x),.int .i64 x.place,.string (wP x),.int .i32 (nP x),.int .i32 (sP x),.int .i64 (kP y),.int .i64 y.place,.string (wP y),.int .i32 (nP y),.int .i32 (sP y),.slice so sl sc] 127 (0,0))∧w.heap.size < w3.heap.size:=fun w3 F3 a1 a2 a3=>by
  have l3:=a3.1
  exact ⟨by rw [←a2];exact a1,K2.trans (Kept.two (a:=w2) a3.undrew mb),(a3.2 _ (by show _ < w2.heap.size;omega) (by omega)).trans s2,by have:w2.heap.size≤w3.heap.size:=l3;omega⟩
 have ONN:=hide onn
 clear h1 s1 d1 k1 k2 onn
 by_cases hb1:nP y < nP x
 ·have e3:(⟨(nbr (R,F) t 2).1,noteF (nbr (R,F) t 2).2 10 x.place⟩:NSt)=nxN x y (nbr (R,F) t 2):=by unfold nxN;simp [hb1]
  go_wp2
  first | (go_region_with (go_at_call 117;refine (nnote_any _ cb mb (n+1) (nbr (R,F) t 2).1 (nbr (R,F) t 2).2 10 x.place ?_).mono ?_;exact h2.later rfl rfl;rintro e w3 ⟨rfl,h3',k3'⟩;have fx:=unhide ONN w3 _ h3' e3 k3';obtain ⟨h3,K3,s3,lt3⟩:=fx;have d3:=(bk16 s3).1)) | fail
  all_goals clear ONN
  all_goals go_wp2_with fail
  all_goals
   refine (hbody _ (n+1) (nxN x y (nbr (R,F) t 2)) h3 ?_ ?_).mono ?_
   ·exact RepL.later (fun j hj hl=>K3.2 j hl (hQ j hj).1 (hQ j hj).2) (fun j hj _=>hj) hrep
   ·omega
   rintro e w4 ⟨rfl,n4,hn4,h4,k4⟩
   have s4:=(k4.2 _ (by omega) (by omega) (by omega)).trans s3
   have d4:=(bk16 s4).1
   have c4:=(bk3 h4.blk).1
   have lt4:=k4.1
   obtain ⟨w5,hrun,hmap,hturn⟩:=(h4.later (w':=w4.drew) rfl rfl).map.drop Tryz.underlying156 (s:=wP t) (by unfold maxLen;omega) 0
   have H5:=hide (NcAt.stored (w:=w4.drew) (h4.later rfl rfl) hturn hmap)
   have K5:=hide ((K3.trans k4).trans (Kept2.trans (b:=w4.drew) ⟨Nat.le_refl _,fun _ _ _ _=>rfl,⟨rfl,rfl,rfl⟩⟩ (Kept2.turned hturn)))
   clear h3 K3 s3 h4 k4 hmap hturn
   go_wp2
   go_region
   go_end0
   exact ⟨rfl,n4,by omega,unhide H5,unhide K5⟩
 ·by_cases hb2:20 < nP y
  ·have e3:(⟨(nbr (R,F) t 2).1,noteF (nbr (R,F) t 2).2 10 x.place⟩:NSt)=nxN x y (nbr (R,F) t 2):=by unfold nxN;simp [hb2]
   go_wp2
   first | (go_region_with (go_at_call 117;refine (nnote_any _ cb mb (n+1) (nbr (R,F) t 2).1 (nbr (R,F) t 2).2 10 x.place ?_).mono ?_;exact h2.later rfl rfl;rintro e w3 ⟨rfl,h3',k3'⟩;have fx:=unhide ONN w3 _ h3' e3 k3';obtain ⟨h3,K3,s3,lt3⟩:=fx;have d3:=(bk16 s3).1)) | fail
   all_goals clear ONN
   all_goals go_wp2_with fail
   all_goals
    refine (hbody _ (n+1) (nxN x y (nbr (R,F) t 2)) h3 ?_ ?_).mono ?_
    ·exact RepL.later (fun j hj hl=>K3.2 j hl (hQ j hj).1 (hQ j hj).2) (fun j hj _=>hj) hrep
    ·omega
    rintro e w4 ⟨rfl,n4,hn4,h4,k4⟩
    have s4:=(k4.2 _ (by omega) (by omega) (by omega)).trans s3
    have d4:=(bk16 s4).1
    have c4:=(bk3 h4.blk).1
    have lt4:=k4.1
    obtain ⟨w5,hrun,hmap,hturn⟩:=(h4.later (w':=w4.drew) rfl rfl).map.drop Tryz.underlying156 (s:=wP t) (by unfold maxLen;omega) 0
    have H5:=hide (NcAt.stored (w:=w4.drew) (h4.later rfl rfl) hturn hmap)
    have K5:=hide ((K3.trans k4).trans (Kept2.trans (b:=w4.drew) ⟨Nat.le_refl _,fun _ _ _ _=>rfl,⟨rfl,rfl,rfl⟩⟩ (Kept2.turned hturn)))
    clear h3 K3 s3 h4 k4 hmap hturn
    go_wp2
    go_region
    go_end0
    exact ⟨rfl,n4,by omega,unhide H5,unhide K5⟩
  ·have e3:(⟨(nbr (R,F) t 2).1,(nbr (R,F) t 2).2⟩:NSt)=nxN x y (nbr (R,F) t 2):=by unfold nxN;simp [hb1,hb2]
   obtain ⟨h3,K3,s3,lt3⟩:=unhide ONN w2 _ h2 e3 ⟨Nat.le_refl _,fun _ _ _=>rfl,⟨rfl,rfl,rfl⟩⟩
   all_goals clear ONN
   all_goals go_wp2_with fail
   all_goals
    refine (hbody _ (n+1) (nxN x y (nbr (R,F) t 2)) h3 ?_ ?_).mono ?_
    ·exact RepL.later (fun j hj hl=>K3.2 j hl (hQ j hj).1 (hQ j hj).2) (fun j hj _=>hj) hrep
    ·omega
    rintro e w4 ⟨rfl,n4,hn4,h4,k4⟩
    have s4:=(k4.2 _ (by omega) (by omega) (by omega)).trans s3
    have d4:=(bk16 s4).1
    have c4:=(bk3 h4.blk).1
    have lt4:=k4.1
    obtain ⟨w5,hrun,hmap,hturn⟩:=(h4.later (w':=w4.drew) rfl rfl).map.drop Tryz.underlying156 (s:=wP t) (by unfold maxLen;omega) 0
    have H5:=hide (NcAt.stored (w:=w4.drew) (h4.later rfl rfl) hturn hmap)
    have K5:=hide ((K3.trans k4).trans (Kept2.trans (b:=w4.drew) ⟨Nat.le_refl _,fun _ _ _ _=>rfl,⟨rfl,rfl,rfl⟩⟩ (Kept2.turned hturn)))
    clear h3 K3 s3 h4 k4 hmap hturn
    go_wp2
    go_region
    go_end0
    exact ⟨rfl,n4,by omega,unhide H5,unhide K5⟩
theorem nexpr_all:∀m,m≤100000→NExOK m
 | 0,_=>fun e w cb mb n R F Q v hsz h hv hall hQ=>by
  obtain ⟨b,o,t,k,r,sv,rfl,rfl,hk⟩:=hv
  simp [szE] at hsz
 | m+1,hm=>nexpr_step (by omega) (nexpr_all m (by omega))
def AllZ:Sx→Prop
 | .nil=>True
 | .node _ _ s k r=>szE s.e≤100000∧AllZ k∧AllZ r
def NStOK (m:Nat):Prop:=∀(s:Sx) (w:World) (cb mb n:Nat) (σ:NSt) (Q:Nat→Prop) (v:Value),szS s < m→NcAt w cb mb n σ.1 σ.2→RepL w Q v s→AllS TokB s∧AllZ s→(∀k,Q k→k≠cb∧k≠mb)→n+szS s≤100000 →
 Calls Tryz.prog 91 #[.pointer (some ⟨cb,0,none⟩),v] w (NSOut w cb mb n (szS s) (nxS s σ))
set_option maxHeartbeats 32000000 in
theorem nstm_step {m:Nat} (ih:NStOK m):NStOK (m+1):=by
 intro s w cb mb n σ Q v hsz h hv hall hQ hn
 obtain ⟨ao,c,rfl,rep⟩:=hv.a
 clear hv
 have hlen:lenS s≤100000:=by have:=lenS_le s;omega
 go_enter Tryz.func91,Tryz.ntmps91
 go_wp2
 go_loopg [12] (lenS s) (fun q v wr=>∃rest σ' n',v = .int .i64 ((lenS s-q:Nat):Int)∧q≤lenS s∧lenS rest=q∧szS rest≤szS s∧(AllS TokB rest∧AllZ rest)∧NcAt wr cb mb n' σ'.1 σ'.2∧n'+szS rest≤n+szS s∧Kept2 cb mb w wr∧nxS rest σ'=nxS s σ∧RepSa wr Q rest ao (lenS s-q))
 case atStart=>exact ⟨s,σ,n,by rw [Nat.sub_self];rfl,Nat.le_refl _,rfl,Nat.le_refl _,hall,h,Nat.le_refl _,Kept2.refl _ _ _,rfl,by rw [Nat.sub_self];exact rep⟩
 case round=>
 clear h rep
 obtain ⟨rest,σ',n',rfl,hq,hlr,hsr,har,hnc,hnn,kw,hfold,hrep⟩:=hrel
 cases rest with
 | nil=>
  have hq0:gk=0:=by rw [←hlr];rfl
  subst hq0
  have hge:decide (((lenS s-0:Nat):Int) < (lenS s:Int))=false:=by simp
  have hf:σ'=nxS s σ:=hfold
  subst hf
  clear hfold
  go_wp2
  go_end0
  exact ⟨rfl,n',by simp [szS] at hnn;omega,hnc,kw⟩
 | node b1 o1 p k r1=>
 have hl1:lenS r1+1=gk:=hlr
 obtain ⟨d,hd⟩:∃d,d+gk=lenS s:=⟨lenS s-gk,by omega⟩
 have hnd:lenS s-gk=d:=by omega
 rw [hnd] at hrep ⊢
 have hlt:decide ((d:Int) < (lenS s:Int))=true:=by simp;omega
 rcases hrep with hnl | ⟨g,rfl,hg,hrf⟩
 ·cases hnl
 rw [RepS_node] at hrf
 obtain ⟨⟨v,hcell,hrp⟩,hrest⟩:=hrf
 obtain ⟨⟨hpt,hpa,hpb,hpe,hak0,har1⟩,hsze,hakz,harz⟩:=har
 have hak:AllS TokB k∧AllZ k:=⟨hak0,hakz⟩
 have hszk:szS k+szS r1+1≤szS s:=hsr
 have hnn':n'+(szS k+szS r1+1)≤n+szS s:=hnn
 have hgw:g < wr.heap.size:=World.block_lt_of_cell? _ _ hcell
 have hgcb:=hQ g hg
 have nextF:∀(w3:World) (n3:Nat) (τ:NSt),NcAt w3 cb mb n3 τ.1 τ.2→n3≤n'+szS k+1→Kept2 cb mb wr w3→nxS s σ=nxS r1 τ→∃rest σ'' n'',Value.int .i64 ((d:Int)+1) = .int .i64 ((lenS s-lenS r1:Nat):Int)∧lenS r1≤lenS s∧lenS rest=lenS r1∧szS rest≤szS s∧(AllS TokB rest∧AllZ rest)∧NcAt w3 cb mb n'' σ''.1 σ''.2∧n''+szS rest≤n+szS s∧Kept2 cb mb w w3∧nxS rest σ''=nxS s σ∧RepSa w3 Q rest (some ⟨g,0,none⟩) (lenS s-lenS r1):=fun w3 n3 τ h3 hn3 k3 e3=>by
  refine ⟨r1,τ,n3,by congr 1;omega,by omega,rfl,by omega,⟨har1,harz⟩,h3,by omega,kw.trans k3,e3.symm,.inr ⟨g,rfl,hg,?_⟩⟩
  rw [show lenS s-lenS r1=d+1 by omega]
  exact RepS.later (fun j hj hl=>k3.2 j hl (hQ j hj).1 (hQ j hj).2) (fun j hj _=>hj) r1 g (d+1) hg hrest
 have NX:=hide nextF
 have hfold0:p.tag=0→nxS r1 (σ'.1,nx1 σ'.1 p.e (if σ'.1 (wP p.t) != 1 then noteF σ'.2 10 p.t.place else σ'.2))=nxS s σ:=fun ht=>by rw [nxS_0 ht] at hfold;exact hfold
 have hfold3:(p.tag=3∨p.tag=4)→nxS r1 (σ'.1,nx1 σ'.1 p.e σ'.2)=nxS s σ:=fun ht=>by rw [nxS_3 ht] at hfold;exact hfold
 have hfold2:p.tag=2→nxS r1 ((fun τ:NSt=>(updR τ.1 (wP p.t) 0,τ.2)) (nxS k (nxN p.a p.b (nbr (σ'.1,σ'.2) p.t 2))))=nxS s σ:=fun ht=>by rw [nxS_2 ht] at hfold;exact hfold
 have HF:=hide hfold
 clear nextF hrest hfold hnn har1 harz
 rcases hrp with ⟨ht0,x,k1,sv,hhead,rfl,hkx⟩ | ⟨ht0,x,k1,sv,a1,b2,hhead,rfl,hkx,hkids⟩ | ⟨ht0,a1,rfl,hkids⟩ | ⟨ht0,x,k1,sv,hhead,rfl,hkx⟩
 ·obtain ⟨so1,sc1,rfl⟩:=RepK.form hkx
  have HVE:=hide (show RepV wr Q (exV x (.slice so1 (lenE k1) sc1)) p.e by obtain ⟨b,o,r,he⟩:=hhead;exact ⟨b,o,x,k1,r,_,he,rfl,hkx⟩)
  unfold asgV at hcell
  have ta0:=ta_Assign_Assign
  clear hkx hhead
  obtain ⟨w1,hw1⟩:∃w1,wr.alloc (.cells #[.int .i64 (kP p.t),.int .i64 p.t.place,.string (wP p.t),.int .i32 (nP p.t),.int .i32 (sP p.t),.int .i64 (kP x),.int .i64 x.place,.string (wP x),.int .i32 (nP x),.int .i32 (sP x),.slice so1 (lenE k1) sc1] 121)=w1:=⟨_,rfl⟩
  have s1:w1.heap[wr.heap.size]?=some (.cells #[.int .i64 (kP p.t),.int .i64 p.t.place,.string (wP p.t),.int .i32 (nP p.t),.int .i32 (sP p.t),.int .i64 (kP x),.int .i64 x.place,.string (wP x),.int .i32 (nP x),.int .i32 (sP x),.slice so1 (lenE k1) sc1] 121 (0,0)):=by rw [←hw1];exact heap_alloc_new wr _
  have h1:NcAt w1 cb mb n' σ'.1 σ'.2:=by rw [←hw1];exact hnc.later (Below.heap_alloc wr _ _ hnc.lt) (Below.heap_alloc wr _ _ hnc.map.lt)
  have k1':Kept2 cb mb wr w1:=by rw [←hw1];exact (Kept.alloc cb wr _).two mb
  have lt1:wr.heap.size < w1.heap.size:=(Array.getElem?_eq_some_iff.1 s1).1
  have d1:=(bk11 s1).1
  have hc1:=hnc.lt
  have hm1:=hnc.map.lt
  have hl:(Instr.lookup 156 (.map (some mb)) (.string (wP p.t)) false).run Tryz.prog w1.drew = .ok (.int .i64 (σ'.1 (wP p.t))) w1.drew:=(h1.later (w':=w1.drew) rfl rfl).look hpt.1
  have c1:=(bk3 h1.blk).1
  by_cases hR:σ'.1 (wP p.t)=1
  ·have eτ:(σ'.1,nx1 σ'.1 p.e σ'.2)=(σ'.1,nx1 σ'.1 p.e (if σ'.1 (wP p.t) != 1 then noteF σ'.2 10 p.t.place else σ'.2)):=by simp [hR]
   have hneq:decide (σ'.1 (wP p.t)=1)=true:=by simp [hR]
   go_wp2
   clear hw1
   go_region
   all_goals go_wp2_with fail
   all_goals
    refine (nexpr_all (szE p.e) hsze p.e w1.drew cb mb n' σ'.1 σ'.2 Q (exV x (.slice so1 (lenE k1) sc1)) (Nat.le_refl _) (h1.later rfl rfl) (RepV.later (fun j hj hl=>(⟨k1'.1,k1'.2,k1'.same.drew⟩:Kept2 cb mb wr w1.drew).2 j hl (hQ j hj).1 (hQ j hj).2) (fun j hj _=>hj) (unhide HVE)) hpe (fun j hj=>(hQ j hj).1)).mono ?_
    rintro e w3 ⟨rfl,hw3,kw3⟩
    have fin3:=unhide NX w3 n' (σ'.1,nx1 σ'.1 p.e σ'.2) hw3 (by omega) (k1'.trans (Kept.two (a:=w1) (by first | exact kw3 | exact kw3.undrew | exact kw3.undrew.undrew | exact kw3.undrew.undrew.undrew) mb)) (by rw [eτ];exact (hfold0 ht0).symm)
    clear h1 k1' s1 d1 kw3
    go_wp2
    go_roundg (lenS r1)
    case rel=>exact fin3
    case measure=>omega
  ·have eτ:(σ'.1,nx1 σ'.1 p.e (noteF σ'.2 10 p.t.place))=(σ'.1,nx1 σ'.1 p.e (if σ'.1 (wP p.t) != 1 then noteF σ'.2 10 p.t.place else σ'.2)):=by simp [hR]
   go_wp2
   clear hw1
   go_region
   all_goals go_wp2
   all_goals first | (go_region_with (go_at_call 117;refine (nnote_any _ cb mb n' σ'.1 σ'.2 10 p.t.place ?_).mono ?_;exact h1.later rfl rfl;rintro e w2 ⟨rfl,h2,k2⟩;have s2:=(k2.2 _ (by show _ < w1.heap.size;omega) (by omega)).trans s1;have d2:=(bk11 s2).1;have k2':=k1'.trans (Kept.two (a:=w1) (by first | exact k2 | exact k2.undrew | exact k2.undrew.undrew | exact k2.undrew.undrew.undrew) mb);have l2:w1.heap.size≤w2.heap.size:=k2.1)) | fail
   all_goals go_wp2_with fail
   all_goals
    refine (nexpr_all (szE p.e) hsze p.e w2 cb mb n' σ'.1 (noteF σ'.2 10 p.t.place) Q (exV x (.slice so1 (lenE k1) sc1)) (Nat.le_refl _) h2 (RepV.later (fun j hj hl=>k2'.2 j hl (hQ j hj).1 (hQ j hj).2) (fun j hj _=>hj) (unhide HVE)) hpe (fun j hj=>(hQ j hj).1)).mono ?_
    rintro e w3 ⟨rfl,hw3,kw3⟩
    have fin3:=unhide NX w3 n' (σ'.1,nx1 σ'.1 p.e (noteF σ'.2 10 p.t.place)) hw3 (by omega) (k2'.trans (Kept.two kw3 mb)) (by rw [eτ];exact (hfold0 ht0).symm)
    clear h1 h2 k1' k2' s1 s2 d1 d2 kw3 k2
    go_wp2
    go_roundg (lenS r1)
    case rel=>exact fin3
    case measure=>omega
 ·obtain ⟨so1,sc1,rfl⟩:=RepK.form hkx
  have HVE:=hide (show RepV wr Q (exV x (.slice so1 (lenE k1) sc1)) p.e by obtain ⟨b,o,r,he⟩:=hhead;exact ⟨b,o,x,k1,r,_,he,rfl,hkx⟩)
  unfold ifV at hcell
  have ta0:=ta_If_Assign
  have ta1:=ta_If_If
  clear hkx hhead
  cases k with
  | nil=>exact hkids.elim
  | node b3 o3 p3 s1' u1'=>
  obtain ⟨ao1,ac1,e1⟩:=RepL.form hkids.1
  obtain ⟨bo1,bc1,e2⟩:=RepL.form hkids.2
  obtain ⟨al1,hal1⟩:∃al1,lenS s1'=al1:=⟨_,rfl⟩
  obtain ⟨bl1,hbl1⟩:∃bl1,lenS u1'=bl1:=⟨_,rfl⟩
  rw [hal1] at e1
  rw [hbl1] at e2
  subst e1
  subst e2
  clear hal1 hbl1
  have has1:AllS TokB s1'∧AllZ s1':=⟨hak0.2.2.2.2.1,hakz.2.1⟩
  have hau1:AllS TokB u1'∧AllZ u1':=⟨hak0.2.2.2.2.2,hakz.2.2⟩
  have hszk2:szS (.node b3 o3 p3 s1' u1')=szS s1'+szS u1'+1:=rfl
  have hfold1:p.tag=1→nxS r1 (nxS u1' (nxS s1' (σ'.1,nx1 σ'.1 p.e σ'.2)))=nxS s σ:=fun ht=>by have hfold:=unhide HF;rw [nxS_1 ht] at hfold;exact hfold
  obtain ⟨w1,hw1⟩:∃w1,wr.alloc (.cells #[.int .i64 (kP p.t),.int .i64 p.t.place,.string (wP p.t),.int .i32 (nP p.t),.int .i32 (sP p.t),.int .i64 (kP x),.int .i64 x.place,.string (wP x),.int .i32 (nP x),.int .i32 (sP x),.slice so1 (lenE k1) sc1,.slice ao1 al1 ac1,.slice bo1 bl1 bc1] 124)=w1:=⟨_,rfl⟩
  have s1:w1.heap[wr.heap.size]?=some (.cells #[.int .i64 (kP p.t),.int .i64 p.t.place,.string (wP p.t),.int .i32 (nP p.t),.int .i32 (sP p.t),.int .i64 (kP x),.int .i64 x.place,.string (wP x),.int .i32 (nP x),.int .i32 (sP x),.slice so1 (lenE k1) sc1,.slice ao1 al1 ac1,.slice bo1 bl1 bc1] 124 (0,0)):=by rw [←hw1];exact heap_alloc_new wr _
  have h1:NcAt w1 cb mb n' σ'.1 σ'.2:=by rw [←hw1];exact hnc.later (Below.heap_alloc wr _ _ hnc.lt) (Below.heap_alloc wr _ _ hnc.map.lt)
  have k1':Kept2 cb mb wr w1:=by rw [←hw1];exact (Kept.alloc cb wr _).two mb
  have lt1:wr.heap.size < w1.heap.size:=(Array.getElem?_eq_some_iff.1 s1).1
  have d1:=(bk13 s1).1
  have hc1:=hnc.lt
  have hm1:=hnc.map.lt
  go_wp2_with fail
  clear hw1
  refine (nexpr_all (szE p.e) hsze p.e w1 cb mb n' σ'.1 σ'.2 Q (exV x (.slice so1 (lenE k1) sc1)) (Nat.le_refl _) h1 (RepV.later (fun j hj hl=>k1'.2 j hl (hQ j hj).1 (hQ j hj).2) (fun j hj _=>hj) (unhide HVE)) hpe (fun j hj=>(hQ j hj).1)).mono ?_
  rintro e w2 ⟨rfl,hw2,kw2⟩
  have s2:=(kw2.2 _ lt1 (by omega)).trans s1
  have d2:=(bk13 s2).1
  have K2:=k1'.trans (Kept.two kw2 mb)
  have l2:=kw2.1
  clear h1 k1' s1 d1 kw2
  go_wp2_with fail
  refine (ih s1' w2 cb mb n' (σ'.1,nx1 σ'.1 p.e σ'.2) Q (.slice ao1 al1 ac1) (by omega) hw2 (RepL.later (fun j hj hl=>K2.2 j hl (hQ j hj).1 (hQ j hj).2) (fun j hj _=>hj) hkids.1) has1 hQ (by omega)).mono ?_
  rintro e w3 ⟨rfl,n3,hn3,h3,k3⟩
  have s3:=(k3.2 _ (by omega) (by omega) (by omega)).trans s2
  have d3:=(bk13 s3).1
  have K3:=K2.trans k3
  have l3:=k3.1
  clear hw2 K2 s2 d2 k3
  go_wp2_with fail
  refine (ih u1' w3 cb mb n3 (nxS s1' (σ'.1,nx1 σ'.1 p.e σ'.2)) Q (.slice bo1 bl1 bc1) (by omega) h3 (RepL.later (fun j hj hl=>K3.2 j hl (hQ j hj).1 (hQ j hj).2) (fun j hj _=>hj) hkids.2) hau1 hQ (by omega)).mono ?_
  rintro e w4 ⟨rfl,n4,hn4,h4,k4⟩
  have fin3:=unhide NX w4 n4 (nxS u1' (nxS s1' (σ'.1,nx1 σ'.1 p.e σ'.2))) h4 (by omega) (K3.trans k4) (hfold1 ht0).symm
  clear h3 h4 K3 k4 s3 d3
  go_wp2
  go_roundg (lenS r1)
  case rel=>exact fin3
  case measure=>omega
 ·obtain ⟨ao1,ac1,e1⟩:=RepL.form hkids
  obtain ⟨al1,hal1⟩:∃al1,lenS k=al1:=⟨_,rfl⟩
  rw [hal1] at e1
  subst e1
  clear hal1
  unfold forV at hcell
  have ta0:=ta_For_Assign
  have ta1:=ta_For_If
  have ta2:=ta_For_For
  obtain ⟨w1,hw1⟩:∃w1,wr.alloc (.cells #[.int .i64 (kP p.t),.int .i64 p.t.place,.string (wP p.t),.int .i32 (nP p.t),.int .i32 (sP p.t),.int .i64 (kP p.a),.int .i64 p.a.place,.string (wP p.a),.int .i32 (nP p.a),.int .i32 (sP p.a),.int .i64 (kP p.b),.int .i64 p.b.place,.string (wP p.b),.int .i32 (nP p.b),.int .i32 (sP p.b),.slice ao1 al1 ac1] 127)=w1:=⟨_,rfl⟩
  have s1:w1.heap[wr.heap.size]?=some (.cells #[.int .i64 (kP p.t),.int .i64 p.t.place,.string (wP p.t),.int .i32 (nP p.t),.int .i32 (sP p.t),.int .i64 (kP p.a),.int .i64 p.a.place,.string (wP p.a),.int .i32 (nP p.a),.int .i32 (sP p.a),.int .i64 (kP p.b),.int .i64 p.b.place,.string (wP p.b),.int .i32 (nP p.b),.int .i32 (sP p.b),.slice ao1 al1 ac1] 127 (0,0)):=by rw [←hw1];exact heap_alloc_new wr _
  have h1:NcAt w1 cb mb n' σ'.1 σ'.2:=by rw [←hw1];exact hnc.later (Below.heap_alloc wr _ _ hnc.lt) (Below.heap_alloc wr _ _ hnc.map.lt)
  have k1':Kept2 cb mb wr w1:=by rw [←hw1];exact (Kept.alloc cb wr _).two mb
  have lt1:wr.heap.size < w1.heap.size:=(Array.getElem?_eq_some_iff.1 s1).1
  have d1:=(bk16 s1).1
  have hc1:=hnc.lt
  have hm1:=hnc.map.lt
  go_wp2_with fail
  clear hw1
  refine (nloop_any (k:=k) (Q:=Q) (so:=ao1) (sl:=al1) (sc:=ac1) cb mb (fun W m' τ g1 g2 g3=>?_) w1 n' σ'.1 σ'.2 p.t p.a p.b h1 (RepL.later (fun j hj hl=>k1'.2 j hl (hQ j hj).1 (hQ j hj).2) (fun j hj _=>hj) hkids) hpt hQ (by omega)).mono ?_
  ·exact ih k W cb mb m' τ Q _ (by omega) g1 g2 hak hQ g3
  rintro e w3 ⟨rfl,n3,hn3,h3,k3⟩
  have fin3:=unhide NX w3 n3 _ h3 (by omega) (k1'.trans k3) (hfold2 ht0).symm
  clear h1 h3 k1' k3 s1 d1
  go_wp2
  go_roundg (lenS r1)
  case rel=>exact fin3
  case measure=>omega
 ·obtain ⟨so1,sc1,rfl⟩:=RepK.form hkx
  have HVE:=hide (show RepV wr Q (exV x (.slice so1 (lenE k1) sc1)) p.e by obtain ⟨b,o,r,he⟩:=hhead;exact ⟨b,o,x,k1,r,_,he,rfl,hkx⟩)
  unfold putV at hcell
  have ta0:=ta_Put_Assign
  have ta1:=ta_Put_If
  have ta2:=ta_Put_For
  have ta3:=ta_Put_Put
  clear hkx hhead
  obtain ⟨w1,hw1⟩:∃w1,wr.alloc (.cells #[.int .i64 (kP p.t),.int .i64 p.t.place,.string (wP p.t),.int .i32 (nP p.t),.int .i32 (sP p.t),.int .i64 (kP x),.int .i64 x.place,.string (wP x),.int .i32 (nP x),.int .i32 (sP x),.slice so1 (lenE k1) sc1] 130)=w1:=⟨_,rfl⟩
  have s1:w1.heap[wr.heap.size]?=some (.cells #[.int .i64 (kP p.t),.int .i64 p.t.place,.string (wP p.t),.int .i32 (nP p.t),.int .i32 (sP p.t),.int .i64 (kP x),.int .i64 x.place,.string (wP x),.int .i32 (nP x),.int .i32 (sP x),.slice so1 (lenE k1) sc1] 130 (0,0)):=by rw [←hw1];exact heap_alloc_new wr _
  have h1:NcAt w1 cb mb n' σ'.1 σ'.2:=by rw [←hw1];exact hnc.later (Below.heap_alloc wr _ _ hnc.lt) (Below.heap_alloc wr _ _ hnc.map.lt)
  have k1':Kept2 cb mb wr w1:=by rw [←hw1];exact (Kept.alloc cb wr _).two mb
  have lt1:wr.heap.size < w1.heap.size:=(Array.getElem?_eq_some_iff.1 s1).1
  have d1:=(bk11 s1).1
  have hc1:=hnc.lt
  have hm1:=hnc.map.lt
  go_wp2_with fail
  clear hw1
  refine (nexpr_all (szE p.e) hsze p.e w1 cb mb n' σ'.1 σ'.2 Q (exV x (.slice so1 (lenE k1) sc1)) (Nat.le_refl _) h1 (RepV.later (fun j hj hl=>k1'.2 j hl (hQ j hj).1 (hQ j hj).2) (fun j hj _=>hj) (unhide HVE)) hpe (fun j hj=>(hQ j hj).1)).mono ?_
  rintro e w3 ⟨rfl,hw3,kw3⟩
  have fin3:=unhide NX w3 n' (σ'.1,nx1 σ'.1 p.e σ'.2) hw3 (by omega) (k1'.trans (Kept.two kw3 mb)) (hfold3 ht0).symm
  clear h1 k1' s1 d1 kw3
  go_wp2
  go_roundg (lenS r1)
  case rel=>exact fin3
  case measure=>omega
theorem nstm_all:∀m,NStOK m
 | 0=>fun _ _ _ _ _ _ _ _ hsz _ _ _ _ _=>absurd hsz (Nat.not_lt_zero _)
 | m+1=>nstm_step (nstm_all m)
def sX:ByteArray:=⟨#[120]⟩
def sY:ByteArray:=⟨#[121]⟩
def roles0:ByteArray→Int:=updR (updR (fun _=>0) sX 2) sY 2
def nmDs (ds:List (Tok×Bool)) (σ:NSt):NSt:=ds.foldl (fun σ d=>nbr σ d.1 1) σ
def namesF (ds:List (Tok×Bool)) (s:Sx):Flt:=(nxS s (nmDs ds (roles0,(0,0)))).2
theorem decC_at (ds:List (Tok×Bool)) (i:Nat) (t:Tok) (h:Bool) (hi:ds[i]?=some (t,h)) (j:Nat) (v:Value) (hv:(tokC t++[Value.bool h])[j]?=some v):(decC ds)[i*6+j]?=some v:=by
 induction ds generalizing i with
 | nil=>cases hi
 | cons a ds ih=>
  have hl:(tokC a.1++[Value.bool a.2]).length=6:=rfl
  have e:decC (a::ds)=(tokC a.1++[Value.bool a.2])++decC ds:=rfl
  rw [e]
  cases i with
  | zero=>
   cases hi
   have hj:j < 6:=by have:=(List.getElem?_eq_some_iff.1 hv).1;rw [show (tokC t++[Value.bool h]).length=6 from rfl] at this;exact this
   rw [List.getElem?_append_left (by rw [hl];omega)]
   simpa using hv
  | succ i=>
   rw [List.getElem?_append_right (by rw [hl];omega),hl,show (i+1)*6+j-6=i*6+j by omega]
   exact ih i hi
theorem dec_cells {w:World} {g:Nat} {ds:List (Tok×Bool)} (hc:∀k u,(decC ds)[k]?=some u→w.cell? ⟨g,k,none⟩=some u) {i:Nat} {t:Tok} {h:Bool} (hi:ds[i]?=some (t,h)) :
  w.cell? ⟨g,i*6,none⟩=some (.int .i64 (kP t))∧w.cell? ⟨g,i*6+1,none⟩=some (.int .i64 t.place)∧w.cell? ⟨g,i*6+2,none⟩=some (.string (wP t))∧w.cell? ⟨g,i*6+3,none⟩=some (.int .i32 (nP t))∧w.cell? ⟨g,i*6+4,none⟩=some (.int .i32 (sP t))∧w.cell? ⟨g,i*6+5,none⟩=some (.bool h):=
 ⟨hc _ _ (decC_at ds i t h hi 0 _ rfl),hc _ _ (decC_at ds i t h hi 1 _ rfl),hc _ _ (decC_at ds i t h hi 2 _ rfl),hc _ _ (decC_at ds i t h hi 3 _ rfl),hc _ _ (decC_at ds i t h hi 4 _ rfl),hc _ _ (decC_at ds i t h hi 5 _ rfl)⟩
def RepDa (w:World) (Q:Nat→Prop) (ds:List (Tok×Bool)) (ao:Option Addr):Prop:=ds=[]∨∃g,ao=some ⟨g,0,none⟩∧Q g∧g < w.heap.size∧∀k u,(decC ds)[k]?=some u→w.cell? ⟨g,k,none⟩=some u
theorem RepD.a {w:World} {Q:Nat→Prop} {sv:Value} {ds:List (Tok×Bool)} (h:RepD w Q sv ds):∃ao c,sv = .slice ao ds.length c∧RepDa w Q ds ao:=by
 rcases h with ⟨rfl,ao,c,rfl⟩ | ⟨hn,g,c,rfl,hg,hc⟩
 ·exact ⟨ao,c,rfl,.inl rfl⟩
 ·have h0:0 < (decC ds).length:=by rw [decC_len];have:=List.length_pos_iff.2 hn;omega
  exact ⟨_,c,rfl,.inr ⟨g,rfl,hg,World.block_lt_of_cell? _ _ (hc 0 _ (List.getElem?_eq_getElem h0)),hc⟩⟩
theorem RepDa.later {w w':World} {Q:Nat→Prop} (hk:Stay Q w w') (hs:w.heap.size≤w'.heap.size) {ds:List (Tok×Bool)} {ao:Option Addr} (h:RepDa w Q ds ao):RepDa w' Q ds ao:=by
 rcases h with h | ⟨g,e,hg,hl,hc⟩
 ·exact .inl h
 ·refine .inr ⟨g,e,hg,by omega,fun k u hu=>?_⟩
  have:=hc k u hu
  simp only [World.cell?] at this ⊢
  rw [hk g hg hl]
  exact this
theorem turned_size {w w':World} {b:Nat} (h:w.mapTurned w' b):w'.heap.size=w.heap.size:=by
 obtain ⟨es,c,es',c',hb,rfl⟩:=h
 simp [ChangeMaps.setBlock]
set_option maxHeartbeats 16000000 in
theorem checkNames_any (w:World) (Q:Nat→Prop) (hQ:∀k,Q k→k < w.heap.size) (ds:List (Tok×Bool)) (s:Sx) (nv bv:Value) (hd:RepD w Q nv ds) (hs:RepL w Q bv s) (had:∀d∈ds,TokB d.1) (has:AllS TokB s∧AllZ s) (hn:ds.length+szS s+2≤100000) :
  Calls Tryz.prog 59 #[.agg #[nv,bv]] w fun e w'=>e = .returned (.agg #[.int .i64 (namesF ds s).1,.int .i64 (namesF ds s).2])∧Below w.heap.size w w':=by
 obtain ⟨no,nc,rfl,hda⟩:=hd.a
 obtain ⟨bo,bc,hbf⟩:=RepL.form hs
 subst hbf
 obtain ⟨bl,hbl⟩:∃bl,lenS s=bl:=⟨_,rfl⟩
 rw [hbl] at hs ⊢
 clear hbl hd
 have hmm:=@run_makeMap Tryz.prog
 obtain ⟨w1,hw1⟩:∃w1,(w.alloc (.cells #[.slice no ds.length nc,.slice bo bl bc] 68)).alloc (.cells #[.int .i64 0,.int .i64 0] 105)=w1:=⟨_,rfl⟩
 have z1:w1.heap.size=w.heap.size+2:=by rw [←hw1];simp
 have m1:MapIs 155 .i64 (w1.alloc (.map #[] 0)) w1.heap.size 0 (fun _=>0):=MapIs.made w1
 rw [z1] at m1
 obtain ⟨w2,hrun2,m2,ht2⟩:=m1.store (T:=156) Tryz.underlying156 Tryz.underlying155 (by unfold maxLen;omega) (s:=⟨#[120]⟩) (by decide) (c:=2) (by decide)
 obtain ⟨w3,hrun3,m3,ht3⟩:=m2.store (T:=156) Tryz.underlying156 Tryz.underlying155 (by unfold maxLen;omega) (s:=⟨#[121]⟩) (by decide) (c:=2) (by decide)
 have e3:w3.heap.size=w.heap.size+3:=by rw [turned_size ht3,turned_size ht2];simp [z1]
 have o3:∀j,j < w.heap.size+2→w3.heap[j]?=w1.heap[j]?:=fun j hj=>(ht3.grown.block j (by rw [turned_size ht2];simp;omega) (fun e=>by cases e;omega)).trans ((ht2.grown.block j (by simp;omega) (fun e=>by cases e;omega)).trans (Below.heap_alloc w1 _ j (by omega)))
 have b1:w1.heap[w.heap.size]?=some (.cells #[.slice no ds.length nc,.slice bo bl bc] 68 (0,0)):=by rw [←hw1];exact (Below.heap_alloc _ _ _ (by simp)).trans (heap_alloc_new w _)
 have r1:w1.heap[w.heap.size+1]?=some (.cells #[.int .i64 0,.int .i64 0] 105 (0,0)):=by rw [←hw1];simpa using heap_alloc_new (w.alloc (.cells #[.slice no ds.length nc,.slice bo bl bc] 68)) (.cells #[.int .i64 0,.int .i64 0] 105)
 have B1:∀j,j < w.heap.size→w1.heap[j]?=w.heap[j]?:=fun j hj=>by rw [←hw1];exact (Below.heap_alloc _ _ _ (by simp;omega)).trans (Below.heap_alloc w _ j hj)
 obtain ⟨w4,hw4⟩:∃w4,w3.alloc (.cells #[.map (some (w.heap.size+2)),.int .i64 0,.int .i64 0] 158)=w4:=⟨_,rfl⟩
 have n4:NcAt w4 (w.heap.size+3) (w.heap.size+2) 2 roles0 (0,0):=by
  rw [←hw4]
  exact ⟨by rw [←e3];exact heap_alloc_new w3 _,m3.later (Below.heap_alloc w3 _ _ (by omega))⟩
 have z4:w4.heap.size=w.heap.size+4:=by rw [←hw4];simp [e3]
 have o4:∀j,j < w.heap.size+2→w4.heap[j]?=w1.heap[j]?:=fun j hj=>by rw [←hw4];exact (Below.heap_alloc w3 _ j (by omega)).trans (o3 j hj)
 have sm4:Same w w4:=by rw [←hw4];refine Same.alloc (Same.trans ?_ (Same.trans (Same.grown ht2.grown) (Same.grown ht3.grown))) _;rw [←hw1];exact ⟨rfl,rfl,rfl⟩
 have B4:∀j,j < w.heap.size→w4.heap[j]?=w.heap[j]?:=fun j hj=>(o4 j (by omega)).trans (B1 j hj)
 have t4:=(o4 _ (by omega)).trans b1
 have r4:=(o4 _ (by omega)).trans r1
 have d4:RepDa w4 Q ds no:=hda.later (fun j hj hl=>B4 j hl) (by omega)
 have hb4:=hide (hs.later (w':=w4) (fun j hj hl=>B4 j hl) (fun j hj _=>hj))
 have hlen:ds.length≤100000:=by omega
 have hmapne:∀k,Q k→k≠w.heap.size+3∧k≠w.heap.size+2:=fun k hk=>by have:=hQ k hk;omega
 clear m1 m2 m3 ht2 ht3 o3 o4 b1 r1 B1 hda hs
 have x4:=(bk2 t4).1
 have y4:(w4.cell? ⟨w.heap.size+3,1,none⟩=some (.int .i64 0)∧w4.cell? ⟨w.heap.size+3,2,none⟩=some (.int .i64 0))∧w4.frozen? ⟨w.heap.size+3,1,none⟩=false∧w4.frozen? ⟨w.heap.size+3,2,none⟩=false:=by
  have:=bk3 n4.blk
  exact ⟨⟨this.1.2.1,this.1.2.2⟩,this.2.2.1,this.2.2.2⟩
 have s1:w4.setCell ⟨w.heap.size+3,1,none⟩ (.int .i64 0)=w4:=by rw [←hw4,World.setCell_alloc_at _ _ _ _ _ e3.symm];rfl
 have s2:w4.setCell ⟨w.heap.size+3,2,none⟩ (.int .i64 0)=w4:=by rw [←hw4,World.setCell_alloc_at _ _ _ _ _ e3.symm];rfl
 go_enter Tryz.func59,Tryz.ntmps59
 go_wp2
 clear hrun2 hrun3 hw1 hw4 hmm s1 s2 y4
 go_loopg [12] ds.length (fun q v wr=>∃σ' n',v = .int .i64 ((ds.length-q:Nat):Int)∧q≤ds.length∧NcAt wr (w.heap.size+3) (w.heap.size+2) n' σ'.1 σ'.2∧n'+q≤2+ds.length∧Kept2 (w.heap.size+3) (w.heap.size+2) w4 wr∧nmDs (ds.drop (ds.length-q)) σ'=nmDs ds (roles0,(0,0)))
 case atStart=>exact ⟨(roles0,(0,0)),2,by rw [Nat.sub_self];rfl,Nat.le_refl _,n4,by omega,Kept2.refl _ _ _,by rw [Nat.sub_self];rfl⟩
 case round=>
 obtain ⟨σ',n',rfl,hq,hnc,hnn,kw,hfold⟩:=hrel
 have hszw:=kw.1
 cases gk with
 | zero=>
  have hge:decide (((ds.length-0:Nat):Int) < (ds.length:Int))=false:=by simp
  have hσ:σ'=nmDs ds (roles0,(0,0)):=by rw [Nat.sub_zero,List.drop_length] at hfold;exact hfold
  subst hσ
  have tr:=(kw.2 _ (by omega) (by omega) (by omega)).trans t4
  have rr:=(kw.2 _ (by omega) (by omega) (by omega)).trans r4
  have xr:=(bk2 tr).1
  clear hfold n4
  go_wp2_with fail
  refine (nstm_all (szS s+1) s wr _ _ n' _ Q (.slice bo bl bc) (by omega) hnc (RepL.later (fun j hj hl=>kw.2 j hl (hmapne j hj).1 (hmapne j hj).2) (fun j hj _=>hj) (unhide hb4)) has hmapne (by omega)).mono ?_
  rintro e w5 ⟨rfl,n5,_,h5,k5⟩
  have l5:=k5.1
  have r5:=(k5.2 _ (by omega) (by omega) (by omega)).trans rr
  obtain ⟨⟨y0,y1⟩,v0,v1⟩:=bk2 r5
  have c5:=(bk3 h5.blk).1
  have fin:∀W:World,Same w5 W→w5.heap.size≤W.heap.size→(∀j,j≠w.heap.size+1→W.heap[j]?=w5.heap[j]?)→Below w.heap.size w W:=by
   intro W smW a b
   have smA:=((sm4.trans kw.same).trans k5.same).trans smW
   exact ⟨smA.os,smA.tape,smA.output,by omega,fun j hj=>(b j (by omega)).trans ((k5.2 j (by omega) (by omega) (by omega)).trans ((kw.2 j (by omega) (by omega) (by omega)).trans (B4 j hj)))⟩
  have FIN:=hide fin
  clear hnc kw k5 tr rr fin
  go_wp2
  refine bodyPost_ret (v:=.agg #[.int .i64 (namesF ds s).1,.int .i64 (namesF ds s).2]) (by simp [results,Tryz.results59,go_sem,y0,y1,namesF]) rfl ⟨rfl,unhide FIN _ (((Same.refl _).set _ _).set _ _) (by simp) (fun j hj=>(Below.heap_setCell _ _ _ _ hj).trans (Below.heap_setCell _ _ _ _ hj))⟩
 | succ gk=>
  obtain ⟨d,hd⟩:∃d,d+(gk+1)=ds.length:=⟨ds.length-(gk+1),by omega⟩
  have hnd:ds.length-(gk+1)=d:=by omega
  rw [hnd] at hfold ⊢
  have hlt:decide ((d:Int) < (ds.length:Int))=true:=by simp;omega
  obtain ⟨⟨t,hb⟩,hget⟩:∃p,ds[d]?=some p:=⟨ds[d],List.getElem?_eq_getElem (by omega)⟩
  have hmem:(t,hb)∈ds:=List.mem_of_getElem? hget
  have htb:=had _ hmem
  have hdr:ds.drop d=(t,hb)::ds.drop (d+1):=by
   rw [List.drop_eq_getElem_cons (by omega)]
   congr 1
   exact (List.getElem?_eq_some_iff.1 hget).2
  have dr:=d4.later (w':=wr) (fun j hj hl=>kw.2 j hl (hmapne j hj).1 (hmapne j hj).2) kw.1
  rcases dr with hn0 | ⟨g,rfl,hg,hgl,hcs⟩
  ·rw [hn0] at hd;simp at hd
  obtain ⟨q0,q1,q2,q3,q4,q5⟩:=dec_cells hcs hget
  have hgw:=hQ g hg
  have F2:nmDs (ds.drop (d+1)) (nbr σ' t 1)=nmDs ds (roles0,(0,0)):=by rw [hdr] at hfold;exact hfold
  have HF:=hide F2
  clear hfold F2 hcs hdr
  go_wp2_with fail
  refine (nbring_any _ _ _ n' σ'.1 σ'.2 t 1 (.inl rfl) (hnc.later (Below.heap_alloc wr _ _ hnc.lt) (Below.heap_alloc wr _ _ hnc.map.lt)) htb (by omega)).mono ?_
  rintro e w5 ⟨rfl,h5,k5⟩
  have K5:=kw.trans ((Kept2.trans ((Kept.alloc (w.heap.size+3) wr _).two (w.heap.size+2)) k5))
  clear k5 kw hnc
  go_wp2
  go_roundg gk
  case rel=>exact ⟨_,n'+1,by congr 1;omega,by omega,h5,by omega,K5,by rw [show ds.length-gk=d+1 by omega];exact unhide HF⟩
  case measure=>omega
end Go.Proofs.YthmmgiaobakilaaGreat
