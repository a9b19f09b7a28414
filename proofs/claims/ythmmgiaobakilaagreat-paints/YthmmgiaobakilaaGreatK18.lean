import Derived.Test.YthmmgiaobakilaaGreatK17
import Derived.Laws.MakeOwn
import Derived.Deep.RegionHeld3
set_option maxRecDepth 100000
namespace Go.Proofs.YthmmgiaobakilaaGreat
open Go.RowKit Go.Deep
def startP (n:Nat):PSt:=⟨0,0,fun _=>0,0,0,[],List.replicate n 0,List.replicate n 0⟩
theorem infoI:(Tryz.prog.info? 3).map (fun i=>(i.zero,i.size,i.bytes))=some (some (.int .i64 0),1,8):=by kernel_rfl
theorem made_eq (k:Nat):madeCells (Value.int .i64 0).cells (k*1)=((List.replicate k (0:Int)).map (Value.int .i64)).toArray:=by
 apply Array.ext
 ·simp [madeCells]
 ·intro j h1 h2
  simp [madeCells,Value.cells,Nat.mod_one]
theorem make_pic (w:World) (k:Nat) (hk:(k:Int)≤36):(Instr.makeSlice 22 (.int .i64 (k:Int)) (.int .i64 (k:Int))).run Tryz.prog w = .ok (.slice (some ⟨w.heap.size,0,none⟩) k k) (w.alloc (picO (List.replicate k 0))):=by
 obtain ⟨i0,hi0,hz0,hz1,hz2⟩:=info_parts infoI
 have:=run_makeSlice (P:=Tryz.prog) w 22 3 i0 (.int .i64 0) Tryz.underlying22 hi0 hz0 .i64 .i64 (k:Int) (k:Int) (by omega) (Int.le_refl _) (by rw [hz1,Int.toNat_natCast];omega) (by rw [hz2];omega) (by omega)
 rw [this,Int.toNat_natCast,hz1,made_eq]
 rfl
theorem heap_alloc_newO (w:World) (o:Obj):(w.alloc o).heap[w.heap.size]?=some o:=by
 show (w.heap.push o)[w.heap.size]?=some o
 simp
theorem newP_of (w w1 W:World) (mb ob hb k:Nat) (sw sh:Int) (so sd:Option Addr) (c1 c2:Nat) (xs ys:List Int) (src:ByteArray) (hb1:Below w.heap.size w w1) (z1:w1.heap.size=w.heap.size+1) (hW:Below w1.heap.size w1 W) (hz:W.heap.size=w1.heap.size+1+1+1) (hm:W.heap[mb]?=some (.map #[] 0)) (ho:W.heap[ob]?=some (picO (List.replicate k 0))) (hh:W.heap[hb]?=some (picO (List.replicate k 0))) (n1:mb≠ob) (n2:mb≠hb) (n3:ob≠hb) (b1:w1.heap.size≤mb∧w1.heap.size≤ob∧w1.heap.size≤hb) (hx:IntsAt w.heap.size w so xs) (hy:IntsAt w.heap.size w sd ys) :
  ∃D:PD,Ending.returned (.pointer (some ⟨w1.heap.size+1+1+1,0,none⟩)) = .returned (.pointer (some ⟨D.pb,0,none⟩))∧PtAt (W.alloc (.cells #[.int .i64 sw,.int .i64 sh,.slice so xs.length c1,.slice sd ys.length c2,.string src,.int .i64 0,.int .i64 0,.map (some mb),.slice (some ⟨ob,0,none⟩) k k,.slice (some ⟨hb,0,none⟩) k k,.int .i64 0,.int .i64 0,.slice none 0 0] 82)).drew D (startP k) 0 (.slice none 0 0)∧Below w.heap.size w (W.alloc (.cells #[.int .i64 sw,.int .i64 sh,.slice so xs.length c1,.slice sd ys.length c2,.string src,.int .i64 0,.int .i64 0,.map (some mb),.slice (some ⟨ob,0,none⟩) k k,.slice (some ⟨hb,0,none⟩) k k,.int .i64 0,.int .i64 0,.slice none 0 0] 82)).drew∧D.B=w.heap.size∧D.sw=sw∧D.sh=sh∧D.opens=xs∧D.hids=ys∧D.src=src:=by
 have lm:mb < W.heap.size:=(Array.getElem?_eq_some_iff.1 hm).1
 have lo:ob < W.heap.size:=(Array.getElem?_eq_some_iff.1 ho).1
 have lh:hb < W.heap.size:=(Array.getElem?_eq_some_iff.1 hh).1
 have bW:Below w.heap.size w W:=hb1.trans (hW.mono (by omega))
 have bF:Below w.heap.size w (W.alloc (.cells #[.int .i64 sw,.int .i64 sh,.slice so xs.length c1,.slice sd ys.length c2,.string src,.int .i64 0,.int .i64 0,.map (some mb),.slice (some ⟨ob,0,none⟩) k k,.slice (some ⟨hb,0,none⟩) k k,.int .i64 0,.int .i64 0,.slice none 0 0] 82)).drew:=(bW.alloc (by omega) _).drew
 have old:∀j,j < W.heap.size→(W.alloc (.cells #[.int .i64 sw,.int .i64 sh,.slice so xs.length c1,.slice sd ys.length c2,.string src,.int .i64 0,.int .i64 0,.map (some mb),.slice (some ⟨ob,0,none⟩) k k,.slice (some ⟨hb,0,none⟩) k k,.int .i64 0,.int .i64 0,.slice none 0 0] 82)).drew.heap[j]?=W.heap[j]?:=fun j hj=>Below.heap_alloc W _ j hj
 refine ⟨⟨W.heap.size,mb,ob,hb,w.heap.size,sw,sh,so,sd,c1,c2,xs,ys,src⟩,by rw [←hz],⟨?_,?_,(old _ lo).trans ho,(old _ lh).trans hh,World.ownsRow_nil _ _ _ _,⟨by show W.heap.size≠mb;omega,by show W.heap.size≠ob;omega,by show W.heap.size≠hb;omega,n1,n2,n3⟩,?_,?_,hx.later bF (Nat.le_refl _),hy.later bF (Nat.le_refl _)⟩,bF,rfl,rfl,rfl,rfl,rfl,rfl⟩
 ·have:=heap_alloc_new W (.cells #[.int .i64 sw,.int .i64 sh,.slice so xs.length c1,.slice sd ys.length c2,.string src,.int .i64 0,.int .i64 0,.map (some mb),.slice (some ⟨ob,0,none⟩) k k,.slice (some ⟨hb,0,none⟩) k k,.int .i64 0,.int .i64 0,.slice none 0 0] 82)
  refine this.trans ?_
  unfold ptO startP
  simp
 ·exact ⟨.map [],⟨#[],0,(old _ lm).trans hm,⟨by simp,MapKept.stamped_empty 0,by simp⟩,Nat.le_refl _,rfl⟩,fun _ _=>rfl⟩
 ·rintro j (e | e | e | e)
  ·have:j=W.heap.size:=e
   show w.heap.size≤j
   omega
  ·have:j=mb:=e
   show w.heap.size≤j
   omega
  ·have:j=ob:=e
   show w.heap.size≤j
   omega
  ·have:j=hb:=e
   show w.heap.size≤j
   omega
 ·intro j e;cases e
set_option maxHeartbeats 4000000 in
theorem newPainter_any (w:World) (sw sh:Int) (so sd:Option Addr) (c1 c2:Nat) (xs ys:List Int) (src:ByteArray) (hw:1≤sw∧sw≤6) (hh:1≤sh∧sh≤6) (hx:IntsAt w.heap.size w so xs) (hy:IntsAt w.heap.size w sd ys) :
  Calls Tryz.prog 35 #[.agg #[.int .i64 sw,.int .i64 sh,.slice so xs.length c1,.slice sd ys.length c2,.string src]] w fun e w'=>∃D:PD,e = .returned (.pointer (some ⟨D.pb,0,none⟩))∧PtAt w' D (startP (sw*sh).toNat) 0 (.slice none 0 0)∧Below w.heap.size w w'∧D.B=w.heap.size∧D.sw=sw∧D.sh=sh∧D.opens=xs∧D.hids=ys∧D.src=src:=by
 obtain ⟨hw0,hw1⟩:=hw
 obtain ⟨hh0,hh1⟩:=hh
 have m1:1≤sw*sh:=by have:=Int.mul_le_mul hw0 hh0 (by omega) (by omega);omega
 have m2:sw*sh≤36:=Int.le_trans (Int.mul_le_mul hw1 hh1 (by omega) (by omega)) (by decide)
 obtain ⟨k,hk⟩:∃k:Nat,sw*sh=(k:Int):=⟨(sw*sh).toNat,by omega⟩
 have k1:wrap64 (sw*sh)=sw*sh:=by unfold wrap64;omega
 obtain ⟨w1,hw1'⟩:∃w1,w.alloc (.cells #[.int .i64 sw,.int .i64 sh,.slice so xs.length c1,.slice sd ys.length c2,.string src] 24)=w1:=⟨_,rfl⟩
 have s1:w1.heap[w.heap.size]?=some (.cells #[.int .i64 sw,.int .i64 sh,.slice so xs.length c1,.slice sd ys.length c2,.string src] 24 (0,0)):=by rw [←hw1'];exact heap_alloc_new w _
 obtain ⟨x0,x1,x2,x3,x4⟩:=(bk5 s1).1
 have hkl:(k:Int)≤36:=by omega
 rw [hk] at k1 m1 m2 ⊢
 rw [Int.toNat_natCast]
 have z1:w1.heap.size=w.heap.size+1:=by rw [←hw1'];simp
 have bw1:Below w.heap.size w w1:=by rw [←hw1'];exact (Below.refl _ w).alloc (Nat.le_refl _) _
 have B3:Hid (∀a b c,Below w1.heap.size w1 (((w1.alloc a).alloc b).alloc c)):=fun a b c=>(((Below.refl _ w1).alloc (Nat.le_refl _) a).alloc (by simp) b).alloc (by simp;omega) c
 have Z3:Hid (∀a b c,(((w1.alloc a).alloc b).alloc c).heap.size=w1.heap.size+1+1+1):=fun a b c=>by simp
 have T2:Hid (∀a b u (t:TypeId),(((w1.alloc a).alloc b).alloc u).heap[w1.heap.size+1+1]?=some u):=fun a b u _=>by have:=heap_alloc_newO ((w1.alloc a).alloc b) u;simpa using this
 have T1:Hid (∀a b u,(((w1.alloc a).alloc b).alloc u).heap[w1.heap.size+1]?=some b):=fun a b u=>by
  refine (Below.heap_alloc _ u _ (by simp)).trans ?_
  have:=heap_alloc_newO (w1.alloc a) b;simpa using this
 have T0:Hid (∀a b u,(((w1.alloc a).alloc b).alloc u).heap[w1.heap.size]?=some a):=fun a b u=>by
  refine (Below.heap_alloc _ u _ (by simp;omega)).trans ((Below.heap_alloc _ b _ (by simp)).trans ?_)
  exact heap_alloc_newO w1 a
 have HX:=hide hx
 have HY:=hide hy
 have BW1:=hide bw1
 have HZ1:=hide z1
 clear bw1 hx hy z1
 have hlt:w.heap.size < w1.heap.size:=(Array.getElem?_eq_some_iff.1 s1).1
 have hne:¬ w.heap.size=w1.heap.size:=by omega
 have kw:IntKind.i64.wrap (k:Int)=(k:Int):=by simp [IntKind.wrap,IntKind.bits,IntKind.signed];omega
 have KEEP:∀w':World,w'.heap[w.heap.size]?=w1.heap[w.heap.size]?→w'.cell? ⟨w.heap.size,0,none⟩=some (.int .i64 sw)∧w'.cell? ⟨w.heap.size,1,none⟩=some (.int .i64 sh)∧w'.cell? ⟨w.heap.size,2,none⟩=some (.slice so xs.length c1)∧w'.cell? ⟨w.heap.size,3,none⟩=some (.slice sd ys.length c2)∧w'.cell? ⟨w.heap.size,4,none⟩=some (.string src):=fun w' e=>(bk5 (e.trans s1)).1
 have l1:∀o,w.heap.size < (w1.alloc o).heap.size:=fun o=>by simp;omega
 have l2:∀o p,w.heap.size < ((w1.alloc o).alloc p).heap.size:=fun o p=>by simp;omega
 have l3:∀o p q,w.heap.size < (((w1.alloc o).alloc p).alloc q).heap.size:=fun o p q=>by simp;omega
 have a1:∀o,(w1.alloc o).heap[w.heap.size]?=w1.heap[w.heap.size]?:=fun o=>Below.heap_alloc _ _ _ hlt
 have a2:∀o p,((w1.alloc o).alloc p).heap[w.heap.size]?=w1.heap[w.heap.size]?:=fun o p=>(Below.heap_alloc _ _ _ (l1 o)).trans (a1 o)
 have a3:∀o p q,(((w1.alloc o).alloc p).alloc q).heap[w.heap.size]?=w1.heap[w.heap.size]?:=fun o p q=>(Below.heap_alloc _ _ _ (l2 o p)).trans (a2 o p)
 have a4:∀o p q r,((((w1.alloc o).alloc p).alloc q).alloc r).heap[w.heap.size]?=w1.heap[w.heap.size]?:=fun o p q r=>(Below.heap_alloc _ _ _ (l3 o p q)).trans (a3 o p q)
 have KE:=hide KEEP
 have A1:=hide a1
 have A2:=hide a2
 have A3:=hide a3
 have A4:=hide a4
 clear KEEP l1 l2 l3 a1 a2 a3 a4
 have mk:=fun w=>make_pic w k hkl
 have mm:=fun (w:World)=>@run_makeMap Tryz.prog 80 w
 go_enter Tryz.func35,Tryz.ntmps35
 go_wp2
 go_region_held3 (fun w'=>w'.cell? ⟨w.heap.size,0,none⟩=some (.int .i64 sw)∧w'.cell? ⟨w.heap.size,1,none⟩=some (.int .i64 sh)∧w'.cell? ⟨w.heap.size,2,none⟩=some (.slice so xs.length c1)∧w'.cell? ⟨w.heap.size,3,none⟩=some (.slice sd ys.length c2)∧w'.cell? ⟨w.heap.size,4,none⟩=some (.string src)) (first | exact unhide KE _ rfl | exact unhide KE _ (unhide A1 _) | exact unhide KE _ (unhide A2 _ _) | exact unhide KE _ (unhide A3 _ _ _) | exact unhide KE _ (unhide A4 _ _ _ _)) (fail)
 all_goals clear KE A1 A2 A3 A4 hlt hne x0 x1 x2 x3 x4 s1 hw1' mk mm
 all_goals go_wp2
 all_goals go_ret
 all_goals first
  | exact newP_of w w1 _ w1.heap.size (w1.heap.size+1) (w1.heap.size+1+1) k sw sh so sd c1 c2 xs ys src (unhide BW1) (unhide HZ1) (unhide B3 _ _ _) (unhide Z3 _ _ _) (unhide T0 _ _ _) (unhide T1 _ _ _) (unhide T2 _ _ _ 0) (by omega) (by omega) (by omega) ⟨by omega,by omega,by omega⟩ (unhide HX) (unhide HY)
  | exact newP_of w w1 _ w1.heap.size (w1.heap.size+1+1) (w1.heap.size+1) k sw sh so sd c1 c2 xs ys src (unhide BW1) (unhide HZ1) (unhide B3 _ _ _) (unhide Z3 _ _ _) (unhide T0 _ _ _) (unhide T2 _ _ _ 0) (unhide T1 _ _ _) (by omega) (by omega) (by omega) ⟨by omega,by omega,by omega⟩ (unhide HX) (unhide HY)
  | exact newP_of w w1 _ (w1.heap.size+1) w1.heap.size (w1.heap.size+1+1) k sw sh so sd c1 c2 xs ys src (unhide BW1) (unhide HZ1) (unhide B3 _ _ _) (unhide Z3 _ _ _) (unhide T1 _ _ _) (unhide T0 _ _ _) (unhide T2 _ _ _ 0) (by omega) (by omega) (by omega) ⟨by omega,by omega,by omega⟩ (unhide HX) (unhide HY)
  | exact newP_of w w1 _ (w1.heap.size+1) (w1.heap.size+1+1) w1.heap.size k sw sh so sd c1 c2 xs ys src (unhide BW1) (unhide HZ1) (unhide B3 _ _ _) (unhide Z3 _ _ _) (unhide T1 _ _ _) (unhide T2 _ _ _ 0) (unhide T0 _ _ _) (by omega) (by omega) (by omega) ⟨by omega,by omega,by omega⟩ (unhide HX) (unhide HY)
  | exact newP_of w w1 _ (w1.heap.size+1+1) w1.heap.size (w1.heap.size+1) k sw sh so sd c1 c2 xs ys src (unhide BW1) (unhide HZ1) (unhide B3 _ _ _) (unhide Z3 _ _ _) (unhide T2 _ _ _ 0) (unhide T0 _ _ _) (unhide T1 _ _ _) (by omega) (by omega) (by omega) ⟨by omega,by omega,by omega⟩ (unhide HX) (unhide HY)
  | exact newP_of w w1 _ (w1.heap.size+1+1) (w1.heap.size+1) w1.heap.size k sw sh so sd c1 c2 xs ys src (unhide BW1) (unhide HZ1) (unhide B3 _ _ _) (unhide Z3 _ _ _) (unhide T2 _ _ _ 0) (unhide T1 _ _ _) (unhide T0 _ _ _) (by omega) (by omega) (by omega) ⟨by omega,by omega,by omega⟩ (unhide HX) (unhide HY)
end Go.Proofs.YthmmgiaobakilaaGreat
