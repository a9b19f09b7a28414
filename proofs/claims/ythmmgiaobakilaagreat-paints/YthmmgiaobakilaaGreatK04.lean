import Derived.Test.YthmmgiaobakilaaGreatK03
import Derived.Deep.RegionWith
set_option maxRecDepth 100000
namespace Go.Proofs.YthmmgiaobakilaaGreat
open Go.RowKit
def badF (f:Int):Int:=if f=0 then 9 else f
def badP (f pl at_:Int):Int:=if f=0 then at_ else pl
theorem tok_kind (w:World) (k p:Int) (wd:ByteArray) (n s:Int):(Instr.field 116 (.agg #[.int .i64 k,.int .i64 p,.string wd,.int .i32 n,.int .i32 s]) 0).run Tryz.prog w = .ok (.int .i64 k) w:=by kernel_rfl
theorem tok_place (w:World) (k p:Int) (wd:ByteArray) (n s:Int):(Instr.field 116 (.agg #[.int .i64 k,.int .i64 p,.string wd,.int .i32 n,.int .i32 s]) 1).run Tryz.prog w = .ok (.int .i64 p) w:=by kernel_rfl
set_option maxHeartbeats 2000000 in
theorem pfail_any (w:World) (pb tb cap i:Nat) (T:List Tok) (f pl:Int) (h:PsAt w pb tb cap T i f pl) :
  Calls Tryz.prog 89 #[.pointer (some ⟨pb,0,none⟩)] w fun e w'=>e = .returned (.tuple #[])∧PsAt w' pb tb cap T (T.length-1) (badF f) (badP f pl (tkAt T i).place)∧Kept pb w w':=by
 go_enter Tryz.func89,Tryz.ntmps89
 have hd:PsAt w.drew pb tb cap T i f pl:=h.later (fun _ _=>rfl)
 have kd:Kept pb w w.drew:=⟨Nat.le_refl _,fun _ _ _=>rfl,⟨rfl,rfl,rfl⟩⟩
 clear h
 have tp:=tok_place
 go_wp2_with fail
 go_region_with (first
  | (go_at_call_of 85 (Value.pointer (some ⟨pb,0,none⟩));refine (next_any _ pb tb cap i T f pl ?_).mono ?_;exact hd;rintro e w1 ⟨rfl,hb1⟩;have h1:=hd.below hb1 (Nat.le_refl _);have k1:=kd.trans (Kept.below (pb:=pb) hb1);clear hb1;unfold tokP tkV)
  | (go_at_call_of 117 (Value.pointer (some ⟨pb,1,none⟩));refine (note_any _ pb tb cap i T f pl 9 _ h1).mono ?_;rintro e w2 ⟨rfl,h2,hk2⟩))
 have K2:=hide (k1.trans hk2)
 clear hd kd h1 k1 hk2
 have c0:=h2.cell 0
 have z0:=h2.thaw 0
 simp at c0
 have hl:=h2.lt
 have hroom:=h2.room
 have hfew:=h2.few
 obtain ⟨n,hn⟩:∃n,T.length-i=n+1:=⟨T.length-i-1,by omega⟩
 obtain ⟨m,hm⟩:∃m,cap-i=m:=⟨_,rfl⟩
 rw [hn,hm] at c0
 have hmi:((n+1:Nat):Int)-1=(n:Int):=by omega
 have hnm:n+1≤m:=by omega
 have hmx:m≤maxLen:=by omega
 have hmv:=hide ((h2.later (w':=w2.drew) (fun _ _=>rfl)).move (T.length-1) (by omega))
 have k3:=hide (((unhide K2).trans (⟨Nat.le_refl _,fun _ _ _=>rfl,⟨rfl,rfl,rfl⟩⟩:Kept pb w2 w2.drew)).trans (Kept.set pb w2.drew 0 (.slice (some ⟨tb,(T.length-1)*5,none⟩) (T.length-(T.length-1)) (cap-(T.length-1)))))
 rw [show (T.length-1)*5=i*5+n*5 by omega,show T.length-(T.length-1)=1 by omega,show cap-(T.length-1)=m-n by omega] at hmv k3
 clear h2
 go_wp2
 go_region
 go_end0
 exact ⟨rfl,unhide hmv,unhide k3⟩
def sgB (T:List Tok) (i:Nat) (r:Int):Bool:=(kP (tkAt T i)==4)&&(sP (tkAt T i)==r)
theorem runes_one (w:World) (r:Int):RunesIn (w.alloc (.cells #[.int .i32 r] 21)) w.heap.size 0 [r]:=runes_new w [r]
set_option maxHeartbeats 4000000 in
theorem takeSign_yes (w:World) (pb tb cap i:Nat) (T:List Tok) (f pl r:Int) (h:PsAt w pb tb cap T i f pl) (hs:sgB T i r=true) (hi:i+1 < T.length) :
  Calls Tryz.prog 111 #[.pointer (some ⟨pb,0,none⟩),.int .i32 r] w fun e w'=>e = .returned (.tuple #[])∧PsAt w' pb tb cap T (i+1) f pl∧Kept pb w w':=by
 go_enter Tryz.func111,Tryz.ntmps111
 go_wp2_with fail
 refine (next_any w pb tb cap i T f pl h).mono ?_
 rintro e w1 ⟨rfl,hb1⟩
 have h1:=h.below hb1 (Nat.le_refl _)
 have k1:Kept pb w w1:=Kept.below hb1
 clear h hb1
 go_wp2_with fail
 refine (isSign_any _ (kP (tkAt T i)) (tkAt T i).place (nP (tkAt T i)) (sP (tkAt T i)) (wP (tkAt T i)) w1.heap.size 0 1 [r] (runes_one w1 r) (by simp)).mono ?_
 rintro e w2 ⟨rfl,hb2⟩
 have h2:=(h1.alloc _).below hb2 (Nat.le_refl _)
 have k2:=(k1.trans (Kept.alloc pb w1 _)).trans (Kept.below hb2)
 have es:((kP (tkAt T i)==4)&&[r].any (fun t=>sP (tkAt T i)==t))=true:=by
  rw [List.any_cons,List.any_nil,Bool.or_false]
  exact hs
 rw [es]
 have K2:=hide k2
 clear h1 k1 hb2 k2 es
 go_wp2_with fail
 refine (take_any _ pb tb cap i T f pl h2 hi).mono ?_
 rintro e w3 ⟨rfl,h3,k3⟩
 go_wp2
 go_end0
 exact ⟨rfl,h3,(unhide K2).trans k3⟩
set_option maxHeartbeats 4000000 in
theorem takeSign_no (w:World) (pb tb cap i:Nat) (T:List Tok) (f pl r:Int) (h:PsAt w pb tb cap T i f pl) (hs:sgB T i r=false) :
  Calls Tryz.prog 111 #[.pointer (some ⟨pb,0,none⟩),.int .i32 r] w fun e w'=>e = .returned (.tuple #[])∧PsAt w' pb tb cap T (T.length-1) (badF f) (badP f pl (tkAt T i).place)∧Kept pb w w':=by
 go_enter Tryz.func111,Tryz.ntmps111
 go_wp2_with fail
 refine (next_any w pb tb cap i T f pl h).mono ?_
 rintro e w1 ⟨rfl,hb1⟩
 have h1:=h.below hb1 (Nat.le_refl _)
 have k1:Kept pb w w1:=Kept.below hb1
 clear h hb1
 go_wp2_with fail
 refine (isSign_any _ (kP (tkAt T i)) (tkAt T i).place (nP (tkAt T i)) (sP (tkAt T i)) (wP (tkAt T i)) w1.heap.size 0 1 [r] (runes_one w1 r) (by simp)).mono ?_
 rintro e w2 ⟨rfl,hb2⟩
 have h2:=(h1.alloc _).below hb2 (Nat.le_refl _)
 have k2:=(k1.trans (Kept.alloc pb w1 _)).trans (Kept.below hb2)
 have es:((kP (tkAt T i)==4)&&[r].any (fun t=>sP (tkAt T i)==t))=false:=by
  rw [List.any_cons,List.any_nil,Bool.or_false]
  exact hs
 rw [es]
 have K2:=hide k2
 clear h1 k1 hb2 k2 es
 go_wp2_with fail
 refine (pfail_any _ pb tb cap i T f pl h2).mono ?_
 rintro e w3 ⟨rfl,h3,k3⟩
 go_wp2
 refine bodyPost_ret (results_none rfl _ _ _) rfl ?_
 exact ⟨rfl,h3,(unhide K2).trans k3⟩
def nmB (T:List Tok) (i:Nat):Bool:=(kP (tkAt T i)==2) && !kwsP.any (fun t=>(wP (tkAt T i)).toList==t.toList)
theorem PsAt.other {w:World} {pb tb cap i:Nat} {T:List Tok} {f pl:Int} (h:PsAt w pb tb cap T i f pl) {b k:Nat} (v:Value) (h1:b≠pb) (h2:b≠tb):PsAt (w.setCell ⟨b,k,none⟩ v) pb tb cap T i f pl:=
 ⟨(Below.heap_setCell _ _ _ _ (fun e=>h1 e.symm)).trans h.blk,h.toks.same (Below.heap_setCell _ _ _ _ (fun e=>h2 e.symm)),h.low,h.lt,h.few,h.room⟩
theorem Kept.new {pb:Nat} {w w':World} (h:Kept pb w w') {b k:Nat} (v:Value) (hb:w.heap.size≤b):Kept pb w (w'.setCell ⟨b,k,none⟩ v):=
 ⟨by have:=h.1;simp;omega,fun j hj hn=>(Below.heap_setCell _ _ _ _ (by show j≠b;omega)).trans (h.2 j hj hn),h.same.set _ _⟩
set_option maxHeartbeats 4000000 in
theorem takeName_yes (w:World) (pb tb cap i:Nat) (T:List Tok) (f pl:Int) (h:PsAt w pb tb cap T i f pl) (hs:nmB T i=true) (hi:i+1 < T.length) :
  Calls Tryz.prog 109 #[.pointer (some ⟨pb,0,none⟩)] w fun e w'=>e = .returned (tokP (tkAt T i))∧PsAt w' pb tb cap T (i+1) f pl∧Kept pb w w':=by
 have hp:=h.plt
 go_enter Tryz.func109,Tryz.ntmps109
 go_wp2_with fail
 refine (next_any _ pb tb cap i T f pl (h.alloc _)).mono ?_
 rintro e w1 ⟨rfl,hb1⟩
 have h1:=(h.alloc _).below hb1 (Nat.le_refl _)
 have k1:=(Kept.alloc pb w _).trans (Kept.below (pb:=pb) hb1)
 have q0:w1.heap[w.heap.size]?=some (.cells #[.int .i64 0,.int .i64 0,.string ⟨#[]⟩,.int .i32 0,.int .i32 0] 116 (0,0)):=(hb1.block _ (by simp)).trans (heap_alloc_new w _)
 clear h hb1
 go_wp2_with fail
 refine (isName_any _ (kP (tkAt T i)) (tkAt T i).place (nP (tkAt T i)) (sP (tkAt T i)) (wP (tkAt T i))).mono ?_
 rintro e w2 ⟨rfl,hb2⟩
 have h2:=h1.below hb2 (Nat.le_refl _)
 have k2:=k1.trans (Kept.below (pb:=pb) hb2)
 have lt1:w.heap.size < w1.heap.size:=(Array.getElem?_eq_some_iff.1 q0).1
 have q2:=(hb2.block _ lt1).trans q0
 have es:((kP (tkAt T i)==2) && !kwsP.any (fun t=>(wP (tkAt T i)).toList==t.toList))=true:=hs
 rw [es]
 clear h1 k1 hb2 es q0
 go_wp2_with fail
 refine (take_any _ pb tb cap i T f pl h2 hi).mono ?_
 rintro e w3 ⟨rfl,h3,k3⟩
 have lt2:w.heap.size < w2.heap.size:=(Array.getElem?_eq_some_iff.1 q2).1
 have q3:=(k3.2 _ lt2 (by omega)).trans q2
 have K3:=hide (k2.trans k3)
 have d0:∀k,w3.cell? ⟨w.heap.size,k,none⟩ = #[Value.int .i64 0,.int .i64 0,.string ⟨#[]⟩,.int .i32 0,.int .i32 0][k]?:=fun k=>by simp only [World.cell?];rw [q3];simp
 have e0:∀k,w3.frozen? ⟨w.heap.size,k,none⟩=false:=fun k=>by simp only [World.frozen?];rw [q3];simp
 have d1:=d0 0
 have d2:=d0 1
 have d3:=d0 2
 have d4:=d0 3
 have d5:=d0 4
 have e1:=e0 0
 have e2:=e0 1
 have e3:=e0 2
 have e4:=e0 3
 have e5:=e0 4
 simp at d1 d2 d3 d4 d5
 clear d0 e0 k2 k3 q2 h2
 have hlow:=h3.low
 unfold tokP tkV
 go_wp2
 refine bodyPost_ret (v:=tokP (tkAt T i)) (by simp [results,Tryz.results109,go_sem,tokP,tkV,d1,d2,d3,d4,d5]) rfl ⟨rfl,?_,?_⟩
 ·exact ((((h3.other _ (by omega) (by omega)).other _ (by omega) (by omega)).other _ (by omega) (by omega)).other _ (by omega) (by omega)).other _ (by omega) (by omega)
 ·exact (((((unhide K3).new _ (Nat.le_refl _)).new _ (Nat.le_refl _)).new _ (Nat.le_refl _)).new _ (Nat.le_refl _)).new _ (Nat.le_refl _)
set_option maxHeartbeats 4000000 in
theorem takeName_no (w:World) (pb tb cap i:Nat) (T:List Tok) (f pl:Int) (h:PsAt w pb tb cap T i f pl) (hs:nmB T i=false) :
  Calls Tryz.prog 109 #[.pointer (some ⟨pb,0,none⟩)] w fun e w'=>e = .returned (tkV 0 0 ⟨#[]⟩ 0 0)∧PsAt w' pb tb cap T (T.length-1) (badF f) (badP f pl (tkAt T i).place)∧Kept pb w w':=by
 have hp:=h.plt
 go_enter Tryz.func109,Tryz.ntmps109
 go_wp2_with fail
 refine (next_any _ pb tb cap i T f pl (h.alloc _)).mono ?_
 rintro e w1 ⟨rfl,hb1⟩
 have h1:=(h.alloc _).below hb1 (Nat.le_refl _)
 have k1:=(Kept.alloc pb w _).trans (Kept.below (pb:=pb) hb1)
 have q0:w1.heap[w.heap.size]?=some (.cells #[.int .i64 0,.int .i64 0,.string ⟨#[]⟩,.int .i32 0,.int .i32 0] 116 (0,0)):=(hb1.block _ (by simp)).trans (heap_alloc_new w _)
 have lt1:w.heap.size < w1.heap.size:=(Array.getElem?_eq_some_iff.1 q0).1
 clear h hb1
 go_wp2_with fail
 refine (isName_any _ (kP (tkAt T i)) (tkAt T i).place (nP (tkAt T i)) (sP (tkAt T i)) (wP (tkAt T i))).mono ?_
 rintro e w2 ⟨rfl,hb2⟩
 have h2:=h1.below hb2 (Nat.le_refl _)
 have k2:=k1.trans (Kept.below (pb:=pb) hb2)
 have q2:=(hb2.block _ lt1).trans q0
 have es:((kP (tkAt T i)==2) && !kwsP.any (fun t=>(wP (tkAt T i)).toList==t.toList))=false:=hs
 rw [es]
 clear h1 k1 hb2 es q0
 go_wp2_with fail
 refine (pfail_any _ pb tb cap i T f pl h2).mono ?_
 rintro e w3 ⟨rfl,h3,k3⟩
 have lt2:w.heap.size < w2.heap.size:=(Array.getElem?_eq_some_iff.1 q2).1
 have q3:=(k3.2 _ lt2 (by omega)).trans q2
 have K3:=hide (k2.trans k3)
 have d0:∀k,w3.cell? ⟨w.heap.size,k,none⟩ = #[Value.int .i64 0,.int .i64 0,.string ⟨#[]⟩,.int .i32 0,.int .i32 0][k]?:=fun k=>by simp only [World.cell?];rw [q3];simp
 have e0:∀k,w3.frozen? ⟨w.heap.size,k,none⟩=false:=fun k=>by simp only [World.frozen?];rw [q3];simp
 have d1:=d0 0
 have d2:=d0 1
 have d3:=d0 2
 have d4:=d0 3
 have d5:=d0 4
 have e1:=e0 0
 have e2:=e0 1
 have e3:=e0 2
 have e4:=e0 3
 have e5:=e0 4
 simp at d1 d2 d3 d4 d5
 clear d0 e0 k2 k3 q2 h2
 have hlow:=h3.low
 go_wp2
 refine bodyPost_ret (v:=tkV 0 0 ⟨#[]⟩ 0 0) (by simp [results,Tryz.results109,go_sem,tokP,tkV,d1,d2,d3,d4,d5]) rfl ⟨rfl,?_,?_⟩
 ·exact ((((h3.other _ (by omega) (by omega)).other _ (by omega) (by omega)).other _ (by omega) (by omega)).other _ (by omega) (by omega)).other _ (by omega) (by omega)
 ·exact (((((unhide K3).new _ (Nat.le_refl _)).new _ (Nat.le_refl _)).new _ (Nat.le_refl _)).new _ (Nat.le_refl _)).new _ (Nat.le_refl _)
set_option maxHeartbeats 4000000 in
theorem takeNumber_yes (w:World) (pb tb cap i:Nat) (T:List Tok) (f pl:Int) (h:PsAt w pb tb cap T i f pl) (hs:(kP (tkAt T i)==3)=true) (hi:i+1 < T.length) :
  Calls Tryz.prog 132 #[.pointer (some ⟨pb,0,none⟩)] w fun e w'=>e = .returned (tokP (tkAt T i))∧PsAt w' pb tb cap T (i+1) f pl∧Kept pb w w':=by
 have hp:=h.plt
 go_enter Tryz.func132,Tryz.ntmps132
 go_wp2_with fail
 refine (next_any _ pb tb cap i T f pl (h.alloc _)).mono ?_
 rintro e w1 ⟨rfl,hb1⟩
 have h1:=(h.alloc _).below hb1 (Nat.le_refl _)
 have k1:=(Kept.alloc pb w _).trans (Kept.below (pb:=pb) hb1)
 have q0:w1.heap[w.heap.size]?=some (.cells #[.int .i64 0,.int .i64 0,.string ⟨#[]⟩,.int .i32 0,.int .i32 0] 116 (0,0)):=(hb1.block _ (by simp)).trans (heap_alloc_new w _)
 have lt1:w.heap.size < w1.heap.size:=(Array.getElem?_eq_some_iff.1 q0).1
 clear h hb1
 have h2:=h1
 have k2:=k1
 have q2:=q0
 obtain ⟨w2,hw2⟩:∃w2,w2=w1:=⟨_,rfl⟩
 rw [←hw2] at h2 k2 q2
 clear h1 k1 q0
 subst hw2
 have tk:=tok_kind
 unfold tokP tkV
 go_wp2_with fail
 refine (take_any _ pb tb cap i T f pl h2 hi).mono ?_
 rintro e w3 ⟨rfl,h3,k3⟩
 have lt2:w.heap.size < w2.heap.size:=(Array.getElem?_eq_some_iff.1 q2).1
 have q3:=(k3.2 _ lt2 (by omega)).trans q2
 have K3:=hide (k2.trans k3)
 have d0:∀k,w3.cell? ⟨w.heap.size,k,none⟩ = #[Value.int .i64 0,.int .i64 0,.string ⟨#[]⟩,.int .i32 0,.int .i32 0][k]?:=fun k=>by simp only [World.cell?];rw [q3];simp
 have e0:∀k,w3.frozen? ⟨w.heap.size,k,none⟩=false:=fun k=>by simp only [World.frozen?];rw [q3];simp
 have d1:=d0 0
 have d2:=d0 1
 have d3:=d0 2
 have d4:=d0 3
 have d5:=d0 4
 have e1:=e0 0
 have e2:=e0 1
 have e3:=e0 2
 have e4:=e0 3
 have e5:=e0 4
 simp at d1 d2 d3 d4 d5
 clear d0 e0 k2 k3 q2 h2
 have hlow:=h3.low
 unfold tokP tkV
 go_wp2
 refine bodyPost_ret (v:=tokP (tkAt T i)) (by simp [results,Tryz.results132,go_sem,tokP,tkV,d1,d2,d3,d4,d5]) rfl ⟨rfl,?_,?_⟩
 ·exact ((((h3.other _ (by omega) (by omega)).other _ (by omega) (by omega)).other _ (by omega) (by omega)).other _ (by omega) (by omega)).other _ (by omega) (by omega)
 ·exact (((((unhide K3).new _ (Nat.le_refl _)).new _ (Nat.le_refl _)).new _ (Nat.le_refl _)).new _ (Nat.le_refl _)).new _ (Nat.le_refl _)
set_option maxHeartbeats 4000000 in
theorem takeNumber_no (w:World) (pb tb cap i:Nat) (T:List Tok) (f pl:Int) (h:PsAt w pb tb cap T i f pl) (hs:(kP (tkAt T i)==3)=false) :
  Calls Tryz.prog 132 #[.pointer (some ⟨pb,0,none⟩)] w fun e w'=>e = .returned (tkV 0 0 ⟨#[]⟩ 0 0)∧PsAt w' pb tb cap T (T.length-1) (badF f) (badP f pl (tkAt T i).place)∧Kept pb w w':=by
 have hp:=h.plt
 go_enter Tryz.func132,Tryz.ntmps132
 go_wp2_with fail
 refine (next_any _ pb tb cap i T f pl (h.alloc _)).mono ?_
 rintro e w1 ⟨rfl,hb1⟩
 have h1:=(h.alloc _).below hb1 (Nat.le_refl _)
 have k1:=(Kept.alloc pb w _).trans (Kept.below (pb:=pb) hb1)
 have q0:w1.heap[w.heap.size]?=some (.cells #[.int .i64 0,.int .i64 0,.string ⟨#[]⟩,.int .i32 0,.int .i32 0] 116 (0,0)):=(hb1.block _ (by simp)).trans (heap_alloc_new w _)
 have lt1:w.heap.size < w1.heap.size:=(Array.getElem?_eq_some_iff.1 q0).1
 clear h hb1
 have h2:=h1
 have k2:=k1
 have q2:=q0
 obtain ⟨w2,hw2⟩:∃w2,w2=w1:=⟨_,rfl⟩
 rw [←hw2] at h2 k2 q2
 clear h1 k1 q0
 subst hw2
 have tk:=tok_kind
 unfold tokP tkV
 go_wp2_with fail
 refine (pfail_any _ pb tb cap i T f pl h2).mono ?_
 rintro e w3 ⟨rfl,h3,k3⟩
 have lt2:w.heap.size < w2.heap.size:=(Array.getElem?_eq_some_iff.1 q2).1
 have q3:=(k3.2 _ lt2 (by omega)).trans q2
 have K3:=hide (k2.trans k3)
 have d0:∀k,w3.cell? ⟨w.heap.size,k,none⟩ = #[Value.int .i64 0,.int .i64 0,.string ⟨#[]⟩,.int .i32 0,.int .i32 0][k]?:=fun k=>by simp only [World.cell?];rw [q3];simp
 have e0:∀k,w3.frozen? ⟨w.heap.size,k,none⟩=false:=fun k=>by simp only [World.frozen?];rw [q3];simp
 have d1:=d0 0
 have d2:=d0 1
 have d3:=d0 2
 have d4:=d0 3
 have d5:=d0 4
 have e1:=e0 0
 have e2:=e0 1
 have e3:=e0 2
 have e4:=e0 3
 have e5:=e0 4
 simp at d1 d2 d3 d4 d5
 clear d0 e0 k2 k3 q2 h2
 have hlow:=h3.low
 go_wp2
 refine bodyPost_ret (v:=tkV 0 0 ⟨#[]⟩ 0 0) (by simp [results,Tryz.results132,go_sem,tkV,d1,d2,d3,d4,d5]) rfl ⟨rfl,?_,?_⟩
 ·exact ((((h3.other _ (by omega) (by omega)).other _ (by omega) (by omega)).other _ (by omega) (by omega)).other _ (by omega) (by omega)).other _ (by omega) (by omega)
 ·exact (((((unhide K3).new _ (Nat.le_refl _)).new _ (Nat.le_refl _)).new _ (Nat.le_refl _)).new _ (Nat.le_refl _)).new _ (Nat.le_refl _)
end Go.Proofs.YthmmgiaobakilaaGreat

set_option maxRecDepth 100000
namespace Go.Proofs.YthmmgiaobakilaaGreat
open Go.RowKit Go.Deep
def CellsE (w:World) (g o:Nat) (t:Tok) (sv:Value):Prop:=
 w.cell? ⟨g,o,none⟩=some (.int .i64 (kP t))∧w.cell? ⟨g,o+1,none⟩=some (.int .i64 t.place)∧w.cell? ⟨g,o+2,none⟩=some (.string (wP t))∧w.cell? ⟨g,o+3,none⟩=some (.int .i32 (nP t))∧w.cell? ⟨g,o+4,none⟩=some (.int .i32 (sP t))∧w.cell? ⟨g,o+5,none⟩=some sv
def RepF (w:World) (Q:Nat→Prop):Ex→Nat→Nat→Prop
 | .nil,_,_=>True
 | .node _ _ t k r,g,o=>(∃sv,CellsE w g (o*6) t sv∧((k = .nil∧∃ao c,sv = .slice ao 0 c)∨(k≠.nil∧∃g' c,sv = .slice (some ⟨g',0,none⟩) (lenE k) c∧Q g'∧RepF w Q k g' 0)))∧RepF w Q r g (o+1)
def RepK (w:World) (Q:Nat→Prop) (sv:Value) (k:Ex):Prop:=(k = .nil∧∃ao c,sv = .slice ao 0 c)∨(k≠.nil∧∃g c,sv = .slice (some ⟨g,0,none⟩) (lenE k) c∧Q g∧RepF w Q k g 0)
def exV (t:Tok) (sv:Value):Value:=.agg #[.int .i64 (kP t),.int .i64 t.place,.string (wP t),.int .i32 (nP t),.int .i32 (sP t),sv]
def RepV (w:World) (Q:Nat→Prop) (v:Value) (e:Ex):Prop:=∃b o t k r sv,e = .node b o t k r∧v=exV t sv∧RepK w Q sv k
theorem RepK.form {w:World} {Q:Nat→Prop} {sv:Value} {k:Ex} (h:RepK w Q sv k):∃ao c,sv = .slice ao (lenE k) c:=by
 rcases h with ⟨rfl,ao,c,rfl⟩ | ⟨_,g,c,rfl,_⟩
 ·exact ⟨ao,c,rfl⟩
 ·exact ⟨_,c,rfl⟩
theorem CellsE.later {w w':World} {g o:Nat} {t:Tok} {sv:Value} (h:CellsE w g o t sv) (hs:w'.heap[g]?=w.heap[g]?):CellsE w' g o t sv:=by
 have e:∀o,w'.cell? ⟨g,o,none⟩=w.cell? ⟨g,o,none⟩:=fun o=>by simp only [World.cell?];rw [hs]
 unfold CellsE
 simp only [e]
 exact h
theorem CellsE.lt {w:World} {g o:Nat} {t:Tok} {sv:Value} (h:CellsE w g o t sv):g < w.heap.size:=World.block_lt_of_cell? _ _ h.1
def Stay (Q:Nat→Prop) (w w':World):Prop:=∀k,Q k→k < w.heap.size→w'.heap[k]?=w.heap[k]?
theorem Kept.stay {pb:Nat} {Q:Nat→Prop} {w w':World} (h:Kept pb w w') (hb:¬ Q pb):Stay Q w w':=fun k hk hl=>h.2 k hl (fun e=>hb (e ▸ hk))
theorem Stay.trans {Q:Nat→Prop} {a b c:World} (h1:Stay Q a b) (hs:a.heap.size≤b.heap.size) (h2:Stay Q b c):Stay Q a c:=fun k hk hl=>(h2 k hk (by omega)).trans (h1 k hk hl)
theorem RepF.lt {w:World} {Q:Nat→Prop} {k:Ex} {g o:Nat} (hn:k≠.nil) (h:RepF w Q k g o):g < w.heap.size:=by
 cases k with
 | nil=>exact absurd rfl hn
 | node _ _ _ _ _=>obtain ⟨⟨_,hc,_⟩,_⟩:=h;exact hc.lt
theorem RepF.later {w w':World} {Q Q':Nat→Prop} (hk:Stay Q w w') (hB:∀k,Q k→k < w.heap.size→Q' k):∀(e:Ex) (g o:Nat),Q g→RepF w Q e g o→RepF w' Q' e g o
 | .nil,_,_,_,_=>trivial
 | .node _ _ t k r,g,o,hg,⟨⟨sv,hc,hs⟩,hr⟩=>by
  refine ⟨⟨sv,hc.later (hk g hg hc.lt),?_⟩,RepF.later hk hB r g (o+1) hg hr⟩
  rcases hs with hs | ⟨hn,g',c,e,hg',hf⟩
  ·exact .inl hs
  ·exact .inr ⟨hn,g',c,e,hB _ hg' (hf.lt hn),RepF.later hk hB k g' 0 hg' hf⟩
theorem RepK.later {w w':World} {Q Q':Nat→Prop} (hk:Stay Q w w') (hB:∀k,Q k→k < w.heap.size→Q' k) {sv:Value} {k:Ex} (h:RepK w Q sv k):RepK w' Q' sv k:=by
 rcases h with h | ⟨hn,g,c,e,hg,hf⟩
 ·exact .inl h
 ·exact .inr ⟨hn,g,c,e,hB _ hg (hf.lt hn),hf.later hk hB k g 0 hg⟩
theorem RepV.later {w w':World} {Q Q':Nat→Prop} (hk:Stay Q w w') (hB:∀k,Q k→k < w.heap.size→Q' k) {v:Value} {e:Ex} (h:RepV w Q v e):RepV w' Q' v e:=by
 obtain ⟨b,o,t,k,r,sv,he,hv,hr⟩:=h
 exact ⟨b,o,t,k,r,sv,he,hv,hr.later hk hB⟩
def exW (k p:Int) (wd:ByteArray) (n s:Int) (sv:Value):Value:=.agg #[.int .i64 k,.int .i64 p,.string wd,.int .i32 n,.int .i32 s,sv]
abbrev ERes (w':World) (Q:Nat→Prop) (pb tb cap:Nat) (T:List Tok) (f pl:Int) (v:Value):Except Nat (Ex×Nat)→Prop
 | .ok (t,j)=>PsAt w' pb tb cap T j f pl∧RepV w' Q v t
 | .error x=>PsAt w' pb tb cap T (T.length-1) (badF f) (badP f pl (tkAt T x).place)
def EOut (w:World) (pb tb cap:Nat) (T:List Tok) (f pl:Int) (r:Except Nat (Ex×Nat)) (e:Ending) (w':World):Prop:=Kept pb w w'∧∃k p wd n s ao len c,e = .returned (exW k p wd n s (.slice ao len c))∧ERes w' (fun g=>w.heap.size≤g) pb tb cap T f pl (exW k p wd n s (.slice ao len c)) r
structure TokW (T:List Tok):Prop where
 last:LastOver T
 kinds:∀i,(tkAt T i).kind=0∨(tkAt T i).kind=1∨(tkAt T i).kind=2∨(tkAt T i).kind=3∨(tkAt T i).kind=4
 key:∀i,(tkAt T i).kind=0→memB (tkAt T i).text kws=true
 name:∀i,(tkAt T i).kind=1→memB (tkAt T i).text kws=false
 sign:∀i,(tkAt T i).kind=3→(tkAt T i).text∈signs
 nums:∀i,0≤(tkAt T i).num∧(tkAt T i).num≤65536
theorem rune_table:signs.map runeOf=runesL:=by
 unfold runeOf
 simp only [ByteArray.toList_eq]
 decide
theorem rune_inj {a b:ByteArray} (ha:a∈signs) (hb:b∈signs) (h:runeOf a=runeOf b):a=b:=by
 obtain ⟨i,hi,rfl⟩:=List.getElem_of_mem ha
 obtain ⟨j,hj,rfl⟩:=List.getElem_of_mem hb
 have t:=rune_table
 have e:∀k (hk:k < signs.length),runeOf signs[k]=runesL[k]'(by rw [←t,List.length_map];exact hk):=fun k hk=>by
  have:(signs.map runeOf)[k]?=runesL[k]?:=by rw [t]
  rw [List.getElem?_map,List.getElem?_eq_getElem hk,List.getElem?_eq_getElem (by rw [←t,List.length_map];exact hk)] at this
  exact Option.some.inj this
 rw [e i hi,e j hj] at h
 have inj:∀i,i < 18→∀j,j < 18→runesL.getD i 0=runesL.getD j 0→i=j:=by decide
 have g:∀k (hk:k < runesL.length),runesL.getD k 0=runesL[k]:=fun k hk=>by simp [List.getD,List.getElem?_eq_getElem hk]
 have hij:i=j:=inj i hi j hj (by rw [g i hi,g j hj];exact h)
 subst hij
 rfl
theorem kws_eq:kwsP=kws:=rfl
theorem sign_not_key:∀s∈signs,memB s kws=false:=by
 intro s hs
 unfold memB
 simp only [ByteArray.toList_eq]
 revert s
 unfold signs kws
 decide
section
variable {T:List Tok} (hT:TokW T)
theorem kP_word (t:Tok) (h:t.kind=0∨t.kind=1):kP t=2:=by unfold kP;rcases h with h | h <;> rw [h] <;> rfl
theorem wP_word (t:Tok) (h:t.kind=0∨t.kind=1):wP t=t.text:=by unfold wP;rcases h with h | h <;> rw [h] <;> rfl
theorem kP_num (t:Tok) (h:t.kind=2):kP t=3:=by unfold kP;rw [h];rfl
theorem kP_sign (t:Tok) (h:t.kind=3):kP t=4:=by unfold kP;rw [h];rfl
theorem sP_sign (t:Tok) (h:t.kind=3):sP t=runeOf t.text:=by unfold sP;rw [h];rfl
theorem kP_over (t:Tok) (h:t.kind=4):kP t=5:=by unfold kP;rw [h];rfl
theorem memB_comm (s:ByteArray) (l:List ByteArray):l.any (fun t=>s.toList==t.toList)=memB s l:=by
 unfold memB
 congr 1
 funext t
 exact Bool.beq_comm
theorem sg_is (hT:TokW T) (i:Nat) {s:ByteArray} (hs:s∈signs):sgB T i (runeOf s)=isT T i s:=by
 unfold sgB isT
 rcases hT.kinds i with h | h | h | h | h
 ·rw [kP_word _ (.inl h),h]
  have hk:=hT.key i h
  have hne:((tkAt T i).text.toList==s.toList)=false:=by
   cases he:((tkAt T i).text.toList==s.toList)
   ·rfl
   ·have e:=bytes_eq (by simpa using he:(tkAt T i).text.toList=s.toList)
    rw [e,sign_not_key s hs] at hk
    cases hk
  rw [hne]
  simp
 ·rw [kP_word _ (.inr h),h];rfl
 ·rw [kP_num _ h,h];rfl
 ·rw [kP_sign _ h,sP_sign _ h,h]
  cases he:((tkAt T i).text.toList==s.toList)
  ·have hne:runeOf (tkAt T i).text≠runeOf s:=fun e=>by
    have:=rune_inj (hT.sign i h) hs e
    rw [this] at he
    simp at he
   simp [hne]
  ·have e:=bytes_eq (by simpa using he:(tkAt T i).text.toList=s.toList)
   rw [e]
   simp
 ·rw [kP_over _ h,h];rfl
theorem wd_is (hT:TokW T) (i:Nat) {l:List ByteArray} (hl:∀s∈l,memB s kws=true):((kP (tkAt T i)==2)&&l.any (fun t=>(wP (tkAt T i)).toList==t.toList))=l.any (isT T i):=by
 have no:(tkAt T i).kind≠0→l.any (isT T i)=false:=fun hk=>by
  rw [List.any_eq_false]
  intro s hs
  unfold isT
  rcases hT.kinds i with h | h | h | h | h
  ·exact absurd h hk
  ·rw [h];simp
  ·rw [h];simp
  ·rw [h]
   have hne:((tkAt T i).text.toList==s.toList)=false:=by
    cases he:((tkAt T i).text.toList==s.toList)
    ·rfl
    ·have e:=bytes_eq (by simpa using he:(tkAt T i).text.toList=s.toList)
     have a:=sign_not_key _ (hT.sign i h)
     rw [e,hl s hs] at a
     cases a
   rw [hne];simp
  ·rw [h];simp
 rcases hT.kinds i with h | h | h | h | h
 ·rw [kP_word _ (.inl h),wP_word _ (.inl h)]
  show l.any _=_
  congr 1
  funext s
  unfold isT
  rw [h]
  simp
 ·rw [no (by rw [h];decide),kP_word _ (.inr h),wP_word _ (.inr h)]
  have hn:=hT.name i h
  show l.any _=false
  rw [List.any_eq_false]
  intro s hs he
  have e:=bytes_eq (by simpa using he:(tkAt T i).text.toList=s.toList)
  rw [e,hl s hs] at hn
  cases hn
 ·rw [no (by rw [h];decide),kP_num _ h];rfl
 ·rw [no (by rw [h];decide),kP_sign _ h];rfl
 ·rw [no (by rw [h];decide),kP_over _ h];rfl
theorem nm_is (hT:TokW T) (i:Nat):nmB T i=((tkAt T i).kind==1):=by
 unfold nmB
 rw [memB_comm,kws_eq]
 rcases hT.kinds i with h | h | h | h | h
 ·rw [kP_word _ (.inl h),wP_word _ (.inl h),hT.key i h,h];rfl
 ·rw [kP_word _ (.inr h),wP_word _ (.inr h),hT.name i h,h];rfl
 ·rw [kP_num _ h,h];rfl
 ·rw [kP_sign _ h,h];rfl
 ·rw [kP_over _ h,h];rfl
theorem nu_is (hT:TokW T) (i:Nat):(kP (tkAt T i)==3)=((tkAt T i).kind==2):=by
 rcases hT.kinds i with h | h | h | h | h
 ·rw [kP_word _ (.inl h),h];rfl
 ·rw [kP_word _ (.inr h),h];rfl
 ·rw [kP_num _ h,h];rfl
 ·rw [kP_sign _ h,h];rfl
 ·rw [kP_over _ h,h];rfl
end
end Go.Proofs.YthmmgiaobakilaaGreat

set_option maxRecDepth 100000
namespace Go.Proofs.YthmmgiaobakilaaGreat
open Go.RowKit Go.Deep
def TokG (t:Tok):Prop:=(t.kind=0∧memB t.text kws=true)∨(t.kind=1∧memB t.text kws=false)∨t.kind=2∨(t.kind=3∧t.text∈signs)
theorem word_g (s:ByteArray) (a:Nat):TokG (wordTok s a):=by
 unfold wordTok
 cases h:memB (wordAt s a) kws
 ·exact .inr (.inl ⟨by simp,h⟩)
 ·exact .inl ⟨by simp,h⟩
theorem sign_g (s:ByteArray) (a:Nat) (h:0 < (signF s a).size):TokG (signTok s a):=by
 refine .inr (.inr (.inr ⟨rfl,?_⟩))
 show signF s a∈signs
 unfold signF at *
 cases hf:signs.find? (okS s a) with
 | none=>rw [hf] at h;exact absurd h (show ¬ (0:Nat) < 0 by omega)
 | some t=>exact List.mem_of_find?_eq_some hf
theorem lex_g (s:ByteArray) (f:Nat):∀a acc l p,(∀t∈acc,TokG t)→lex s f a acc=(some l,p)→∀t∈l,TokG t:=by
 induction f with
 | zero=>
  intro a acc l p h1 h
  simp only [lex,Prod.mk.injEq,Option.some.injEq] at h
  rw [←h.1];exact h1
 | succ f ih=>
  intro a acc l p h1 h
  rw [lex] at h
  have sn:∀t:Tok,TokG t→∀u∈acc++[t],TokG u:=fun t ht u hu=>by
   rcases List.mem_append.1 hu with hu | hu
   ·exact h1 u hu
   ·simp at hu;rw [hu];exact ht
  split at h
  ·split at h
   ·exact ih _ _ l p h1 h
   split at h
   ·exact ih _ _ l p (sn _ (word_g s a)) h
   split at h
   ·split at h
    ·cases h
    ·exact ih _ _ l p (sn _ (.inr (.inr (.inl rfl)))) h
   split at h
   ·rename_i h3
    exact ih _ _ l p (sn _ (sign_g s a h3)) h
   ·cases h
  ·simp only [Prod.mk.injEq,Option.some.injEq] at h
   rw [←h.1];exact h1
theorem lex_tokW {s:ByteArray} {l:List Tok} {p:Nat} (hs:s.size≤300) (h:lex s s.size 0 []=(some l,p)):TokW (l++[overTok p]):=by
 obtain ⟨t1,t2,_⟩:=toks_ok hs h
 have hg:=lex_g s s.size 0 [] l p (by intro t ht;cases ht) h
 have all:∀i,(tkAt (l++[overTok p]) i).kind=4∨TokG (tkAt (l++[overTok p]) i):=fun i=>by
  unfold tkAt
  rcases Nat.lt_or_ge i (l++[overTok p]).length with hi | hi
  ·have hm:(l++[overTok p]).getD i ⟨4,0,0,⟨#[]⟩⟩∈l++[overTok p]:=by
    rw [List.getD,List.getElem?_eq_getElem hi,Option.getD_some]
    exact List.getElem_mem hi
   rcases List.mem_append.1 hm with hm | hm
   ·exact .inr (hg _ hm)
   ·simp only [List.mem_singleton] at hm
    rw [hm]
    exact .inl rfl
  ·rw [List.getD,List.getElem?_eq_none hi,Option.getD_none]
   exact .inl rfl
 refine ⟨t1,fun i=>?_,fun i hk=>?_,fun i hk=>?_,fun i hk=>?_,t2⟩
 ·rcases all i with h | ⟨h,_⟩ | ⟨h,_⟩ | h | ⟨h,_⟩ <;> simp [h]
 ·rcases all i with h | ⟨h,g⟩ | ⟨h,_⟩ | h | ⟨h,_⟩
  ·rw [h] at hk;cases hk
  ·exact g
  ·rw [h] at hk;cases hk
  ·rw [h] at hk;cases hk
  ·rw [h] at hk;cases hk
 ·rcases all i with h | ⟨h,_⟩ | ⟨h,g⟩ | h | ⟨h,_⟩
  ·rw [h] at hk;cases hk
  ·rw [h] at hk;cases hk
  ·exact g
  ·rw [h] at hk;cases hk
  ·rw [h] at hk;cases hk
 ·rcases all i with h | ⟨h,_⟩ | ⟨h,_⟩ | h | ⟨h,g⟩
  ·rw [h] at hk;cases hk
  ·rw [h] at hk;cases hk
  ·rw [h] at hk;cases hk
  ·rw [h] at hk;cases hk
  ·exact g
theorem badF_ne (f:Int):badF f≠0:=by unfold badF;split <;> omega
theorem badF_bad (f:Int):badF (badF f)=badF f:=by have:=badF_ne f;rw [badF,if_neg this]
theorem badP_bad (f pl x y:Int):badP (badF f) (badP f pl x) y=badP f pl x:=by have:=badF_ne f;rw [badP,if_neg this]
theorem over_is {T:List Tok} (h:LastOver T) (s:ByteArray):isT T (T.length-1) s=false:=by unfold isT;rw [h.2];rfl
def UOut {α:Type} (w:World) (pb tb cap:Nat) (T:List Tok) (f pl:Int) (r:Except Nat (α×Nat)) (e:Ending) (w':World):Prop:=e = .returned (.tuple #[])∧Kept pb w w'∧match r with
 | .ok (_,j)=>PsAt w' pb tb cap T j f pl
 | .error k=>PsAt w' pb tb cap T (T.length-1) (badF f) (badP f pl (tkAt T k).place)
theorem takeSign_any {T:List Tok} (hT:TokW T) (w:World) (pb tb cap i:Nat) (f pl c:Int) (s:ByteArray) (hs:s∈signs) (hc:runeOf s=c) (h:PsAt w pb tb cap T i f pl) {r:Except Nat (Unit×Nat)} (hr:pNeed T s i=some r) :
  Calls Tryz.prog 111 #[.pointer (some ⟨pb,0,none⟩),.int .i32 c] w (UOut w pb tb cap T f pl r):=by
 unfold pNeed at hr
 split at hr
 ·rename_i hi
  cases hr
  refine (takeSign_yes w pb tb cap i T f pl c h (by rw [←hc,sg_is hT i hs];exact hi) (isT_next hT.last h.lt hi)).mono ?_
  rintro e w' ⟨he,h1,k1⟩
  exact ⟨he,k1,h1⟩
 ·rename_i hi
  cases hr
  refine (takeSign_no w pb tb cap i T f pl c h (by rw [←hc,sg_is hT i hs];exact Bool.eq_false_iff.2 hi)).mono ?_
  rintro e w' ⟨he,h1,k1⟩
  exact ⟨he,k1,h1⟩
theorem takeSign_bad {T:List Tok} (hT:TokW T) (w:World) (pb tb cap:Nat) (f pl c x:Int) (s:ByteArray) (hs:s∈signs) (hc:runeOf s=c) (h:PsAt w pb tb cap T (T.length-1) (badF f) (badP f pl x)) :
  Calls Tryz.prog 111 #[.pointer (some ⟨pb,0,none⟩),.int .i32 c] w fun e w'=>e = .returned (.tuple #[])∧Kept pb w w'∧PsAt w' pb tb cap T (T.length-1) (badF f) (badP f pl x):=by
 refine (takeSign_no w pb tb cap _ T _ _ c h (by rw [←hc,sg_is hT _ hs];exact over_is hT.last s)).mono ?_
 rintro e w' ⟨he,h1,k1⟩
 rw [badF_bad,badP_bad] at h1
 exact ⟨he,k1,h1⟩
theorem takeSign_after {α β:Type} {T:List Tok} (hT:TokW T) (w:World) (pb tb cap:Nat) (f pl c:Int) (s:ByteArray) (hs:s∈signs) (hc:runeOf s=c) {r1:Except Nat (α×Nat)} {g:α→β} {r:Except Nat (β×Nat)}
  (h:match r1 with | .ok (_,j)=>PsAt w pb tb cap T j f pl | .error x=>PsAt w pb tb cap T (T.length-1) (badF f) (badP f pl (tkAt T x).place))
  (hr:andThen (some r1) (fun e j=>andThen (pNeed T s j) fun _ j=>got (g e) j)=some r) :
  Calls Tryz.prog 111 #[.pointer (some ⟨pb,0,none⟩),.int .i32 c] w (UOut w pb tb cap T f pl r):=by
 cases r1 with
 | error x=>
  cases hr
  refine (takeSign_bad hT w pb tb cap f pl c _ s hs hc h).mono ?_
  rintro e w' ⟨he,k,h1⟩
  exact ⟨he,k,h1⟩
 | ok xj=>
  obtain ⟨x,j⟩:=xj
  obtain ⟨r2,e2⟩:=need_some T s j
  simp only [andThen] at hr
  rw [e2] at hr
  refine (takeSign_any hT w pb tb cap j f pl c s hs hc h e2).mono ?_
  rintro e w' ⟨he,k,h1⟩
  cases r2 with
  | error y=>cases hr;exact ⟨he,k,h1⟩
  | ok yj=>obtain ⟨_,j2⟩:=yj;cases hr;exact ⟨he,k,h1⟩
theorem rune_PO:runeOf sPO=40:=by unfold runeOf;simp only [ByteArray.toList_eq];decide
theorem rune_PC:runeOf sPC=41:=by unfold runeOf;simp only [ByteArray.toList_eq];decide
theorem rune_BO:runeOf sBO=91:=by unfold runeOf;simp only [ByteArray.toList_eq];decide
theorem rune_BC:runeOf sBC=93:=by unfold runeOf;simp only [ByteArray.toList_eq];decide
theorem rune_CM:runeOf sCM=44:=by unfold runeOf;simp only [ByteArray.toList_eq];decide
theorem rune_SC:runeOf sSC=59:=by unfold runeOf;simp only [ByteArray.toList_eq];decide
theorem rune_AR:runeOf sAR=8592:=by unfold runeOf;simp only [ByteArray.toList_eq];decide
theorem rune_DT:runeOf sDT=8230:=by unfold runeOf;simp only [ByteArray.toList_eq];decide
theorem rune_CO:runeOf sCO=123:=by unfold runeOf;simp only [ByteArray.toList_eq];decide
theorem rune_CC:runeOf sCC=125:=by unfold runeOf;simp only [ByteArray.toList_eq];decide
theorem rune_NEG:runeOf sNEG=45:=by unfold runeOf;simp only [ByteArray.toList_eq];decide
theorem mem_sg:sPO∈signs∧sPC∈signs∧sBO∈signs∧sBC∈signs∧sCM∈signs∧sSC∈signs∧sAR∈signs∧sDT∈signs∧sCO∈signs∧sCC∈signs∧sNEG∈signs:=by
 simp [signs,sPO,sPC,sBO,sBC,sCM,sSC,sAR,sDT,sCO,sCC,sNEG]
def ParsesE (fn:Nat) (P:PE):Prop:=∀(w:World) (pb tb cap i:Nat) (T:List Tok) (f pl:Int) (r:Except Nat (Ex×Nat)),TokW T→PsAt w pb tb cap T i f pl→P T i=some r→Calls Tryz.prog fn #[.pointer (some ⟨pb,0,none⟩)] w (EOut w pb tb cap T f pl r)
theorem blk6 {w:World} {b:Nat} {ty:TypeId} {c0 c1 c2 c3 c4 c5:Value} (h:w.heap[b]?=some (.cells #[c0,c1,c2,c3,c4,c5] ty (0,0))) :
  (w.cell? ⟨b,0,none⟩=some c0∧w.cell? ⟨b,1,none⟩=some c1∧w.cell? ⟨b,2,none⟩=some c2∧w.cell? ⟨b,3,none⟩=some c3∧w.cell? ⟨b,4,none⟩=some c4∧w.cell? ⟨b,5,none⟩=some c5) ∧
  (w.frozen? ⟨b,0,none⟩=false∧w.frozen? ⟨b,1,none⟩=false∧w.frozen? ⟨b,2,none⟩=false∧w.frozen? ⟨b,3,none⟩=false∧w.frozen? ⟨b,4,none⟩=false∧w.frozen? ⟨b,5,none⟩=false):=by
 refine ⟨⟨?_,?_,?_,?_,?_,?_⟩,?_,?_,?_,?_,?_,?_⟩ <;> simp [World.cell?,World.frozen?,h]
def put6 (w:World) (b:Nat) (k p:Int) (wd:ByteArray) (n s:Int) (sv:Value):World:=(((((w.setCell ⟨b,0,none⟩ (.int .i64 k)).setCell ⟨b,1,none⟩ (.int .i64 p)).setCell ⟨b,2,none⟩ (.string wd)).setCell ⟨b,3,none⟩ (.int .i32 n)).setCell ⟨b,4,none⟩ (.int .i32 s)).setCell ⟨b,5,none⟩ sv
theorem PsAt.put6 {w:World} {pb tb cap i:Nat} {T:List Tok} {f pl:Int} (h:PsAt w pb tb cap T i f pl) {b:Nat} (h1:b≠pb) (h2:b≠tb) {k p n s:Int} {wd:ByteArray} {sv:Value} : PsAt (put6 w b k p wd n s sv) pb tb cap T i f pl:=
 (((((h.other _ h1 h2).other _ h1 h2).other _ h1 h2).other _ h1 h2).other _ h1 h2).other _ h1 h2
theorem Kept.put6 {pb:Nat} {w w':World} (h:Kept pb w w') {b:Nat} (hb:w.heap.size≤b) {k p n s:Int} {wd:ByteArray} {sv:Value} : Kept pb w (put6 w' b k p wd n s sv):=
 (((((h.new _ hb).new _ hb).new _ hb).new _ hb).new _ hb).new _ hb
set_option maxHeartbeats 4000000 in
theorem bracket_any {X:PE} (hX:ParsesE 130 X) (w:World) (pb tb cap i:Nat) (T:List Tok) (f pl:Int) (r:Except Nat (Ex×Nat)) (hT:TokW T) (h:PsAt w pb tb cap T i f pl) (hi:isT T i sPO=true)
  (hr:(andThen (X T (i+1)) fun e j=>andThen (pNeed T sPC j) fun _ j=>got e j)=some r) :
  Calls Tryz.prog 150 #[.pointer (some ⟨pb,0,none⟩)] w (EOut w pb tb cap T f pl r):=by
 have hp:=h.plt
 have hlow:=h.low
 cases hx:X T (i+1) with
 | none=>rw [hx] at hr;cases hr
 | some r1=>
 rw [hx] at hr
 have hx1:=hide hx
 clear hx
 have HR:=hide hr
 clear hr
 go_enter Tryz.func150,Tryz.ntmps150
 go_wp2_with fail
 refine (takeSign_any hT _ pb tb cap i f pl 40 sPO mem_sg.1 rune_PO (h.alloc _) (r:=.ok ((),i+1)) (by unfold pNeed;rw [if_pos hi];rfl)).mono ?_
 rintro e w1 ⟨rfl,k1,h1⟩
 have q1:w1.heap[w.heap.size]?=some (.cells #[.int .i64 0,.int .i64 0,.string ⟨#[]⟩,.int .i32 0,.int .i32 0,.slice none 0 0] 119 (0,0)):=(k1.2 _ (by simp) (by omega)).trans (heap_alloc_new w _)
 have K1:=(Kept.alloc pb w _).trans k1
 clear h k1
 go_wp2_with fail
 refine (hX w1 pb tb cap (i+1) T f pl r1 hT h1 (unhide hx1)).mono ?_
 rintro e w2 ⟨k2,a0,a1,a2,a3,a4,ao,len,c,rfl,h2⟩
 have lt1:w.heap.size < w1.heap.size:=(Array.getElem?_eq_some_iff.1 q1).1
 have q2:=(k2.2 _ lt1 (by omega)).trans q1
 have K2:=K1.trans k2
 have lt2:w.heap.size < w2.heap.size:=(Array.getElem?_eq_some_iff.1 q2).1
 clear K1 k2 q1 h1 hx1
 unfold exW
 go_wp2_with fail
 refine (takeSign_after hT _ pb tb cap f pl 41 sPC mem_sg.2.1 rune_PC (r1:=r1) (g:=fun e=>e) (r:=r) ?_ (unhide HR)).mono ?_
 ·cases r1 with
  | error x=>exact PsAt.alloc h2 _
  | ok xj=>exact h2.1.alloc _
 rintro e w3 ⟨rfl,k3,h3⟩
 have q3:=(k3.2 _ (by simp;omega) (by omega)).trans ((Below.heap_alloc w2 _ _ lt2).trans q2)
 have lt3:=k3.1
 have p3:w3.heap[w2.heap.size]?=some (.cells #[.int .i64 a0,.int .i64 a1,.string a2,.int .i32 a3,.int .i32 a4,.slice ao len c] 119 (0,0)):=(k3.2 _ (by simp) (by have:=K2.1;omega)).trans (heap_alloc_new w2 _)
 obtain ⟨⟨d0,d1,d2,d3,d4,d5⟩,z0,z1,z2,z3,z4,z5⟩:=blk6 q3
 obtain ⟨⟨x0,x1,x2,x3,x4,x5⟩,_⟩:=blk6 p3
 have K3:=hide ((K2.trans (Kept.alloc pb w2 _)).trans k3)
 have st:Stay (fun g=>w1.heap.size≤g) w2 (put6 w3 w.heap.size a0 a1 a2 a3 a4 (.slice ao len c)):=fun k hk hl=>by
  have hk:w1.heap.size≤k:=hk
  have e0:(put6 w3 w.heap.size a0 a1 a2 a3 a4 (.slice ao len c)).heap[k]?=w3.heap[k]?:=by
   unfold put6
   have hne:k≠w.heap.size:=by omega
   exact (Below.heap_setCell _ _ _ _ hne).trans ((Below.heap_setCell _ _ _ _ hne).trans ((Below.heap_setCell _ _ _ _ hne).trans ((Below.heap_setCell _ _ _ _ hne).trans ((Below.heap_setCell _ _ _ _ hne).trans (Below.heap_setCell _ _ _ _ hne)))))
  exact e0.trans ((k3.2 k (by simp;omega) (by omega)).trans (Below.heap_alloc w2 _ k hl))
 have ST:=hide st
 have hne2:w.heap.size≠w2.heap.size:=by omega
 have H2:=hide h2
 have H3:=hide h3
 clear h2 h3 st q3 p3 k3 K2 q2
 go_wp2
 refine bodyPost_ret (v:=exW a0 a1 a2 a3 a4 (.slice ao len c)) (by simp [results,Tryz.results150,go_sem,exW,d0,d1,d2,d3,d4,d5]) rfl ⟨(unhide K3).put6 (Nat.le_refl _),a0,a1,a2,a3,a4,ao,len,c,rfl,?_⟩
 have h3:=unhide H3
 have h2:=unhide H2
 have hr:=unhide HR
 cases r with
 | error x=>exact h3.put6 (by omega) (by omega)
 | ok xj=>
  obtain ⟨t,j⟩:=xj
  cases r1 with
  | error x=>cases hr
  | ok yj=>
   obtain ⟨t1,j1⟩:=yj
   obtain ⟨_,_,e1,hr2⟩:=then_ok hr
   cases e1
   obtain ⟨_,_,_,hr3⟩:=then_ok hr2
   cases hr3
   exact ⟨h3.put6 (by omega) (by omega),h2.2.later (unhide ST) (fun k hk _=>by show _≤_;have:w1.heap.size≤k:=hk;omega)⟩
end Go.Proofs.YthmmgiaobakilaaGreat
