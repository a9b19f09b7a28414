import Derived.Test.YthmmgiaobakilaaGreatK01
import Derived.RangeFuncNested
import Derived.RangeFuncBound
import Derived.RangeFuncCalls
import Derived.RangeFuncLeaves
import Derived.Shelf.Abstract
import Derived.Shelf.RegionOpen
import Derived.WalkKit
import Derived.OwnWalkIn
import Derived.TacticsInMore
import Derived.LoopNIn
import Derived.LoopIn
import Derived.WalkSmall
set_option maxRecDepth 100000
namespace Go.Proofs.YthmmgiaobakilaaGreat
open Go.RowKit Go.Shelf
attribute [local go_sem] Oper.semAt_some
def rowP (y n:Nat):List (Int×Int):=(List.range n).map (fun (x:Nat)=>((x:Int),(y:Int)))
def ptsOf (n:Nat):Nat→List (Int×Int)
 | 0=>[]
 | y+1=>ptsOf n y++rowP y n
theorem rowP_snoc (y x:Nat):rowP y (x+1)=rowP y x++[((x:Int),(y:Int))]:=by
 unfold rowP;rw [List.range_succ,List.map_append];rfl
theorem rowP_len (y n:Nat):(rowP y n).length=n:=by simp [rowP]
theorem ptsOf_len (n:Nat):∀h,(ptsOf n h).length=n*h
 | 0=>rfl
 | h+1=>by rw [ptsOf,List.length_append,ptsOf_len n h,rowP_len,Nat.mul_succ]
theorem pts_prefix {n:Nat} : ∀ {y h:Nat},y≤h→ptsOf n y <+: ptsOf n h
 | y,0,hy=>by rw [Nat.le_zero.1 hy];exact ⟨[],by simp⟩
 | y,h+1,hy=>by
  by_cases e:y=h+1
  ·rw [e];exact ⟨[],by simp⟩
  ·obtain ⟨s,hs⟩:=pts_prefix (n:=n) (show y≤h by omega)
   exact ⟨s++rowP h n,by rw [ptsOf,←hs,List.append_assoc]⟩
theorem row_prefix {y n x:Nat} (hx:x≤n):rowP y x <+: rowP y n:=by
 induction n with
 | zero=>rw [Nat.le_zero.1 hx];exact ⟨[],by simp⟩
 | succ n ih=>
  by_cases e:x=n+1
  ·rw [e];exact ⟨[],by simp⟩
  ·obtain ⟨s,hs⟩:=ih (by omega)
   exact ⟨s++[((n:Int),(y:Int))],by rw [rowP_snoc,←hs,List.append_assoc]⟩
theorem in_prefix {n h y x:Nat} (hy:y < h) (hx:x≤n):ptsOf n y++rowP y x <+: ptsOf n h:=by
 have a:ptsOf n (y+1) <+: ptsOf n h:=pts_prefix (by omega)
 obtain ⟨s,hs⟩:=row_prefix (y:=y) hx
 obtain ⟨t,ht⟩:=a
 exact ⟨s++t,by rw [←ht,ptsOf,←hs];simp [List.append_assoc]⟩
def InR (pw ph:Nat) (x:Int×Int):Prop:=0≤x.1∧x.1 < pw∧0≤x.2∧x.2 < ph
abbrev Pt (pw ph:Nat):Type:={ x:Int×Int // InR pw ph x }
def boxK (b:Nat) (A B:World):Prop:=∀o:Obj,A.heap[b]?=some o→o.isCells=true→B.heap[b]?=some o
theorem boxK_t {b:Nat} {A B C:World} (h:boxK b A B) (k:boxK b B C):boxK b A C:=fun o h1 h2=>k o (h o h1 h2) h2
theorem boxK_b {b:Nat} {w:World} (W:World) (l:Nat) (o o':Obj) (_:w.heap.size≤l) (h:W.heap[l]?=some o) (hc:o.isCells=false) (_:o.isWalk=false):boxK b W (W.putObj l o'):=fun o2 h1 h2=>by
 by_cases e:b=l
 ·subst e;rw [h] at h1;cases h1;rw [hc] at h2;cases h2
 ·exact (World.putObj_heap_other e).trans h1
theorem box_cell {b:Nat} {W:World} {v:Value} {t:TypeId} (h:W.heap[b]?=some (.cells #[v] t (0,0))):W.cell? ⟨b,0,none⟩=some v:=by simp [World.cell?,h]
set_option maxHeartbeats 4000000 in
theorem points1_in (F:Fence) (n:Nat) (hF:F.fn 61) (hro:F.round=none) (hn:1≤n) (l Bh Bw:Nat) (pw ph:Nat) (hpw:pw≤6) (hph:ph≤6) (J Jx:List (Int×Int)→World→Prop) (W:World)
  (hY:∀pre x W1,InR pw ph x→J pre W1→pre.length < pw*ph→YieldAt F (n-1) Tryz.prog l #[.agg #[.int .i64 x.1,.int .i64 x.2]] W1 fun e W'=>
   (e = .returned (.bool true)∧J (pre++[x]) W'∧boxK Bw W1 W')∨(e = .returned (.bool false)∧Jx (pre++[x]) W'))
  (hBh:W.cell? ⟨Bh,0,none⟩=some (.int .i64 ph)) (hBw:W.heap[Bw]?=some (.cells #[.int .i64 pw] 3 (0,0))) (h0:J [] W) :
  CallsIn F n Tryz.prog 61 #[.func (.yield l) #[] #[],.pointer (some ⟨Bh,0,none⟩),.pointer (some ⟨Bw,0,none⟩)] W fun e W'=>(∃v,e = .returned v) ∧
   ((∃ys,ys=ptsOf pw ph∧J ys W')∨(∃pre,pre <+: ptsOf pw ph∧Jx pre W')):=by
 refine callsIn_of_wp Tryz.func61 rfl hF ?_ hro
 simp only [Tryz.ntmps61,List.size_toArray,List.length_cons,List.length_nil,Nat.reduceAdd,Nat.reduceSub,Array.replicate_succ,Array.replicate_zero,List.push_toArray,List.append_toArray,List.nil_append,List.cons_append]
 gi_wp2
 gi_loopw [7] (fun v wr=>∃y:Nat,v = .int .i64 (y:Int)∧y≤ph∧J (ptsOf pw y) wr∧wr.heap[Bw]?=some (.cells #[.int .i64 pw] 3 (0,0))) (fun v _=>ph-(intOf v).toNat)
 case atStart=>exact ⟨0,rfl,Nat.zero_le _,h0,hBw⟩
 case round=>
  clear h0 hBw hBh
  obtain ⟨y,rfl,hy,hJy,hb⟩:=hrel
  by_cases hlt:y < ph
  ·have hlt':(y:Int) < (ph:Int):=by omega
   have hc:=box_cell hb
   gi_wp2
   gi_loopw [11] (fun v wr=>∃x:Nat,v = .int .i64 (x:Int)∧x≤pw∧J (ptsOf pw y++rowP y x) wr∧wr.heap[Bw]?=some (.cells #[.int .i64 pw] 3 (0,0))) (fun v _=>pw-(intOf v).toNat)
   case atStart=>exact ⟨0,rfl,Nat.zero_le _,by simpa [rowP] using hJy,hb⟩
   case round=>
    clear hJy hb hc
    obtain ⟨x,rfl,hx,hJx0,hb⟩:=hrel
    by_cases hlx:x < pw
    ·have hlx':(x:Int) < (pw:Int):=by omega
     have hlen:(ptsOf pw y++rowP y x).length < pw*ph:=by
      rw [List.length_append,ptsOf_len,rowP_len]
      have:pw*(y+1)≤pw*ph:=Nat.mul_le_mul_left pw (by omega)
      rw [Nat.mul_succ] at this
      omega
     obtain ⟨fn,tmps,assign,body,hyl,hR⟩:=hY (ptsOf pw y++rowP y x) ((x:Int),(y:Int)) wr ⟨by show (0:Int)≤x;omega,by show (x:Int) < pw;omega,by show (0:Int)≤y;omega,by show (y:Int) < ph;omega⟩ hJx0 hlen
     dsimp only at hyl
     clear hY hlen hJx0
     gi_wp2
     refine hR.mono ?_
     rintro e W3 (⟨rfl,hJ3,hk3⟩ | ⟨rfl,hJx3⟩)
     ·have hb3:=hk3 _ hb rfl
      have fin3:∃x':Nat,Value.int .i64 ((x:Int)+1) = .int .i64 (x':Int)∧x'≤pw∧J (ptsOf pw y++rowP y x') W3∧W3.heap[Bw]?=some (.cells #[.int .i64 pw] 3 (0,0)):=⟨x+1,by congr 1,by omega,by rw [rowP_snoc,←List.append_assoc];exact hJ3,hb3⟩
      clear hR hyl hJ3 hk3 hb
      gi_wp2
      go_roundw
      case rel=>exact fin3
      case measure=>simp [intOf];omega
     ·have fin3:∃q,q <+: ptsOf pw ph∧Jx q W3:=⟨_,by have:=in_prefix (n:=pw) (h:=ph) (y:=y) (x:=x+1) hlt (by omega);rw [rowP_snoc,←List.append_assoc] at this;exact this,hJx3⟩
      clear hR hyl hJx3 hb
      gi_wp2
      refine bodyPost_ret (results_none rfl _ _ _) rfl ?_
      exact ⟨⟨_,rfl⟩,.inr fin3⟩
    ·have hge:decide ((x:Int) < (pw:Int))=false:=by simp;omega
     have e:x=pw:=by omega
     subst e
     have fin3:∃y':Nat,Value.int .i64 ((y:Int)+1) = .int .i64 (y':Int)∧y'≤ph∧J (ptsOf x y') wr∧wr.heap[Bw]?=some (.cells #[.int .i64 x] 3 (0,0)):=⟨y+1,by congr 1,by omega,hJx0,hb⟩
     clear hJx0 hb
     gi_wp2
     go_roundw
     case rel=>exact fin3
     case measure=>simp [intOf];omega
  ·have hge:decide ((y:Int) < (ph:Int))=false:=by simp;omega
   have e:y=ph:=by omega
   subst e
   gi_wp2
   go_end0
   exact ⟨⟨_,rfl⟩,.inl ⟨_,rfl,hJy⟩⟩
set_option maxHeartbeats 1000000 in
theorem points_in (F:Fence) (n:Nat) (hF:F.fn 36) (hro:F.round=none) (pw ph:Int) (w:World) :
  CallsIn F n Tryz.prog 36 #[.int .i64 pw,.int .i64 ph] w fun e w'=>e = .returned (.func (.func 61) #[] #[.pointer (some ⟨w.heap.size+1,0,none⟩),.pointer (some ⟨w.heap.size,0,none⟩)])∧w'=(w.alloc (.cells #[.int .i64 pw] 3)).alloc (.cells #[.int .i64 ph] 3):=by
 refine callsIn_of_wp Tryz.func36 rfl hF ?_ hro
 simp only [Tryz.ntmps36,List.size_toArray,List.length_cons,List.length_nil,Nat.reduceAdd,Nat.reduceSub,Array.replicate_succ,Array.replicate_zero,List.push_toArray,List.append_toArray,List.nil_append,List.cons_append]
 gi_wp2
 go_ret
 exact ⟨rfl,rfl⟩
theorem points_stops (F:Fence) (n:Nat) (hF:F.fn 61) (hro:F.round=none) (hn:1≤n) (Bh Bw pw ph:Nat) (hpw:pw≤6) (hph:ph≤6) (w:World) (hBh:Bh < w.heap.size) (hBw:Bw < w.heap.size) (hch:w.cell? ⟨Bh,0,none⟩=some (.int .i64 ph)) (hcw:w.heap[Bw]?=some (.cells #[.int .i64 pw] 3 (0,0))) :
  SeqStopsK F n Tryz.prog 61 #[.pointer (some ⟨Bh,0,none⟩),.pointer (some ⟨Bw,0,none⟩)] (fun x:Pt pw ph=>#[Value.agg #[.int .i64 x.1.1,.int .i64 x.1.2]]) (boxK Bw) (fun ys=>ys.map (·.1)=ptsOf pw ph) (fun pre=>pre.map (·.1) <+: ptsOf pw ph) (pw*ph) w:=fun l J Jx W hW _ _ hY h0=>by
 refine (points1_in F n hF hro hn l Bh Bw pw ph hpw hph (fun l W=>∃l':List (Pt pw ph),l'.map (·.1)=l∧J l' W) (fun l W=>∃l':List (Pt pw ph),l'.map (·.1)=l∧Jx l' W) W ?_ ((hW.cell (p:=⟨Bh,0,none⟩) hBh).trans hch) ((hW.block _ hBw).trans hcw) ⟨[],rfl,h0⟩).mono ?_
 ·rintro pre x W1 hx ⟨l',e,hJ⟩ hlen
  obtain ⟨fn,tmps,assign,body,hy,hR⟩:=hY l' ⟨x,hx⟩ W1 hJ (by rw [←e,List.length_map] at hlen;exact hlen)
  refine ⟨fn,tmps,assign,body,hy,hR.mono ?_⟩
  rintro e3 W3 (⟨h1,h2,h3⟩ | ⟨h1,h2⟩)
  ·exact .inl ⟨h1,⟨_,by rw [List.map_append,e];rfl,h2⟩,h3⟩
  ·exact .inr ⟨h1,⟨_,by rw [List.map_append,e];rfl,h2⟩⟩
 ·rintro e W' ⟨h1,⟨ys,h2,l',h3,h4⟩ | ⟨pre,h2,l',h3,h4⟩⟩
  ·exact ⟨h1,.inl ⟨l',h3.trans h2,h4⟩⟩
  ·exact ⟨h1,.inr ⟨l',by show l'.map (·.1) <+: ptsOf pw ph;rw [h3];exact h2,h4⟩⟩
end Go.Proofs.YthmmgiaobakilaaGreat
