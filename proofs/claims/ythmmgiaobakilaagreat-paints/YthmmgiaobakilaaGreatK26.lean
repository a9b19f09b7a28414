import Derived.Test.YthmmgiaobakilaaGreatK01
import Derived.RangeFuncNested
import Derived.RangeFuncBound
import Derived.RangeFuncCalls
import Derived.RangeFuncLeaves
import Derived.Shelf.Abstract
import Derived.Shelf.RegionOpen
import Derived.WalkKit
import Derived.OwnWalkIn
import Derived.TacticsInMore
import Derived.LoopNIn
import Derived.LoopIn
import Derived.WalkSmall
set_option maxRecDepth 100000
namespace Go.Proofs.YthmmgiaobakilaaGreat
open Go.RowKit Go.Shelf
attribute [local go_sem] Oper.semAt_some
theorem dec_width (s:ByteArray) (p:Nat):1≤(Utf8.decode s p).2∧(Utf8.decode s p).2≤4:=by
 unfold Utf8.decode
 dsimp only
 repeat' split
 all_goals exact ⟨by simp,by simp⟩
def decs (s:ByteArray):Nat→Nat→List (Int×Int)
 | 0,_=>[]
 | f+1,p=>if p < s.size then ((p:Int),((Utf8.decode s p).1:Int))::decs s f (p+(Utf8.decode s p).2) else []
theorem decs_len (s:ByteArray):∀f p,(decs s f p).length≤f
 | 0,_=>Nat.le_refl _
 | f+1,p=>by
  rw [decs]
  split
  ·have:=decs_len s f (p+(Utf8.decode s p).2);simp;omega
  ·simp
theorem decs_end (s:ByteArray) (f p:Nat) (h:¬ p < s.size):decs s f p=[]:=by
 cases f with
 | zero=>rfl
 | succ f=>rw [decs,if_neg h]
theorem decs_more (s:ByteArray) (f p:Nat) (hf:s.size≤f+p) (h:p < s.size):decs s f p=((p:Int),((Utf8.decode s p).1:Int))::decs s (f-1) (p+(Utf8.decode s p).2):=by
 cases f with
 | zero=>omega
 | succ f=>rw [decs,if_pos h];rfl
def runesOf (s:ByteArray):List (Int×Int):=decs s s.size 0
theorem next_str (w:World) (r:Nat) (s:ByteArray) (pos:Nat) (ty:TypeId) (h:w.heap[r]?=some (.stringIter s pos)) (hp:pos < s.size) :
  (Instr.next (.pointer (some ⟨r,0,none⟩)) true ty).run Tryz.prog w = .ok (.tuple #[.bool true,.int .i64 pos,.int .i32 (Utf8.decode s pos).1]) (w.putObj r (.stringIter s (pos+(Utf8.decode s pos).2))):=by
 have hr:r < w.heap.size:=(Array.getElem?_eq_some_iff.1 h).1
 obtain ⟨W',hW'⟩:∃W',W'=w.putObj r (.stringIter s (pos+(Utf8.decode s pos).2)):=⟨_,rfl⟩
 rw [←hW']
 simp only [Instr.next,getObj,setObj,Sem.run_bind,Sem.run,h,Result.andThen,hp,if_true]
 rw [hW']
 rfl
theorem next_over (w:World) (r:Nat) (s:ByteArray) (pos:Nat) (ty:TypeId) (h:w.heap[r]?=some (.stringIter s pos)) (hp:¬ pos < s.size) :
  (Instr.next (.pointer (some ⟨r,0,none⟩)) true ty).run Tryz.prog w = .ok (.tuple #[.bool false]) w:=by
 simp [Instr.next,getObj,Sem.run,h,hp]
set_option maxHeartbeats 4000000 in
theorem runes1_in (F:Fence) (n:Nat) (hF:F.fn 106) (hro:F.round=none) (hn:1≤n) (l Bs:Nat) (s:ByteArray) (J Jx:List (Int×Int)→World→Prop) (W:World)
  (hJ:AbidesFrom W.heap.size J)
  (hY:∀pre x W1,J pre W1→pre.length < s.size→YieldAt F (n-1) Tryz.prog l #[.int .i64 x.1,.int .i32 x.2] W1 fun e W'=>
   (e = .returned (.bool true)∧J (pre++[x]) W'∧KeepsWalks W1 W')∨(e = .returned (.bool false)∧Jx (pre++[x]) W'))
  (hB:W.cell? ⟨Bs,0,none⟩=some (.string s)) (h0:J [] W) :
  CallsIn F n Tryz.prog 106 #[.func (.yield l) #[] #[],.pointer (some ⟨Bs,0,none⟩)] W fun e W'=>(∃v,e = .returned v) ∧
   ((∃ys,ys=runesOf s∧J ys W')∨(∃pre,pre <+: runesOf s∧Jx pre W')):=by
 refine callsIn_of_wp Tryz.func106 rfl hF ?_ hro
 simp only [Tryz.ntmps106,List.size_toArray,List.length_cons,List.length_nil,Nat.reduceAdd,Nat.reduceSub,Array.replicate_succ,Array.replicate_zero,List.push_toArray,List.append_toArray,List.nil_append,List.cons_append]
 have hrg:(Instr.range 9 (.string s)).run Tryz.prog W = .ok (.pointer (some ⟨W.heap.size,0,none⟩)) (W.alloc (.stringIter s 0)):=run_range_string W 9 s Tryz.underlying9
 gi_wp2
 gi_loopw [3] (fun _ wr=>∃(pos f:Nat) (pre:List (Int×Int)),wr.heap[W.heap.size]?=some (.stringIter s pos)∧s.size≤f+pos∧pre++decs s f pos=runesOf s∧J pre wr) (fun _ wr=>s.size-wr.iterPos W.heap.size)
 case atStart=>
  exact ⟨0,s.size,[],World.iter_heap W s 0,by omega,rfl,hJ [] W _ none h0 (World.grownBy_alloc W _ none) (fun r e=>by cases e)⟩
 case round=>
  obtain ⟨pos,f,pre,hit,hf,hpre,hJs⟩:=hrel
  have hpos:=iterPos_of hit
  by_cases hlt:pos < s.size
  ·have hnx:=next_str wr W.heap.size s pos
   have hw:=dec_width s pos
   obtain ⟨c,hc⟩:∃c,(Utf8.decode s pos).1=c:=⟨_,rfl⟩
   obtain ⟨k,hk⟩:∃k,(Utf8.decode s pos).2=k:=⟨_,rfl⟩
   have hmore:=decs_more s f pos hf hlt
   rw [hc,hk] at hmore
   rw [hk] at hw
   have hnx:∀ty,(Instr.next (.pointer (some ⟨W.heap.size,0,none⟩)) true ty).run Tryz.prog wr = .ok (.tuple #[.bool true,.int .i64 (pos:Int),.int .i32 (c:Int)]) (wr.putObj W.heap.size (.stringIter s (pos+k))):=fun ty=>by
    rw [hnx ty hit hlt,hc,hk]
   have hr:W.heap.size < wr.heap.size:=(Array.getElem?_eq_some_iff.1 hit).1
   have hJ1:J pre (wr.putObj W.heap.size (.stringIter s (pos+k))):=hJ pre wr _ (some W.heap.size) hJs (grownBy_putObj' wr W.heap.size _) (fun r e=>by cases e;exact ⟨Nat.le_refl _,_,hit,rfl⟩)
   have hit1:(wr.putObj W.heap.size (.stringIter s (pos+k))).heap[W.heap.size]?=some (.stringIter s (pos+k)):=World.putObj_heap_same hr
   obtain ⟨W1,hW1⟩:∃W1,wr.putObj W.heap.size (.stringIter s (pos+k))=W1:=⟨_,rfl⟩
   rw [hW1] at hnx hJ1 hit1
   have hlen:pre.length < s.size:=by
    have h1:=congrArg List.length hpre
    have h2:=decs_len s s.size 0
    rw [List.length_append,hmore,List.length_cons] at h1
    unfold runesOf at h1
    omega
   obtain ⟨fn,tmps,assign,body,hy,hR⟩:=hY pre ((pos:Int),(c:Int)) W1 hJ1 hlen
   dsimp only at hy
   have HP:=hide hpre
   have HM:=hide hmore
   clear hW1 hpre hmore hc hk hJs hJ1 hY
   gi_wp2
   refine hR.mono ?_
   rintro e W3 (⟨rfl,hJ3,hk3⟩ | ⟨rfl,hJx3⟩)
   ·have hit3:=hk3.same _ _ hit1 rfl
    have fin3:∃(pos' f':Nat) (pre':List (Int×Int)),W3.heap[W.heap.size]?=some (.stringIter s pos')∧s.size≤f'+pos'∧pre'++decs s f' pos'=runesOf s∧J pre' W3:=⟨pos+k,f-1,pre++[((pos:Int),(c:Int))],hit3,by omega,by rw [←unhide HP,unhide HM];simp,hJ3⟩
    have hp3:=iterPos_of hit3
    clear hR hy hnx hJ3 hk3
    gi_wp2
    go_roundw
    case rel=>exact fin3
    case measure=>rw [hp3,hpos];omega
   ·have fin3:∃q,q <+: runesOf s∧Jx q W3:=⟨pre++[((pos:Int),(c:Int))],⟨decs s (f-1) (pos+k),by rw [←unhide HP,unhide HM];simp⟩,hJx3⟩
    gi_wp2
    refine bodyPost_ret (results_none rfl _ _ _) rfl ?_
    exact ⟨⟨_,rfl⟩,.inr fin3⟩
  ·have hnx:∀ty,(Instr.next (.pointer (some ⟨W.heap.size,0,none⟩)) true ty).run Tryz.prog wr = .ok (.tuple #[.bool false]) wr:=fun ty=>next_over wr W.heap.size s pos ty hit hlt
   have fin:runesOf s=pre:=by rw [←hpre,decs_end s f pos hlt];simp
   have FIN:=hide fin
   clear fin hpre hY
   gi_wp2
   go_end0
   exact ⟨⟨_,rfl⟩,.inl ⟨pre,(unhide FIN).symm,hJs⟩⟩
set_option maxHeartbeats 1000000 in
theorem runes_in (F:Fence) (n:Nat) (hF:F.fn 82) (hro:F.round=none) (s:ByteArray) (w:World) :
  CallsIn F n Tryz.prog 82 #[.string s] w fun e w'=>e = .returned (.func (.func 106) #[] #[.pointer (some ⟨w.heap.size,0,none⟩)])∧w'=w.alloc (.cells #[.string s] 9):=by
 refine callsIn_of_wp Tryz.func82 rfl hF ?_ hro
 simp only [Tryz.ntmps82,List.size_toArray,List.length_cons,List.length_nil,Nat.reduceAdd,Nat.reduceSub,Array.replicate_succ,Array.replicate_zero,List.push_toArray,List.append_toArray,List.nil_append,List.cons_append]
 gi_wp2
 go_ret
 exact ⟨rfl,rfl⟩
theorem runes_stops (F:Fence) (n:Nat) (hF:F.fn 106) (hro:F.round=none) (hn:1≤n) (Bs:Nat) (s:ByteArray) (w:World) (hBs:Bs < w.heap.size) (hc:w.cell? ⟨Bs,0,none⟩=some (.string s)) :
  SeqStopsK F n Tryz.prog 106 #[.pointer (some ⟨Bs,0,none⟩)] (fun x:Int×Int=>#[Value.int .i64 x.1,Value.int .i32 x.2]) KeepsWalks (fun ys=>ys=runesOf s) (fun pre=>pre <+: runesOf s) s.size w:=fun l J Jx W hW hJ _ hY h0=>
 runes1_in F n hF hro hn l Bs s J Jx W hJ hY ((hW.cell (p:=⟨Bs,0,none⟩) hBs).trans hc) h0
end Go.Proofs.YthmmgiaobakilaaGreat
