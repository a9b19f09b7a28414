import Derived.Test.YthmmgiaobakilaaGreatK20
set_option maxRecDepth 100000
namespace Go.Proofs.YthmmgiaobakilaaGreat
open Go.RowKit
variable {HS:List (Nat×Obj)}
section
variable {w w2:World} {wb:Nat} {E:Env} {σ:St} {tv lv so sd ov hv rv x v':Value} {U:Obj}
theorem WkAt.grewBlk (h:WkAt w wb HS E σ tv lv so sd ov hv rv) (hx:∀k,x.ownBlock=some k→wb+1≤k∧k < w.heap.size) (hg:(w.alloc U).grownBy w2 x.ownBlock):w2.heap[wb]?=w.heap[wb]?:=by
 have hlt:=h.lt
 exact (hg.block wb (by simp;omega) (fun e=>by have:=(hx wb e.symm).1;omega)).trans (Below.heap_alloc w U wb hlt)
theorem WkAt.grewThaw (h:WkAt w wb HS E σ tv lv so sd ov hv rv) (hx:∀k,x.ownBlock=some k→wb+1≤k∧k < w.heap.size) (hg:(w.alloc U).grownBy w2 x.ownBlock) (i:Nat):w2.frozen? ⟨wb,i,none⟩=false:=by
 have e:=h.grewBlk hx hg
 simp only [World.frozen?]
 rw [e,h.blk]
 simp
theorem WkAt.grewBelow (h:WkAt w wb HS E σ tv lv so sd ov hv rv) (hx:∀k,x.ownBlock=some k→wb+1≤k∧k < w.heap.size) (hg:(w.alloc U).grownBy w2 x.ownBlock) (i:Nat):Below wb w (w2.setCell ⟨wb,i,none⟩ v'):=by
 have hlt:=h.lt
 exact (((Below.refl wb w).alloc (by omega) U).grown hg (by simp;omega) (fun q hq=>by have:=(hx q hq).1;omega)).setCell (Nat.le_refl _) _
end
theorem own_succ {W:World} {base e size:Nat} {v:Value} {k:Nat} {xs:List Value} (h:W.ownsRow base e size v (k+1) xs):∃g cap,v = .slice (some ⟨g,0,none⟩) (k+1) cap:=by
 rcases h.2 with ⟨_,h0⟩ | ⟨g,cap,_,rfl,_⟩
 ·omega
 ·exact ⟨g,cap,rfl⟩
set_option maxHeartbeats 2000000 in
theorem declare_any (w:World) (wb:Nat) (E:Env) (σ:St) (i:Nat) (hd fr:Bool) (h:Wk w wb HS E σ) (hi:i < E.toks.length) (hl:σ.cells.length≤1000) :
  Calls Tryz.prog 71 #[.pointer (some ⟨wb,0,none⟩),.int .i64 (i:Int),.bool hd,.bool fr] w fun e w'=>e = .returned (.tuple #[])∧Wk w' wb HS E (declS E σ i hd fr)∧Below wb w w':=by
 have hh:=h
 obtain ⟨tv,lv,so,sd,ov,hv,rv,hh⟩:=hh
 obtain ⟨tb,cap,rfl,htb⟩:=hh.tokv
 have c0:=hh.cell 0
 have c1:=hh.cell 1
 have c4:=hh.cell 4
 simp at c0 c1 c4
 obtain ⟨t0,t1,t2,t3⟩:=hh.tokcell i hi
 have hf:=hh.tokFew
 have hwl:=hh.lt
 have hii:(i:Int) < (E.toks.length:Int):=by omega
 obtain ⟨i0,hi0,hz0,hz1,hz2⟩:=info_parts infoCell
 clear t0 t1 t2
 cases hm0:(E.mode==0)
 ·cases hw:declW E σ i
  ·have eS:declS E σ i hd fr = { σ with cells:=σ.cells++[newCell E i hd fr] }:=by simp [declS,hm0,hw]
   rw [eS]
   have HG:=hide (fun (U:Obj) (w2:World) (v':Value)=>hh.grew (w2:=w2) (v':=v') (c:=newCell E i hd fr) U)
   have HZ:=hide (fun (U:Obj) (w2:World) (hg:(w.alloc U).grownBy w2 lv.ownBlock)=>hh.grewThaw hh.rowL.lt hg 4)
   have HB:=hide (fun (U:Obj) (w2:World) (v':Value) (hg:(w.alloc U).grownBy w2 lv.ownBlock)=>hh.grewBelow (v':=v') hh.rowL.lt hg 4)
   have HC:=hide (fun (U:Obj) (w2:World) (hg:(w.alloc U).grownBy w2 lv.ownBlock)=>(World.cell?_of_block (w:=w) (hh.grewBlk hh.rowL.lt hg)).trans c4)
   have HL:=hide hh.rowL
   clear eS
   unfold declW at hw
   unfold newCell at HG ⊢
   generalize (tokAt E i).text=tx at *
   have HW:=hide hw
   clear hw hh
   cases hm1:(E.mode==1)
   ·clear HW
    go_enter Tryz.func71,Tryz.ntmps71
    go_wp2_with fail
    refine (find_any _ wb E σ tx h hl).mono ?_
    rintro e w1 ⟨rfl,hw1⟩
    obtain rfl:=hw1.symm
    go_wp2_with (at_builtin;refine wpList_append_own_at _ rfl _ _ 57 rfl (wb+1) 91 i0 (.agg #[.string ⟨#[]⟩,.int .i64 0,.bool false,.bool false]) 4 32 Tryz.underlying57 hi0 hz0 hz1 hz2 rfl (by decide) _ _ _ rfl ((unhide HL).alloc _) ⟨w.heap.size,0,none⟩ 1 1 (cellCells ⟨tx,0,hd,fr⟩) rfl rfl ?c1 ?c2 ?c3 ?c4 ?c5 ?_)
    case c1=>exact cell_newAt _ _ rfl (cellCells ⟨tx,0,hd,fr⟩) _
    case c2=>exact cell_one _
    case c3=>unfold maxLen;omega
    case c4=>omega
    case c5=>simp;omega
    intro v' w2 h1 hg _ hat
    obtain ⟨g,cp,rfl⟩:=own_succ h1
    have R:=hide (unhide HG _ w2 _ h1 hg (by simpa using hat))
    have z4:=unhide HZ _ w2 hg
    have c4':=unhide HC _ w2 hg
    clear c4
    have RB:=hide (fun v'=>unhide HB _ w2 v' hg)
    clear h1 hg hat HG HZ HB HC HL
    go_wp2
    go_end0
    exact ⟨rfl,⟨_,_,_,_,_,_,_,unhide R⟩,unhide RB _⟩
   ·have hk:=unhide HW
    clear HW
    rw [hm1] at hk
    simp only [Bool.true_and,Bool.or_eq_false_iff] at hk
    obtain ⟨hk1,hk2⟩:=hk
    have hk1:findN σ.cells tx < 0:=by simpa using hk1
    have hk2:(tx.size:Int)≤6:=by have:=of_decide_eq_false hk2;omega
    obtain ⟨kk,HK⟩:∃kk,Hid (findN σ.cells tx=kk):=⟨_,rfl⟩
    rw [unhide HK] at hk1
    replace hk1:decide (0≤kk)=false:=by simpa using hk1
    replace hk2:decide ((6:Int) < (tx.size:Int))=false:=by simpa using hk2
    go_enter Tryz.func71,Tryz.ntmps71
    go_wp2_with fail
    refine (find_any _ wb E σ tx h hl).mono ?_
    rintro e w1 ⟨rfl,hw1⟩
    obtain rfl:=hw1.symm
    rw [unhide HK]
    clear HK
    go_wp2_with (at_builtin;refine wpList_append_own_at _ rfl _ _ 57 rfl (wb+1) 91 i0 (.agg #[.string ⟨#[]⟩,.int .i64 0,.bool false,.bool false]) 4 32 Tryz.underlying57 hi0 hz0 hz1 hz2 rfl (by decide) _ _ _ rfl ((unhide HL).alloc _) ⟨w.heap.size,0,none⟩ 1 1 (cellCells ⟨tx,0,hd,fr⟩) rfl rfl ?c1 ?c2 ?c3 ?c4 ?c5 ?_)
    case c1=>exact cell_newAt _ _ rfl (cellCells ⟨tx,0,hd,fr⟩) _
    case c2=>exact cell_one _
    case c3=>unfold maxLen;omega
    case c4=>omega
    case c5=>simp;omega
    intro v' w2 h1 hg _ hat
    obtain ⟨g,cp,rfl⟩:=own_succ h1
    have R:=hide (unhide HG _ w2 _ h1 hg (by simpa using hat))
    have z4:=unhide HZ _ w2 hg
    have c4':=unhide HC _ w2 hg
    clear c4
    have RB:=hide (fun v'=>unhide HB _ w2 v' hg)
    clear h1 hg hat HG HZ HB HC HL
    go_wp2
    go_end0
    exact ⟨rfl,⟨_,_,_,_,_,_,_,unhide R⟩,unhide RB _⟩
  ·have eS:declS E σ i hd fr = { wrongS E σ i 10 with cells:=(wrongS E σ i 10).cells++[newCell E i hd fr] }:=by simp [declS,hm0,hw]
   rw [eS]
   clear eS
   unfold declW at hw
   unfold newCell
   generalize (tokAt E i).text=tx at *
   simp only [Bool.and_eq_true,Bool.or_eq_true] at hw
   obtain ⟨hm1,hw⟩:=hw
   have hwc:(wrongS E σ i 10).cells=σ.cells:=by unfold wrongS;split <;> rfl
   by_cases hk:0≤findN σ.cells tx
   ·clear hw hh
    go_enter Tryz.func71,Tryz.ntmps71
    go_wp2_with fail
    refine (find_any _ wb E σ tx h hl).mono ?_
    rintro e w1 ⟨rfl,hw1⟩
    obtain rfl:=hw1.symm
    go_wp2_with fail
    refine (wrong_any _ wb E σ i 10 h hi).mono ?_
    clear c0 c1 c4 t3
    rintro e w1 ⟨rfl,h1,hb1⟩
    obtain ⟨tv,lv,so,sd,ov,hv,rv,hh⟩:=h1
    have c4:=hh.cell 4
    simp at c4
    have HG:=hide (fun (U:Obj) (w2:World) (v':Value)=>hh.grew (w2:=w2) (v':=v') (c:=⟨tx,0,hd,fr⟩) U)
    have HZ:=hide (fun (U:Obj) (w2:World) (hg:(w1.alloc U).grownBy w2 lv.ownBlock)=>hh.grewThaw hh.rowL.lt hg 4)
    have HB:=hide (fun (U:Obj) (w2:World) (v':Value) (hg:(w1.alloc U).grownBy w2 lv.ownBlock)=>hb1.trans (hh.grewBelow (v':=v') hh.rowL.lt hg 4))
    have HC:=hide (fun (U:Obj) (w2:World) (hg:(w1.alloc U).grownBy w2 lv.ownBlock)=>(World.cell?_of_block (w:=w1) (hh.grewBlk hh.rowL.lt hg)).trans c4)
    have HL:=hide hh.rowL
    have hwl:=hh.lt
    have hl2:(wrongS E σ i 10).cells.length≤1000:=by rw [hwc];exact hl
    clear hh hb1 hwc h
    go_wp2_with (at_builtin;refine wpList_append_own_at _ rfl _ _ 57 rfl (wb+1) 91 i0 (.agg #[.string ⟨#[]⟩,.int .i64 0,.bool false,.bool false]) 4 32 Tryz.underlying57 hi0 hz0 hz1 hz2 rfl (by decide) _ _ _ rfl ((unhide HL).alloc _) ⟨w1.heap.size,0,none⟩ 1 1 (cellCells ⟨tx,0,hd,fr⟩) rfl rfl ?c1 ?c2 ?c3 ?c4 ?c5 ?_)
    case c1=>exact cell_newAt _ _ rfl (cellCells ⟨tx,0,hd,fr⟩) _
    case c2=>exact cell_one _
    case c3=>unfold maxLen;omega
    case c4=>omega
    case c5=>simp;omega
    intro v' w2 h1 hg _ hat
    obtain ⟨g,cp,rfl⟩:=own_succ h1
    have R:=hide (unhide HG _ w2 _ h1 hg (by simpa using hat))
    have z4:=unhide HZ _ w2 hg
    have c4':=unhide HC _ w2 hg
    clear c4
    have RB:=hide (fun v'=>unhide HB _ w2 v' hg)
    clear h1 hg hat HG HZ HB HC HL
    go_wp2
    go_end0
    exact ⟨rfl,⟨_,_,_,_,_,_,_,unhide R⟩,unhide RB _⟩
   ·have hk2:(6:Int) < (tx.size:Int):=by
     rcases hw with hw | hw
     ·exact absurd (of_decide_eq_true hw) hk
     ·have:=of_decide_eq_true hw;omega
    have hk1:findN σ.cells tx < 0:=by omega
    clear hw hh hk
    go_enter Tryz.func71,Tryz.ntmps71
    go_wp2_with fail
    refine (find_any _ wb E σ tx h hl).mono ?_
    rintro e w1 ⟨rfl,hw1⟩
    obtain rfl:=hw1.symm
    go_wp2_with fail
    refine (wrong_any _ wb E σ i 10 h hi).mono ?_
    clear c0 c1 c4 t3
    rintro e w1 ⟨rfl,h1,hb1⟩
    obtain ⟨tv,lv,so,sd,ov,hv,rv,hh⟩:=h1
    have c4:=hh.cell 4
    simp at c4
    have HG:=hide (fun (U:Obj) (w2:World) (v':Value)=>hh.grew (w2:=w2) (v':=v') (c:=⟨tx,0,hd,fr⟩) U)
    have HZ:=hide (fun (U:Obj) (w2:World) (hg:(w1.alloc U).grownBy w2 lv.ownBlock)=>hh.grewThaw hh.rowL.lt hg 4)
    have HB:=hide (fun (U:Obj) (w2:World) (v':Value) (hg:(w1.alloc U).grownBy w2 lv.ownBlock)=>hb1.trans (hh.grewBelow (v':=v') hh.rowL.lt hg 4))
    have HC:=hide (fun (U:Obj) (w2:World) (hg:(w1.alloc U).grownBy w2 lv.ownBlock)=>(World.cell?_of_block (w:=w1) (hh.grewBlk hh.rowL.lt hg)).trans c4)
    have HL:=hide hh.rowL
    have hwl:=hh.lt
    have hl2:(wrongS E σ i 10).cells.length≤1000:=by rw [hwc];exact hl
    clear hh hb1 hwc h
    go_wp2_with (at_builtin;refine wpList_append_own_at _ rfl _ _ 57 rfl (wb+1) 91 i0 (.agg #[.string ⟨#[]⟩,.int .i64 0,.bool false,.bool false]) 4 32 Tryz.underlying57 hi0 hz0 hz1 hz2 rfl (by decide) _ _ _ rfl ((unhide HL).alloc _) ⟨w1.heap.size,0,none⟩ 1 1 (cellCells ⟨tx,0,hd,fr⟩) rfl rfl ?c1 ?c2 ?c3 ?c4 ?c5 ?_)
    case c1=>exact cell_newAt _ _ rfl (cellCells ⟨tx,0,hd,fr⟩) _
    case c2=>exact cell_one _
    case c3=>unfold maxLen;omega
    case c4=>omega
    case c5=>simp;omega
    intro v' w2 h1 hg _ hat
    obtain ⟨g,cp,rfl⟩:=own_succ h1
    have R:=hide (unhide HG _ w2 _ h1 hg (by simpa using hat))
    have z4:=unhide HZ _ w2 hg
    have c4':=unhide HC _ w2 hg
    clear c4
    have RB:=hide (fun v'=>unhide HB _ w2 v' hg)
    clear h1 hg hat HG HZ HB HC HL
    go_wp2
    go_end0
    exact ⟨rfl,⟨_,_,_,_,_,_,_,unhide R⟩,unhide RB _⟩
 ·have eS:declS E σ i hd fr=σ:=by simp [declS,hm0]
  rw [eS]
  clear eS hh
  go_enter Tryz.func71,Tryz.ntmps71
  go_wp2
  (try simp only [Exit.inBlock,Exit.then])
  refine bodyPost_ret (results_none rfl _ _ _) rfl ?_
  exact ⟨rfl,h,Below.refl _ _⟩
end Go.Proofs.YthmmgiaobakilaaGreat

set_option maxRecDepth 100000
namespace Go.Proofs.YthmmgiaobakilaaGreat
open Go.RowKit
variable {HS:List (Nat×Obj)}
theorem WkAt.grewR {w w2:World} {wb:Nat} {E:Env} {σ:St} {tv lv so sd ov hv rv v':Value} {c:Int×Int} (h:WkAt w wb HS E σ tv lv so sd ov hv rv) (U:Obj)
  (hown:w2.ownsRow (wb+1) 61 2 v' (σ.trace.length+1) (touchesCells σ.trace++touchCells c)) (hg:(w.alloc U).grownBy w2 rv.ownBlock) (hat:v'.ownBlock=rv.ownBlock∨v'.ownBlock=some (w.heap.size+1)) :
  WkAt (w2.setCell ⟨wb,14,none⟩ v') wb HS E { σ with trace:=σ.trace++[c] } tv lv so sd ov hv v':=by
 have hlt:=h.lt
 have hlv:∀k,rv.ownBlock=some k→wb+1≤k∧k < w.heap.size:=h.rowR.lt
 have keep:∀k,k < w.heap.size→some k≠rv.ownBlock→w2.heap[k]?=w.heap[k]?:=fun k hk hne=>(hg.block k (by simp;omega) hne).trans (Below.heap_alloc w U k hk)
 have keep2:∀k,k < w.heap.size→k≠wb→some k≠rv.ownBlock→(w2.setCell ⟨wb,14,none⟩ v').heap[k]?=w.heap[k]?:=fun k hk hw hne=>(Below.heap_setCell _ _ _ _ hw).trans (keep k hk hne)
 have low:∀k,k < wb→(w2.setCell ⟨wb,14,none⟩ v').heap[k]?=w.heap[k]?:=fun k hk=>keep2 k (by omega) (by omega) (fun e=>by have:=(hlv k e.symm).1;omega)
 have blk2:w2.heap[wb]?=_:=(keep wb hlt (fun e=>by have:=(hlv wb e.symm).1;omega)).trans h.blk
 have ap:∀(x:Value),apartV rv x→(∀k,x.ownBlock=some k→wb+1≤k∧k < w.heap.size)→apartV v' x:=fun x hx hxb=>by
  rcases hat with e | e
  ·unfold apartV;rw [e];exact hx
  ·right
   rw [e]
   intro e2
   have:=(hxb _ e2.symm).2
   omega
 have apL:apartV lv v':=by
  rcases hat with e | e
  ·unfold apartV;rw [e];exact h.apLR
  ·right
   rw [e]
   intro e2
   have:=(h.rowL.lt _ e2).2
   omega
 have own2:∀(x:Value) (e size n:Nat) (xs:List Value),w.ownsRow (wb+1) e size x n xs→(x.ownBlock=none∨x.ownBlock≠rv.ownBlock)→(w2.setCell ⟨wb,14,none⟩ v').ownsRow (wb+1) e size x n xs:=fun x e size n xs hx hap=>own_same hx (fun k hk=>keep2 k (hx.lt k hk).2 (by have:=(hx.lt k hk).1;omega) (fun e2=>by
  rcases hap with h0 | h0
  ·rw [h0] at hk;cases hk
  ·exact h0 (by rw [←e2,hk])))
 have flip:∀(x:Value),apartV rv x→(x.ownBlock=none∨x.ownBlock≠rv.ownBlock):=fun x hx=>by
  rcases hx with h0 | h0
  ·by_cases hx0:x.ownBlock=none
   ·exact .inl hx0
   ·right;rw [h0];exact hx0
  ·exact .inr (fun e=>h0 e.symm)
 have hold:∀p∈HS,(w2.setCell ⟨wb,14,none⟩ v').heap[p.1]?=some p.2∧p.1≠wb∧lv.ownBlock≠some p.1∧v'.ownBlock≠some p.1∧ov.ownBlock≠some p.1∧hv.ownBlock≠some p.1:=fun p hp=>by
  obtain ⟨a,b,c,c2,d⟩:=h.held p hp
  have hpl:p.1 < w.heap.size:=(Array.getElem?_eq_some_iff.1 a).1
  refine ⟨(keep2 p.1 hpl b (fun e=>c2 e.symm)).trans a,b,c,?_,d⟩
  rcases hat with e | e
  ·rw [e];exact c2
  ·rw [e];intro e2;simp at e2;omega
 refine ⟨heap_setCell_same _ wb 14 _ _ _ blk2,own_same h.tokens (fun k hk=>low k (h.tokLow k hk)),h.tokLow,h.tokSome,h.tokFew,own2 _ _ _ _ _ h.rowL h.apLR,?_,own2 _ _ _ _ _ h.rowO (flip _ h.apRO),own2 _ _ _ _ _ h.rowH (flip _ h.apRH),apL,h.apLO,h.apLH,ap ov h.apRO h.rowO.lt,ap hv h.apRH h.rowH.lt,h.apOH,?_,?_,hold⟩
 ·have:w2.ownsRow (wb+1) 61 2 v' (σ.trace++[c]).length (touchesCells (σ.trace++[c])):=by rw [touchesCells_snoc,List.length_append];exact hown
  exact own_same this (fun k hk=>Below.heap_setCell _ _ _ _ (by show k≠wb;have:=(this.lt k hk).1;omega))
 ·obtain ⟨ao,c,e,hi⟩:=h.ints1;exact ⟨ao,c,e,hi.same low⟩
 ·obtain ⟨ao,c,e,hi⟩:=h.ints2;exact ⟨ao,c,e,hi.same low⟩
def touchS (σ:St) (a b:Int):St:=if σ.trace.length < 100 then { σ with touched:=σ.touched+1,trace:=σ.trace++[(a,b)] } else { σ with touched:=σ.touched+1 }
theorem WkAt.lenR {w:World} {wb:Nat} {E:Env} {σ:St} {tv lv so sd ov hv rv:Value} (h:WkAt w wb HS E σ tv lv so sd ov hv rv):∃ao c,rv = .slice ao σ.trace.length c:=by
 rcases h.rowR.2 with ⟨h1,h0⟩ | ⟨g,cap,cur,rfl,_⟩
 ·rw [h0];exact ⟨_,_,h1⟩
 ·exact ⟨_,_,rfl⟩
set_option maxHeartbeats 2000000 in
theorem touch_any (w:World) (wb:Nat) (E:Env) (σ:St) (x y:Int) (h:Wk w wb HS E σ) (ht0:0≤σ.touched) (ht1:σ.touched≤1000000000000) :
  Calls Tryz.prog 104 #[.pointer (some ⟨wb,0,none⟩),.int .i64 x,.int .i64 y] w fun e w'=>e = .returned (.tuple #[])∧Wk w' wb HS E (touchS σ x y)∧Below wb w w':=by
 obtain ⟨tv,lv,so,sd,ov,hv,rv,h⟩:=h
 obtain ⟨ao,cp,rfl⟩:=h.lenR
 have c13:=h.cell 13
 have c14:=h.cell 14
 simp at c13 c14
 have z13:=h.thaw 13
 obtain ⟨i0,hi0,hz0,hz1,hz2⟩:=info_parts infoTouch
 have HT:Hid (WkAt (w.setCell ⟨wb,13,none⟩ (.int .i64 (σ.touched+1))) wb HS E { σ with touched:=σ.touched+1 } tv lv so sd ov hv _):=h.turn { σ with touched:=σ.touched+1 } rfl rfl rfl rfl (heap_setCell_same _ wb 13 _ _ _ h.blk) (fun k hk=>Below.heap_setCell _ _ _ _ hk)
 have HB:Hid (Below wb w (w.setCell ⟨wb,13,none⟩ (.int .i64 (σ.touched+1)))):=(Below.refl wb _).setCell (Nat.le_refl _) _
 clear h
 by_cases hl:σ.trace.length < 100
 ·have hl':(σ.trace.length:Int) < 100:=by omega
  have eS:touchS σ x y = { σ with touched:=σ.touched+1,trace:=σ.trace++[(x,y)] }:=by simp [touchS,hl]
  rw [eS]
  clear eS
  go_enter Tryz.func104,Tryz.ntmps104
  go_wp2_with (at_builtin;refine wpList_append_own_at _ rfl _ _ 34 rfl (wb+1) 61 i0 (.agg #[.int .i64 0,.int .i64 0]) 2 16 Tryz.underlying34 hi0 hz0 hz1 hz2 rfl (by decide) _ _ _ rfl ((unhide HT).rowR.alloc _) ⟨w.heap.size,0,none⟩ 1 1 (touchCells (x,y)) rfl rfl ?c1 ?c2 ?c3 ?c4 ?c5 ?_)
  case c1=>exact cell_newAt _ _ (by simp) (touchCells (x,y)) _
  case c2=>exact touch_one _
  case c3=>unfold maxLen;simp;omega
  case c4=>omega
  case c5=>have:=(unhide HT).lt;simp at this ⊢;omega
  intro v' w2 h1 hg _ hat
  obtain ⟨g,cp',rfl⟩:=own_succ h1
  have R:=hide ((unhide HT).grewR _ h1 hg (by simpa using hat))
  have z14:=(unhide HT).grewThaw (unhide HT).rowR.lt hg 14
  have c14':=(World.cell?_of_block (w:=_) ((unhide HT).grewBlk (unhide HT).rowR.lt hg)).trans ((unhide HT).cell 14)
  have RB:=hide (fun v'=>(unhide HB).trans ((unhide HT).grewBelow (v':=v') (unhide HT).rowR.lt hg 14))
  simp at c14'
  clear h1 hg hat HT HB c14 c13
  go_wp2
  go_end0
  exact ⟨rfl,⟨_,_,_,_,_,_,_,unhide R⟩,unhide RB _⟩
 ·have hl':decide ((σ.trace.length:Int) < 100)=false:=by simp;omega
  have eS:touchS σ x y = { σ with touched:=σ.touched+1 }:=by simp [touchS,hl]
  rw [eS]
  clear eS
  go_enter Tryz.func104,Tryz.ntmps104
  go_wp2
  go_end0
  exact ⟨rfl,⟨_,_,_,_,_,_,_,unhide HT⟩,unhide HB⟩
end Go.Proofs.YthmmgiaobakilaaGreat

set_option maxRecDepth 100000
namespace Go.Proofs.YthmmgiaobakilaaGreat
open Go.RowKit
variable {HS:List (Nat×Obj)}
structure RAns where
 v:Int
 h:Bool
 to:Nat
 σ:St
def AnsOut (wb:Nat) (HS:List (Nat×Obj)) (E:Env) (w:World) (r:RAns) (e:Ending) (w':World):Prop:=e = .returned (.tuple #[.int .i64 r.v,.bool r.h,.int .i64 (r.to:Int)])∧Wk w' wb HS E r.σ∧Below wb w w'
theorem wrongS_cells (E:Env) (σ:St) (i:Nat) (e:Int):(wrongS E σ i e).cells=σ.cells:=by unfold wrongS;split <;> rfl
theorem usedS_cells (E:Env) (σ:St) (i:Nat):(usedS E σ i).cells=σ.cells:=by unfold usedS;split <;> simp [wrongS_cells]
theorem stepS_cells (E:Env) (σ:St) (live:Bool):(stepS E σ live).cells=σ.cells:=by unfold stepS;split <;> (try split) <;> rfl
theorem findN_lt {l:List CellR} {s:ByteArray} (h:¬ findN l s < 0):∃k:Nat,findN l s=k∧k < l.length:=by
 unfold findN at *
 cases hf:l.findIdx? (fun c=>c.name.toList==s.toList) with
 | none=>simp [hf] at h
 | some k=>
  rw [List.findIdx?_eq_some_iff_getElem] at hf
  exact ⟨k,rfl,hf.1⟩
def noCell:CellR:=⟨⟨#[]⟩,0,false,false⟩
def cellOf (σ:St) (k:Int):CellR:=σ.cells.getD k.toNat noCell
def namedA (E:Env) (σ:St) (i:Nat) (live:Bool):RAns:=
 if (tokAt E i).kind==2 then ⟨(tokAt E i).num,false,i+1,stepS E σ live⟩
 else if E.mode==0 then ⟨0,false,i+1,stepS E σ live⟩
 else if usedK E (stepS E σ live) i < 0 then ⟨0,false,i+1,usedS E (stepS E σ live) i⟩
 else ⟨if stepB E σ live then (cellOf (usedS E (stepS E σ live) i) (usedK E (stepS E σ live) i)).val else 0,(cellOf (usedS E (stepS E σ live) i) (usedK E (stepS E σ live) i)).hid,i+1,usedS E (stepS E σ live) i⟩
set_option maxHeartbeats 2000000 in
theorem named_any (w:World) (wb:Nat) (E:Env) (σ:St) (i:Nat) (live:Bool) (h:Wk w wb HS E σ) (hi:i < E.toks.length) (hl:σ.cells.length≤1000) (hs:0≤σ.steps) :
  Calls Tryz.prog 146 #[.pointer (some ⟨wb,0,none⟩),.int .i64 (i:Int),.bool live] w (AnsOut wb HS E w (namedA E σ i live)):=by
 have tf:=h.some.2
 have hii:(i:Int) < (E.toks.length:Int):=by omega
 obtain ⟨r,HR⟩:∃r,Hid (namedA E σ i live=r):=⟨_,rfl⟩
 rw [unhide HR]
 go_enter Tryz.func146,Tryz.ntmps146
 go_wp2_with fail
 refine (rstep_any _ wb E σ live h hs).mono ?_
 rintro e w1 ⟨rfl,h1,hb1⟩
 have hl1:(stepS E σ live).cells.length≤1000:=by rw [stepS_cells];exact hl
 have hh:=h1
 obtain ⟨tv,lv,so,sd,ov,hv,rv,hh⟩:=hh
 obtain ⟨tb,cap,rfl,htb⟩:=hh.tokv
 have c0:=hh.cell 0
 have c1:=hh.cell 1
 simp at c0 c1
 obtain ⟨t0,t1,t2,t3⟩:=hh.tokcell i hi
 clear t2 t3 hh
 have HR2:=HR
 unfold namedA at HR2
 clear HR
 cases hk:((tokAt E i).kind==2)
 ·have hk':¬ ((tokAt E i).kind==2)=true:=by rw [hk];simp
  have HR3:=unhide HR2
  rw [if_neg hk'] at HR3
  replace HR2:=hide HR3
  clear HR3 hk'
  cases hm:(E.mode==0)
  ·have hm':¬ (E.mode==0)=true:=by rw [hm];simp
   have HR3:=unhide HR2
   rw [if_neg hm'] at HR3
   replace HR2:=hide HR3
   clear HR3 hm'
   go_wp2_with fail
   refine (used_any _ wb E _ i h1 hi hl1).mono ?_
   clear c0 c1 t0 t1
   rintro e w2 ⟨rfl,h2,hb2⟩
   by_cases hneg:usedK E (stepS E σ live) i < 0
   ·have HR3:=unhide HR2
    rw [if_pos hneg] at HR3
    replace HR2:=hide HR3
    clear HR3
    go_wp2
    go_ret3
    rw [←unhide HR2]
    exact ⟨rfl,h2,hb1.trans hb2⟩
   ·have HR3:=unhide HR2
    rw [if_neg hneg] at HR3
    obtain ⟨k,hk1,hk2⟩:=findN_lt hneg
    have hneg':decide (usedK E (stepS E σ live) i < 0)=false:=by simpa using hneg
    have hh:=h2
    obtain ⟨tv,lv,so,sd,ov,hv,rv,hh⟩:=hh
    obtain ⟨ao,cap,rfl,hcell⟩:=hh.lform
    obtain ⟨g,rfl,hg,x0,x1,x2,x3⟩:=hcell k (by rw [usedS_cells];exact hk2)
    have c4:=hh.cell 4
    simp at c4
    have ek:usedK E (stepS E σ live) i=k:=hk1
    rw [ek] at HR3 hneg'
    have ec:cellOf (usedS E (stepS E σ live) i) k=(usedS E (stepS E σ live) i).cells[k]'(by rw [usedS_cells];exact hk2):=by
     simp [cellOf,List.getD,List.getElem?_eq_getElem (by rw [usedS_cells];exact hk2:k < (usedS E (stepS E σ live) i).cells.length)]
    rw [←ec] at x1 x2
    generalize cellOf (usedS E (stepS E σ live) i) k=cc at *
    have hkl:(k:Int) < ((usedS E (stepS E σ live) i).cells.length:Int):=by rw [usedS_cells];omega
    have hll:(usedS E (stepS E σ live) i).cells.length≤1000:=by rw [usedS_cells];omega
    replace HR2:=hide HR3
    rw [ek]
    clear HR3 hcell hh x0 x3 ec hk1 ek hneg
    cases hsb:stepB E σ live
    ·rw [hsb] at HR2
     go_wp2
     go_quiet (fail)
     go_wp2
     go_ret3
     rw [←unhide HR2]
     exact ⟨rfl,h2.drewN _,below_dr (hb1.trans hb2) _⟩
    ·rw [hsb] at HR2
     go_wp2
     go_quiet (fail)
     go_wp2
     go_ret3
     rw [←unhide HR2]
     exact ⟨rfl,h2.drewN _,below_dr (hb1.trans hb2) _⟩
  ·have HR3:=unhide HR2
   rw [if_pos hm] at HR3
   replace HR2:=hide HR3
   clear HR3
   go_wp2
   go_ret3
   rw [←unhide HR2]
   exact ⟨rfl,h1,hb1⟩
 ·have HR3:=unhide HR2
  rw [if_pos hk] at HR3
  replace HR2:=hide HR3
  clear HR3
  go_wp2
  go_ret3
  rw [←unhide HR2]
  exact ⟨rfl,h1,hb1⟩
end Go.Proofs.YthmmgiaobakilaaGreat
