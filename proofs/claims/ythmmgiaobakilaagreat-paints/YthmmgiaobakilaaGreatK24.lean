import Derived.Test.YthmmgiaobakilaaGreatK23
import Derived.WalkSmall
import Derived.Deep.RegionWith
set_option maxRecDepth 100000
namespace Go.Proofs.YthmmgiaobakilaaGreat
open Go.RowKit
variable {HS:List (Nat×Obj)}
theorem flatC_set (l:List CellR) (k:Nat) (v:Int) (hk:k < l.length):(cellsCells l).set (k*4+1) (.int .i64 v)=cellsCells (l.modify k fun c=>{ c with val:=v }):=by
 induction l generalizing k with
 | nil=>simp at hk
 | cons c l ih=>
  cases k with
  | zero=>simp [cellsCells,cellCells]
  | succ k=>
   have e:cellsCells (c::l)=cellCells c++cellsCells l:=by simp [cellsCells]
   rw [e,List.set_append_right _ _ (by simp [cellCells];omega)]
   have e2:(k+1)*4+1-(cellCells c).length=k*4+1:=by simp [cellCells];omega
   rw [e2,ih k (by simpa using hk)]
   simp [cellsCells]
theorem map_set_int (l:List Int) (k:Nat) (v:Int):(l.map (Value.int .i64)).set k (.int .i64 v)=(l.set k v).map (Value.int .i64):=by
 rw [List.map_set]
theorem WkAt.setL {w:World} {wb g cap k:Nat} {E:Env} {σ:St} {tv so sd ov hv rv:Value} (h:WkAt w wb HS E σ tv (.slice (some ⟨g,0,none⟩) σ.cells.length cap) so sd ov hv rv) (v:Int) (hk:k < σ.cells.length) :
  WkAt (w.setCell ⟨g,k*4+1,none⟩ (.int .i64 v)) wb HS E (putVR σ k v) tv (.slice (some ⟨g,0,none⟩) σ.cells.length cap) so sd ov hv rv:=by
 have hg:wb+1≤g:=(h.rowL.lt g rfl).1
 have oth:∀j,j≠g→(w.setCell ⟨g,k*4+1,none⟩ (.int .i64 v)).heap[j]?=w.heap[j]?:=fun j hj=>Below.heap_setCell _ _ _ _ hj
 have low:∀j,j < wb→(w.setCell ⟨g,k*4+1,none⟩ (.int .i64 v)).heap[j]?=w.heap[j]?:=fun j hj=>oth j (by omega)
 have own2:∀(x:Value) (e size n:Nat) (xs:List Value),w.ownsRow (wb+1) e size x n xs→apartV (.slice (some ⟨g,0,none⟩) σ.cells.length cap) x→(w.setCell ⟨g,k*4+1,none⟩ (.int .i64 v)).ownsRow (wb+1) e size x n xs:=fun x e size n xs hx hap=>own_same hx (fun j hj=>oth j (fun e=>by
  rcases hap with h0 | h0
  ·cases h0
  ·exact h0 (by rw [hj,e];rfl)))
 refine ⟨(oth wb (by omega)).trans h.blk,own_same h.tokens (fun j hj=>low j (h.tokLow j hj)),h.tokLow,h.tokSome,h.tokFew,?_,own2 _ _ _ _ _ h.rowR h.apLR,own2 _ _ _ _ _ h.rowO h.apLO,own2 _ _ _ _ _ h.rowH h.apLH,h.apLR,h.apLO,h.apLH,h.apRO,h.apRH,h.apOH,?_,?_,fun p hp=>⟨(oth p.1 (fun e=>(h.held p hp).2.2.1 (by rw [e];rfl))).trans (h.held p hp).1,(h.held p hp).2⟩⟩
 ·have:=(h.rowL.stored (k*4+1) (.int .i64 v)).1
  rw [flatC_set _ _ _ hk] at this
  simpa [putVR] using this
 ·obtain ⟨ao,c,e,hi⟩:=h.ints1;exact ⟨ao,c,e,hi.same low⟩
 ·obtain ⟨ao,c,e,hi⟩:=h.ints2;exact ⟨ao,c,e,hi.same low⟩
theorem WkAt.setO {w:World} {wb g cap k:Nat} {E:Env} {σ:St} {tv lv so sd hv rv:Value} (h:WkAt w wb HS E σ tv lv so sd (.slice (some ⟨g,0,none⟩) σ.opn.length cap) hv rv) (v:Int) :
  WkAt (w.setCell ⟨g,k,none⟩ (.int .i64 v)) wb HS E { σ with opn:=σ.opn.set k v } tv lv so sd (.slice (some ⟨g,0,none⟩) σ.opn.length cap) hv rv:=by
 have hg:wb+1≤g:=(h.rowO.lt g rfl).1
 have oth:∀j,j≠g→(w.setCell ⟨g,k,none⟩ (.int .i64 v)).heap[j]?=w.heap[j]?:=fun j hj=>Below.heap_setCell _ _ _ _ hj
 have low:∀j,j < wb→(w.setCell ⟨g,k,none⟩ (.int .i64 v)).heap[j]?=w.heap[j]?:=fun j hj=>oth j (by omega)
 have own2:∀(x:Value) (e size n:Nat) (xs:List Value),w.ownsRow (wb+1) e size x n xs→x.ownBlock≠some g→(w.setCell ⟨g,k,none⟩ (.int .i64 v)).ownsRow (wb+1) e size x n xs:=fun x e size n xs hx hap=>own_same hx (fun j hj=>oth j (fun e=>hap (by rw [hj,e])))
 have a1:lv.ownBlock≠some g:=fun e=>by
  rcases h.apLO with h0 | h0
  ·rw [h0] at e;cases e
  ·exact h0 e
 have a2:rv.ownBlock≠some g:=fun e=>by
  rcases h.apRO with h0 | h0
  ·rw [h0] at e;cases e
  ·exact h0 e
 have a3:hv.ownBlock≠some g:=fun e=>by
  rcases h.apOH with h0 | h0
  ·cases h0
  ·exact h0 e.symm
 refine ⟨(oth wb (by omega)).trans h.blk,own_same h.tokens (fun j hj=>low j (h.tokLow j hj)),h.tokLow,h.tokSome,h.tokFew,own2 _ _ _ _ _ h.rowL a1,own2 _ _ _ _ _ h.rowR a2,?_,own2 _ _ _ _ _ h.rowH a3,h.apLR,h.apLO,h.apLH,h.apRO,h.apRH,h.apOH,?_,?_,fun p hp=>⟨(oth p.1 (fun e=>(h.held p hp).2.2.2.2.1 (by rw [e];rfl))).trans (h.held p hp).1,(h.held p hp).2⟩⟩
 ·have:=(h.rowO.stored k (.int .i64 v)).1
  rw [map_set_int] at this
  simpa using this
 ·obtain ⟨ao,c,e,hi⟩:=h.ints1;exact ⟨ao,c,e,hi.same low⟩
 ·obtain ⟨ao,c,e,hi⟩:=h.ints2;exact ⟨ao,c,e,hi.same low⟩
theorem WkAt.setH {w:World} {wb g cap k:Nat} {E:Env} {σ:St} {tv lv so sd ov rv:Value} (h:WkAt w wb HS E σ tv lv so sd ov (.slice (some ⟨g,0,none⟩) σ.hid.length cap) rv) (v:Int) :
  WkAt (w.setCell ⟨g,k,none⟩ (.int .i64 v)) wb HS E { σ with hid:=σ.hid.set k v } tv lv so sd ov (.slice (some ⟨g,0,none⟩) σ.hid.length cap) rv:=by
 have hg:wb+1≤g:=(h.rowH.lt g rfl).1
 have oth:∀j,j≠g→(w.setCell ⟨g,k,none⟩ (.int .i64 v)).heap[j]?=w.heap[j]?:=fun j hj=>Below.heap_setCell _ _ _ _ hj
 have low:∀j,j < wb→(w.setCell ⟨g,k,none⟩ (.int .i64 v)).heap[j]?=w.heap[j]?:=fun j hj=>oth j (by omega)
 have own2:∀(x:Value) (e size n:Nat) (xs:List Value),w.ownsRow (wb+1) e size x n xs→x.ownBlock≠some g→(w.setCell ⟨g,k,none⟩ (.int .i64 v)).ownsRow (wb+1) e size x n xs:=fun x e size n xs hx hap=>own_same hx (fun j hj=>oth j (fun e=>hap (by rw [hj,e])))
 have a1:lv.ownBlock≠some g:=fun e=>by
  rcases h.apLH with h0 | h0
  ·rw [h0] at e;cases e
  ·exact h0 e
 have a2:rv.ownBlock≠some g:=fun e=>by
  rcases h.apRH with h0 | h0
  ·rw [h0] at e;cases e
  ·exact h0 e
 have a3:ov.ownBlock≠some g:=fun e=>by
  rcases h.apOH with h0 | h0
  ·rw [h0] at e;cases e
  ·exact h0 e
 refine ⟨(oth wb (by omega)).trans h.blk,own_same h.tokens (fun j hj=>low j (h.tokLow j hj)),h.tokLow,h.tokSome,h.tokFew,own2 _ _ _ _ _ h.rowL a1,own2 _ _ _ _ _ h.rowR a2,own2 _ _ _ _ _ h.rowO a3,?_,h.apLR,h.apLO,h.apLH,h.apRO,h.apRH,h.apOH,?_,?_,fun p hp=>⟨(oth p.1 (fun e=>(h.held p hp).2.2.2.2.2 (by rw [e];rfl))).trans (h.held p hp).1,(h.held p hp).2⟩⟩
 ·have:=(h.rowH.stored k (.int .i64 v)).1
  rw [map_set_int] at this
  simpa using this
 ·obtain ⟨ao,c,e,hi⟩:=h.ints1;exact ⟨ao,c,e,hi.same low⟩
 ·obtain ⟨ao,c,e,hi⟩:=h.ints2;exact ⟨ao,c,e,hi.same low⟩
theorem WkAt.popL {w:World} {wb g cap n:Nat} {E:Env} {σ:St} {tv so sd ov hv rv:Value} (h:WkAt w wb HS E σ tv (.slice (some ⟨g,0,none⟩) (n+1) cap) so sd ov hv rv) (hn:σ.cells.length=n+1) :
  WkAt (w.setCell ⟨wb,4,none⟩ (.slice (some ⟨g,0,none⟩) n cap)) wb HS E { σ with cells:=σ.cells.dropLast } tv (.slice (some ⟨g,0,none⟩) n cap) so sd ov hv rv:=by
 have oth:∀j,j≠wb→(w.setCell ⟨wb,4,none⟩ (.slice (some ⟨g,0,none⟩) n cap)).heap[j]?=w.heap[j]?:=fun j hj=>Below.heap_setCell _ _ _ _ hj
 have low:∀j,j < wb→(w.setCell ⟨wb,4,none⟩ (.slice (some ⟨g,0,none⟩) n cap)).heap[j]?=w.heap[j]?:=fun j hj=>oth j (by omega)
 have own2:∀(x:Value) (e size n':Nat) (xs:List Value),w.ownsRow (wb+1) e size x n' xs→(w.setCell ⟨wb,4,none⟩ (.slice (some ⟨g,0,none⟩) n cap)).ownsRow (wb+1) e size x n' xs:=fun x e size n' xs hx=>own_same hx (fun j hj=>oth j (by have:=(hx.lt j hj).1;omega))
 have pop:w.ownsRow (wb+1) 91 4 (.slice (some ⟨g,0,none⟩) n cap) n (cellsCells σ.cells.dropLast):=by
  have hr:=h.rowL
  have hne:σ.cells≠[]:=by intro e;rw [e] at hn;simp at hn
  have e:σ.cells=σ.cells.dropLast++[σ.cells.getLast hne]:=(List.dropLast_concat_getLast hne).symm
  rw [e,cellsCells_snoc] at hr
  rw [List.length_append,List.length_dropLast,hn] at hr
  have hl:(cellsCells σ.cells.dropLast).length=n*4:=by
   have:∀l:List CellR,(cellsCells l).length=l.length*4:=fun l=>by
    induction l with
    | nil=>rfl
    | cons c l ih=>simp [cellsCells,cellCells] at ih ⊢;omega
   rw [this,List.length_dropLast,hn]
   simp
  exact ownsRow_pop hl hr
 refine ⟨heap_setCell_same _ wb 4 _ _ _ h.blk,own_same h.tokens (fun j hj=>low j (h.tokLow j hj)),h.tokLow,h.tokSome,h.tokFew,?_,own2 _ _ _ _ _ h.rowR,own2 _ _ _ _ _ h.rowO,own2 _ _ _ _ _ h.rowH,h.apLR,h.apLO,h.apLH,h.apRO,h.apRH,h.apOH,?_,?_,fun p hp=>⟨(oth p.1 (h.held p hp).2.1).trans (h.held p hp).1,(h.held p hp).2⟩⟩
 ·have:=own2 _ _ _ _ _ pop
  have e:σ.cells.dropLast.length=n:=by rw [List.length_dropLast,hn];rfl
  show World.ownsRow _ _ _ _ _ σ.cells.dropLast.length _
  rw [e]
  exact this
 ·obtain ⟨ao,c,e,hi⟩:=h.ints1;exact ⟨ao,c,e,hi.same low⟩
 ·obtain ⟨ao,c,e,hi⟩:=h.ints2;exact ⟨ao,c,e,hi.same low⟩
end Go.Proofs.YthmmgiaobakilaaGreat

set_option maxRecDepth 100000
namespace Go.Proofs.YthmmgiaobakilaaGreat
open Go.RowKit
theorem usedS_ok {E:Env} {σ:St} {i:Nat} (h:OkS σ):OkS (usedS E σ i):=by
 unfold usedS
 split
 ·exact wrongS_ok h
 ·exact h
theorem assign_good {X:MX} : SubGoodS (assignM X):=by
 intro E σ i live r h
 unfold assignM assignGo at h
 split at h
 case isFalse=>cases h
 obtain ⟨a,_,h⟩:=Option.bind_eq_some_iff.1 h
 unfold assignEnd at h
 split at h
 ·split at h
  ·exact chkR_good h
  ·cases h
 split at h
 ·split at h
  ·exact chkR_good h
  ·cases h
 ·exact chkR_good h
set_option maxHeartbeats 8000000 in
theorem assign_any {X:MX} (hX:SubOK 100 X) (gX:SubGood X) (w:World) (wb:Nat) (HS:List (Nat×Obj)) (E:Env) (σ:St) (i:Nat) (live:Bool) (r:SR) (h:Wk w wb HS E σ) (hi:i < E.toks.length) (hok:OkS σ) (hi1:i+1 < E.toks.length) (hM:assignM X E σ i live=some r) :
  Calls Tryz.prog 73 #[.pointer (some ⟨wb,0,none⟩),.int .i64 (i:Int),.bool live] w (SOutR wb HS E w r):=by
 have tf:=h.some.2
 have hii:(i:Int)+1 < 1000:=by omega
 have hc:=h
 obtain ⟨tv,lv,so,sd,ov,hv,rv,hc⟩:=hc
 have c1:=hc.cell 1
 simp at c1
 clear hc
 unfold assignM at hM
 go_enter Tryz.func73,Tryz.ntmps73
 cases hm0:(E.mode==0)
 ·have ek:leadK E σ i=usedK E σ i:=by simp [leadK,hm0]
  rw [ek] at hM
  clear ek
  go_wp2_with fail
  refine (used_any _ wb E σ i h hi hok.1).mono ?_
  clear h
  rintro e w1 ⟨rfl,h1,hb1⟩
  have hc:=h1
  obtain ⟨tv,lv,so,sd,ov,hv,rv,hc⟩:=hc
  have c1:=hc.cell 1
  simp at c1
  cases hm1:(E.mode==1)
  ·have es:leadS E σ i=usedS E σ i:=by simp [leadS,hm0,hm1]
   rw [es] at hM
   clear es hc
   have ok1:=usedS_ok (E:=E) (i:=i) hok
   obtain ⟨s,HS1⟩:∃s,Hid (stepB E (usedS E σ i) live=s):=⟨_,rfl⟩
   rw [unhide HS1] at hM
   unfold assignGo at hM
   split at hM
   case isFalse=>cases hM
   rename_i hg
   obtain ⟨_,hn1⟩:=hg
   obtain ⟨a,hXa,hM⟩:=Option.bind_eq_some_iff.1 hM
   have ga:=gX _ _ _ _ _ hXa
   have HM:=hide hM
   clear hM
   go_wp2_with fail
   refine (rstep_any _ wb E (usedS E σ i) live h1 ok1.2.1).mono ?_
   clear h1
   rintro e w3 ⟨rfl,h3,hb3⟩
   rw [unhide HS1]
   go_wp2_with fail
   refine (need_any _ wb E _ (i+1) sAR h3 hi1).mono ?_
   clear h3
   rintro e w4 ⟨rfl,h4,hb4⟩
   go_wp2_with fail
   refine (hX w4 wb HS E _ _ s a h4 hn1 (needS_ok (stepS_ok ok1)) hXa).mono ?_
   clear h4 hXa
   rintro e w5 ⟨rfl,h5,hb5⟩
   have HB:=hide (hb1.trans ((hb3.trans hb4).trans hb5))
   clear hb3 hb4 hb5 HS1
   have hM:=unhide HM
   clear HM
   unfold assignEnd at hM
   have hc:=h5
   obtain ⟨tv,lv,so,sd,ov,hv,rv,hc⟩:=hc
   have c1:=hc.cell 1
   simp at c1
   clear hc
   cases hm2:(E.mode==2)
   ·rw [if_neg (by rw [hm2];simp)] at hM
    go_wp2_with fail
    refine (lives_any _ wb E a.σ s h5).mono ?_
    rintro e wl ⟨rfl,hw⟩
    obtain rfl:=hw.symm
    cases hl:livesB E a.σ s
    ·rw [if_neg (by rw [hl];simp)] at hM
     obtain ⟨hr,_⟩:=chkR_eq hM
     have HR:=hide hr
     clear hr hM
     go_wp2_with fail
     refine (need_any _ wb E a.σ a.to sSC h5 ga.1).mono ?_
     rintro e w8 ⟨rfl,h8,hb8⟩
     go_wp2
     go_ret
     rw [unhide HR]
     exact ⟨rfl,h8,(unhide HB).trans hb8⟩
    ·rw [if_pos hl] at hM
     split at hM
     case isFalse=>cases hM
     rename_i hk
     obtain ⟨k,hkk⟩:∃k:Nat,usedK E σ i=(k:Int):=⟨(usedK E σ i).toNat,by omega⟩
     rw [hkk] at hM hk ⊢
     have hkl:k < a.σ.cells.length:=by omega
     have hk9:(k:Int) < a.σ.cells.length:=by omega
     have hc1000:=ga.2.1.1
     have hc:=h5
     obtain ⟨tv,lv,so,sd,ov,hv,rv,hc⟩:=hc
     have c4:=hc.cell 4
     simp at c4
     obtain ⟨ao,cp,rfl,hrow⟩:=hc.lform
     obtain ⟨g,rfl,hgl,l0,l1,l2,l3⟩:=hrow k hkl
     have fz:=hc.rowL.frozenAt (k*4+1)
     have hset:=hide (hc.setL a.v hkl)
     rw [Int.toNat_natCast] at hM
     clear hrow l0 l2 l3 hk
     have HC:=hide hc
     clear hc
     obtain ⟨hr,_⟩:=chkR_eq hM
     have HR:=hide hr
     clear hr hM
     go_wp2_with fail
     refine (need_any _ wb E (putVR a.σ k a.v) a.to sSC ⟨_,_,_,_,_,_,_,unhide hset⟩ ga.1).mono ?_
     rintro e w8 ⟨rfl,h8,hb8⟩
     go_wp2
     go_ret
     rw [unhide HR]
     exact ⟨rfl,h8,((unhide HB).setCell (by show wb≤g;omega) _).trans hb8⟩
   ·have hm3:(E.mode==3)=false:=by
     have:E.mode=2:=by simpa using hm2
     rw [this];rfl
    cases hah:a.h
    ·rw [if_neg (by rw [hah];simp)] at hM
     have hl:livesB E a.σ s=false:=by simp [livesB,hm3]
     rw [if_neg (by rw [hl];simp)] at hM
     go_wp2_with fail
     refine (lives_any _ wb E a.σ s h5).mono ?_
     rintro e wl ⟨rfl,hw⟩
     obtain rfl:=hw.symm
     rw [hl]
     obtain ⟨hr,_⟩:=chkR_eq hM
     have HR:=hide hr
     clear hr hM
     go_wp2_with fail
     refine (need_any _ wb E a.σ a.to sSC h5 ga.1).mono ?_
     rintro e w8 ⟨rfl,h8,hb8⟩
     go_wp2
     go_ret
     rw [unhide HR]
     exact ⟨rfl,h8,(unhide HB).trans hb8⟩
    ·rw [if_pos (by rw [hah,hm2];rfl)] at hM
     split at hM
     case isFalse=>cases hM
     rename_i hk
     obtain ⟨k,hkk⟩:∃k:Nat,usedK E σ i=(k:Int):=⟨(usedK E σ i).toNat,by omega⟩
     rw [hkk] at hM hk ⊢
     have hkl:k < a.σ.cells.length:=by omega
     have hk9:(k:Int) < a.σ.cells.length:=by omega
     have hc1000:=ga.2.1.1
     have hc:=h5
     obtain ⟨tv,lv,so,sd,ov,hv,rv,hc⟩:=hc
     have c4:=hc.cell 4
     simp at c4
     obtain ⟨ao,cp,rfl,hrow⟩:=hc.lform
     obtain ⟨g,rfl,hgl,l0,l1,l2,l3⟩:=hrow k hkl
     have eco:cellOf a.σ (k:Int)=a.σ.cells[k]:=by simp [cellOf,List.getD,List.getElem?_eq_getElem hkl]
     unfold hidS at hM
     rw [eco] at hM
     clear hrow l0 l1 l3 eco hc hk
     generalize (a.σ.cells[k]).hid=hh at *
     cases hh
     ·rw [if_neg (by simp)] at hM
      have hl:livesB E (wrongS E a.σ i 11) s=false:=by simp [livesB,hm3]
      go_wp2_with fail
      refine (wrong_any _ wb E a.σ i 11 h5 hi).mono ?_
      rintro e w6 ⟨rfl,h6,hb6⟩
      go_wp2_with fail
      refine (lives_any _ wb E (wrongS E a.σ i 11) s h6).mono ?_
      rintro e wl ⟨rfl,hw⟩
      obtain rfl:=hw.symm
      rw [hl]
      obtain ⟨hr,_⟩:=chkR_eq hM
      have HR:=hide hr
      clear hr hM
      go_wp2_with fail
      refine (need_any _ wb E (wrongS E a.σ i 11) a.to sSC h6 ga.1).mono ?_
      rintro e w8 ⟨rfl,h8,hb8⟩
      go_wp2
      go_ret
      rw [unhide HR]
      exact ⟨rfl,h8,((unhide HB).trans hb6).trans hb8⟩
     ·rw [if_pos rfl] at hM
      have hl:livesB E a.σ s=false:=by simp [livesB,hm3]
      go_wp2_with fail
      refine (lives_any _ wb E a.σ s h5).mono ?_
      rintro e wl ⟨rfl,hw⟩
      obtain rfl:=hw.symm
      rw [hl]
      obtain ⟨hr,_⟩:=chkR_eq hM
      have HR:=hide hr
      clear hr hM
      go_wp2_with fail
      refine (need_any _ wb E a.σ a.to sSC h5 ga.1).mono ?_
      rintro e w8 ⟨rfl,h8,hb8⟩
      go_wp2
      go_ret
      rw [unhide HR]
      exact ⟨rfl,h8,(unhide HB).trans hb8⟩
  ·have hm2:(E.mode==2)=false:=by
    have:E.mode=1:=by simpa using hm1
    rw [this];rfl
   have hm3:(E.mode==3)=false:=by
    have:E.mode=1:=by simpa using hm1
    rw [this];rfl
   have ok1:=usedS_ok (E:=E) (i:=i) hok
   by_cases hk:0≤usedK E σ i
   ·obtain ⟨k,hkk,hkl⟩:=findN_lt (l:=σ.cells) (s:=(tokAt E i).text) (by show ¬ usedK E σ i < 0;omega)
    have hkk':usedK E σ i=(k:Int):=hkk
    have hkl2:k < (usedS E σ i).cells.length:=by rw [usedS_cells];exact hkl
    have hk9:(k:Int) < (usedS E σ i).cells.length:=by omega
    have hc1000:=ok1.1
    have c4:=hc.cell 4
    simp at c4
    obtain ⟨ao,cp,rfl,hrow⟩:=hc.lform
    obtain ⟨g,rfl,hgl,l0,l1,l2,l3⟩:=hrow k hkl2
    have eco:cellOf (usedS E σ i) (usedK E σ i)=(usedS E σ i).cells[k]:=by rw [hkk'];simp [cellOf,List.getD,List.getElem?_eq_getElem hkl2]
    obtain ⟨fr,hfr⟩:∃fr,((usedS E σ i).cells[k]).free=fr:=⟨_,rfl⟩
    have HF:=hide hfr
    clear hfr
    rw [unhide HF] at l3
    rw [hkk'] at hM ⊢
    clear hrow l0 l1 l2 hc
    cases fr
    ·have es:leadS E σ i=wrongS E (usedS E σ i) i 10:=by simp [leadS,hm0,hm1,hk,eco,unhide HF]
     rw [es] at hM
     clear es eco HF hkk hkk'
     go_wp2_with fail
     refine (wrong_any _ wb E (usedS E σ i) i 10 h1 hi).mono ?_
     clear h1 c4 l3
     rintro e w2 ⟨rfl,h2,hb2⟩
     have ok2:=wrongS_ok (E:=E) (i:=i) (e:=10) ok1
     obtain ⟨s,HS1⟩:∃s,Hid (stepB E (wrongS E (usedS E σ i) i 10) live=s):=⟨_,rfl⟩
     rw [unhide HS1] at hM
     unfold assignGo at hM
     split at hM
     case isFalse=>cases hM
     rename_i hg
     obtain ⟨_,hn1⟩:=hg
     obtain ⟨a,hXa,hM⟩:=Option.bind_eq_some_iff.1 hM
     have ga:=gX _ _ _ _ _ hXa
     have HM:=hide hM
     clear hM
     go_wp2_with fail
     refine (rstep_any _ wb E (wrongS E (usedS E σ i) i 10) live h2 ok2.2.1).mono ?_
     clear h2
     rintro e w3 ⟨rfl,h3,hb3⟩
     rw [unhide HS1]
     go_wp2_with fail
     refine (need_any _ wb E _ (i+1) sAR h3 hi1).mono ?_
     clear h3
     rintro e w4 ⟨rfl,h4,hb4⟩
     go_wp2_with fail
     refine (hX w4 wb HS E _ _ s a h4 hn1 (needS_ok (stepS_ok ok2)) hXa).mono ?_
     clear h4 hXa
     rintro e w5 ⟨rfl,h5,hb5⟩
     have HB:=hide ((hb1.trans hb2).trans ((hb3.trans hb4).trans hb5))
     clear hb3 hb4 hb5 HS1
     have hM:=unhide HM
     clear HM
     unfold assignEnd at hM
     have hc:=h5
     obtain ⟨tv,lv,so,sd,ov,hv,rv,hc⟩:=hc
     have c1:=hc.cell 1
     simp at c1
     clear hc
     rw [if_neg (by rw [hm2];simp)] at hM
     have hl:livesB E a.σ s=false:=by simp [livesB,hm3]
     rw [if_neg (by rw [hl];simp)] at hM
     go_wp2_with fail
     refine (lives_any _ wb E a.σ s h5).mono ?_
     rintro e wl ⟨rfl,hw⟩
     obtain rfl:=hw.symm
     rw [hl]
     obtain ⟨hr,_⟩:=chkR_eq hM
     have HR:=hide hr
     clear hr hM
     go_wp2_with fail
     refine (need_any _ wb E a.σ a.to sSC h5 ga.1).mono ?_
     rintro e w8 ⟨rfl,h8,hb8⟩
     go_wp2
     go_ret
     rw [unhide HR]
     exact ⟨rfl,h8,(unhide HB).trans hb8⟩
    ·have es:leadS E σ i=usedS E σ i:=by simp [leadS,hm0,hm1,eco,unhide HF]
     rw [es] at hM
     clear es eco HF hkk hkk'
     obtain ⟨s,HS1⟩:∃s,Hid (stepB E (usedS E σ i) live=s):=⟨_,rfl⟩
     rw [unhide HS1] at hM
     unfold assignGo at hM
     split at hM
     case isFalse=>cases hM
     rename_i hg
     obtain ⟨_,hn1⟩:=hg
     obtain ⟨a,hXa,hM⟩:=Option.bind_eq_some_iff.1 hM
     have ga:=gX _ _ _ _ _ hXa
     have HM:=hide hM
     clear hM
     go_wp2_with fail
     refine (rstep_any _ wb E (usedS E σ i) live h1 ok1.2.1).mono ?_
     clear h1
     rintro e w3 ⟨rfl,h3,hb3⟩
     rw [unhide HS1]
     go_wp2_with fail
     refine (need_any _ wb E _ (i+1) sAR h3 hi1).mono ?_
     clear h3
     rintro e w4 ⟨rfl,h4,hb4⟩
     go_wp2_with fail
     refine (hX w4 wb HS E _ _ s a h4 hn1 (needS_ok (stepS_ok ok1)) hXa).mono ?_
     clear h4 hXa
     rintro e w5 ⟨rfl,h5,hb5⟩
     have HB:=hide (hb1.trans ((hb3.trans hb4).trans hb5))
     clear hb3 hb4 hb5 HS1
     have hM:=unhide HM
     clear HM
     unfold assignEnd at hM
     have hc:=h5
     obtain ⟨tv,lv,so,sd,ov,hv,rv,hc⟩:=hc
     have c1:=hc.cell 1
     simp at c1
     clear hc
     rw [if_neg (by rw [hm2];simp)] at hM
     have hl:livesB E a.σ s=false:=by simp [livesB,hm3]
     rw [if_neg (by rw [hl];simp)] at hM
     go_wp2_with fail
     refine (lives_any _ wb E a.σ s h5).mono ?_
     rintro e wl ⟨rfl,hw⟩
     obtain rfl:=hw.symm
     rw [hl]
     obtain ⟨hr,_⟩:=chkR_eq hM
     have HR:=hide hr
     clear hr hM
     go_wp2_with fail
     refine (need_any _ wb E a.σ a.to sSC h5 ga.1).mono ?_
     rintro e w8 ⟨rfl,h8,hb8⟩
     go_wp2
     go_ret
     rw [unhide HR]
     exact ⟨rfl,h8,(unhide HB).trans hb8⟩
   ·have es:leadS E σ i=usedS E σ i:=by simp [leadS,hm0,hm1,hk]
    rw [es] at hM
    clear es hc
    have hk0:usedK E σ i < 0:=by omega
    generalize usedK E σ i=kk at *
    obtain ⟨s,HS1⟩:∃s,Hid (stepB E (usedS E σ i) live=s):=⟨_,rfl⟩
    rw [unhide HS1] at hM
    unfold assignGo at hM
    split at hM
    case isFalse=>cases hM
    rename_i hg
    obtain ⟨_,hn1⟩:=hg
    obtain ⟨a,hXa,hM⟩:=Option.bind_eq_some_iff.1 hM
    have ga:=gX _ _ _ _ _ hXa
    have HM:=hide hM
    clear hM
    go_wp2_with fail
    refine (rstep_any _ wb E (usedS E σ i) live h1 ok1.2.1).mono ?_
    clear h1
    rintro e w3 ⟨rfl,h3,hb3⟩
    rw [unhide HS1]
    go_wp2_with fail
    refine (need_any _ wb E _ (i+1) sAR h3 hi1).mono ?_
    clear h3
    rintro e w4 ⟨rfl,h4,hb4⟩
    go_wp2_with fail
    refine (hX w4 wb HS E _ _ s a h4 hn1 (needS_ok (stepS_ok ok1)) hXa).mono ?_
    clear h4 hXa
    rintro e w5 ⟨rfl,h5,hb5⟩
    have HB:=hide (hb1.trans ((hb3.trans hb4).trans hb5))
    clear hb3 hb4 hb5 HS1
    have hM:=unhide HM
    clear HM
    unfold assignEnd at hM
    have hc:=h5
    obtain ⟨tv,lv,so,sd,ov,hv,rv,hc⟩:=hc
    have c1:=hc.cell 1
    simp at c1
    clear hc
    rw [if_neg (by rw [hm2];simp)] at hM
    have hl:livesB E a.σ s=false:=by simp [livesB,hm3]
    rw [if_neg (by rw [hl];simp)] at hM
    go_wp2_with fail
    refine (lives_any _ wb E a.σ s h5).mono ?_
    rintro e wl ⟨rfl,hw⟩
    obtain rfl:=hw.symm
    rw [hl]
    obtain ⟨hr,_⟩:=chkR_eq hM
    have HR:=hide hr
    clear hr hM
    go_wp2_with fail
    refine (need_any _ wb E a.σ a.to sSC h5 ga.1).mono ?_
    rintro e w8 ⟨rfl,h8,hb8⟩
    go_wp2
    go_ret
    rw [unhide HR]
    exact ⟨rfl,h8,(unhide HB).trans hb8⟩
 ·have hm1:(E.mode==1)=false:=by
   have:E.mode=0:=by simpa using hm0
   rw [this];rfl
  have hm2:(E.mode==2)=false:=by
   have:E.mode=0:=by simpa using hm0
   rw [this];rfl
  have hm3:(E.mode==3)=false:=by
   have:E.mode=0:=by simpa using hm0
   rw [this];rfl
  have es:leadS E σ i=σ:=by simp [leadS,hm0]
  rw [es] at hM
  clear es
  obtain ⟨s,HS1⟩:∃s,Hid (stepB E σ live=s):=⟨_,rfl⟩
  rw [unhide HS1] at hM
  unfold assignGo at hM
  split at hM
  case isFalse=>cases hM
  rename_i hg
  obtain ⟨_,hn1⟩:=hg
  obtain ⟨a,hXa,hM⟩:=Option.bind_eq_some_iff.1 hM
  have ga:=gX _ _ _ _ _ hXa
  have HM:=hide hM
  clear hM
  go_wp2_with fail
  refine (rstep_any _ wb E σ live h hok.2.1).mono ?_
  clear h
  rintro e w3 ⟨rfl,h3,hb3⟩
  rw [unhide HS1]
  go_wp2_with fail
  refine (need_any _ wb E _ (i+1) sAR h3 hi1).mono ?_
  clear h3
  rintro e w4 ⟨rfl,h4,hb4⟩
  go_wp2_with fail
  refine (hX w4 wb HS E _ _ s a h4 hn1 (needS_ok (stepS_ok hok)) hXa).mono ?_
  clear h4 hXa
  rintro e w5 ⟨rfl,h5,hb5⟩
  have HB:=hide (((hb3.trans hb4).trans hb5))
  clear hb3 hb4 hb5 HS1
  have hM:=unhide HM
  clear HM
  unfold assignEnd at hM
  have hc:=h5
  obtain ⟨tv,lv,so,sd,ov,hv,rv,hc⟩:=hc
  have c1:=hc.cell 1
  simp at c1
  clear hc
  rw [if_neg (by rw [hm2];simp)] at hM
  have hl:livesB E a.σ s=false:=by simp [livesB,hm3]
  rw [if_neg (by rw [hl];simp)] at hM
  go_wp2_with fail
  refine (lives_any _ wb E a.σ s h5).mono ?_
  rintro e wl ⟨rfl,hw⟩
  obtain rfl:=hw.symm
  rw [hl]
  obtain ⟨hr,_⟩:=chkR_eq hM
  have HR:=hide hr
  clear hr hM
  go_wp2_with fail
  refine (need_any _ wb E a.σ a.to sSC h5 ga.1).mono ?_
  rintro e w8 ⟨rfl,h8,hb8⟩
  go_wp2
  go_ret
  rw [unhide HR]
  exact ⟨rfl,h8,(unhide HB).trans hb8⟩
set_option maxHeartbeats 2000000 in
theorem rtone_any (v:Int) (w:World) (hv:In32 v) :
  Calls Tryz.prog 103 #[.int .i64 v] w fun e w'=>e = .returned (.int .i64 (toneR v))∧w'=w:=by
 unfold toneR
 obtain ⟨hv0,hv1⟩:=hv
 obtain ⟨V,hV⟩:∃V,min (max v 0) 255=V:=⟨_,rfl⟩
 have V0:0≤V:=by omega
 have V1:V≤255:=by omega
 rw [hV]
 obtain ⟨R,hR⟩:∃R,toneGo V 300 0=R:=⟨_,rfl⟩
 rw [hR]
 go_enter Tryz.func103,Tryz.ntmps103
 go_wp2
 have HV:=hide hV
 clear hV
 go_loopg [3] 300 (fun n sk wr=>∃k:Int,0≤k∧k+n=300∧sk = .int .i64 k∧wr=w∧toneGo V n k=R)
 case atStart=>exact ⟨0,by omega,by omega,rfl,rfl,hR⟩
 case round=>
  clear hR
  obtain ⟨k,k0,kn,rfl,rfl,hk⟩:=hrel
  have p0:0≤(2*k+1)*(2*k+1):=Int.mul_nonneg (by omega) (by omega)
  have p1:(2*k+1)*(2*k+1)≤601*601:=Int.mul_le_mul (by omega) (by omega) (by omega) (by omega)
  have HK:=hide hk
  clear hk
  by_cases hlt:(2*k+1)*(2*k+1) < 1020*V
  ·cases gk with
   | zero=>
    exfalso
    have:(601:Int)*601≤(2*k+1)*(2*k+1):=Int.mul_le_mul (by omega) (by omega) (by omega) (by omega)
    omega
   | succ gk=>
    have hk:=unhide HK
    rw [toneGo,if_pos (by omega)] at hk
    have HK2:=hide hk
    clear hk HK
    go_wp2
    go_roundg gk
    case measure=>omega
    case rel=>exact ⟨k+1,by omega,by omega,rfl,rfl,unhide HK2⟩
  ·have e:R=k:=by
    have hk:=unhide HK
    cases gk with
    | zero=>simpa [toneGo] using hk.symm
    | succ gk=>rw [toneGo,if_neg (by omega)] at hk;exact hk.symm
   have hge:1020*V≤(2*k+1)*(2*k+1):=by omega
   have HE:=hide e
   clear e HK
   go_wp2
   go_ret
   exact ⟨ret_int (unhide HE).symm,rfl⟩
theorem put_good {X:MX} (hid:Bool):SubGoodS (putM X hid):=by
 intro E σ i live r h
 unfold putM at h
 split at h
 case isFalse=>cases h
 obtain ⟨a,_,h⟩:=Option.bind_eq_some_iff.1 h
 unfold putEnd at h
 split at h
 ·split at h
  ·exact chkR_good h
  ·cases h
 ·exact chkR_good h
set_option maxHeartbeats 8000000 in
theorem put_any {X:MX} (hX:SubOK 100 X) (gX:SubGood X) (hid:Bool) (w:World) (wb:Nat) (HS:List (Nat×Obj)) (E:Env) (σ:St) (i:Nat) (live:Bool) (r:SR) (h:Wk w wb HS E σ) (hi:i < E.toks.length) (hok:OkS σ) (hM:putM X hid E σ i live=some r) :
  Calls Tryz.prog 76 #[.pointer (some ⟨wb,0,none⟩),.int .i64 (i:Int),.bool live,.bool hid] w (SOutR wb HS E w r):=by
 have tf:=h.some.2
 unfold putM at hM
 split at hM
 case isFalse=>cases hM
 rename_i hi1
 have hii:(i:Int)+1 < 1000:=by omega
 obtain ⟨a,hXa,hM⟩:=Option.bind_eq_some_iff.1 hM
 have ga:=gX _ _ _ _ _ hXa
 obtain ⟨s,HS1⟩:∃s,Hid (stepB E σ live=s):=⟨_,rfl⟩
 rw [unhide HS1] at hM hXa
 have HM:=hide hM
 clear hM
 go_enter Tryz.func76,Tryz.ntmps76
 go_wp2_with fail
 refine (rstep_any _ wb E σ live h hok.2.1).mono ?_
 clear h
 rintro e w1 ⟨rfl,h1,hb1⟩
 rw [unhide HS1]
 clear HS1
 go_wp2_with fail
 refine (hX w1 wb HS E _ (i+1) s a h1 hi1 (stepS_ok hok) hXa).mono ?_
 clear h1 hXa hX gX
 rintro e w2 ⟨rfl,h2,hb2⟩
 have HB:=hide (hb1.trans hb2)
 clear hb1 hb2
 have hM:=unhide HM
 clear HM
 unfold putEnd at hM
 have hc:=h2
 obtain ⟨tv,lv,so,sd,ov,hv,rv,hc⟩:=hc
 have c1:=hc.cell 1
 simp at c1
 clear hc
 have hva:=ga.2.2
 cases hm2:(E.mode==2)
 ·have e5:outS E a.σ i a.h hid=a.σ:=by simp [outS,hm2]
  rw [e5] at hM
  clear e5
  go_wp2_with fail
  refine (lives_any _ wb E a.σ s h2).mono ?_
  rintro e wl ⟨rfl,hw⟩
  obtain rfl:=hw.symm
  cases hl:livesB E a.σ s
  ·rw [if_neg (by rw [hl];simp)] at hM
   obtain ⟨hr,_⟩:=chkR_eq hM
   have HR:=hide hr
   clear hr hM
   go_wp2_with fail
   refine (need_any _ wb E a.σ a.to sSC h2 ga.1).mono ?_
   rintro e w8 ⟨rfl,h8,hb8⟩
   go_wp2
   go_ret
   rw [unhide HR]
   exact ⟨rfl,h8,(unhide HB).trans hb8⟩
  ·rw [if_pos hl] at hM
   split at hM
   case isFalse=>cases hM
   rename_i hg
   obtain ⟨p0,p1,p2,p3⟩:=hg
   obtain ⟨P,hP⟩:∃P:Nat,E.point=(P:Int):=⟨E.point.toNat,by omega⟩
   have hc:=h2
   obtain ⟨tv,lv,so,sd,ov,hv,rv,hc⟩:=hc
   have c10:=hc.cell 10
   have c11:=hc.cell 11
   have c15:=hc.cell 15
   simp at c10 c11 c15
   rw [hP] at c15 p1 p2 p3
   obtain ⟨hr,_⟩:=chkR_eq hM
   unfold paintS at hr
   rw [hP,Int.toNat_natCast] at hr
   clear hM
   have hla:a.σ.opn.length≠0:=by omega
   have hlb:a.σ.hid.length≠0:=by omega
   cases hid
   ·rw [if_neg (by simp)] at hr
    have HR:=hide hr
    clear hr
    obtain ⟨lo,hlo⟩:∃lo,a.σ.opn.length=lo+1:=⟨a.σ.opn.length-1,by omega⟩
    have ho:=hc.rowO
    rw [hlo] at ho
    obtain ⟨g,cp,rfl⟩:=own_succ ho
    have x0:=ho.cellAt P (by omega)
    rw [List.getElem?_eq_getElem (by simp;omega)] at x0
    have fz:=ho.frozenAt P
    have hcs:=hc.turn (w':=w2.drew) a.σ rfl rfl rfl rfl hc.blk (fun _ _=>rfl)
    rw [←hlo] at hcs
    have hset:=hide (hcs.setO (k:=P) (toneR a.v))
    have gb:wb < g:=by have:=(ho.lt g rfl).1;omega
    clear hcs ho
    have HC:=hide hc
    clear hc
    go_wp2_with fail
    go_region_with (go_at_call_of 103 (Value.int .i64 a.v);refine (rtone_any a.v _ hva).mono ?_;rintro e wt ⟨rfl,hw⟩;obtain rfl:=hw.symm)
    all_goals go_wp2_with fail
    all_goals refine (touch_any _ wb E _ 2 _ ⟨_,_,_,_,_,_,_,unhide hset⟩ ga.2.1.2.2.1 ga.2.1.2.2.2).mono ?_
    all_goals (rintro e w7 ⟨rfl,h7,hb7⟩;go_wp2_with fail;refine (need_any _ wb E _ a.to sSC h7 ga.1).mono ?_;rintro e w8 ⟨rfl,h8,hb8⟩;go_wp2;go_ret;rw [unhide HR];exact ⟨rfl,h8,(((below_dr (unhide HB) 1).setCell (by show wb≤g;omega) _).trans hb7).trans hb8⟩)
   ·rw [if_pos rfl] at hr
    have HR:=hide hr
    clear hr
    obtain ⟨lo,hlo⟩:∃lo,a.σ.hid.length=lo+1:=⟨a.σ.hid.length-1,by omega⟩
    have ho:=hc.rowH
    rw [hlo] at ho
    obtain ⟨g,cp,rfl⟩:=own_succ ho
    have x0:=ho.cellAt P (by omega)
    rw [List.getElem?_eq_getElem (by simp;omega)] at x0
    have fz:=ho.frozenAt P
    have hcs:=hc.turn (w':=w2.drew) a.σ rfl rfl rfl rfl hc.blk (fun _ _=>rfl)
    rw [←hlo] at hcs
    have hset:=hide (hcs.setH (k:=P) (toneR a.v))
    have gb:wb < g:=by have:=(ho.lt g rfl).1;omega
    clear hcs ho
    have HC:=hide hc
    clear hc
    go_wp2_with fail
    go_region_with (go_at_call_of 103 (Value.int .i64 a.v);refine (rtone_any a.v _ hva).mono ?_;rintro e wt ⟨rfl,hw⟩;obtain rfl:=hw.symm)
    all_goals go_wp2_with fail
    all_goals refine (touch_any _ wb E _ 3 _ ⟨_,_,_,_,_,_,_,unhide hset⟩ ga.2.1.2.2.1 ga.2.1.2.2.2).mono ?_
    all_goals (rintro e w7 ⟨rfl,h7,hb7⟩;go_wp2_with fail;refine (need_any _ wb E _ a.to sSC h7 ga.1).mono ?_;rintro e w8 ⟨rfl,h8,hb8⟩;go_wp2;go_ret;rw [unhide HR];exact ⟨rfl,h8,(((below_dr (unhide HB) 1).setCell (by show wb≤g;omega) _).trans hb7).trans hb8⟩)
 ·have hm3:(E.mode==3)=false:=by
   have:E.mode=2:=by simpa using hm2
   rw [this];rfl
  cases hah:a.h
  ·have e5:outS E a.σ i a.h hid=a.σ:=by simp [outS,hah]
   rw [hah] at e5
   rw [hah,e5] at hM
   clear e5
   have hl:livesB E a.σ s=false:=by simp [livesB,hm3]
   rw [if_neg (by rw [hl];simp)] at hM
   obtain ⟨hr,_⟩:=chkR_eq hM
   have HR:=hide hr
   clear hr hM
   go_wp2_with fail
   refine (lives_any _ wb E a.σ s h2).mono ?_
   rintro e wl ⟨rfl,hw⟩
   obtain rfl:=hw.symm
   rw [hl]
   go_wp2_with fail
   refine (need_any _ wb E a.σ a.to sSC h2 ga.1).mono ?_
   rintro e w8 ⟨rfl,h8,hb8⟩
   go_wp2
   go_ret
   rw [unhide HR]
   exact ⟨rfl,h8,(unhide HB).trans hb8⟩
  ·cases hid
   ·have e5:outS E a.σ i true false=wrongS E a.σ i 11:=by simp [outS,hm2]
    rw [hah,e5] at hM
    clear e5
    go_wp2_with fail
    refine (wrong_any _ wb E a.σ i 11 h2 hi).mono ?_
    rintro e w6 ⟨rfl,h6,hb6⟩
    have hl:livesB E (wrongS E a.σ i 11) s=false:=by simp [livesB,hm3]
    rw [if_neg (by rw [hl];simp)] at hM
    obtain ⟨hr,_⟩:=chkR_eq hM
    have HR:=hide hr
    clear hr hM
    go_wp2_with fail
    refine (lives_any _ wb E (wrongS E a.σ i 11) s h6).mono ?_
    rintro e wl ⟨rfl,hw⟩
    obtain rfl:=hw.symm
    rw [hl]
    go_wp2_with fail
    refine (need_any _ wb E (wrongS E a.σ i 11) a.to sSC h6 ga.1).mono ?_
    rintro e w8 ⟨rfl,h8,hb8⟩
    go_wp2
    go_ret
    rw [unhide HR]
    exact ⟨rfl,h8,((unhide HB).trans hb6).trans hb8⟩
   ·have e5:outS E a.σ i true true=a.σ:=by simp [outS]
    rw [hah,e5] at hM
    clear e5
    have hl:livesB E a.σ s=false:=by simp [livesB,hm3]
    rw [if_neg (by rw [hl];simp)] at hM
    obtain ⟨hr,_⟩:=chkR_eq hM
    have HR:=hide hr
    clear hr hM
    go_wp2_with fail
    refine (lives_any _ wb E a.σ s h2).mono ?_
    rintro e wl ⟨rfl,hw⟩
    obtain rfl:=hw.symm
    rw [hl]
    go_wp2_with fail
    refine (need_any _ wb E a.σ a.to sSC h2 ga.1).mono ?_
    rintro e w8 ⟨rfl,h8,hb8⟩
    go_wp2
    go_ret
    rw [unhide HR]
    exact ⟨rfl,h8,(unhide HB).trans hb8⟩
theorem ofS_ok {E:Env} {σ:St} {i:Nat} {k:Int} (h:OkS σ):OkS (ofS E σ i k):=by
 unfold ofS
 split
 ·exact h
 ·exact wrongS_ok h
theorem loopNum_ok {E:Env} {σ:St} {a b:Nat} (h:OkS σ):OkS (loopNum E σ a b):=by
 unfold loopNum
 split
 ·exact wrongS_ok h
 ·exact h
theorem dropS_ok {E:Env} {σ:St} (h:OkS σ):OkS (dropS E σ):=by
 unfold dropS
 split
 ·exact h
 ·obtain ⟨a,b⟩:=h
  exact ⟨by show σ.cells.dropLast.length≤1000;rw [List.length_dropLast];omega,b⟩
theorem rounds_good {B:MS} (gB:SubGoodS B) (E:Env) (at_:Nat) (last:Int) (f:Nat):∀n q r,GoodR E q→roundsM B E at_ last f n q=some r→GoodR E r:=by
 induction f with
 | zero=>
  intro n q r gq h
  unfold roundsM at h
  split at h
  ·cases h
  ·cases h;exact gq
 | succ f ih=>
  intro n q r gq h
  unfold roundsM at h
  split at h
  ·dsimp only at h
   split at h
   ·obtain ⟨x,hx,h⟩:=Option.bind_eq_some_iff.1 h
    exact ih _ _ _ (gB _ _ _ _ _ hx) h
   ·cases h
  ·cases h;exact gq
theorem loop_good {B:MS} (gB:SubGoodS B):SubGoodS (loopM B):=by
 intro E σ i live r h
 unfold loopM loop2 loop3 loopTo at h
 split at h
 case isFalse=>cases h
 split at h
 case isFalse=>cases h
 split at h
 case isFalse=>cases h
 split at h
 ·exact chkR_good h
 split at h
 case isFalse=>cases h
 rename_i hg
 obtain ⟨q,hq,h⟩:=Option.bind_eq_some_iff.1 h
 have gq:GoodR E q:=by
  unfold loopBody at hq
  split at hq
  ·split at hq
   ·exact rounds_good gB _ _ _ _ _ _ _ ⟨hg.1,loopNum_ok hg.2⟩ hq
   ·cases hq
  ·exact gB _ _ _ _ _ hq
 unfold loopEnd at h
 split at h
 ·cases h;exact ⟨gq.1,dropS_ok gq.2⟩
 ·cases h
theorem WkAt.drew {w:World} {wb:Nat} {HS:List (Nat×Obj)} {E:Env} {σ:St} {tv lv so sd ov hv rv:Value} (h:WkAt w wb HS E σ tv lv so sd ov hv rv):WkAt w.drew wb HS E σ tv lv so sd ov hv rv:=
 h.turn σ rfl rfl rfl rfl h.blk (fun _ _=>rfl)
set_option maxHeartbeats 8000000 in
theorem loop_any {B:MS} (hB:SubS 102 B) (gB:SubGoodS B):SubS 75 (loopM B):=by
 intro w wb HS E σ i live r h hi hok hM
 have tf:=h.some.2
 unfold loopM loop2 loop3 at hM
 split at hM
 case isFalse=>cases hM
 rename_i hi1
 split at hM
 case isFalse=>cases hM
 rename_i hi2
 split at hM
 case isFalse=>cases hM
 rename_i hg3
 obtain ⟨hi3,hi4⟩:=hg3
 have HM:=hide hM
 clear hM
 have hii:(i:Int)+1 < 1000:=by omega
 obtain ⟨s,HS1⟩:∃s,Hid (stepB E σ live=s):=⟨_,rfl⟩
 have hs3:s=true→(E.mode==3)=true:=fun e=>by
  have:=unhide HS1
  rw [e] at this
  simp only [stepB,livesB,Bool.and_eq_true] at this
  exact this.1.1.2
 rw [unhide HS1] at HM
 have ok1:OkS (stepS E σ live):=stepS_ok hok
 obtain ⟨σ1,H1⟩:∃σ1,Hid (stepS E σ live=σ1):=⟨_,rfl⟩
 rw [unhide H1] at HM hi2 hi3 hi4 ok1
 go_enter Tryz.func75,Tryz.ntmps75
 go_wp2_with fail
 refine (rstep_any _ wb E σ live h hok.2.1).mono ?_
 clear h
 rintro e w1 ⟨rfl,h1,hb1⟩
 rw [unhide H1] at h1
 rw [unhide HS1]
 clear HS1 H1
 obtain ⟨first,HF⟩:∃first,Hid (ofI E σ1 (i+1) 1=first):=⟨_,rfl⟩
 obtain ⟨σ2,H2⟩:∃σ2,Hid (ofS E σ1 (i+1) 1=σ2):=⟨_,rfl⟩
 have ok2:OkS σ2:=by rw [←unhide H2];exact ofS_ok ok1
 rw [unhide HF] at HM hi2 hi3 hi4
 rw [unhide H2] at HM hi3 hi4
 go_wp2_with fail
 refine (of_any _ wb E σ1 (i+1) 1 h1 hi1).mono ?_
 clear h1
 rintro e w2 ⟨rfl,h2,hb2⟩
 rw [unhide H2] at h2
 rw [unhide HF]
 clear HF H2 ok1
 obtain ⟨a2,HA⟩:∃a2,Hid (ofI E σ2 first 2=a2):=⟨_,rfl⟩
 obtain ⟨σ3,H3⟩:∃σ3,Hid (ofS E σ2 first 2=σ3):=⟨_,rfl⟩
 have ok3:OkS σ3:=by rw [←unhide H3];exact ofS_ok ok2
 rw [unhide HA] at HM hi3 hi4
 rw [unhide H3] at HM hi4
 go_wp2_with fail
 refine (of_any _ wb E σ2 first 2 h2 hi2).mono ?_
 clear h2
 rintro e w3 ⟨rfl,h3,hb3⟩
 rw [unhide H3] at h3
 rw [unhide HA]
 clear HA H3 ok2
 obtain ⟨last,HL⟩:∃last,Hid (needI E σ3 a2 sDT=last):=⟨_,rfl⟩
 obtain ⟨σ4,H4⟩:∃σ4,Hid (needS E σ3 a2 sDT=σ4):=⟨_,rfl⟩
 have ok4:OkS σ4:=by rw [←unhide H4];exact needS_ok ok3
 rw [unhide HL] at HM hi4
 rw [unhide H4] at HM
 go_wp2_with fail
 refine (need_any _ wb E σ3 a2 sDT h3 hi3).mono ?_
 clear h3
 rintro e w4 ⟨rfl,h4,hb4⟩
 rw [unhide H4] at h4
 rw [unhide HL]
 clear HL H4 ok3
 obtain ⟨at_,HT⟩:∃at_,Hid (ofI E σ4 last 2=at_):=⟨_,rfl⟩
 obtain ⟨σ5,H5⟩:∃σ5,Hid (ofS E σ4 last 2=σ5):=⟨_,rfl⟩
 have ok5:OkS σ5:=by rw [←unhide H5];exact ofS_ok ok4
 rw [unhide HT,unhide H5] at HM
 go_wp2_with fail
 refine (of_any _ wb E σ4 last 2 h4 hi4).mono ?_
 clear h4
 rintro e w5 ⟨rfl,h5,hb5⟩
 rw [unhide H5] at h5
 rw [unhide HT]
 clear HT H5 ok4
 have HBel:=hide ((((hb1.trans hb2).trans hb3).trans hb4).trans hb5)
 clear hb1 hb2 hb3 hb4 hb5
 go_wp2_with fail
 refine (stopped_any _ wb E σ5 h5).mono ?_
 rintro e wq ⟨rfl,hw⟩
 obtain rfl:=hw.symm
 have hM:=unhide HM
 clear HM
 unfold loopTo at hM
 cases hst:stopB E σ5
 ·rw [if_neg (by rw [hst];simp)] at hM
  split at hM
  case isFalse=>cases hM
  rename_i hg
  obtain ⟨hat,okd⟩:=hg
  obtain ⟨q,hq,hM⟩:=Option.bind_eq_some_iff.1 hM
  have HM:=hide hM
  have HQ:=hide hq
  clear hM hq
  go_wp2_with fail
  refine (declare_any _ wb E σ5 (i+1) false false h5 hi1 ok5.1).mono ?_
  clear h5
  rintro e w6 ⟨rfl,h6,hb6⟩
  have HB6:=hide ((unhide HBel).trans hb6)
  clear HBel hb6
  have fi2:(first:Int) < (E.toks.length:Int):=by omega
  have fi4:(last:Int) < (E.toks.length:Int):=by omega
  obtain ⟨σ6,H6⟩:∃σ6,Hid (declS E σ5 (i+1) false false=σ6):=⟨_,rfl⟩
  rw [unhide H6] at h6 okd HQ
  clear H6
  have hc:=h6
  obtain ⟨tv,lv,so,sd,ov,hv,rv,hc⟩:=hc
  obtain ⟨tb,cap,rfl,htb⟩:=hc.tokv
  have c0:=hc.cell 0
  have c1:=hc.cell 1
  simp at c0 c1
  obtain ⟨_,tn1,_,_⟩:=hc.tokcell first hi2
  obtain ⟨_,tn2,_,_⟩:=hc.tokcell last hi4
  clear hc
  have gq:GoodR E q:=by
   have hq:=unhide HQ
   unfold loopBody at hq
   split at hq
   ·split at hq
    ·exact rounds_good gB _ _ _ _ _ _ _ ⟨hat,loopNum_ok okd⟩ hq
    ·cases hq
   ·exact gB _ _ _ _ _ hq
  cases s
  ·rw [loopBody,if_neg (by simp)] at HQ
   cases hm1:(E.mode==1)
   ·have en:loopNum E σ6 first last=σ6:=by simp [loopNum,hm1]
    rw [en] at HQ
    clear en
    go_wp2
    go_quiet (fail)
    go_wp2_with fail
    refine (hB _ wb HS E _ at_ false q (h6.drewN _) hat okd (unhide HQ)).mono ?_
    clear h6 HQ
    rintro e w8 ⟨rfl,h8,hb8⟩
    have HB8:=hide ((below_dr (unhide HB6) _).trans hb8)
    clear hb8
    have hc:=h8
    obtain ⟨tv,lv,so,sd,ov,hv,rv,hc⟩:=hc
    obtain ⟨tb,cap,rfl,htb⟩:=hc.tokv
    have c0:=hc.cell 0
    have c1:=hc.cell 1
    simp at c0 c1
    obtain ⟨_,tn1,_,_⟩:=hc.tokcell first hi2
    obtain ⟨_,tn2,_,_⟩:=hc.tokcell last hi4
    clear hc
    go_wp2
    go_loopg [12] 0 (fun _ st wr=>st = .int .i64 (q.to:Int)∧wr=w8)
    case atStart=>exact ⟨rfl,rfl⟩
    case round=>
     obtain ⟨rfl,rfl⟩:=hrel
     have hc:=h8
     obtain ⟨tv,lv,so,sd,ov,hv,rv,hc⟩:=hc
     have c1:=hc.cell 1
     simp at c1
     have hE:=unhide HM
     clear HM
     unfold loopEnd at hE
     cases hm0:(E.mode==0)
     ·obtain ⟨n,hn⟩:∃n,q.σ.cells.length=n+1:=by
       split at hE
       ·rename_i hd
        rw [hm0] at hd
        simp at hd
        exact ⟨q.σ.cells.length-1,by omega⟩
       ·cases hE
      rw [if_pos (by rw [hn];simp)] at hE
      have ed:dropS E q.σ = { q.σ with cells:=q.σ.cells.dropLast }:=by simp [dropS,hm0]
      rw [ed] at hE
      have HR:=hide (Option.some.inj hE)
      clear hE ed
      have ho:=hc.rowL
      rw [hn] at ho
      obtain ⟨g,cp,rfl⟩:=own_succ ho
      have c4:=hc.cell 4
      have fz:=hc.thaw 4
      simp at c4
      have hpop:=hide (hc.drew.popL hn)
      have hcap:n+1≤cp∧cp≤maxLen:=by
       rcases ho.2 with ⟨h0,_⟩ | ⟨g',cap',cur,h0,_,_,h1,h2,_⟩
       ·cases h0
       ·cases h0;exact ⟨h1,h2⟩
      obtain ⟨hcap1,hcap2⟩:=hcap
      have hn1:n+1≤1000:=by have:=gq.2.1;omega
      have HC:=hide hc
      clear hc ho
      have hmi:((n+1:Nat):Int)-1=(n:Int):=by omega
      go_wp2
      go_region
      all_goals go_wp2
      all_goals go_ret
      all_goals rw [←unhide HR]
      all_goals exact ⟨rfl,⟨_,_,_,_,_,_,_,unhide hpop⟩,(below_dr (unhide HB8) 1).setCell (by show wb≤wb;omega) _⟩
     ·rw [if_pos (by rw [hm0];simp)] at hE
      have ed:dropS E q.σ=q.σ:=by simp [dropS,hm0]
      rw [ed] at hE
      have HR:=hide (Option.some.inj hE)
      clear hE ed hc
      go_wp2
      go_ret
      rw [←unhide HR]
      exact ⟨rfl,h8,unhide HB8⟩
   ·by_cases hgt:(tokAt E last).num < (tokAt E first).num
    ·have en:loopNum E σ6 first last=wrongS E σ6 first 10:=by simp [loopNum,hm1,hgt]
     rw [en] at HQ
     clear en
     go_wp2
     go_quiet (fail)
     go_wp2_with fail
     refine (wrong_any _ wb E σ6 first 10 (h6.drewN _) hi2).mono ?_
     clear h6 c0 c1 tn1 tn2
     rintro e w7 ⟨rfl,h7,hb7⟩
     have HB7:=hide ((below_dr (unhide HB6) _).trans hb7)
     clear hb7
     go_wp2_with fail
     refine (hB w7 wb HS E _ at_ false q h7 hat (wrongS_ok okd) (unhide HQ)).mono ?_
     clear h7 HQ
     rintro e w8 ⟨rfl,h8,hb8⟩
     have HB8:=hide ((unhide HB7).trans hb8)
     clear hb8
     have hc:=h8
     obtain ⟨tv,lv,so,sd,ov,hv,rv,hc⟩:=hc
     obtain ⟨tb,cap,rfl,htb⟩:=hc.tokv
     have c0:=hc.cell 0
     have c1:=hc.cell 1
     simp at c0 c1
     obtain ⟨_,tn1,_,_⟩:=hc.tokcell first hi2
     obtain ⟨_,tn2,_,_⟩:=hc.tokcell last hi4
     clear hc
     go_wp2
     go_loopg [12] 0 (fun _ st wr=>st = .int .i64 (q.to:Int)∧wr=w8)
     case atStart=>exact ⟨rfl,rfl⟩
     case round=>
      obtain ⟨rfl,rfl⟩:=hrel
      have hc:=h8
      obtain ⟨tv,lv,so,sd,ov,hv,rv,hc⟩:=hc
      have c1:=hc.cell 1
      simp at c1
      have hE:=unhide HM
      clear HM
      unfold loopEnd at hE
      cases hm0:(E.mode==0)
      ·obtain ⟨n,hn⟩:∃n,q.σ.cells.length=n+1:=by
        split at hE
        ·rename_i hd
         rw [hm0] at hd
         simp at hd
         exact ⟨q.σ.cells.length-1,by omega⟩
        ·cases hE
       rw [if_pos (by rw [hn];simp)] at hE
       have ed:dropS E q.σ = { q.σ with cells:=q.σ.cells.dropLast }:=by simp [dropS,hm0]
       rw [ed] at hE
       have HR:=hide (Option.some.inj hE)
       clear hE ed
       have ho:=hc.rowL
       rw [hn] at ho
       obtain ⟨g,cp,rfl⟩:=own_succ ho
       have c4:=hc.cell 4
       have fz:=hc.thaw 4
       simp at c4
       have hpop:=hide (hc.drew.popL hn)
       have hcap:n+1≤cp∧cp≤maxLen:=by
        rcases ho.2 with ⟨h0,_⟩ | ⟨g',cap',cur,h0,_,_,h1,h2,_⟩
        ·cases h0
        ·cases h0;exact ⟨h1,h2⟩
       obtain ⟨hcap1,hcap2⟩:=hcap
       have hn1:n+1≤1000:=by have:=gq.2.1;omega
       have HC:=hide hc
       clear hc ho
       have hmi:((n+1:Nat):Int)-1=(n:Int):=by omega
       go_wp2
       go_region
       all_goals go_wp2
       all_goals go_ret
       all_goals rw [←unhide HR]
       all_goals exact ⟨rfl,⟨_,_,_,_,_,_,_,unhide hpop⟩,(below_dr (unhide HB8) 1).setCell (by show wb≤wb;omega) _⟩
      ·exfalso
       have e0:E.mode=0:=by simpa using hm0
       rw [e0] at hm1
       cases hm1
    ·have hle:(tokAt E first).num≤(tokAt E last).num:=by omega
     by_cases hgt2:20 < (tokAt E last).num
     ·have en:loopNum E σ6 first last=wrongS E σ6 first 10:=by simp [loopNum,hm1,hgt2]
      rw [en] at HQ
      clear en
      go_wp2
      go_quiet (fail)
      go_wp2_with fail
      refine (wrong_any _ wb E σ6 first 10 (h6.drewN _) hi2).mono ?_
      clear h6 c0 c1 tn1 tn2
      rintro e w7 ⟨rfl,h7,hb7⟩
      have HB7:=hide ((below_dr (unhide HB6) _).trans hb7)
      clear hb7
      go_wp2_with fail
      refine (hB w7 wb HS E _ at_ false q h7 hat (wrongS_ok okd) (unhide HQ)).mono ?_
      clear h7 HQ
      rintro e w8 ⟨rfl,h8,hb8⟩
      have HB8:=hide ((unhide HB7).trans hb8)
      clear hb8
      have hc:=h8
      obtain ⟨tv,lv,so,sd,ov,hv,rv,hc⟩:=hc
      obtain ⟨tb,cap,rfl,htb⟩:=hc.tokv
      have c0:=hc.cell 0
      have c1:=hc.cell 1
      simp at c0 c1
      obtain ⟨_,tn1,_,_⟩:=hc.tokcell first hi2
      obtain ⟨_,tn2,_,_⟩:=hc.tokcell last hi4
      clear hc
      go_wp2
      go_loopg [12] 0 (fun _ st wr=>st = .int .i64 (q.to:Int)∧wr=w8)
      case atStart=>exact ⟨rfl,rfl⟩
      case round=>
       obtain ⟨rfl,rfl⟩:=hrel
       have hc:=h8
       obtain ⟨tv,lv,so,sd,ov,hv,rv,hc⟩:=hc
       have c1:=hc.cell 1
       simp at c1
       have hE:=unhide HM
       clear HM
       unfold loopEnd at hE
       cases hm0:(E.mode==0)
       ·obtain ⟨n,hn⟩:∃n,q.σ.cells.length=n+1:=by
         split at hE
         ·rename_i hd
          rw [hm0] at hd
          simp at hd
          exact ⟨q.σ.cells.length-1,by omega⟩
         ·cases hE
        rw [if_pos (by rw [hn];simp)] at hE
        have ed:dropS E q.σ = { q.σ with cells:=q.σ.cells.dropLast }:=by simp [dropS,hm0]
        rw [ed] at hE
        have HR:=hide (Option.some.inj hE)
        clear hE ed
        have ho:=hc.rowL
        rw [hn] at ho
        obtain ⟨g,cp,rfl⟩:=own_succ ho
        have c4:=hc.cell 4
        have fz:=hc.thaw 4
        simp at c4
        have hpop:=hide (hc.drew.popL hn)
        have hcap:n+1≤cp∧cp≤maxLen:=by
         rcases ho.2 with ⟨h0,_⟩ | ⟨g',cap',cur,h0,_,_,h1,h2,_⟩
         ·cases h0
         ·cases h0;exact ⟨h1,h2⟩
        obtain ⟨hcap1,hcap2⟩:=hcap
        have hn1:n+1≤1000:=by have:=gq.2.1;omega
        have HC:=hide hc
        clear hc ho
        have hmi:((n+1:Nat):Int)-1=(n:Int):=by omega
        go_wp2
        go_region
        all_goals go_wp2
        all_goals go_ret
        all_goals rw [←unhide HR]
        all_goals exact ⟨rfl,⟨_,_,_,_,_,_,_,unhide hpop⟩,(below_dr (unhide HB8) 1).setCell (by show wb≤wb;omega) _⟩
       ·exfalso
        have e0:E.mode=0:=by simpa using hm0
        rw [e0] at hm1
        cases hm1
     ·have en:loopNum E σ6 first last=σ6:=by simp [loopNum,hm1,hgt,hgt2]
      rw [en] at HQ
      clear en
      have hle2:(tokAt E last).num≤20:=by omega
      go_wp2
      go_quiet (fail)
      go_wp2_with fail
      refine (hB _ wb HS E _ at_ false q (h6.drewN _) hat okd (unhide HQ)).mono ?_
      clear h6 HQ
      rintro e w8 ⟨rfl,h8,hb8⟩
      have HB8:=hide ((below_dr (unhide HB6) _).trans hb8)
      clear hb8
      have hc:=h8
      obtain ⟨tv,lv,so,sd,ov,hv,rv,hc⟩:=hc
      obtain ⟨tb,cap,rfl,htb⟩:=hc.tokv
      have c0:=hc.cell 0
      have c1:=hc.cell 1
      simp at c0 c1
      obtain ⟨_,tn1,_,_⟩:=hc.tokcell first hi2
      obtain ⟨_,tn2,_,_⟩:=hc.tokcell last hi4
      clear hc
      go_wp2
      go_loopg [12] 0 (fun _ st wr=>st = .int .i64 (q.to:Int)∧wr=w8)
      case atStart=>exact ⟨rfl,rfl⟩
      case round=>
       obtain ⟨rfl,rfl⟩:=hrel
       have hc:=h8
       obtain ⟨tv,lv,so,sd,ov,hv,rv,hc⟩:=hc
       have c1:=hc.cell 1
       simp at c1
       have hE:=unhide HM
       clear HM
       unfold loopEnd at hE
       cases hm0:(E.mode==0)
       ·obtain ⟨n,hn⟩:∃n,q.σ.cells.length=n+1:=by
         split at hE
         ·rename_i hd
          rw [hm0] at hd
          simp at hd
          exact ⟨q.σ.cells.length-1,by omega⟩
         ·cases hE
        rw [if_pos (by rw [hn];simp)] at hE
        have ed:dropS E q.σ = { q.σ with cells:=q.σ.cells.dropLast }:=by simp [dropS,hm0]
        rw [ed] at hE
        have HR:=hide (Option.some.inj hE)
        clear hE ed
        have ho:=hc.rowL
        rw [hn] at ho
        obtain ⟨g,cp,rfl⟩:=own_succ ho
        have c4:=hc.cell 4
        have fz:=hc.thaw 4
        simp at c4
        have hpop:=hide (hc.drew.popL hn)
        have hcap:n+1≤cp∧cp≤maxLen:=by
         rcases ho.2 with ⟨h0,_⟩ | ⟨g',cap',cur,h0,_,_,h1,h2,_⟩
         ·cases h0
         ·cases h0;exact ⟨h1,h2⟩
        obtain ⟨hcap1,hcap2⟩:=hcap
        have hn1:n+1≤1000:=by have:=gq.2.1;omega
        have HC:=hide hc
        clear hc ho
        have hmi:((n+1:Nat):Int)-1=(n:Int):=by omega
        go_wp2
        go_region
        all_goals go_wp2
        all_goals go_ret
        all_goals rw [←unhide HR]
        all_goals exact ⟨rfl,⟨_,_,_,_,_,_,_,unhide hpop⟩,(below_dr (unhide HB8) 1).setCell (by show wb≤wb;omega) _⟩
       ·exfalso
        have e0:E.mode=0:=by simpa using hm0
        rw [e0] at hm1
        cases hm1
  ·have hm3:=hs3 rfl
   have hm1:(E.mode==1)=false:=by
    have:E.mode=3:=by simpa using hm3
    rw [this];rfl
   have en:loopNum E σ6 first last=σ6:=by simp [loopNum,hm1]
   rw [loopBody,if_pos rfl,en] at HQ
   clear en
   have hq:=unhide HQ
   clear HQ
   split at hq
   case isFalse=>cases hq
   rename_i hgn
   obtain ⟨hn0,hn1,hn2,hn3⟩:=hgn
   have HQ:=hide hq
   clear hq
   go_wp2
   go_quiet (fail)
   go_wp2
   go_loopg [12,13] 30 (fun f st sn wr=>∃(x:SR) (n:Int),st = .int .i64 (x.to:Int)∧sn = .int .i64 n∧0≤n∧n+f≤100031∧Wk wr wb HS E x.σ∧Below wb w wr∧GoodR E x∧roundsM B E at_ (tokAt E last).num f n x=some q)
   case atStart=>exact ⟨⟨at_,σ6⟩,(tokAt E first).num,rfl,rfl,hn0,by omega,h6.drewN _,below_dr (unhide HB6) _,⟨hat,okd⟩,unhide HQ⟩
   case round=>
    clear HQ h6 HB6 c0 c1 tn1 tn2
    obtain ⟨x,n,rfl,rfl,n0,n1,hx,hbx,gx,hrm⟩:=hrel
    have hc:=hx
    obtain ⟨tv,lv,so,sd,ov,hv,rv,hc⟩:=hc
    obtain ⟨tb,cap,rfl,htb⟩:=hc.tokv
    have c0:=hc.cell 0
    have c1:=hc.cell 1
    simp at c0 c1
    obtain ⟨_,tn1,_,_⟩:=hc.tokcell first hi2
    obtain ⟨_,tn2,_,_⟩:=hc.tokcell last hi4
    clear hc
    clear tn1
    have HRM:=hide hrm
    clear hrm
    by_cases hle:n≤(tokAt E last).num
    ·cases gk with
     | zero=>
      have:=unhide HRM
      rw [roundsM,if_pos hle] at this
      cases this
     | succ gk=>
      have hrm:=unhide HRM
      clear HRM
      rw [roundsM,if_pos hle] at hrm
      dsimp only at hrm
      split at hrm
      case isFalse=>cases hrm
      rename_i hcl
      obtain ⟨y,hy,hrm⟩:=Option.bind_eq_some_iff.1 hrm
      have gy:=gB _ _ _ _ _ hy
      have HY:=hide hy
      have HRM:=hide hrm
      clear hy hrm
      have okx:=stepS_ok (E:=E) (live:=true) gx.2
      go_wp2_with fail
      refine (rstep_any _ wb E x.σ true hx gx.2.2.1).mono ?_
      clear hx c0 c1 tn2
      rintro e w7 ⟨rfl,h7,hb7⟩
      have HB7:=hide (hbx.trans hb7)
      clear hbx hb7
      obtain ⟨u,HU⟩:∃u,Hid (stepB E x.σ true=u):=⟨_,rfl⟩
      rw [unhide HU] at HY ⊢
      clear HU
      cases u
      ·rw [if_neg (by simp)] at HY
       go_wp2_with fail
       refine (hB w7 wb HS E _ at_ false y h7 hat okx (unhide HY)).mono ?_
       clear h7 HY
       rintro e w8 ⟨rfl,h8,hb8⟩
       have HB8:=hide ((unhide HB7).trans hb8)
       clear hb8 HB7
       go_wp2
       go_roundg gk
       case measure=>omega
       case rel=>exact ⟨y,n+1,rfl,rfl,by omega,by omega,h8,unhide HB8,gy,unhide HRM⟩
      ·rw [if_pos rfl] at HY
       obtain ⟨m,hm⟩:∃m,(stepS E x.σ true).cells.length=m+1:=⟨(stepS E x.σ true).cells.length-1,by omega⟩
       have hc:=h7
       obtain ⟨tv,lv,so,sd,ov,hv,rv,hc⟩:=hc
       have c4:=hc.cell 4
       simp at c4
       obtain ⟨ao,cp,rfl,hrow⟩:=hc.lform
       obtain ⟨g,rfl,hgl,l0,l1,l2,l3⟩:=hrow m (by omega)
       have fz:=hc.rowL.frozenAt (m*4+1)
       have hset:=hide (hc.drew.setL (k:=m) n (by omega))
       have em:(stepS E x.σ true).cells.length-1=m:=by omega
       rw [em] at HY
       rw [hm] at c4
       have hm9:m+1≤1000:=by have:=okx.1;omega
       have okp:OkS (putVR (stepS E x.σ true) m n):=by
        obtain ⟨a,b⟩:=okx
        exact ⟨by show (List.modify _ _ _).length≤1000;rw [List.length_modify];exact a,b⟩
       have HC:=hide hc
       clear hc hrow l0 l2 l3 em
       have hmi:((m+1:Nat):Int)-1=(m:Int):=by omega
       go_wp2
       go_region
       go_wp2_with fail
       refine (hB _ wb HS E _ at_ true y ⟨_,_,_,_,_,_,_,unhide hset⟩ hat okp (unhide HY)).mono ?_
       clear h7 HY
       rintro e w8 ⟨rfl,h8,hb8⟩
       have HB8:=hide (((below_dr (unhide HB7) 1).setCell (by show wb≤g;omega) _).trans hb8)
       clear hb8 HB7
       go_wp2
       go_roundg gk
       case measure=>omega
       case rel=>exact ⟨y,n+1,rfl,rfl,by omega,by omega,h8,unhide HB8,gy,unhide HRM⟩
    ·have ex:x=q:=by
      have:=unhide HRM
      cases gk with
      | zero=>rw [roundsM,if_neg hle] at this;exact Option.some.inj this
      | succ gk=>rw [roundsM,if_neg hle] at this;exact Option.some.inj this
     subst ex
     clear HRM
     have hgt:(tokAt E last).num < n:=by omega
     have hc:=hx
     obtain ⟨tv,lv,so,sd,ov,hv,rv,hc⟩:=hc
     have c1:=hc.cell 1
     simp at c1
     have hE:=unhide HM
     clear HM
     unfold loopEnd at hE
     cases hm0:(E.mode==0)
     ·obtain ⟨n,hn⟩:∃n,x.σ.cells.length=n+1:=by
       split at hE
       ·rename_i hd
        rw [hm0] at hd
        simp at hd
        exact ⟨x.σ.cells.length-1,by omega⟩
       ·cases hE
      rw [if_pos (by rw [hn];simp)] at hE
      have ed:dropS E x.σ = { x.σ with cells:=x.σ.cells.dropLast }:=by simp [dropS,hm0]
      rw [ed] at hE
      have HR:=hide (Option.some.inj hE)
      clear hE ed
      have ho:=hc.rowL
      rw [hn] at ho
      obtain ⟨g,cp,rfl⟩:=own_succ ho
      have c4:=hc.cell 4
      have fz:=hc.thaw 4
      simp at c4
      have hpop:=hide (hc.drew.popL hn)
      have hcap:n+1≤cp∧cp≤maxLen:=by
       rcases ho.2 with ⟨h0,_⟩ | ⟨g',cap',cur,h0,_,_,h1,h2,_⟩
       ·cases h0
       ·cases h0;exact ⟨h1,h2⟩
      obtain ⟨hcap1,hcap2⟩:=hcap
      have hn1:n+1≤1000:=by have:=gx.2.1;omega
      have HC:=hide hc
      clear hc ho
      have hmi:((n+1:Nat):Int)-1=(n:Int):=by omega
      go_wp2
      go_region
      all_goals go_wp2
      all_goals go_ret
      all_goals rw [←unhide HR]
      all_goals exact ⟨rfl,⟨_,_,_,_,_,_,_,unhide hpop⟩,(below_dr (hbx) 1).setCell (by show wb≤wb;omega) _⟩
     ·exfalso
      have e0:E.mode=0:=by simpa using hm0
      rw [e0] at hm3
      cases hm3
 ·rw [if_pos hst] at hM
  obtain ⟨hr,_⟩:=chkR_eq hM
  have HR:=hide hr
  clear hr hM
  go_wp2_with fail
  refine (end_any _ wb E σ5 h5).mono ?_
  rintro e wq ⟨rfl,hw⟩
  obtain rfl:=hw.symm
  go_wp2
  go_ret
  rw [unhide HR]
  exact ⟨ret_int (by show _=((E.toks.length-1:Nat):Int);omega),h5,unhide HBel⟩
theorem statement_good {X:MX} {B:MS} (gB:SubGoodS B):SubGoodS (statementM X B):=by
 intro E σ i live r h
 unfold statementM at h
 split at h
 ·exact chkR_good h
 split at h
 ·exact assign_good _ _ _ _ _ h
 split at h
 ·exact choice_good gB _ _ _ _ _ h
 split at h
 ·exact loop_good gB _ _ _ _ _ h
 split at h
 ·exact put_good _ _ _ _ _ _ h
 ·exact chkR_good h
set_option maxHeartbeats 8000000 in
theorem statement_any {X:MX} {B:MS} (hX:SubOK 100 X) (gX:SubGood X) (hB:SubS 102 B) (gB:SubGoodS B):SubS 47 (statementM X B):=by
 intro w wb HS E σ i live r h hi hok hM
 have tf:=h.some
 have hii:(i:Int) < (E.toks.length:Int):=by omega
 have hc:=h
 obtain ⟨tv,lv,so,sd,ov,hv,rv,hc⟩:=hc
 obtain ⟨tb,cap,rfl,htb⟩:=hc.tokv
 have c0:=hc.cell 0
 simp at c0
 obtain ⟨t0,_,_,_⟩:=hc.tokcell i hi
 clear hc
 unfold statementM at hM
 obtain ⟨kd,HK⟩:∃kd,Hid ((tokAt E i).kind=kd):=⟨_,rfl⟩
 rw [unhide HK] at t0 hM
 clear HK
 go_enter Tryz.func47,Tryz.ntmps47
 go_wp2_with fail
 refine (stopped_any _ wb E σ h).mono ?_
 rintro e wq ⟨rfl,hw⟩
 obtain rfl:=hw.symm
 cases hst:stopB E σ
 ·rw [if_neg (by rw [hst];simp)] at hM
  cases hk1:(kd==1)
  ·rw [if_neg (by rw [hk1];simp)] at hM
   have HM:=hide hM
   clear hM
   go_wp2_with fail
   refine (is_any _ wb E σ i sIF h hi).mono ?_
   rintro e wq ⟨rfl,hw⟩
   obtain rfl:=hw.symm
   go_wp2_with fail
   refine (is_any _ wb E σ i sFOR h hi).mono ?_
   rintro e wq ⟨rfl,hw⟩
   obtain rfl:=hw.symm
   go_wp2_with fail
   refine (is_any _ wb E σ i sOUT h hi).mono ?_
   rintro e wq ⟨rfl,hw⟩
   obtain rfl:=hw.symm
   go_wp2_with fail
   refine (is_any _ wb E σ i sHIDE h hi).mono ?_
   rintro e wq ⟨rfl,hw⟩
   obtain rfl:=hw.symm
   have hM:=unhide HM
   clear HM
   cases ha:isB E σ i sIF
   ·rw [if_neg (by rw [ha];simp)] at hM
    cases hb:isB E σ i sFOR
    ·rw [if_neg (by rw [hb];simp)] at hM
     cases hcc:isB E σ i sOUT
     ·cases hd:isB E σ i sHIDE
      ·rw [if_neg (by rw [hcc,hd];simp)] at hM
       obtain ⟨hr,_⟩:=chkR_eq hM
       have HR:=hide hr
       clear hr hM
       go_wp2_with fail
       refine (wrong_any _ wb E σ i 9 h hi).mono ?_
       rintro e w1 ⟨rfl,h1,hb1⟩
       go_wp2_with fail
       refine (end_any _ wb E _ h1).mono ?_
       rintro e wq ⟨rfl,hw⟩
       obtain rfl:=hw.symm
       go_wp2
       go_ret
       rw [unhide HR]
       exact ⟨ret_int (by show _=((E.toks.length-1:Nat):Int);omega),h1,hb1⟩
      ·rw [if_pos (by rw [hcc,hd];simp),hd] at hM
       go_wp2_with fail
       refine (put_any hX gX true w wb HS E σ i live r h hi hok hM).mono ?_
       rintro e w1 ⟨rfl,h1,hb1⟩
       go_wp2
       go_ret
       exact ⟨rfl,h1,hb1⟩
     ·rw [if_pos (by rw [hcc];simp)] at hM
      obtain ⟨d,HD⟩:∃d,Hid (isB E σ i sHIDE=d):=⟨_,rfl⟩
      rw [unhide HD] at hM ⊢
      clear HD
      go_wp2_with fail
      refine (put_any hX gX d w wb HS E σ i live r h hi hok hM).mono ?_
      rintro e w1 ⟨rfl,h1,hb1⟩
      go_wp2
      go_ret
      exact ⟨rfl,h1,hb1⟩
    ·rw [if_pos hb] at hM
     go_wp2_with fail
     refine (loop_any hB gB w wb HS E σ i live r h hi hok hM).mono ?_
     rintro e w1 ⟨rfl,h1,hb1⟩
     go_wp2
     go_ret
     exact ⟨rfl,h1,hb1⟩
   ·rw [if_pos ha] at hM
    go_wp2_with fail
    refine (choice_any hX gX hB gB w wb HS E σ i live r h hi hok hM).mono ?_
    rintro e w1 ⟨rfl,h1,hb1⟩
    go_wp2
    go_ret
    exact ⟨rfl,h1,hb1⟩
  ·rw [if_pos hk1] at hM
   have hi1:i+1 < E.toks.length:=by
    have:=hM
    unfold assignM assignGo at this
    split at this
    ·rename_i hg;exact hg.1
    ·cases this
   go_wp2_with fail
   refine (assign_any hX gX w wb HS E σ i live r h hi hok hi1 hM).mono ?_
   rintro e w1 ⟨rfl,h1,hb1⟩
   go_wp2
   go_ret
   exact ⟨rfl,h1,hb1⟩
 ·rw [if_pos hst] at hM
  obtain ⟨hr,_⟩:=chkR_eq hM
  have HR:=hide hr
  clear hr hM
  go_wp2_with fail
  refine (end_any _ wb E _ h).mono ?_
  rintro e wq ⟨rfl,hw⟩
  obtain rfl:=hw.symm
  go_wp2
  go_ret
  rw [unhide HR]
  exact ⟨ret_int (by show _=((E.toks.length-1:Nat):Int);omega),h,Below.refl wb w⟩
def noR:MS:=fun _ _ _ _=>none
theorem noR_ok (fn:Nat):SubS fn noR:=by
 intro w wb HS E σ i live r h hi hok hM
 cases hM
theorem noR_good:SubGoodS noR:=by
 intro E σ i live r h
 cases h
def SBR:Nat→MS×MS
 | 0=>(noR,noR)
 | n+1=>(statementM (XF n).1 (SBR n).2,blockM (SBR n).1 n)
theorem SB_ok (n:Nat):(SubS 47 (SBR n).1∧SubGoodS (SBR n).1)∧SubS 102 (SBR n).2∧SubGoodS (SBR n).2:=by
 induction n with
 | zero=>exact ⟨⟨noR_ok _,noR_good⟩,noR_ok _,noR_good⟩
 | succ n ih=>
  obtain ⟨⟨hS,gS⟩,hB,gB⟩:=ih
  obtain ⟨⟨hX,gX⟩,_⟩:=XF_ok n
  exact ⟨⟨statement_any hX gX hB gB,statement_good gB⟩,block_any hS gS n,block_good n⟩
theorem declGo_good (E:Env) (hd:Bool) (f:Nat):∀q r,declGo E hd f q=some r→GoodR E r:=by
 induction f with
 | zero=>intro q r h;simp [declGo] at h
 | succ f ih=>
  intro q r h
  rw [declGo] at h
  split at h
  ·exact chkR_good h
  split at h
  ·split at h
   ·split at h
    ·exact ih _ _ h
    ·cases h
   ·exact chkR_good h
  ·cases h
set_option maxHeartbeats 4000000 in
theorem declared_any (f:Nat) (hd:Bool) (w:World) (wb:Nat) (HS:List (Nat×Obj)) (E:Env) (σ:St) (i:Nat) (r:SR) (h:Wk w wb HS E σ) (hi:i < E.toks.length) (hok:OkS σ) (hM:declGo E hd f ⟨i,σ⟩=some r) :
  Calls Tryz.prog 45 #[.pointer (some ⟨wb,0,none⟩),.int .i64 (i:Int),.bool hd] w (SOutR wb HS E w r):=by
 have tf:=h.some.2
 have HM:=hide hM
 clear hM
 go_enter Tryz.func45,Tryz.ntmps45
 go_wp2
 go_loopg [1] f (fun k si wr=>∃q:SR,si = .int .i64 (q.to:Int)∧Wk wr wb HS E q.σ∧Below wb w wr∧GoodR E q∧declGo E hd k q=some r)
 case atStart=>exact ⟨⟨i,σ⟩,rfl,h,Below.refl wb w,⟨hi,hok⟩,unhide HM⟩
 case round=>
  clear HM h
  obtain ⟨q,rfl,hq,hbq,gq,hch⟩:=hrel
  cases gk with
  | zero=>exact absurd hch (by simp [declGo])
  | succ gk=>
   rw [declGo] at hch
   have HCH:=hide hch
   clear hch
   have ok1:OkS (ofS E q.σ q.to 1):=ofS_ok gq.2
   go_wp2_with fail
   refine (of_any _ wb E q.σ q.to 1 hq gq.1).mono ?_
   clear hq
   rintro e w1 ⟨rfl,h1,hb1⟩
   go_wp2_with fail
   refine (stopped_any _ wb E _ h1).mono ?_
   rintro e wq ⟨rfl,hw⟩
   obtain rfl:=hw.symm
   have HB1:=hide (hbq.trans hb1)
   clear hbq hb1
   have hch:=unhide HCH
   clear HCH
   cases hst:stopB E (ofS E q.σ q.to 1)
   ·rw [if_neg (by rw [hst];simp)] at hch
    split at hch
    case isFalse=>cases hch
    rename_i hg
    obtain ⟨hi1,okd⟩:=hg
    have HCH:=hide hch
    clear hch
    go_wp2_with fail
    refine (declare_any _ wb E _ q.to hd true h1 gq.1 ok1.1).mono ?_
    clear h1
    rintro e w2 ⟨rfl,h2,hb2⟩
    go_wp2_with fail
    refine (is_any _ wb E _ _ sCM h2 hi1).mono ?_
    rintro e wq ⟨rfl,hw⟩
    obtain rfl:=hw.symm
    have hch:=unhide HCH
    clear HCH
    cases hcm:isB E (declS E (ofS E q.σ q.to 1) q.to hd true) (ofI E q.σ q.to 1) sCM
    ·rw [if_neg (by rw [hcm];simp)] at hch
     obtain ⟨hr,_⟩:=chkR_eq hch
     have HR:=hide hr
     clear hr hch
     go_wp2_with fail
     refine (need_any _ wb E _ _ sSC h2 hi1).mono ?_
     rintro e w3 ⟨rfl,h3,hb3⟩
     go_wp2
     go_ret
     rw [unhide HR]
     exact ⟨rfl,h3,((unhide HB1).trans hb2).trans hb3⟩
    ·rw [if_pos hcm] at hch
     split at hch
     case isFalse=>cases hch
     rename_i hi2
     have HCH:=hide hch
     clear hch
     have hi3:((ofI E q.σ q.to 1:Nat):Int)+1 < 1000:=by omega
     have HB2:=hide ((unhide HB1).trans hb2)
     clear HB1 hb2
     generalize ofI E q.σ q.to 1=j at *
     go_wp2
     go_roundg gk
     case measure=>omega
     case rel=>exact ⟨⟨j+1,_⟩,rfl,h2,unhide HB2,⟨hi2,okd⟩,unhide HCH⟩
   ·rw [if_pos hst] at hch
    obtain ⟨hr,_⟩:=chkR_eq hch
    have HR:=hide hr
    clear hr hch
    go_wp2_with fail
    refine (end_any _ wb E _ h1).mono ?_
    rintro e wq ⟨rfl,hw⟩
    obtain rfl:=hw.symm
    go_wp2
    go_ret
    rw [unhide HR]
    exact ⟨ret_int (by show _=((E.toks.length-1:Nat):Int);omega),h1,unhide HB1⟩
def sXR:ByteArray:=⟨#[120]⟩
def sYR:ByteArray:=⟨#[121]⟩
def startS (E:Env) (σ:St):St:={ σ with cells:=[⟨sXR,(if E.mode==3 then E.point % E.sw else 0),false,false⟩,⟨sYR,(if E.mode==3 then E.point / E.sw else 0),false,false⟩] }
def declsM (E:Env) (f:Nat):Nat→SR→Option SR
 | 0,_=>none
 | k+1,r=>if isB E r.σ r.to sOPEN||isB E r.σ r.to sHIDDEN then (if r.to+1 < E.toks.length then (declGo E (isB E r.σ r.to sHIDDEN) f ⟨r.to+1,r.σ⟩).bind (declsM E f k) else none) else some r
def bodyM (S:MS) (E:Env):Nat→SR→Option St
 | 0,_=>none
 | k+1,r=>if stopB E r.σ||r.σ.dead||((tokAt E r.to).kind==4) then some r.σ else (S E r.σ r.to true).bind (bodyM S E k)
def sourceM (n:Nat) (E:Env) (σ:St):Option St:=if (E.mode==3) && !(decide (1≤E.sw)&&decide (E.sw≤6)&&decide (0≤E.point)&&decide (E.point < 1000)) then none else (declsM E n n ⟨0,startS E σ⟩).bind (bodyM (SBR n).1 E n)
end Go.Proofs.YthmmgiaobakilaaGreat
