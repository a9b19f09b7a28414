import Derived.Test.YthmmgiaobakilaaGreatK25
import Derived.Test.YthmmgiaobakilaaGreatK47
import Derived.Test.YthmmgiaobakilaaGreatK48
import Derived.Test.YthmmgiaobakilaaGreatK49
set_option maxRecDepth 100000
namespace Go.Proofs.YthmmgiaobakilaaGreat
open Go.RowKit Go.Deep
theorem WkAt.point {w:World} {wb:Nat} {HS:List (Nat×Obj)} {E:Env} {σ:St} {tv lv so sd ov hv rv:Value} (h:WkAt w wb HS E σ tv lv so sd ov hv rv) (p:Int):WkAt (w.setCell ⟨wb,15,none⟩ (.int .i64 p)) wb HS { E with point:=p } σ tv lv so sd ov hv rv:=by
 have hoth:∀k,k≠wb→(w.setCell ⟨wb,15,none⟩ (.int .i64 p)).heap[k]?=w.heap[k]?:=fun k hk=>Below.heap_setCell _ _ _ _ hk
 have low:∀k,k < wb→(w.setCell ⟨wb,15,none⟩ (.int .i64 p)).heap[k]?=w.heap[k]?:=fun k hk=>hoth k (by omega)
 refine ⟨heap_setCell_same w wb 15 _ _ _ h.blk,own_same h.tokens (fun k hk=>low k (h.tokLow k hk)),h.tokLow,h.tokSome,h.tokFew,?_,?_,?_,?_,h.apLR,h.apLO,h.apLH,h.apRO,h.apRH,h.apOH,?_,?_,fun p hp=>⟨(hoth p.1 (h.held p hp).2.1).trans (h.held p hp).1,(h.held p hp).2⟩⟩
 ·exact own_same h.rowL (fun k hk=>hoth k (by have:=(h.rowL.lt k hk).1;omega))
 ·exact own_same h.rowR (fun k hk=>hoth k (by have:=(h.rowR.lt k hk).1;omega))
 ·exact own_same h.rowO (fun k hk=>hoth k (by have:=(h.rowO.lt k hk).1;omega))
 ·exact own_same h.rowH (fun k hk=>hoth k (by have:=(h.rowH.lt k hk).1;omega))
 ·obtain ⟨ao,c,e,hi⟩:=h.ints1;exact ⟨ao,c,e,hi.same low⟩
 ·obtain ⟨ao,c,e,hi⟩:=h.ints2;exact ⟨ao,c,e,hi.same low⟩
theorem pts_at:∀W∈List.range 7,∀H∈List.range 7,∀p∈List.range (W*H),(ptsOf W H)[p]?=some (((p % W:Nat):Int),((p / W:Nat):Int)):=by decide +kernel
theorem take_next {W H p:Nat} (hW:W≤6) (hH:H≤6) (hp:p < W*H):(ptsOf W H).take (p+1)=(ptsOf W H).take p++[(((p % W:Nat):Int),((p / W:Nat):Int))]:=by
 have:=pts_at W (List.mem_range.2 (by omega)) H (List.mem_range.2 (by omega)) p (List.mem_range.2 hp)
 rw [List.take_add_one,this]
 rfl
theorem pts_split (W H p:Nat):ptsOf W H=(ptsOf W H).take p++(ptsOf W H).drop p:=(List.take_append_drop p _).symm
def st3 (N:Nat):St:=⟨0,0,[],0,0,[],List.replicate N 0,List.replicate N 0,false⟩
theorem p3_start {E:Env} {D:PD} {N:Nat} (hN:(N:Int)=D.sw*D.sh):P3 E D (st3 N) (startP N):=
 ⟨rfl,rfl,by show (0:Int)≤20000;decide,by show (0:Int)≤0;decide,by show (0:Int)≤0;decide,rfl,rfl,rfl,rfl,by show ((List.replicate N (0:Int)).length:Int)=_;rw [List.length_replicate];exact hN,by show ((List.replicate N (0:Int)).length:Int)=_;rw [List.length_replicate];exact hN⟩
theorem e3_of {E:Env} {sw sh:Int} {xs ys:List Int} (hm:E.mode=3) (hw:E.sw=sw) (hh:E.sh=sh) (ho:E.opens=xs) (hd:E.hids=ys) (hs:shapeE sw sh xs ys=0) (p0:0≤E.point) (p1:E.point < sw*sh):E3 E (pdOf sw sh xs ys):=by
 unfold shapeE at hs
 split at hs
 case isFalse=>cases hs
 rename_i hsd
 split at hs
 case isFalse=>cases hs
 rename_i ht
 rw [Bool.and_eq_true] at hsd ht
 obtain ⟨a,b,c,d,_,_⟩:=side_mul hsd.1 hsd.2
 have tx:∀l:List Int,texelsB l (sw*sh)=true→(l.length:Int)=sw*sh∧∀i,0≤l.getD i 0∧l.getD i 0≤255:=fun l hl=>by
  unfold texelsB at hl
  rw [Bool.and_eq_true] at hl
  refine ⟨by simpa using hl.1,fun i=>?_⟩
  rcases Nat.lt_or_ge i l.length with hi | hi
  ·rw [List.getD,List.getElem?_eq_getElem hi]
   have:=List.all_eq_true.1 hl.2 _ (List.getElem_mem hi)
   unfold texelB at this
   simp only [Bool.and_eq_true,decide_eq_true_eq] at this
   show 0≤l[i]∧l[i]≤255
   omega
  ·rw [List.getD,List.getElem?_eq_none hi];exact ⟨by decide,by decide⟩
 obtain ⟨l1,t1⟩:=tx xs ht.1
 obtain ⟨l2,t2⟩:=tx ys ht.2
 exact ⟨hm,hw,hh,ho,hd,⟨a,b,c,d,l1,l2⟩,p0,p1,fun i=>⟨by have:=t1 i;show _≤xs.getD i 0;omega,by have:=t1 i;show xs.getD i 0≤_;omega⟩,fun i=>⟨by have:=t2 i;show _≤ys.getD i 0;omega,by have:=t2 i;show ys.getD i 0≤_;omega⟩⟩
theorem ans_unique {sw sh:Int} {xs ys:List Int} {src:ByteArray} {E P E' P':Int} {r r':Option PSt} (h:Ans sw sh xs ys src E P r) (h':Ans sw sh xs ys src E' P' r'):E'=E∧P'=P∧r'=r:=by
 rcases h with ⟨a1,a2,a3,a4⟩ | ⟨a1,a2,a3,a4,a5⟩ | ⟨a1,a2,a3,ds,t,hT,a4,a5⟩
 ·rcases h' with ⟨_,b2,b3,b4⟩ | ⟨b1,_⟩ | ⟨b1,_⟩
  ·exact ⟨b2.trans a2.symm,b3.trans a3.symm,b4.trans a4.symm⟩
  ·exact absurd b1 a1
  ·exact absurd b1 a1
 ·rcases h' with ⟨b1,_⟩ | ⟨_,_,b3,b4,b5⟩ | ⟨_,b2,_⟩
  ·exact absurd a1 b1
  ·exact ⟨b3.trans a3.symm,b4.trans a4.symm,b5.trans a5.symm⟩
  ·rw [b2] at a2;exact absurd rfl a2
 ·rcases h' with ⟨b1,_⟩ | ⟨_,b2,_⟩ | ⟨_,_,b3,ds',t',hT',b4,b5⟩
  ·exact absurd a1 b1
  ·rw [a2] at b2;exact absurd rfl b2
  ·have et:t'=t:=by
    obtain ⟨_,l1,p1,j1,e1,e2,_⟩:=hT
    obtain ⟨_,l2,p2,j2,e3,e4,_⟩:=hT'
    rw [e1] at e3
    cases e3
    rw [e2] at e4
    cases e4
    rfl
   subst et
   have er:r'=r:=b4.trans a4.symm
   exact ⟨by rw [b5,a5,er],b3.trans a3.symm,er⟩
end Go.Proofs.YthmmgiaobakilaaGreat
