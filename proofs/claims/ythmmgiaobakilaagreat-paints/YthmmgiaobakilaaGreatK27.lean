import Derived.Test.YthmmgiaobakilaaGreatK26
import Derived.Maps.AppendAt
import Derived.Deep.AppendLies
set_option maxRecDepth 100000
namespace Go.Proofs.YthmmgiaobakilaaGreat
open Go.RowKit Go.Shelf
structure GT where
 k:Int
 p:Int
 wd:ByteArray
 n:Int
 s:Int
def gtC (t:GT):List Value:=[.int .i64 t.k,.int .i64 t.p,.string t.wd,.int .i32 t.n,.int .i32 t.s]
def gtsC (l:List GT):List Value:=l.flatMap gtC
theorem gtsC_len (l:List GT):(gtsC l).length=l.length*5:=by
 induction l with
 | nil=>rfl
 | cons a l ih=>simp only [gtsC,List.flatMap_cons,List.length_append] at ih ⊢;rw [ih];simp [gtC];omega
theorem gtsC_snoc (l:List GT) (t:GT):gtsC (l++[t])=gtsC l++gtC t:=by simp [gtsC]
def newG (k p:Int):GT:=⟨k,p,⟨#[]⟩,0,0⟩
def addG (t:GT) (r:Int):GT:=if t.k=2 then { t with wd:=t.wd++⟨#[r.toNat.toUInt8]⟩ } else if t.k=3 then { t with n:=10*t.n+r-48 } else { t with s:=r }
def putG (l:List GT) (t:GT) (r k:Int):Except Int (List GT×Int):=if 65535 < (addG t r).n then .error (addG t r).p else .ok (l++[addG t r],k)
def lastG (l:List GT) (r k:Int):Except Int (List GT×Int):=match l.getLast? with
 | none=>.ok (l,k)
 | some t=>putG l.dropLast t r k
def stepG (σ:List GT×Int) (x:Int×Int):Except Int (List GT×Int):=
 if kOf x.2=0 then .error x.1 else
 if kOf x.2=1 then .ok (σ.1,1) else
 if kOf x.2=4∨kOf x.2≠σ.2 then putG σ.1 (newG (kOf x.2) x.1) x.2 (kOf x.2) else lastG σ.1 x.2 (kOf x.2)
def nextG (a:Except Int (List GT×Int)) (x:Int×Int):Except Int (List GT×Int):=match a with
 | .error e=>.error e
 | .ok σ=>stepG σ x
def foldG (xs:List (Int×Int)):Except Int (List GT×Int):=xs.foldl nextG (.ok ([],1))
theorem foldG_snoc (xs:List (Int×Int)) (x:Int×Int):foldG (xs++[x])=nextG (foldG xs) x:=by simp [foldG]
theorem foldl_err (e:Int):∀xs:List (Int×Int),xs.foldl nextG (.error e) = .error e
 | []=>rfl
 | _::xs=>foldl_err e xs
theorem foldG_err {xs ys:List (Int×Int)} {e:Int} (h:foldG xs = .error e):foldG (xs++ys) = .error e:=by
 unfold foldG at *
 rw [List.foldl_append,h]
 exact foldl_err e ys
structure InvG (σ:List GT×Int) (m:Nat):Prop where
 last:σ.2=2∨σ.2=3→∃l t,σ.1=l++[t]∧t.k=σ.2
 small:∀t∈σ.1,0≤t.n∧t.n≤65535∧t.wd.size≤m
 few:σ.1.length≤m
theorem InvG.start:InvG ([],1) 0:=⟨fun h=>by simp at h,fun t ht=>(by cases ht),Nat.le_refl _⟩
theorem kOf_cases (r:Int):kOf r=0∨kOf r=1∨(kOf r=2∧97≤r∧r≤122)∨(kOf r=3∧48≤r∧r≤57)∨kOf r=4:=by
 unfold kOf
 split
 ·exact .inr (.inl rfl)
 split
 ·exact .inr (.inr (.inr (.inr rfl)))
 split
 ·rename_i h;exact .inr (.inr (.inl ⟨rfl,h⟩))
 split
 ·rename_i h;exact .inr (.inr (.inr (.inl ⟨rfl,h⟩)))
 ·exact .inl rfl
theorem put_inv {l:List GT} {t:GT} {r k:Int} {m:Nat} {τ:List GT×Int} (hl:∀u∈l,0≤u.n∧u.n≤65535∧u.wd.size≤m) (ht:0≤t.n∧t.n≤65535∧t.wd.size≤m) (hk:t.k=k) (hr:k=3→48≤r∧r≤57) (hln:l.length+1≤m+1) (h:putG l t r k = .ok τ):InvG τ (m+1):=by
 unfold putG at h
 split at h
 ·cases h
 ·rename_i hn
  cases h
  refine ⟨fun _=>⟨l,_,rfl,?_⟩,fun u hu=>?_,by simp;omega⟩
  ·unfold addG;split
   ·exact hk
   split
   ·exact hk
   ·exact hk
  ·rcases List.mem_append.1 hu with hu | hu
   ·have:=hl u hu;omega
   ·simp at hu
    subst hu
    unfold addG at hn ⊢
    split at hn
    ·rename_i h2;rw [if_pos h2];refine ⟨ht.1,ht.2.1,?_⟩;show (t.wd++_).size≤_;rw [ByteArray.size_append];have:(⟨#[r.toNat.toUInt8]⟩:ByteArray).size=1:=rfl;omega
    ·rename_i h2
     rw [if_neg h2]
     split at hn
     ·rename_i h3;rw [if_pos h3];have:=hr (by omega);simp at hn ⊢;omega
     ·rename_i h3;rw [if_neg h3];exact ⟨ht.1,ht.2.1,by show t.wd.size≤_;omega⟩
theorem step_inv {σ:List GT×Int} {x:Int×Int} {m:Nat} {τ:List GT×Int} (hi:InvG σ m) (h:stepG σ x = .ok τ):InvG τ (m+1):=by
 unfold stepG at h
 split at h
 ·cases h
 rename_i h0
 split at h
 ·cases h;exact ⟨fun h=>by simp at h,fun t ht=>by have:=hi.small t ht;omega,by have:=hi.few;show σ.1.length≤_;omega⟩
 rename_i h1
 have hr:kOf x.2=3→48≤x.2∧x.2≤57:=fun e=>by
  rcases kOf_cases x.2 with a | a | ⟨a,_⟩ | ⟨_,a⟩ | a <;> first | omega | exact a
 split at h
 ·exact put_inv hi.small ⟨Int.le_refl _,(by show (0:Int)≤65535;decide),Nat.zero_le _⟩ rfl hr (by have:=hi.few;omega) h
 ·rename_i h2
  have hk:kOf x.2=σ.2:=by
   by_cases e:kOf x.2=σ.2
   ·exact e
   ·exact absurd (.inr e) h2
  have h4:kOf x.2≠4:=fun e=>h2 (.inl e)
  obtain ⟨l,t,e1,e2⟩:=hi.last (by rcases kOf_cases x.2 with a | a | ⟨a,_⟩ | ⟨a,_⟩ | a <;> omega)
  unfold lastG at h
  rw [e1] at h
  simp at h
  have hfew:=hi.few
  rw [e1] at hfew
  simp at hfew
  exact put_inv (fun u hu=>hi.small u (by rw [e1];exact List.mem_append_left _ hu)) (hi.small t (by rw [e1];simp)) (by omega) hr (by omega) h
theorem fold_inv:∀(n:Nat) (xs:List (Int×Int)) (σ:List GT×Int),xs.length=n→foldG xs = .ok σ→InvG σ xs.length:=by
 intro n
 induction n with
 | zero=>
  intro xs σ hn h
  have:xs=[]:=List.length_eq_zero_iff.1 hn
  subst this
  cases h
  exact InvG.start
 | succ n ih=>
  intro xs σ hn h
  obtain ⟨ys,x,rfl⟩:∃ys x,xs=ys++[x]:=⟨xs.dropLast,xs.getLast (by intro e;rw [e] at hn;simp at hn),(List.dropLast_concat_getLast _).symm⟩
  rw [foldG_snoc] at h
  cases hf:foldG ys with
  | error e=>rw [hf] at h;cases h
  | ok τ=>
   rw [hf] at h
   have:=step_inv (ih ys τ (by simpa using hn) hf) h
   simpa using this
theorem own_last {w:World} {base g c:Nat} {l:List GT} {t:GT} {m:Nat} (h:w.ownsRow base 116 5 (.slice (some ⟨g,0,none⟩) m c) m (gtsC (l++[t]))) (hm:m=l.length+1) :
  (∀j v,(gtC t)[j]?=some v→w.cell? ⟨g,l.length*5+j,none⟩=some v)∧(∀j,w.frozen? ⟨g,j,none⟩=false):=by
 constructor
 ·intro j v hv
  have hj:j < 5:=by have:=(List.getElem?_eq_some_iff.1 hv).1;exact this
  rw [h.cellAt (l.length*5+j) (by omega),gtsC_snoc,List.getElem?_append_right (by rw [gtsC_len];omega),gtsC_len]
  rw [show l.length*5+j-l.length*5=j by omega]
  exact hv
 ·intro j
  rcases h.2 with ⟨e,_⟩ | ⟨g',cap,cur,e,hb,hg,_⟩
  ·cases e
  ·cases e
   simp [World.frozen?,hg]
theorem own_set {w:World} {base g c m:Nat} {l:List GT} {t t':GT} {j:Nat} {v:Value} (h:w.ownsRow base 116 5 (.slice (some ⟨g,0,none⟩) m c) m (gtsC (l++[t]))) (hm:m=l.length+1) (hj:j < 5) (ht:(gtC t).set j v=gtC t') :
  (w.setCell ⟨g,l.length*5+j,none⟩ v).ownsRow base 116 5 (.slice (some ⟨g,0,none⟩) m c) m (gtsC (l++[t'])):=by
 refine ⟨by rw [gtsC_len];simp;omega,.inr ?_⟩
 rcases h.2 with ⟨e,_⟩ | ⟨g',cap,cur,e,hb,hg,hn,hc,hs,htk⟩
 ·cases e
 ·cases e
  refine ⟨g,c,cur.setIfInBounds (l.length*5+j) v,rfl,hb,?_,hn,hc,by simpa using hs,?_⟩
  ·have:=heap_setCell_same w g (l.length*5+j) cur 116 v hg
   exact this
  ·rw [Array.toList_setIfInBounds,List.take_set,htk,gtsC_snoc,gtsC_snoc,←ht,List.set_append_right _ _ (by rw [gtsC_len];omega),gtsC_len]
   rw [show l.length*5+j-l.length*5=j by omega]
attribute [local go_sem] Oper.semAt_some
theorem cell_four (w:World) (a b c d:Obj) (s:ByteArray):(((((w.alloc a).alloc b).alloc c).alloc d).alloc (.cells #[.string s] 9)).cell? ⟨w.heap.size+4,0,none⟩=some (.string s):=by
 have h:=heap_alloc_new ((((w.alloc a).alloc b).alloc c).alloc d) (.cells #[.string s] 9)
 simp only [World.size_alloc] at h
 simp only [World.cell?]
 rw [show w.heap.size+4=w.heap.size+1+1+1+1 by omega,h]
 rfl
theorem runesOf_len (s:ByteArray):(runesOf s).length≤s.size:=decs_len s _ _
theorem infoTok:(Tryz.prog.info? 116).map (fun i=>(i.zero,i.size,i.bytes))=some (some (.agg #[.int .i64 0,.int .i64 0,.string ⟨#[]⟩,.int .i32 0,.int .i32 0]),5,40):=by kernel_rfl
theorem bkc1 {w:World} {b:Nat} {ty:TypeId} {c0:Value} (h:w.heap[b]?=some (.cells #[c0] ty (0,0))):w.cell? ⟨b,0,none⟩=some c0∧w.frozen? ⟨b,0,none⟩=false:=by
 refine ⟨?_,?_⟩ <;> simp [World.cell?,World.frozen?,h]
theorem bkc2 {w:World} {b:Nat} {ty:TypeId} {c0 c1:Value} (h:w.heap[b]?=some (.cells #[c0,c1] ty (0,0))):(w.cell? ⟨b,0,none⟩=some c0∧w.cell? ⟨b,1,none⟩=some c1)∧w.frozen? ⟨b,0,none⟩=false∧w.frozen? ⟨b,1,none⟩=false:=by
 refine ⟨⟨?_,?_⟩,?_,?_⟩ <;> simp [World.cell?,World.frozen?,h]
theorem own_off {w w':World} {base:Nat} {e:TypeId} {size:Nat} {v:Value} {n:Nat} {xs:List Value} (h:w.ownsRow base e size v n xs) (hs:∀k,v.ownBlock=some k→w'.heap[k]?=w.heap[k]?):w'.ownsRow base e size v n xs:=by
 refine ⟨h.1,?_⟩
 rcases h.2 with h0 | ⟨g,cap,cur,rfl,hb,hg,rest⟩
 ·exact .inl h0
 ·exact .inr ⟨g,cap,cur,rfl,hb,(hs g rfl).trans hg,rest⟩
theorem own_base {w:World} {base base':Nat} {e:TypeId} {size:Nat} {v:Value} {n:Nat} {xs:List Value} (h:w.ownsRow base e size v n xs) (hb:base'≤base):w.ownsRow base' e size v n xs:=by
 refine ⟨h.1,?_⟩
 rcases h.2 with h0 | ⟨g,cap,cur,rfl,hg,rest⟩
 ·exact .inl h0
 ·exact .inr ⟨g,cap,cur,rfl,Nat.le_trans hb hg,rest⟩
structure ScAt (w:World) (σ:List GT×Int) (so:Option Addr) (sl sc:Nat) (W:World):Prop where
 r0:W.heap[w.heap.size]?=some (.cells #[.slice none 0 0] 103 (0,0))
 r1:W.heap[w.heap.size+1]?=some (.cells #[.int .i64 0,.int .i64 0] 105 (0,0))
 l0:W.heap[w.heap.size+2]?=some (.cells #[.slice so sl sc] 103 (0,0))
 k0:W.heap[w.heap.size+3]?=some (.cells #[.int .i64 σ.2] 114 (0,0))
 own:W.ownsRow (w.heap.size+5) 116 5 (.slice so sl sc) σ.1.length (gtsC σ.1)
 bel:Below w.heap.size w W
 sz:w.heap.size+5≤W.heap.size
theorem cells_grown {W W':World} {row:Option Nat} (hg:W.grownBy W' row) (hr:∀r,row=some r→∃o:Obj,W.heap[r]?=some o∧o.isCells=false) {b:Nat} {c:Array Value} {t:TypeId} {f:Nat×Nat} (h:W.heap[b]?=some (.cells c t f)):W'.heap[b]?=some (.cells c t f):=by
 refine (hg.block b (Array.getElem?_eq_some_iff.1 h).1 (fun e=>?_)).trans h
 obtain ⟨o,ho,hc⟩:=hr b e.symm
 rw [h] at ho
 cases ho
 cases hc
theorem own_grown {W W':World} {row:Option Nat} (hg:W.grownBy W' row) (hr:∀r,row=some r→∃o:Obj,W.heap[r]?=some o∧o.isCells=false) {base:Nat} {e:TypeId} {size:Nat} {v:Value} {n:Nat} {xs:List Value} (h:W.ownsRow base e size v n xs):W'.ownsRow base e size v n xs:=by
 refine ⟨h.1,?_⟩
 rcases h.2 with h0 | ⟨g,cap,cur,rfl,hb,hgb,rest⟩
 ·exact .inl h0
 ·exact .inr ⟨g,cap,cur,rfl,hb,cells_grown hg hr hgb,rest⟩
theorem ScAt.grown {w W W':World} {σ:List GT×Int} {so:Option Addr} {sl sc B:Nat} {row:Option Nat} (h:ScAt w σ so sl sc W) (hB:w.heap.size≤B) (hg:W.grownBy W' row) (hr:∀r,row=some r→B≤r∧∃o:Obj,W.heap[r]?=some o∧o.isCells=false):ScAt w σ so sl sc W':=
 have hr':=fun r e=>(hr r e).2
 ⟨cells_grown hg hr' h.r0,cells_grown hg hr' h.r1,cells_grown hg hr' h.l0,cells_grown hg hr' h.k0,own_grown hg hr' h.own,h.bel.grown hg h.bel.size (fun r e=>Nat.le_trans hB (hr r e).1),Nat.le_trans h.sz hg.size⟩
def ScI (w:World) (pre:List (Int×Int)) (W:World):Prop:=∃σ so sl sc,foldG pre = .ok σ∧ScAt w σ so sl sc W
def ScX (w:World) (c:Code) (pre:List (Int×Int)) (W:World):Prop:=c = .ret∧∃p,foldG pre = .error p∧W.heap[w.heap.size]?=some (.cells #[.slice none 0 0] 103 (0,0))∧W.heap[w.heap.size+1]?=some (.cells #[.int .i64 8,.int .i64 p] 105 (0,0))∧Below w.heap.size w W
def ScOut (w:World) (s:ByteArray) (e:Ending) (w':World):Prop:=Below w.heap.size w w'∧((∃p,foldG (runesOf s) = .error p∧e = .returned (.tuple #[.slice none 0 0,.agg #[.int .i64 8,.int .i64 p]])) ∨
 (∃σ g c,foldG (runesOf s) = .ok σ∧e = .returned (.tuple #[.slice (some ⟨g,0,none⟩) (σ.1.length+1) c,.agg #[.int .i64 0,.int .i64 0]])∧w'.ownsRow w.heap.size 116 5 (.slice (some ⟨g,0,none⟩) (σ.1.length+1) c) (σ.1.length+1) (gtsC (σ.1++[newG 5 s.size]))))
theorem sc_add {w W1:World} {l:List GT} {t t':GT} {b k:Int} {g c j:Nat} {v:Value} (h:ScAt w (l++[t],b) (some ⟨g,0,none⟩) (l.length+1) c W1) (hj:j < 5) (ht:(gtC t).set j v=gtC t') :
  ScAt w (l++[t'],k) (some ⟨g,0,none⟩) (l.length+1) c ((W1.setCell ⟨g,l.length*5+j,none⟩ v).setCell ⟨w.heap.size+3,0,none⟩ (.int .i64 k)):=by
 have hg:=(h.own.lt g rfl).1
 have hl:(l++[t]).length=l.length+1:=by simp
 have hl':(l++[t'],k).1.length=l.length+1:=by simp
 have own:=h.own
 have own1:W1.ownsRow (w.heap.size+5) 116 5 (.slice (some ⟨g,0,none⟩) (l.length+1) c) (l.length+1) (gtsC (l++[t])):=by simpa using own
 refine ⟨?_,?_,?_,?_,?_,?_,?_⟩
 ·exact (Below.heap_setCell _ _ _ _ (by simp)).trans ((Below.heap_setCell _ _ _ _ (by simp;omega)).trans h.r0)
 ·exact (Below.heap_setCell _ _ _ _ (by simp)).trans ((Below.heap_setCell _ _ _ _ (by simp;omega)).trans h.r1)
 ·exact (Below.heap_setCell _ _ _ _ (by simp)).trans ((Below.heap_setCell _ _ _ _ (by simp;omega)).trans h.l0)
 ·exact heap_setCell_same _ (w.heap.size+3) 0 _ _ _ ((Below.heap_setCell _ _ _ _ (by simp;omega)).trans h.k0)
 ·rw [hl']
  exact own_off (own_set own1 rfl hj ht) (fun k hk=>Below.heap_setCell _ _ _ _ (by have e:g=k:=(by simpa [Value.ownBlock] using hk);simp;omega))
 ·exact (h.bel.setCell (p:=⟨g,l.length*5+j,none⟩) (by simp;omega) _).setCell (p:=⟨w.heap.size+3,0,none⟩) (by simp) _
 ·simpa using h.sz
theorem sc_new {w W W1:World} {l:List GT} {t:GT} {b:Int} {so:Option Addr} {sl sc g c:Nat} {U:Obj} (h:ScAt w (l,b) so sl sc W) (hown:W1.ownsRow (w.heap.size+5) 116 5 (.slice (some ⟨g,0,none⟩) (l.length+1) c) (l.length+1) (gtsC l++gtC t)) (hgrow:(W.alloc U).grownBy W1 (Value.slice so sl sc).ownBlock) (hW:w.heap.size+5≤W.heap.size) :
  ScAt w (l++[t],b) (some ⟨g,0,none⟩) (l.length+1) c (W1.setCell ⟨w.heap.size+2,0,none⟩ (.slice (some ⟨g,0,none⟩) (l.length+1) c)):=by
 have hg:=(hown.lt g rfl).1
 have far:∀k,k < w.heap.size+5→W1.heap[k]?=W.heap[k]?:=fun k hk=>(hgrow.block k (by simp;omega) (fun e=>by have:=(h.own.lt k e.symm).1;omega)).trans (Below.heap_alloc W U k (by omega))
 have hl':(l++[t],b).1.length=l.length+1:=by simp
 refine ⟨?_,?_,?_,?_,?_,?_,?_⟩
 ·exact (Below.heap_setCell _ _ _ _ (by simp)).trans ((far _ (by omega)).trans h.r0)
 ·exact (Below.heap_setCell _ _ _ _ (by simp)).trans ((far _ (by omega)).trans h.r1)
 ·exact heap_setCell_same _ (w.heap.size+2) 0 _ _ _ ((far _ (by omega)).trans h.l0)
 ·exact (Below.heap_setCell _ _ _ _ (by simp)).trans ((far _ (by omega)).trans h.k0)
 ·rw [hl',gtsC_snoc]
  exact own_off hown (fun k hk=>Below.heap_setCell _ _ _ _ (by have e:g=k:=(by simpa [Value.ownBlock] using hk);simp;omega))
 ·exact ((h.bel.alloc (by omega) U).grown hgrow (by simp;omega) (fun k e=>by have:=(h.own.lt k e).1;omega)).setCell (p:=⟨w.heap.size+2,0,none⟩) (by simp) _
 ·have:=hgrow.size;simp at this ⊢;omega
theorem own_cells {W:World} {base:Nat} {e:TypeId} {size:Nat} {v:Value} {n:Nat} {xs:List Value} (h:W.ownsRow base e size v n xs):∀(j:Nat) (o:Obj),v.ownBlock=some j→W.heap[j]?=some o→o.isCells=true:=by
 intro j o hj ho
 rcases h.2 with ⟨rfl,_⟩ | ⟨g,cap,cur,rfl,_,hgb,_⟩
 ·simp [Value.ownBlock] at hj
 ·have:g=j:=by simpa [Value.ownBlock] using hj
  subst this
  rw [hgb] at ho
  cases ho
  rfl
set_option maxHeartbeats 16000000 in
theorem scan_any (s:ByteArray) (hs:s.size≤300) (w:World):Calls Tryz.prog 57 #[.string s] w (ScOut w s):=by
 refine (callsIn_wide (n:=8)).1 ?_
 refine callsIn_of_wp_marks Tryz.func57 rfl trivial ?_ rfl
 simp only [Tryz.ntmps57,List.size_toArray,List.length_cons,List.length_nil,Nat.reduceAdd,Nat.reduceSub,Array.replicate_succ,Array.replicate_zero,List.push_toArray,List.append_toArray,List.nil_append,List.cons_append]
 gi_wp2_with fail
 refine ⟨trivial,?_⟩
 refine (runes_in Fence.wide _ trivial rfl s _).mono ?_
 rintro e w' ⟨rfl,hw'⟩
 obtain ⟨W0,hW0⟩:∃W0,w'=W0:=⟨_,rfl⟩
 rw [hW0] at hw' ⊢
 have z0:W0.heap.size=w.heap.size+5:=by rw [hw'];simp
 have box:W0.cell? ⟨w.heap.size+4,0,none⟩=some (.string s):=by
  rw [hw']
  exact cell_four w _ _ _ _ s
 have at0:ScAt w ([],1) none 0 0 W0:=by
  have b1:∀(W:World) (o:Obj) (k:Nat),k < W.heap.size→(W.alloc o).heap[k]?=W.heap[k]?:=fun W o k hk=>Below.heap_alloc W o k hk
  rw [hw']
  refine ⟨?_,?_,?_,?_,World.ownsRow_nil _ _ _ _,?_,by simp⟩
  ·rw [b1 _ _ _ (by simp;try omega),b1 _ _ _ (by simp;try omega),b1 _ _ _ (by simp;try omega),b1 _ _ _ (by simp)];exact heap_alloc_new w _
  ·rw [b1 _ _ _ (by simp;try omega),b1 _ _ _ (by simp;try omega),b1 _ _ _ (by simp)];exact (by simpa using heap_alloc_new (w.alloc (.cells #[.slice none 0 0] 103)) (.cells #[.int .i64 0,.int .i64 0] 105))
  ·rw [b1 _ _ _ (by simp;try omega),b1 _ _ _ (by simp)];exact (by simpa using heap_alloc_new ((w.alloc (.cells #[.slice none 0 0] 103)).alloc (.cells #[.int .i64 0,.int .i64 0] 105)) (.cells #[.slice none 0 0] 103))
  ·rw [b1 _ _ _ (by simp)];exact (by simpa using heap_alloc_new (((w.alloc (.cells #[.slice none 0 0] 103)).alloc (.cells #[.int .i64 0,.int .i64 0] 105)).alloc (.cells #[.slice none 0 0] 103)) (.cells #[.int .i64 1] 114))
  ·exact (((((Below.refl _ w).alloc (Nat.le_refl _) _).alloc (by simp) _).alloc (by simp;try omega) _).alloc (by simp;try omega) _).alloc (by simp;try omega) _
 clear hw' hW0
 gi_wp2
 refine wpIn_rangeFunc_ownG (α:=Int×Int) rfl (by omega) (gf:=106) (lb:=#[.pointer (some ⟨w.heap.size+4,0,none⟩)]) rfl trivial (enters_of Tryz.func106 (by kernel_rfl) rfl)
  (runes_stops Fence.wide 7 trivial rfl (by omega) (w.heap.size+4) s W0 (by omega) box) walksK_t walksK_b (Below.refl _ _) (fun _=>rfl)
  (ScI w) (ScX w) ?hI ?hIx ⟨_,_,_,_,rfl,at0⟩
  (fun x=>{ tmps:=#[.string s,undef,.pointer (some ⟨w.heap.size,0,none⟩),.pointer (some ⟨w.heap.size+1,0,none⟩),.pointer (some ⟨w.heap.size+2,0,none⟩),.pointer (some ⟨w.heap.size+3,0,none⟩),.int .i64 x.1,.int .i32 x.2,undef,undef,.string s,.func (.func 106) #[] #[.pointer (some ⟨w.heap.size+4,0,none⟩)],.int .i64 x.1,.int .i32 x.2,undef,undef,undef,undef,undef,undef,undef,undef,undef,undef,undef,undef,undef,undef,undef,undef,undef,undef,undef,undef,undef,undef,undef,undef,undef,undef,undef,undef,undef,undef,undef,undef,undef,undef,undef,undef,undef,undef,undef,undef,undef,undef,undef,undef,undef,undef,undef,undef,undef,undef,undef],defers:=[] }) ?assign ?body ?done ?stop
 case hI=>
  rintro pre A B row ⟨σ,so,sl,sc,hf,hat⟩ hg hr
  exact ⟨σ,so,sl,sc,hf,hat.grown (by omega) hg hr⟩
 case hIx=>
  rintro c pre A B row ⟨hc,p,hf,a1,a2,a3⟩ hg hr
  exact ⟨hc,p,hf,cells_grown hg (fun r e=>(hr r e).2) a1,cells_grown hg (fun r e=>(hr r e).2) a2,a3.grown hg a3.size (fun r e=>by have:=(hr r e).1;omega)⟩
 case assign=>
  intro l x W K hK
  gi_wp2
  exact hK
 case done=>
  rintro D xs W hD rfl ⟨σ,so,sl,sc,hf,hat⟩ hK
  have few:=(fold_inv _ _ σ rfl hf).few
  have hrl:=runesOf_len s
  have hsz:=hat.sz
  have r0c:=bkc1 hat.r0
  have r1c:=bkc2 hat.r1
  have l0c:W.cell? ⟨w.heap.size+1+1,0,none⟩=some (.slice so sl sc):=(bkc1 hat.l0).1
  obtain ⟨i0,hi0,hz0,hz1,hz2⟩:=info_parts infoTok
  have HF:=hide hf
  clear hf
  gi_wp2_with (gi_at_builtin;refine wpListIn_append_own _ rfl _ _ 103 rfl (w.heap.size+5) 116 i0 (.agg #[.int .i64 0,.int .i64 0,.string ⟨#[]⟩,.int .i32 0,.int .i32 0]) 5 40 Tryz.underlying103 hi0 hz0 hz1 hz2 rfl (by decide) (.slice so sl sc) σ.1.length (gtsC σ.1) rfl (hat.own.alloc _) ⟨W.heap.size,0,none⟩ 1 1 [.int .i64 5,.int .i64 s.size,.string ⟨#[]⟩,.int .i32 0,.int .i32 0] rfl rfl (World.news_of_block (heap_alloc_new W _)) (by simp [Value.oneCell']) (by unfold maxLen;omega) (by omega) (by simp;omega) ?_;intro v' wn hown hgrow _;obtain ⟨g,c,rfl⟩:=ownsRow_succ hown;have far:∀k,k < w.heap.size+5→wn.heap[k]?=W.heap[k]?:=(fun k hk=>(hgrow.block k (by simp;omega) (fun e=>by have:=(hat.own.lt k e.symm).1;omega)).trans (Below.heap_alloc W _ k (by omega)));have r2:=bkc1 ((far _ (by omega)).trans hat.r0);have q2:=bkc2 ((far _ (by omega)).trans hat.r1);have HFAR:=hide far;clear far)
  obtain ⟨W8,hW8⟩:∃W8,((wn.setCell ⟨w.heap.size,0,none⟩ (.slice (some ⟨g,0,none⟩) (σ.1.length+1) c)).setCell ⟨w.heap.size+1,0,none⟩ (.int .i64 0)).setCell ⟨w.heap.size+1,1,none⟩ (.int .i64 0)=W8:=⟨_,rfl⟩
  have hDl:D < W.heap.size:=(Array.getElem?_eq_some_iff.1 hK).1
  have hKn:wn.heap[D]?=some (.deferred (some [])):=(hgrow.block D (by simp;omega) (fun e=>by have:=own_cells hat.own D _ e.symm hK;cases this)).trans ((Below.heap_alloc W _ D hDl).trans hK)
  have h8:∀k,k≠w.heap.size→k≠w.heap.size+1→W8.heap[k]?=wn.heap[k]?:=fun k a b=>by rw [←hW8];exact (Below.heap_setCell _ _ _ _ b).trans ((Below.heap_setCell _ _ _ _ b).trans (Below.heap_setCell _ _ _ _ a))
  have r8:W8.heap[w.heap.size]?=some (.cells #[.slice (some ⟨g,0,none⟩) (σ.1.length+1) c] 103 (0,0)):=by
   rw [←hW8]
   exact (Below.heap_setCell _ _ _ _ (by simp)).trans ((Below.heap_setCell _ _ _ _ (by simp)).trans (heap_setCell_same _ w.heap.size 0 _ _ _ ((unhide HFAR _ (by omega)).trans hat.r0)))
  have q8:W8.heap[w.heap.size+1]?=some (.cells #[.int .i64 0,.int .i64 0] 105 (0,0)):=by
   rw [←hW8]
   exact heap_setCell_same _ (w.heap.size+1) 1 _ _ _ (heap_setCell_same _ (w.heap.size+1) 0 _ _ _ ((Below.heap_setCell _ _ _ _ (by simp)).trans ((unhide HFAR _ (by omega)).trans hat.r1)))
  have own8:W8.ownsRow (w.heap.size+5) 116 5 (.slice (some ⟨g,0,none⟩) (σ.1.length+1) c) (σ.1.length+1) (gtsC σ.1++gtC (newG 5 s.size)):=own_off hown (fun k hk=>h8 k (by have:=(hown.lt k hk).1;omega) (by have:=(hown.lt k hk).1;omega))
  have b8:Below w.heap.size w W8:=by
   rw [←hW8]
   exact ((((hat.bel.alloc (by omega) _).grown hgrow (by simp;omega) (fun k e=>by have:=(hat.own.lt k e).1;omega)).setCell (p:=⟨w.heap.size,0,none⟩) (Nat.le_refl _) _).setCell (p:=⟨w.heap.size+1,0,none⟩) (by simp) _).setCell (p:=⟨w.heap.size+1,1,none⟩) (by simp) _
  have hK8:=(h8 D (by omega) (by omega)).trans hKn
  rw [hW8]
  refine ⟨by simp,.inl ⟨_,_,rfl,run_takeDeferred hK8,?_⟩⟩
  have hW9:=grownBy_putObj' W8 D (.deferred none)
  have ro:∀r,some D=some r→∃o:Obj,W8.heap[r]?=some o∧o.isCells=false:=fun r e=>by cases e;exact ⟨_,hK8,rfl⟩
  have r0':=bkc1 (cells_grown hW9 ro r8)
  have r1':=bkc2 (cells_grown hW9 ro q8)
  refine ⟨.tuple #[.slice (some ⟨g,0,none⟩) (σ.1.length+1) c,.agg #[.int .i64 0,.int .i64 0]],by simp [results,Tryz.results57,go_sem,r0'.1,r1'.1.1,r1'.1.2],b8.grown hW9 b8.size (fun r e=>by cases e;omega),.inr ⟨σ,g,c,unhide HF,rfl,?_⟩⟩
  rw [gtsC_snoc]
  exact own_base (own_grown hW9 ro own8) (by omega)
 case stop=>
  rintro D c pre W hD ⟨suf,hpre⟩ ⟨rfl,p,hf,r0,r1,hb⟩ hK
  gi_wp2
  refine ⟨by simp,.inl ⟨_,_,rfl,run_takeDeferred hK,?_⟩⟩
  have hW9:=grownBy_putObj' W D (.deferred none)
  have r0':=bkc1 (cells_grown hW9 (fun r e=>by cases e;exact ⟨_,hK,rfl⟩) r0)
  have r1':=bkc2 (cells_grown hW9 (fun r e=>by cases e;exact ⟨_,hK,rfl⟩) r1)
  refine ⟨.tuple #[.slice none 0 0,.agg #[.int .i64 8,.int .i64 p]],by simp [results,Tryz.results57,go_sem,r0'.1,r1'.1.1,r1'.1.2],hb.grown hW9 hb.size (fun r e=>by cases e;omega),.inl ⟨p,by rw [←hpre];exact foldG_err hf,rfl⟩⟩
 case body=>
  rintro l pre x W ⟨σ,so,sl,sc,hf,hat⟩ hlen
  gi_wp2_with fail
  refine ⟨trivial,?_⟩
  refine (CallsIn.inRound l (callsIn_wide.2 (kindOf_any x.2 W))).mono ?_
  rintro e w' ⟨rfl,hw'⟩
  have hw2:=hw'.symm
  clear hw'
  subst hw2
  have inv:=fold_inv _ pre σ rfl hf
  have hfew:=inv.few
  have hfs:foldG (pre++[x])=stepG σ x:=by rw [foldG_snoc,hf];rfl
  have hB:W0.heap.size=w.heap.size+5:=z0
  have hlW:w.heap.size+5≤W.heap.size:=hat.sz
  obtain ⟨r0c,r0z⟩:=bkc1 hat.r0
  obtain ⟨⟨r1c,r1d⟩,r1z,r1y⟩:=bkc2 hat.r1
  obtain ⟨l0c,l0z⟩:=bkc1 hat.l0
  obtain ⟨k0c,k0z⟩:=bkc1 hat.k0
  rcases kOf_cases x.2 with hk | hk | ⟨hk,hr⟩ | ⟨hk,hr⟩ | hk
  ·have hst:stepG σ x = .error x.1:=by unfold stepG;rw [if_pos hk]
   rw [hk]
   have fin:ScX w .ret (pre++[x]) (((W.setCell ⟨w.heap.size,0,none⟩ (.slice none 0 0)).setCell ⟨w.heap.size+1,0,none⟩ (.int .i64 8)).setCell ⟨w.heap.size+1,1,none⟩ (.int .i64 x.1)):=by
    refine ⟨rfl,x.1,by rw [hfs,hst],?_,?_,?_⟩
    ·exact (Below.heap_setCell _ _ _ _ (by simp)).trans ((Below.heap_setCell _ _ _ _ (by simp)).trans (heap_setCell_same _ w.heap.size 0 _ _ _ hat.r0))
    ·exact heap_setCell_same _ (w.heap.size+1) 1 _ _ _ (heap_setCell_same _ (w.heap.size+1) 0 _ _ _ ((Below.heap_setCell _ _ _ _ (by simp)).trans hat.r1))
    ·exact ((hat.bel.setCell (p:=⟨w.heap.size,0,none⟩) (Nat.le_refl _) _).setCell (p:=⟨w.heap.size+1,0,none⟩) (by simp) _).setCell (p:=⟨w.heap.size+1,1,none⟩) (by simp) _
   clear hfs hst hf
   gi_wp2
   exact ⟨(((KeepsOthers.setCell _ _ _).trans (KeepsOthers.setCell _ _ _)).trans (KeepsOthers.setCell _ _ _)).from _,fin⟩
  ·have hst:stepG σ x = .ok (σ.1,1):=by unfold stepG;rw [if_neg (by omega),if_pos hk]
   rw [hk]
   have fin:ScI w (pre++[x]) (W.setCell ⟨w.heap.size+3,0,none⟩ (.int .i64 1)):=by
    refine ⟨(σ.1,1),so,sl,sc,by rw [hfs,hst],?_⟩
    refine ⟨?_,?_,?_,heap_setCell_same _ (w.heap.size+3) 0 _ _ _ hat.k0,?_,hat.bel.setCell (p:=⟨w.heap.size+3,0,none⟩) (by simp) _,by simpa using hat.sz⟩
    ·exact (Below.heap_setCell _ _ _ _ (by simp)).trans hat.r0
    ·exact (Below.heap_setCell _ _ _ _ (by simp)).trans hat.r1
    ·exact (Below.heap_setCell _ _ _ _ (by simp)).trans hat.l0
    ·exact own_off hat.own (fun k hk=>Below.heap_setCell _ _ _ _ (by have:=(hat.own.lt k hk).1;simp;omega))
   clear hfs hst hf
   gi_wp2
   exact ⟨(KeepsOthers.setCell _ _ _).from _,KeepsWalks.setCell _ _ _,fin⟩
  ·by_cases hsame:σ.2=2
   ·obtain ⟨ls,t,e1,e2⟩:=inv.last (by omega)
    rw [hsame] at k0c
    have hsmt:=inv.small t (by rw [e1];simp)
    have hst:stepG σ x=putG ls t x.2 2:=by unfold stepG;rw [if_neg (by omega),if_neg (by omega),if_neg (by intro h;rcases h with h | h <;> omega),hk];unfold lastG;rw [e1];simp
    have HFS1:Hid (foldG (pre++[x])=putG ls t x.2 2):=by rw [hfs,hst];exact rfl
    have hat1:ScAt w (ls++[t],σ.2) so sl sc W:=by rw [←e1];exact hat
    have htk:t.k=2:=by omega
    have hsm:0≤t.n∧t.n≤65535∧t.wd.size≤300:=⟨hsmt.1,hsmt.2.1,by omega⟩
    obtain ⟨g,c,esl,hgb,hgl⟩:=hat1.own.form (by simp)
    have e3:(ls++[t],σ.2).1.length=ls.length+1:=by simp
    rw [e3] at esl
    cases esl
    rw [hk]
    clear hfs hst hf
    have hfl:ls.length+1≤pre.length:=by have:=inv.few;rw [e1] at this;simpa using this
    clear inv hsmt hat e1 e2 hfew hgb hgl
    gi_wp2_with fail
    obtain ⟨W1,hW1⟩:∃W1,W=W1:=⟨_,rfl⟩
    have ko1:KeepsOthers W W1:=by rw [←hW1];exact KeepsOthers.refl W
    rw [hW1] at hat1 ⊢
    have own1:W1.ownsRow (w.heap.size+5) 116 5 (.slice (some ⟨g,0,none⟩) (ls.length+1) sc) (ls.length+1) (gtsC (ls++[t])):=by simpa using hat1.own
    obtain ⟨tcs,tz0⟩:=own_last own1 rfl
    have tc0:=tcs 0 _ rfl
    have tc1:=tcs 1 _ rfl
    have tc2:=tcs 2 _ rfl
    have tc3:=tcs 3 _ rfl
    have tc4:=tcs 4 _ rfl
    rw [Nat.add_zero] at tc0
    have tz:∀i,W1.frozen? ⟨g,ls.length*5+i,none⟩=false:=fun i=>tz0 _
    have hg5:=(hat1.own.lt g rfl).1
    have hadd:addG t x.2 = { t with wd:=t.wd++⟨#[x.2.toNat.toUInt8]⟩ }:=by unfold addG;rw [if_pos htk]
    have fin:=sc_add (k:=2) (t':=addG t x.2) hat1 (j:=2) (v:=(.string (t.wd++⟨#[x.2.toNat.toUInt8]⟩))) (by omega) (by rw [hadd];rfl)
    have HAD:=hide hadd
    have HFIN:=hide fin
    clear hadd fin tcs own1
    refine ⟨trivial,?_⟩
    refine (CallsIn.inRound l (callsIn_wide.2 (add_word x.2 W1 g (ls.length*5) t.wd hr (by rw [←htk];exact tc0) tc2 (tz 2) (by have:=hsm.2.2;omega)))).mono ?_
    rintro e w2 ⟨rfl,hw2⟩
    obtain ⟨W2,hW2⟩:∃W2,W1.setCell ⟨g,ls.length*5+2,none⟩ (.string (t.wd++⟨#[x.2.toNat.toUInt8]⟩))=W2:=⟨_,rfl⟩
    rw [hW2] at hw2
    have hw3:=hw2.symm
    clear hw2
    subst hw3
    have tn:W2.cell? ⟨g,ls.length*5+3,none⟩=some (.int .i32 (addG t x.2).n):=by
     rw [←hW2,unhide HAD]
     exact (World.cell?_setCell_other _ _ _ _ (by simp)).trans tc3
    have tp:W2.cell? ⟨g,ls.length*5+1,none⟩=some (.int .i64 t.p):=by
     rw [←hW2]
     exact (World.cell?_setCell_other _ _ _ _ (by simp)).trans tc1
    have blk2:∀b,b < w.heap.size+5→W2.heap[b]?=W1.heap[b]?:=fun b hb=>by rw [←hW2];exact Below.heap_setCell _ _ _ _ (by simp;omega)
    have k2:=bkc1 ((blk2 _ (by omega)).trans hat1.k0)
    have r2:=bkc1 ((blk2 _ (by omega)).trans hat1.r0)
    have q2:=bkc2 ((blk2 _ (by omega)).trans hat1.r1)
    have ko2:KeepsOthers W W2:=by rw [←hW2];exact ko1.trans (KeepsOthers.setCell _ _ _)
    rw [hW2] at HFIN
    have hbig:¬ 65535 < (addG t x.2).n:=by rw [unhide HAD];show ¬ 65535 < t.n;omega
    have fin:ScI w (pre++[x]) (W2.setCell ⟨w.heap.size+3,0,none⟩ (.int .i64 2)):=⟨_,_,_,_,by rw [unhide HFS1];unfold putG;rw [if_neg hbig],unhide HFIN⟩
    have hle:(addG t x.2).n≤65535:=by omega
    obtain ⟨nn,hnn⟩:∃nn,(addG t x.2).n=nn:=⟨_,rfl⟩
    rw [hnn] at tn hle
    clear HFS1 HFIN HAD hbig
    gi_wp2
    exact ⟨(ko2.trans (KeepsOthers.setCell _ _ _)).from _,(ko2.trans (KeepsOthers.setCell _ _ _)).walks,fin⟩
   ·have hst:stepG σ x=putG σ.1 (newG 2 x.1) x.2 2:=by unfold stepG;rw [if_neg (by omega),if_neg (by omega),if_pos (.inr (by omega)),hk]
    have HFS1:Hid (foldG (pre++[x])=putG σ.1 (newG 2 x.1) x.2 2):=by rw [hfs,hst];exact rfl
    clear hfs hst hf
    rw [hk]
    obtain ⟨i0,hi0,hz0,hz1,hz2⟩:=info_parts infoTok
    gi_wp2_with (gi_at_builtin;refine wpListIn_append_own _ rfl _ _ 103 rfl (w.heap.size+5) 116 i0 (.agg #[.int .i64 0,.int .i64 0,.string ⟨#[]⟩,.int .i32 0,.int .i32 0]) 5 40 Tryz.underlying103 hi0 hz0 hz1 hz2 rfl (by decide) (.slice so sl sc) σ.1.length (gtsC σ.1) rfl (hat.own.alloc _) ⟨W.heap.size,0,none⟩ 1 1 [.int .i64 2,.int .i64 x.1,.string ⟨#[]⟩,.int .i32 0,.int .i32 0] rfl rfl (World.news_of_block (heap_alloc_new W _)) (by simp [Value.oneCell']) (by unfold maxLen;omega) (by omega) (by simp;omega) ?_;intro v' wn hown hgrow _;obtain ⟨g,c,rfl⟩:=ownsRow_succ hown;have hat1:=sc_new (t:=newG 2 x.1) hat hown hgrow hlW;have cl:wn.heap[w.heap.size+2]?=some (.cells #[.slice so sl sc] 103 (0,0)):=(hgrow.block _ (by simp;omega) (fun e=>by have:=(hat.own.lt _ e.symm).1;omega)).trans ((Below.heap_alloc W _ _ (by omega)).trans hat.l0);have clc:=(bkc1 cl).1;have clz:=(bkc1 cl).2)
    have ko1:KeepsOthers W (wn.setCell ⟨w.heap.size+2,0,none⟩ (.slice (some ⟨g,0,none⟩) (σ.1.length+1) c)):=((KeepsOthers.alloc W _).trans (KeepsOthers.of_grownBy hgrow (own_cells (hat.own.alloc _)))).trans (KeepsOthers.setCell _ _ _)
    obtain ⟨W1,hW1⟩:∃W1,wn.setCell ⟨w.heap.size+2,0,none⟩ (.slice (some ⟨g,0,none⟩) (σ.1.length+1) c)=W1:=⟨_,rfl⟩
    rw [hW1] at hat1 ko1 ⊢
    obtain ⟨t,hte⟩:∃t,newG 2 x.1=t:=⟨_,rfl⟩
    obtain ⟨ls,hls⟩:∃ls,σ.1=ls:=⟨_,rfl⟩
    rw [hte,hls] at hat1 HFS1
    rw [hls]
    have htk:t.k=2:=by rw [←hte];rfl
    have hsm:0≤t.n∧t.n≤65535∧t.wd.size≤300:=by rw [←hte];exact ⟨Int.le_refl _,(by show (0:Int)≤65535;decide),Nat.zero_le _⟩
    clear hown hgrow cl clc clz hte hW1 hls
    have own1:W1.ownsRow (w.heap.size+5) 116 5 (.slice (some ⟨g,0,none⟩) (ls.length+1) c) (ls.length+1) (gtsC (ls++[t])):=by simpa using hat1.own
    obtain ⟨tcs,tz0⟩:=own_last own1 rfl
    have tc0:=tcs 0 _ rfl
    have tc1:=tcs 1 _ rfl
    have tc2:=tcs 2 _ rfl
    have tc3:=tcs 3 _ rfl
    have tc4:=tcs 4 _ rfl
    rw [Nat.add_zero] at tc0
    have tz:∀i,W1.frozen? ⟨g,ls.length*5+i,none⟩=false:=fun i=>tz0 _
    have hg5:=(hat1.own.lt g rfl).1
    have hadd:addG t x.2 = { t with wd:=t.wd++⟨#[x.2.toNat.toUInt8]⟩ }:=by unfold addG;rw [if_pos htk]
    have fin:=sc_add (k:=2) (t':=addG t x.2) hat1 (j:=2) (v:=(.string (t.wd++⟨#[x.2.toNat.toUInt8]⟩))) (by omega) (by rw [hadd];rfl)
    have HAD:=hide hadd
    have HFIN:=hide fin
    clear hadd fin tcs own1
    refine ⟨trivial,?_⟩
    refine (CallsIn.inRound l (callsIn_wide.2 (add_word x.2 W1 g (ls.length*5) t.wd hr (by rw [←htk];exact tc0) tc2 (tz 2) (by have:=hsm.2.2;omega)))).mono ?_
    rintro e w2 ⟨rfl,hw2⟩
    obtain ⟨W2,hW2⟩:∃W2,W1.setCell ⟨g,ls.length*5+2,none⟩ (.string (t.wd++⟨#[x.2.toNat.toUInt8]⟩))=W2:=⟨_,rfl⟩
    rw [hW2] at hw2
    have hw3:=hw2.symm
    clear hw2
    subst hw3
    have tn:W2.cell? ⟨g,ls.length*5+3,none⟩=some (.int .i32 (addG t x.2).n):=by
     rw [←hW2,unhide HAD]
     exact (World.cell?_setCell_other _ _ _ _ (by simp)).trans tc3
    have tp:W2.cell? ⟨g,ls.length*5+1,none⟩=some (.int .i64 t.p):=by
     rw [←hW2]
     exact (World.cell?_setCell_other _ _ _ _ (by simp)).trans tc1
    have blk2:∀b,b < w.heap.size+5→W2.heap[b]?=W1.heap[b]?:=fun b hb=>by rw [←hW2];exact Below.heap_setCell _ _ _ _ (by simp;omega)
    have k2:=bkc1 ((blk2 _ (by omega)).trans hat1.k0)
    have r2:=bkc1 ((blk2 _ (by omega)).trans hat1.r0)
    have q2:=bkc2 ((blk2 _ (by omega)).trans hat1.r1)
    have ko2:KeepsOthers W W2:=by rw [←hW2];exact ko1.trans (KeepsOthers.setCell _ _ _)
    rw [hW2] at HFIN
    have hbig:¬ 65535 < (addG t x.2).n:=by rw [unhide HAD];show ¬ 65535 < t.n;omega
    have fin:ScI w (pre++[x]) (W2.setCell ⟨w.heap.size+3,0,none⟩ (.int .i64 2)):=⟨_,_,_,_,by rw [unhide HFS1];unfold putG;rw [if_neg hbig],unhide HFIN⟩
    have hle:(addG t x.2).n≤65535:=by omega
    obtain ⟨nn,hnn⟩:∃nn,(addG t x.2).n=nn:=⟨_,rfl⟩
    rw [hnn] at tn hle
    clear HFS1 HFIN HAD hbig
    gi_wp2
    exact ⟨(ko2.trans (KeepsOthers.setCell _ _ _)).from _,(ko2.trans (KeepsOthers.setCell _ _ _)).walks,fin⟩
  ·by_cases hsame:σ.2=3
   ·obtain ⟨ls,t,e1,e2⟩:=inv.last (by omega)
    rw [hsame] at k0c
    have hsmt:=inv.small t (by rw [e1];simp)
    have hst:stepG σ x=putG ls t x.2 3:=by unfold stepG;rw [if_neg (by omega),if_neg (by omega),if_neg (by intro h;rcases h with h | h <;> omega),hk];unfold lastG;rw [e1];simp
    have HFS1:Hid (foldG (pre++[x])=putG ls t x.2 3):=by rw [hfs,hst];exact rfl
    have hat1:ScAt w (ls++[t],σ.2) so sl sc W:=by rw [←e1];exact hat
    have htk:t.k=3:=by omega
    have hsm:0≤t.n∧t.n≤65535∧t.wd.size≤300:=⟨hsmt.1,hsmt.2.1,by omega⟩
    obtain ⟨g,c,esl,hgb,hgl⟩:=hat1.own.form (by simp)
    have e3:(ls++[t],σ.2).1.length=ls.length+1:=by simp
    rw [e3] at esl
    cases esl
    rw [hk]
    clear hfs hst hf
    have hfl:ls.length+1≤pre.length:=by have:=inv.few;rw [e1] at this;simpa using this
    clear inv hsmt hat e1 e2 hfew hgb hgl
    gi_wp2_with fail
    obtain ⟨W1,hW1⟩:∃W1,W=W1:=⟨_,rfl⟩
    have ko1:KeepsOthers W W1:=by rw [←hW1];exact KeepsOthers.refl W
    rw [hW1] at hat1 ⊢
    have own1:W1.ownsRow (w.heap.size+5) 116 5 (.slice (some ⟨g,0,none⟩) (ls.length+1) sc) (ls.length+1) (gtsC (ls++[t])):=by simpa using hat1.own
    obtain ⟨tcs,tz0⟩:=own_last own1 rfl
    have tc0:=tcs 0 _ rfl
    have tc1:=tcs 1 _ rfl
    have tc2:=tcs 2 _ rfl
    have tc3:=tcs 3 _ rfl
    have tc4:=tcs 4 _ rfl
    rw [Nat.add_zero] at tc0
    have tz:∀i,W1.frozen? ⟨g,ls.length*5+i,none⟩=false:=fun i=>tz0 _
    have hg5:=(hat1.own.lt g rfl).1
    have hadd:addG t x.2 = { t with n:=10*t.n+x.2-48 }:=by unfold addG;rw [if_neg (by omega),if_pos htk]
    have fin:=sc_add (k:=3) (t':=addG t x.2) hat1 (j:=3) (v:=(.int .i32 (10*t.n+x.2-48))) (by omega) (by rw [hadd];rfl)
    have HAD:=hide hadd
    have HFIN:=hide fin
    clear hadd fin tcs own1
    refine ⟨trivial,?_⟩
    refine (CallsIn.inRound l (callsIn_wide.2 (add_number x.2 t.n W1 g (ls.length*5) hr ⟨hsm.1,hsm.2.1⟩ (by rw [←htk];exact tc0) tc3 (tz 3)))).mono ?_
    rintro e w2 ⟨rfl,hw2⟩
    obtain ⟨W2,hW2⟩:∃W2,W1.setCell ⟨g,ls.length*5+3,none⟩ (.int .i32 (10*t.n+x.2-48))=W2:=⟨_,rfl⟩
    rw [hW2] at hw2
    have hw3:=hw2.symm
    clear hw2
    subst hw3
    have tn:W2.cell? ⟨g,ls.length*5+3,none⟩=some (.int .i32 (addG t x.2).n):=by
     rw [←hW2,unhide HAD]
     exact World.cell?_setCell_same' _ _ _ (by rw [tc3];rfl)
    have tp:W2.cell? ⟨g,ls.length*5+1,none⟩=some (.int .i64 t.p):=by
     rw [←hW2]
     exact (World.cell?_setCell_other _ _ _ _ (by simp)).trans tc1
    have blk2:∀b,b < w.heap.size+5→W2.heap[b]?=W1.heap[b]?:=fun b hb=>by rw [←hW2];exact Below.heap_setCell _ _ _ _ (by simp;omega)
    have k2:=bkc1 ((blk2 _ (by omega)).trans hat1.k0)
    have r2:=bkc1 ((blk2 _ (by omega)).trans hat1.r0)
    have q2:=bkc2 ((blk2 _ (by omega)).trans hat1.r1)
    have ko2:KeepsOthers W W2:=by rw [←hW2];exact ko1.trans (KeepsOthers.setCell _ _ _)
    rw [hW2] at HFIN
    by_cases hbig:65535 < (addG t x.2).n
    ·have ht1:(addG t x.2).p=t.p:=by rw [unhide HAD]
     have fin:∀W9:World,W9=((W2.setCell ⟨w.heap.size,0,none⟩ (.slice none 0 0)).setCell ⟨w.heap.size+1,0,none⟩ (.int .i64 8)).setCell ⟨w.heap.size+1,1,none⟩ (.int .i64 t.p)→ScX w .ret (pre++[x]) W9.drew:=by
      rintro W9 rfl
      refine ⟨rfl,t.p,by rw [unhide HFS1];unfold putG;rw [if_pos hbig,ht1],?_,?_,?_⟩
      ·exact (Below.heap_setCell _ _ _ _ (by simp)).trans ((Below.heap_setCell _ _ _ _ (by simp)).trans (heap_setCell_same _ w.heap.size 0 _ _ _ ((blk2 _ (by omega)).trans hat1.r0)))
      ·exact heap_setCell_same _ (w.heap.size+1) 1 _ _ _ (heap_setCell_same _ (w.heap.size+1) 0 _ _ _ ((Below.heap_setCell _ _ _ _ (by simp)).trans ((blk2 _ (by omega)).trans hat1.r1)))
      ·have b2:Below w.heap.size w W2:=by rw [←hW2];exact hat1.bel.setCell (p:=⟨g,ls.length*5+3,none⟩) (by simp;omega) _
       exact (((b2.setCell (p:=⟨w.heap.size,0,none⟩) (Nat.le_refl _) _).setCell (p:=⟨w.heap.size+1,0,none⟩) (by simp) _).setCell (p:=⟨w.heap.size+1,1,none⟩) (by simp) _).drew
     have hgt:65535 < (addG t x.2).n:=hbig
     obtain ⟨nn,hnn⟩:∃nn,(addG t x.2).n=nn:=⟨_,rfl⟩
     rw [hnn] at tn hgt
     clear HFS1 HFIN HAD hbig
     gi_wp2
     gi_region
     all_goals gi_wp2
     all_goals exact ⟨((((ko2.trans (KeepsOthers.setCell _ _ _)).trans (KeepsOthers.setCell _ _ _)).trans (KeepsOthers.setCell _ _ _)).trans (KeepsOthers.drew _)).from _,fin _ rfl⟩
    ·have fin:ScI w (pre++[x]) (W2.setCell ⟨w.heap.size+3,0,none⟩ (.int .i64 3)):=⟨_,_,_,_,by rw [unhide HFS1];unfold putG;rw [if_neg hbig],unhide HFIN⟩
     have hle:(addG t x.2).n≤65535:=by omega
     obtain ⟨nn,hnn⟩:∃nn,(addG t x.2).n=nn:=⟨_,rfl⟩
     rw [hnn] at tn hle
     clear HFS1 HFIN HAD hbig
     gi_wp2
     exact ⟨(ko2.trans (KeepsOthers.setCell _ _ _)).from _,(ko2.trans (KeepsOthers.setCell _ _ _)).walks,fin⟩
   ·have hst:stepG σ x=putG σ.1 (newG 3 x.1) x.2 3:=by unfold stepG;rw [if_neg (by omega),if_neg (by omega),if_pos (.inr (by omega)),hk]
    have HFS1:Hid (foldG (pre++[x])=putG σ.1 (newG 3 x.1) x.2 3):=by rw [hfs,hst];exact rfl
    clear hfs hst hf
    rw [hk]
    obtain ⟨i0,hi0,hz0,hz1,hz2⟩:=info_parts infoTok
    gi_wp2_with (gi_at_builtin;refine wpListIn_append_own _ rfl _ _ 103 rfl (w.heap.size+5) 116 i0 (.agg #[.int .i64 0,.int .i64 0,.string ⟨#[]⟩,.int .i32 0,.int .i32 0]) 5 40 Tryz.underlying103 hi0 hz0 hz1 hz2 rfl (by decide) (.slice so sl sc) σ.1.length (gtsC σ.1) rfl (hat.own.alloc _) ⟨W.heap.size,0,none⟩ 1 1 [.int .i64 3,.int .i64 x.1,.string ⟨#[]⟩,.int .i32 0,.int .i32 0] rfl rfl (World.news_of_block (heap_alloc_new W _)) (by simp [Value.oneCell']) (by unfold maxLen;omega) (by omega) (by simp;omega) ?_;intro v' wn hown hgrow _;obtain ⟨g,c,rfl⟩:=ownsRow_succ hown;have hat1:=sc_new (t:=newG 3 x.1) hat hown hgrow hlW;have cl:wn.heap[w.heap.size+2]?=some (.cells #[.slice so sl sc] 103 (0,0)):=(hgrow.block _ (by simp;omega) (fun e=>by have:=(hat.own.lt _ e.symm).1;omega)).trans ((Below.heap_alloc W _ _ (by omega)).trans hat.l0);have clc:=(bkc1 cl).1;have clz:=(bkc1 cl).2)
    have ko1:KeepsOthers W (wn.setCell ⟨w.heap.size+2,0,none⟩ (.slice (some ⟨g,0,none⟩) (σ.1.length+1) c)):=((KeepsOthers.alloc W _).trans (KeepsOthers.of_grownBy hgrow (own_cells (hat.own.alloc _)))).trans (KeepsOthers.setCell _ _ _)
    obtain ⟨W1,hW1⟩:∃W1,wn.setCell ⟨w.heap.size+2,0,none⟩ (.slice (some ⟨g,0,none⟩) (σ.1.length+1) c)=W1:=⟨_,rfl⟩
    rw [hW1] at hat1 ko1 ⊢
    obtain ⟨t,hte⟩:∃t,newG 3 x.1=t:=⟨_,rfl⟩
    obtain ⟨ls,hls⟩:∃ls,σ.1=ls:=⟨_,rfl⟩
    rw [hte,hls] at hat1 HFS1
    rw [hls]
    have htk:t.k=3:=by rw [←hte];rfl
    have hsm:0≤t.n∧t.n≤65535∧t.wd.size≤300:=by rw [←hte];exact ⟨Int.le_refl _,(by show (0:Int)≤65535;decide),Nat.zero_le _⟩
    clear hown hgrow cl clc clz hte hW1 hls
    have own1:W1.ownsRow (w.heap.size+5) 116 5 (.slice (some ⟨g,0,none⟩) (ls.length+1) c) (ls.length+1) (gtsC (ls++[t])):=by simpa using hat1.own
    obtain ⟨tcs,tz0⟩:=own_last own1 rfl
    have tc0:=tcs 0 _ rfl
    have tc1:=tcs 1 _ rfl
    have tc2:=tcs 2 _ rfl
    have tc3:=tcs 3 _ rfl
    have tc4:=tcs 4 _ rfl
    rw [Nat.add_zero] at tc0
    have tz:∀i,W1.frozen? ⟨g,ls.length*5+i,none⟩=false:=fun i=>tz0 _
    have hg5:=(hat1.own.lt g rfl).1
    have hadd:addG t x.2 = { t with n:=10*t.n+x.2-48 }:=by unfold addG;rw [if_neg (by omega),if_pos htk]
    have fin:=sc_add (k:=3) (t':=addG t x.2) hat1 (j:=3) (v:=(.int .i32 (10*t.n+x.2-48))) (by omega) (by rw [hadd];rfl)
    have HAD:=hide hadd
    have HFIN:=hide fin
    clear hadd fin tcs own1
    refine ⟨trivial,?_⟩
    refine (CallsIn.inRound l (callsIn_wide.2 (add_number x.2 t.n W1 g (ls.length*5) hr ⟨hsm.1,hsm.2.1⟩ (by rw [←htk];exact tc0) tc3 (tz 3)))).mono ?_
    rintro e w2 ⟨rfl,hw2⟩
    obtain ⟨W2,hW2⟩:∃W2,W1.setCell ⟨g,ls.length*5+3,none⟩ (.int .i32 (10*t.n+x.2-48))=W2:=⟨_,rfl⟩
    rw [hW2] at hw2
    have hw3:=hw2.symm
    clear hw2
    subst hw3
    have tn:W2.cell? ⟨g,ls.length*5+3,none⟩=some (.int .i32 (addG t x.2).n):=by
     rw [←hW2,unhide HAD]
     exact World.cell?_setCell_same' _ _ _ (by rw [tc3];rfl)
    have tp:W2.cell? ⟨g,ls.length*5+1,none⟩=some (.int .i64 t.p):=by
     rw [←hW2]
     exact (World.cell?_setCell_other _ _ _ _ (by simp)).trans tc1
    have blk2:∀b,b < w.heap.size+5→W2.heap[b]?=W1.heap[b]?:=fun b hb=>by rw [←hW2];exact Below.heap_setCell _ _ _ _ (by simp;omega)
    have k2:=bkc1 ((blk2 _ (by omega)).trans hat1.k0)
    have r2:=bkc1 ((blk2 _ (by omega)).trans hat1.r0)
    have q2:=bkc2 ((blk2 _ (by omega)).trans hat1.r1)
    have ko2:KeepsOthers W W2:=by rw [←hW2];exact ko1.trans (KeepsOthers.setCell _ _ _)
    rw [hW2] at HFIN
    by_cases hbig:65535 < (addG t x.2).n
    ·have ht1:(addG t x.2).p=t.p:=by rw [unhide HAD]
     have fin:∀W9:World,W9=((W2.setCell ⟨w.heap.size,0,none⟩ (.slice none 0 0)).setCell ⟨w.heap.size+1,0,none⟩ (.int .i64 8)).setCell ⟨w.heap.size+1,1,none⟩ (.int .i64 t.p)→ScX w .ret (pre++[x]) W9.drew:=by
      rintro W9 rfl
      refine ⟨rfl,t.p,by rw [unhide HFS1];unfold putG;rw [if_pos hbig,ht1],?_,?_,?_⟩
      ·exact (Below.heap_setCell _ _ _ _ (by simp)).trans ((Below.heap_setCell _ _ _ _ (by simp)).trans (heap_setCell_same _ w.heap.size 0 _ _ _ ((blk2 _ (by omega)).trans hat1.r0)))
      ·exact heap_setCell_same _ (w.heap.size+1) 1 _ _ _ (heap_setCell_same _ (w.heap.size+1) 0 _ _ _ ((Below.heap_setCell _ _ _ _ (by simp)).trans ((blk2 _ (by omega)).trans hat1.r1)))
      ·have b2:Below w.heap.size w W2:=by rw [←hW2];exact hat1.bel.setCell (p:=⟨g,ls.length*5+3,none⟩) (by simp;omega) _
       exact (((b2.setCell (p:=⟨w.heap.size,0,none⟩) (Nat.le_refl _) _).setCell (p:=⟨w.heap.size+1,0,none⟩) (by simp) _).setCell (p:=⟨w.heap.size+1,1,none⟩) (by simp) _).drew
     have hgt:65535 < (addG t x.2).n:=hbig
     obtain ⟨nn,hnn⟩:∃nn,(addG t x.2).n=nn:=⟨_,rfl⟩
     rw [hnn] at tn hgt
     clear HFS1 HFIN HAD hbig
     gi_wp2
     gi_region
     all_goals gi_wp2
     all_goals exact ⟨((((ko2.trans (KeepsOthers.setCell _ _ _)).trans (KeepsOthers.setCell _ _ _)).trans (KeepsOthers.setCell _ _ _)).trans (KeepsOthers.drew _)).from _,fin _ rfl⟩
    ·have fin:ScI w (pre++[x]) (W2.setCell ⟨w.heap.size+3,0,none⟩ (.int .i64 3)):=⟨_,_,_,_,by rw [unhide HFS1];unfold putG;rw [if_neg hbig],unhide HFIN⟩
     have hle:(addG t x.2).n≤65535:=by omega
     obtain ⟨nn,hnn⟩:∃nn,(addG t x.2).n=nn:=⟨_,rfl⟩
     rw [hnn] at tn hle
     clear HFS1 HFIN HAD hbig
     gi_wp2
     exact ⟨(ko2.trans (KeepsOthers.setCell _ _ _)).from _,(ko2.trans (KeepsOthers.setCell _ _ _)).walks,fin⟩
  ·have hst:stepG σ x=putG σ.1 (newG 4 x.1) x.2 4:=by unfold stepG;rw [if_neg (by omega),if_neg (by omega),if_pos (.inl hk),hk]
   have HFS1:Hid (foldG (pre++[x])=putG σ.1 (newG 4 x.1) x.2 4):=by rw [hfs,hst];exact rfl
   clear hfs hst hf
   rw [hk]
   obtain ⟨i0,hi0,hz0,hz1,hz2⟩:=info_parts infoTok
   gi_wp2_with (gi_at_builtin;refine wpListIn_append_own _ rfl _ _ 103 rfl (w.heap.size+5) 116 i0 (.agg #[.int .i64 0,.int .i64 0,.string ⟨#[]⟩,.int .i32 0,.int .i32 0]) 5 40 Tryz.underlying103 hi0 hz0 hz1 hz2 rfl (by decide) (.slice so sl sc) σ.1.length (gtsC σ.1) rfl (hat.own.alloc _) ⟨W.heap.size,0,none⟩ 1 1 [.int .i64 4,.int .i64 x.1,.string ⟨#[]⟩,.int .i32 0,.int .i32 0] rfl rfl (World.news_of_block (heap_alloc_new W _)) (by simp [Value.oneCell']) (by unfold maxLen;omega) (by omega) (by simp;omega) ?_;intro v' wn hown hgrow _;obtain ⟨g,c,rfl⟩:=ownsRow_succ hown;have hat1:=sc_new (t:=newG 4 x.1) hat hown hgrow hlW;have cl:wn.heap[w.heap.size+2]?=some (.cells #[.slice so sl sc] 103 (0,0)):=(hgrow.block _ (by simp;omega) (fun e=>by have:=(hat.own.lt _ e.symm).1;omega)).trans ((Below.heap_alloc W _ _ (by omega)).trans hat.l0);have clc:=(bkc1 cl).1;have clz:=(bkc1 cl).2)
   have ko1:KeepsOthers W (wn.setCell ⟨w.heap.size+2,0,none⟩ (.slice (some ⟨g,0,none⟩) (σ.1.length+1) c)):=((KeepsOthers.alloc W _).trans (KeepsOthers.of_grownBy hgrow (own_cells (hat.own.alloc _)))).trans (KeepsOthers.setCell _ _ _)
   obtain ⟨W1,hW1⟩:∃W1,wn.setCell ⟨w.heap.size+2,0,none⟩ (.slice (some ⟨g,0,none⟩) (σ.1.length+1) c)=W1:=⟨_,rfl⟩
   rw [hW1] at hat1 ko1 ⊢
   obtain ⟨t,hte⟩:∃t,newG 4 x.1=t:=⟨_,rfl⟩
   obtain ⟨ls,hls⟩:∃ls,σ.1=ls:=⟨_,rfl⟩
   rw [hte,hls] at hat1 HFS1
   rw [hls]
   have htk:t.k=4:=by rw [←hte];rfl
   have hsm:0≤t.n∧t.n≤65535∧t.wd.size≤300:=by rw [←hte];exact ⟨Int.le_refl _,(by show (0:Int)≤65535;decide),Nat.zero_le _⟩
   clear hown hgrow cl clc clz hte hW1 hls
   have own1:W1.ownsRow (w.heap.size+5) 116 5 (.slice (some ⟨g,0,none⟩) (ls.length+1) c) (ls.length+1) (gtsC (ls++[t])):=by simpa using hat1.own
   obtain ⟨tcs,tz0⟩:=own_last own1 rfl
   have tc0:=tcs 0 _ rfl
   have tc1:=tcs 1 _ rfl
   have tc2:=tcs 2 _ rfl
   have tc3:=tcs 3 _ rfl
   have tc4:=tcs 4 _ rfl
   rw [Nat.add_zero] at tc0
   have tz:∀i,W1.frozen? ⟨g,ls.length*5+i,none⟩=false:=fun i=>tz0 _
   have hg5:=(hat1.own.lt g rfl).1
   have hadd:addG t x.2 = { t with s:=x.2 }:=by unfold addG;rw [if_neg (by omega),if_neg (by omega)]
   have fin:=sc_add (k:=4) (t':=addG t x.2) hat1 (j:=4) (v:=(.int .i32 x.2)) (by omega) (by rw [hadd];rfl)
   have HAD:=hide hadd
   have HFIN:=hide fin
   clear hadd fin tcs own1
   refine ⟨trivial,?_⟩
   refine (CallsIn.inRound l (callsIn_wide.2 (add_sign x.2 t.s W1 g (ls.length*5) (by rw [←htk];exact tc0) tc4 (tz 4)))).mono ?_
   rintro e w2 ⟨rfl,hw2⟩
   obtain ⟨W2,hW2⟩:∃W2,W1.setCell ⟨g,ls.length*5+4,none⟩ (.int .i32 x.2)=W2:=⟨_,rfl⟩
   rw [hW2] at hw2
   have hw3:=hw2.symm
   clear hw2
   subst hw3
   have tn:W2.cell? ⟨g,ls.length*5+3,none⟩=some (.int .i32 (addG t x.2).n):=by
    rw [←hW2,unhide HAD]
    exact (World.cell?_setCell_other _ _ _ _ (by simp)).trans tc3
   have tp:W2.cell? ⟨g,ls.length*5+1,none⟩=some (.int .i64 t.p):=by
    rw [←hW2]
    exact (World.cell?_setCell_other _ _ _ _ (by simp)).trans tc1
   have blk2:∀b,b < w.heap.size+5→W2.heap[b]?=W1.heap[b]?:=fun b hb=>by rw [←hW2];exact Below.heap_setCell _ _ _ _ (by simp;omega)
   have k2:=bkc1 ((blk2 _ (by omega)).trans hat1.k0)
   have r2:=bkc1 ((blk2 _ (by omega)).trans hat1.r0)
   have q2:=bkc2 ((blk2 _ (by omega)).trans hat1.r1)
   have ko2:KeepsOthers W W2:=by rw [←hW2];exact ko1.trans (KeepsOthers.setCell _ _ _)
   rw [hW2] at HFIN
   have hbig:¬ 65535 < (addG t x.2).n:=by rw [unhide HAD];show ¬ 65535 < t.n;omega
   have fin:ScI w (pre++[x]) (W2.setCell ⟨w.heap.size+3,0,none⟩ (.int .i64 4)):=⟨_,_,_,_,by rw [unhide HFS1];unfold putG;rw [if_neg hbig],unhide HFIN⟩
   have hle:(addG t x.2).n≤65535:=by omega
   obtain ⟨nn,hnn⟩:∃nn,(addG t x.2).n=nn:=⟨_,rfl⟩
   rw [hnn] at tn hle
   clear HFS1 HFIN HAD hbig
   gi_wp2
   exact ⟨(ko2.trans (KeepsOthers.setCell _ _ _)).from _,(ko2.trans (KeepsOthers.setCell _ _ _)).walks,fin⟩
end Go.Proofs.YthmmgiaobakilaaGreat
