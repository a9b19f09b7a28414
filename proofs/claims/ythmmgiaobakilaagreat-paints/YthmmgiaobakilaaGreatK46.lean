import Derived.Test.YthmmgiaobakilaaGreatK01
import Derived.Test.YthmmgiaobakilaaGreatK17
import Derived.Test.YthmmgiaobakilaaGreatK18
import Derived.Test.YthmmgiaobakilaaGreatK38
import Derived.Test.YthmmgiaobakilaaGreatK45
set_option maxRecDepth 100000
namespace Go.Proofs.YthmmgiaobakilaaGreat
open Go.RowKit Go.Shelf
attribute [local go_sem] Oper.semAt_some
def emptyR:Value:=.agg #[.slice none 0 0,.slice none 0 0,.int .i64 0,.int .i64 0,.slice none 0 0]
def scV (sw sh:Int) (so sd:Option Addr) (c1 c2:Nat) (xs ys:List Int) (src:ByteArray):Value:=.agg #[.int .i64 sw,.int .i64 sh,.slice so xs.length c1,.slice sd ys.length c2,.string src]
structure Four (w:World) (sw sh:Int) (so sd:Option Addr) (c1 c2:Nat) (xs ys:List Int) (src:ByteArray) (W:World):Prop where
 b0:W.heap[w.heap.size]?=some (.cells #[.int .i64 sw,.int .i64 sh,.slice so xs.length c1,.slice sd ys.length c2,.string src] 24 (0,0))
 b1:W.heap[w.heap.size+1]?=some (.cells #[.slice none 0 0,.slice none 0 0,.int .i64 0,.int .i64 0,.slice none 0 0] 36 (0,0))
 b2:W.heap[w.heap.size+1+1]?=some (.cells #[.int .i64 0] 37 (0,0))
 b3:W.heap[w.heap.size+1+1+1]?=some (.cells #[.int .i64 0] 3 (0,0))
 bel:Below w.heap.size w W
 sz:w.heap.size+4≤W.heap.size
theorem Four.later {w:World} {sw sh:Int} {so sd:Option Addr} {c1 c2:Nat} {xs ys:List Int} {src:ByteArray} {W W':World} (h:Four w sw sh so sd c1 c2 xs ys src W) (hb:Below W.heap.size W W'):Four w sw sh so sd c1 c2 xs ys src W':=by
 have z:=h.sz
 exact ⟨(hb.block _ (by omega)).trans h.b0,(hb.block _ (by omega)).trans h.b1,(hb.block _ (by omega)).trans h.b2,(hb.block _ (by omega)).trans h.b3,h.bel.trans (hb.mono (by omega)),by have:=hb.size;omega⟩
theorem four_new (w:World) (sw sh:Int) (so sd:Option Addr) (c1 c2:Nat) (xs ys:List Int) (src:ByteArray):Four w sw sh so sd c1 c2 xs ys src ((((w.alloc (.cells #[.int .i64 sw,.int .i64 sh,.slice so xs.length c1,.slice sd ys.length c2,.string src] 24)).alloc (.cells #[.slice none 0 0,.slice none 0 0,.int .i64 0,.int .i64 0,.slice none 0 0] 36)).alloc (.cells #[.int .i64 0] 37)).alloc (.cells #[.int .i64 0] 3)):=by
 have b1:∀(W:World) (o:Obj) (k:Nat),k < W.heap.size→(W.alloc o).heap[k]?=W.heap[k]?:=fun W o k hk=>Below.heap_alloc W o k hk
 refine ⟨?_,?_,?_,?_,?_,by simp⟩
 ·rw [b1 _ _ _ (by simp;try omega),b1 _ _ _ (by simp;try omega),b1 _ _ _ (by simp)];exact heap_alloc_new w _
 ·rw [b1 _ _ _ (by simp;try omega),b1 _ _ _ (by simp)];exact (by simpa using heap_alloc_new (w.alloc _) (.cells #[.slice none 0 0,.slice none 0 0,.int .i64 0,.int .i64 0,.slice none 0 0] 36))
 ·rw [b1 _ _ _ (by simp)];exact (by simpa using heap_alloc_new ((w.alloc _).alloc _) (.cells #[.int .i64 0] 37))
 ·exact (by simpa using heap_alloc_new (((w.alloc _).alloc _).alloc _) (.cells #[.int .i64 0] 3))
 ·exact (((((Below.refl _ w).alloc (Nat.le_refl _) _).alloc (by simp) _).alloc (by simp;try omega) _).alloc (by simp;try omega) _)
theorem set5 {W:World} {b:Nat} {t:TypeId} {c0 c1 c2 c3 c4:Value} (h:W.heap[b]?=some (.cells #[c0,c1,c2,c3,c4] t (0,0))) (v0 v1 v2 v3 v4:Value):(((((W.setCell ⟨b,0,none⟩ v0).setCell ⟨b,1,none⟩ v1).setCell ⟨b,2,none⟩ v2).setCell ⟨b,3,none⟩ v3).setCell ⟨b,4,none⟩ v4).heap[b]?=some (.cells #[v0,v1,v2,v3,v4] t (0,0)):=
 heap_setCell_same _ b 4 _ _ _ (heap_setCell_same _ b 3 _ _ _ (heap_setCell_same _ b 2 _ _ _ (heap_setCell_same _ b 1 _ _ _ (heap_setCell_same _ b 0 _ _ _ h))))
def outW (w W:World) (v0 v1 v2 v3 v4 e p:Value):World:=((((((W.setCell ⟨w.heap.size+1,0,none⟩ v0).setCell ⟨w.heap.size+1,1,none⟩ v1).setCell ⟨w.heap.size+1,2,none⟩ v2).setCell ⟨w.heap.size+1,3,none⟩ v3).setCell ⟨w.heap.size+1,4,none⟩ v4).setCell ⟨w.heap.size+1+1,0,none⟩ e).setCell ⟨w.heap.size+1+1+1,0,none⟩ p
structure OutAt (w:World) (v0 v1 v2 v3 v4 e p:Value) (W:World):Prop where
 b1:W.heap[w.heap.size+1]?=some (.cells #[v0,v1,v2,v3,v4] 36 (0,0))
 b2:W.heap[w.heap.size+1+1]?=some (.cells #[e] 37 (0,0))
 b3:W.heap[w.heap.size+1+1+1]?=some (.cells #[p] 3 (0,0))
 bel:Below w.heap.size w W
theorem Four.out {w:World} {sw sh:Int} {so sd:Option Addr} {c1 c2:Nat} {xs ys:List Int} {src:ByteArray} {W:World} (h:Four w sw sh so sd c1 c2 xs ys src W) (v0 v1 v2 v3 v4 e p:Value):OutAt w v0 v1 v2 v3 v4 e p (outW w W v0 v1 v2 v3 v4 e p):=by
 unfold outW
 refine ⟨?_,?_,?_,?_⟩
 ·exact (Below.heap_setCell _ _ _ _ (by simp)).trans ((Below.heap_setCell _ _ _ _ (by simp)).trans (set5 h.b1 _ _ _ _ _))
 ·refine (Below.heap_setCell _ _ _ _ (by simp)).trans (heap_setCell_same _ (w.heap.size+1+1) 0 #[.int .i64 0] 37 e ?_)
  exact ((((((Below.heap_setCell _ _ _ _ (by simp)).trans (Below.heap_setCell _ _ _ _ (by simp))).trans (Below.heap_setCell _ _ _ _ (by simp))).trans (Below.heap_setCell _ _ _ _ (by simp))).trans (Below.heap_setCell _ _ _ _ (by simp))).trans h.b2)
 ·refine heap_setCell_same _ (w.heap.size+1+1+1) 0 #[.int .i64 0] 3 p ?_
  exact (((((((Below.heap_setCell _ _ _ _ (by simp;try omega)).trans (Below.heap_setCell _ _ _ _ (by simp;try omega))).trans (Below.heap_setCell _ _ _ _ (by simp;try omega))).trans (Below.heap_setCell _ _ _ _ (by simp;try omega))).trans (Below.heap_setCell _ _ _ _ (by simp;try omega))).trans (Below.heap_setCell _ _ _ _ (by simp;try omega))).trans h.b3)
 ·exact ((((((h.bel.setCell (p:=⟨w.heap.size+1,0,none⟩) (by simp) _).setCell (p:=⟨w.heap.size+1,1,none⟩) (by simp) _).setCell (p:=⟨w.heap.size+1,2,none⟩) (by simp) _).setCell (p:=⟨w.heap.size+1,3,none⟩) (by simp) _).setCell (p:=⟨w.heap.size+1,4,none⟩) (by simp) _).setCell (p:=⟨w.heap.size+1+1,0,none⟩) (by simp;omega) _).setCell (p:=⟨w.heap.size+1+1+1,0,none⟩) (by simp;omega) _
set_option maxHeartbeats 4000000 in
theorem scene_shape (w:World) (sw sh:Int) (so sd:Option Addr) (c1 c2:Nat) (xs ys:List Int) (src:ByteArray) (hx:IntsAt w.heap.size w so xs) (hy:IntsAt w.heap.size w sd ys) (hlx:xs.length≤maxLen) (hly:ys.length≤maxLen) (hE:shapeE sw sh xs ys≠0) :
  Calls Tryz.prog 21 #[scV sw sh so sd c1 c2 xs ys src] w fun e w'=>Below w.heap.size w w'∧e = .returned (.tuple #[emptyR,.int .i64 (shapeE sw sh xs ys),.int .i64 0]):=by
 have f0:=four_new w sw sh so sd c1 c2 xs ys src
 obtain ⟨W,hW⟩:∃W,(((w.alloc (.cells #[.int .i64 sw,.int .i64 sh,.slice so xs.length c1,.slice sd ys.length c2,.string src] 24)).alloc (.cells #[.slice none 0 0,.slice none 0 0,.int .i64 0,.int .i64 0,.slice none 0 0] 36)).alloc (.cells #[.int .i64 0] 37)).alloc (.cells #[.int .i64 0] 3)=W:=⟨_,rfl⟩
 rw [hW] at f0
 unfold scV
 refine (callsIn_wide (n:=8)).1 ?_
 refine callsIn_of_wp_marks Tryz.func21 rfl trivial ?_ rfl
 simp only [Tryz.ntmps21,List.size_toArray,List.length_cons,List.length_nil,Nat.reduceAdd,Nat.reduceSub,Array.replicate_succ,Array.replicate_zero,List.push_toArray,List.append_toArray,List.nil_append,List.cons_append]
 obtain ⟨x0,x1,x2,x3,x4⟩:=(bk5 f0.b0).1
 have bw:=f0.bel
 have zw:=f0.sz
 have SHP:=hide (shape_any sw sh so sd c1 c2 xs ys src W w.heap.size (by omega) (hx.later bw (Nat.le_refl _)) (hy.later bw (Nat.le_refl _)) hlx hly)
 have FL:Hid (∀W',Below W.heap.size W W'→Four w sw sh so sd c1 c2 xs ys src W'):=fun W' hb=>f0.later hb
 have hE':(shapeE sw sh xs ys != 0)=true:=by simp [hE]
 obtain ⟨ee,hee⟩:∃ee,shapeE sw sh xs ys=ee:=⟨_,rfl⟩
 rw [hee] at hE' SHP ⊢
 clear f0 bw hE hee hx hy
 gi_wp2_with fail
 clear hW x0 x1 x2 x3 x4 zw
 refine ⟨trivial,?_⟩
 refine (callsIn_wide.2 (unhide SHP)).mono ?_
 rintro e W1 ⟨rfl,hb1⟩
 have f1:=unhide FL W1 hb1
 obtain ⟨⟨y0,y1,y2,y3,y4⟩,yz⟩:=bk5 f1.b1
 have q2:=bkc1 f1.b2
 have q3:=bkc1 f1.b3
 have hz1:=f1.sz
 have OO:=hide (f1.out (.slice none 0 0) (.slice none 0 0) (.int .i64 0) (.int .i64 0) (.slice none 0 0) (.int .i64 ee) (.int .i64 0))
 unfold outW at OO
 clear FL SHP hb1 f1
 gi_wp2
 obtain ⟨o1,o2,o3,ob⟩:=unhide OO
 obtain ⟨z0,z1,z2,z3,z4⟩:=(bk5 o1).1
 obtain ⟨z5,_⟩:=bkc1 o2
 obtain ⟨z6,_⟩:=bkc1 o3
 exact ⟨.tuple #[emptyR,.int .i64 ee,.int .i64 0],by simp [results,Tryz.results21,go_sem,emptyR,z0,z1,z2,z3,z4,z5,z6],ob,rfl⟩
theorem shape_ok {sw sh:Int} {xs ys:List Int} (h:shapeE sw sh xs ys=0):(1≤sw∧sw≤6)∧(1≤sh∧sh≤6)∧(xs.length:Int)=sw*sh∧(ys.length:Int)=sw*sh:=by
 unfold shapeE at h
 split at h
 ·rename_i hs
  split at h
  ·rename_i ht
   simp only [sideB,texelsB,Bool.and_eq_true,decide_eq_true_eq] at hs ht
   exact ⟨hs.1,hs.2,ht.1.1,ht.2.1⟩
  ·cases h
 ·cases h
set_option maxHeartbeats 4000000 in
theorem scene_read (w:World) (sw sh:Int) (so sd:Option Addr) (c1 c2:Nat) (xs ys:List Int) (src:ByteArray) (hx:IntsAt w.heap.size w so xs) (hy:IntsAt w.heap.size w sd ys) (hlx:xs.length≤maxLen) (hly:ys.length≤maxLen) (hE:shapeE sw sh xs ys=0) (hsrc:src.size≤maxLen) (hR:(readF src).1≠0) :
  Calls Tryz.prog 21 #[scV sw sh so sd c1 c2 xs ys src] w fun e w'=>Below w.heap.size w w'∧e = .returned (.tuple #[emptyR,.int .i64 (readF src).1,.int .i64 (readF src).2]):=by
 have f0:=four_new w sw sh so sd c1 c2 xs ys src
 obtain ⟨W,hW⟩:∃W,(((w.alloc (.cells #[.int .i64 sw,.int .i64 sh,.slice so xs.length c1,.slice sd ys.length c2,.string src] 24)).alloc (.cells #[.slice none 0 0,.slice none 0 0,.int .i64 0,.int .i64 0,.slice none 0 0] 36)).alloc (.cells #[.int .i64 0] 37)).alloc (.cells #[.int .i64 0] 3)=W:=⟨_,rfl⟩
 rw [hW] at f0
 unfold scV
 refine (callsIn_wide (n:=8)).1 ?_
 refine callsIn_of_wp_marks Tryz.func21 rfl trivial ?_ rfl
 simp only [Tryz.ntmps21,List.size_toArray,List.length_cons,List.length_nil,Nat.reduceAdd,Nat.reduceSub,Array.replicate_succ,Array.replicate_zero,List.push_toArray,List.append_toArray,List.nil_append,List.cons_append]
 obtain ⟨x0,x1,x2,x3,x4⟩:=(bk5 f0.b0).1
 have bw:=f0.bel
 have zw:=f0.sz
 have SHP:=hide (shape_any sw sh so sd c1 c2 xs ys src W w.heap.size (by omega) (hx.later bw (Nat.le_refl _)) (hy.later bw (Nat.le_refl _)) hlx hly)
 have FL:Hid (∀W',Below W.heap.size W W'→Four w sw sh so sd c1 c2 xs ys src W'):=fun W' hb=>f0.later hb
 have FL2:Hid (∀W' W'',Four w sw sh so sd c1 c2 xs ys src W'→Below W'.heap.size W' W''→Four w sw sh so sd c1 c2 xs ys src W''):=fun W' W'' f hb=>f.later hb
 rw [hE] at SHP
 have RD:=hide (fun W=>read_any' src hsrc W)
 obtain ⟨r1,hr1⟩:∃r1,(readF src).1=r1:=⟨_,rfl⟩
 obtain ⟨r2,hr2⟩:∃r2,(readF src).2=r2:=⟨_,rfl⟩
 rw [hr1,hr2] at RD ⊢
 rw [hr1] at hR
 have hR':(r1 != 0)=true:=by simp [hR]
 clear f0 bw hE hx hy hr1 hr2 hR hlx hly hsrc
 gi_wp2_with fail
 clear hW x0 x1 x2 x3 x4 zw
 refine ⟨trivial,?_⟩
 refine (callsIn_wide.2 (unhide SHP)).mono ?_
 rintro e W1 ⟨rfl,hb1⟩
 have f1:=unhide FL W1 hb1
 obtain ⟨x0,x1,x2,x3,x4⟩:=(bk5 f1.b0).1
 have F1:=hide f1
 clear FL SHP hb1 f1
 gi_wp2_with fail
 refine ⟨trivial,?_⟩
 refine (callsIn_wide.2 (unhide RD W1)).mono ?_
 rintro e W2 ⟨hb2,no,nl,nc,bo,bl,bc,rfl,-⟩
 have f2:=unhide FL2 W1 W2 (unhide F1) hb2
 have f3:=f2.later ((Below.refl _ W2).alloc (Nat.le_refl _) (.cells #[.slice no nl nc,.slice bo bl bc] 68))
 obtain ⟨W3,hW3⟩:∃W3,W2.alloc (.cells #[.slice no nl nc,.slice bo bl bc] 68)=W3:=⟨_,rfl⟩
 rw [hW3] at f3
 obtain ⟨⟨y0,y1,y2,y3,y4⟩,yz⟩:=bk5 f3.b1
 have q2:=bkc1 f3.b2
 have q3:=bkc1 f3.b3
 have hz1:=f3.sz
 have OO:=hide (f3.out (.slice none 0 0) (.slice none 0 0) (.int .i64 0) (.int .i64 0) (.slice none 0 0) (.int .i64 r1) (.int .i64 r2))
 unfold outW at OO
 clear FL2 RD hb2 f2 f3 F1 x0 x1 x2 x3 x4
 gi_wp2
 obtain ⟨o1,o2,o3,ob⟩:=unhide OO
 obtain ⟨z0,z1,z2,z3,z4⟩:=(bk5 o1).1
 obtain ⟨z5,_⟩:=bkc1 o2
 obtain ⟨z6,_⟩:=bkc1 o3
 exact ⟨.tuple #[emptyR,.int .i64 r1,.int .i64 r2],by simp [results,Tryz.results21,go_sem,emptyR,z0,z1,z2,z3,z4,z5,z6],ob,rfl⟩
def ptOne (D:PD) (t:Sx) (S:PSt) (x:Int×Int):PSt:=stP D t (beginP S x.1 x.2)
def goP (D:PD) (t:Sx):List (Int×Int)→PSt→Option PSt
 | [],S=>some S
 | x::l,S=>if 20000 < (ptOne D t S x).steps then none else goP D t l (ptOne D t S x)
theorem goP_snoc (D:PD) (t:Sx):∀(l:List (Int×Int)) (x:Int×Int) (S T:PSt),goP D t l S=some T→goP D t (l++[x]) S=if 20000 < (ptOne D t T x).steps then none else some (ptOne D t T x)
 | [],x,S,T,h=>by cases h;rfl
 | y::l,x,S,T,h=>by
  show (if 20000 < (ptOne D t S y).steps then none else goP D t (l++[x]) (ptOne D t S y))=_
  rw [goP] at h
  split at h
  ·cases h
  ·rename_i hn
   rw [if_neg hn]
   exact goP_snoc D t l x _ T h
theorem goP_err (D:PD) (t:Sx):∀(l s:List (Int×Int)) (S:PSt),goP D t l S=none→goP D t (l++s) S=none
 | [],s,S,h=>by cases h
 | y::l,s,S,h=>by
  show (if 20000 < (ptOne D t S y).steps then none else goP D t (l++s) (ptOne D t S y))=_
  rw [goP] at h
  split at h
  ·rename_i hn;rw [if_pos hn]
  ·rename_i hn;rw [if_neg hn];exact goP_err D t l s _ h
structure PIn (w:World) (pw ph:Nat) (so sd:Option Addr) (c1 c2:Nat) (xs ys:List Int) (src:ByteArray) (D:PD) (t:Sx) (Q:Nat→Prop) (T6 T9 Bw:Nat) (no bo:Option Addr) (nl nc bl bc:Nat) (S:PSt) (n:Nat) (rv:Value) (W:World):Prop where
 f:Four w pw ph so sd c1 c2 xs ys src W
 t6:W.heap[T6]?=some (.cells #[.slice no nl nc,.slice bo bl bc] 68 (0,0))
 t9:W.heap[T9]?=some (.cells #[.pointer (some ⟨D.pb,0,none⟩)] 71 (0,0))
 bw:W.heap[Bw]?=some (.cells #[.int .i64 pw] 3 (0,0))
 pt:PtAt W D S n rv
 aw:rv.ownBlock≠some T9∧rv.ownBlock≠some Bw
 rep:RepL W Q (.slice bo bl bc) t
 ok:POk D S
 st:S.steps≤20000
structure PFix (w:World) (D:PD) (Q:Nat→Prop) (T6 T9 Bw B:Nat):Prop where
 q:∀k,Q k→k < D.B
 ds:w.heap.size+4≤D.B
 d6:T6 < D.B
 o9:¬ D.own T9∧T9 < B
 ow:¬ D.own Bw∧Bw < B
 mb:D.mb < B
 bb:D.B≤B
section
variable {w:World} {pw ph:Nat} {so sd:Option Addr} {c1 c2:Nat} {xs ys:List Int} {src:ByteArray} {D:PD} {t:Sx} {Q:Nat→Prop} {T6 T9 Bw B:Nat} {no bo:Option Addr} {nl nc bl bc:Nat} {S:PSt} {n:Nat} {rv:Value} {W:World}
theorem PtAt.grown {W':World} {row:Option Nat} (h:PtAt W D S n rv) (hm:D.mb < B) (hb:D.B≤B) (hg:W.grownBy W' row) (hr:∀r,row=some r→B≤r∧∃o:Obj,W.heap[r]?=some o∧o.isCells=false):PtAt W' D S n rv:=by
 have hr':=fun r e=>(hr r e).2
 have low:∀k,k < B→k < W.heap.size→W'.heap[k]?=W.heap[k]?:=fun k hk hl=>hg.block k hl (fun e=>by have:=(hr k e.symm).1;omega)
 have hB:=h.base _ (.inl rfl)
 have hp:=h.ltP
 refine ⟨cells_grown hg hr' h.blk,h.map.later (low _ hm h.ltM),cells_grown hg hr' h.rowO,cells_grown hg hr' h.rowH,own_grown hg hr' h.rowR,h.ne,h.base,h.away,?_,?_⟩
 ·exact h.tex1.sameP (fun k hk=>low k (by omega) (by omega))
 ·exact h.tex2.sameP (fun k hk=>low k (by omega) (by omega))
theorem PIn.grown {W':World} {row:Option Nat} (h:PIn w pw ph so sd c1 c2 xs ys src D t Q T6 T9 Bw no bo nl nc bl bc S n rv W) (x:PFix w D Q T6 T9 Bw B) (hg:W.grownBy W' row) (hr:∀r,row=some r→B≤r∧∃o:Obj,W.heap[r]?=some o∧o.isCells=false):PIn w pw ph so sd c1 c2 xs ys src D t Q T6 T9 Bw no bo nl nc bl bc S n rv W':=by
 have hr':=fun r e=>(hr r e).2
 have low:∀k,k < B→k < W.heap.size→W'.heap[k]?=W.heap[k]?:=fun k hk hl=>hg.block k hl (fun e=>by have:=(hr k e.symm).1;omega)
 have x1:=x.ds
 have x2:=x.bb
 refine ⟨⟨cells_grown hg hr' h.f.b0,cells_grown hg hr' h.f.b1,cells_grown hg hr' h.f.b2,cells_grown hg hr' h.f.b3,h.f.bel.grown hg h.f.bel.size (fun r e=>by have:=(hr r e).1;omega),by have:=hg.size;have:=h.f.sz;omega⟩,cells_grown hg hr' h.t6,cells_grown hg hr' h.t9,cells_grown hg hr' h.bw,h.pt.grown x.mb x.bb hg hr,h.aw,?_,h.ok,h.st⟩
 exact RepL.later (fun j hj hl=>low j (by have:=x.q j hj;omega) hl) (fun j hj _=>hj) h.rep
theorem PIn.moved {W':World} {rv':Value} (h:PIn w pw ph so sd c1 c2 xs ys src D t Q T6 T9 Bw no bo nl nc bl bc S n rv W) (x:PFix w D Q T6 T9 Bw B) (k:PStep D rv W W' rv'):Four w pw ph so sd c1 c2 xs ys src W'∧W'.heap[T6]?=some (.cells #[.slice no nl nc,.slice bo bl bc] 68 (0,0))∧W'.heap[T9]?=some (.cells #[.pointer (some ⟨D.pb,0,none⟩)] 71 (0,0))∧W'.heap[Bw]?=some (.cells #[.int .i64 pw] 3 (0,0))∧(rv'.ownBlock≠some T9∧rv'.ownBlock≠some Bw)∧RepL W' Q (.slice bo bl bc) t:=by
 have x1:=x.ds
 have low:∀j,j < D.B→W'.heap[j]?=W.heap[j]?:=fun j hj=>k.low h.pt hj
 have l9:=(Array.getElem?_eq_some_iff.1 h.t9).1
 have lw:=(Array.getElem?_eq_some_iff.1 h.bw).1
 have sz:=h.f.sz
 have ks:=k.size
 refine ⟨⟨(low _ (by omega)).trans h.f.b0,(low _ (by omega)).trans h.f.b1,(low _ (by omega)).trans h.f.b2,(low _ (by omega)).trans h.f.b3,?_,by omega⟩,(low _ x.d6).trans h.t6,(k.block _ l9 x.o9.1 h.aw.1).trans h.t9,(k.block _ lw x.ow.1 h.aw.2).trans h.bw,?_,RepL.later (k.stay h.pt x.q) (fun j hj _=>hj) h.rep⟩
 ·exact h.f.bel.trans ⟨k.same.os,k.same.tape,k.same.output,ks,fun j hj=>low j (by omega)⟩
 ·rcases k.tr with e | ⟨j,e,hj⟩
  ·rw [e];exact h.aw
  ·rw [e];constructor <;> (intro e2;cases e2;omega)
theorem PStep.keeps {W':World} {rv':Value} (k:PStep D rv W W' rv') (h:PtAt W D S n rv) (hm:D.mb < B):KeepsFrom B W W':=⟨k.size,fun j o hB hj ho=>by
 have hl:=(Array.getElem?_eq_some_iff.1 hj).1
 refine (k.block j hl ?_ ?_).trans hj
 ·rintro (e | e | e | e)
  ·rw [e,h.blk] at hj;cases hj;cases ho
  ·omega
  ·rw [e,h.rowO] at hj;cases hj;cases ho
  ·rw [e,h.rowH] at hj;cases hj;cases ho
 ·intro e
  have:=own_cells h.rowR j o e hj
  rw [this] at ho
  cases ho⟩
theorem PStep.box {W':World} {rv':Value} {b:Nat} (k:PStep D rv W W' rv') (hb:¬ D.own b) (hr:rv.ownBlock≠some b):boxK b W W':=fun _ h1 _=>(k.block b (Array.getElem?_eq_some_iff.1 h1).1 hb hr).trans h1
end
theorem POk.begin {D:PD} {S:PSt} (h:POk D S) {x y:Int} (hx:0≤x∧x≤D.sw-1) (hy:0≤y∧y≤D.sh-1) (hw:D.sw≤6) (hh:D.sh≤6):POk D (beginP S x y):=⟨fun s=>by
 show In31 (updR (updR (fun _=>0) nmX x) nmY y s)
 unfold updR
 split
 ·exact ⟨by omega,by omega⟩
 split
 ·exact ⟨by omega,by omega⟩
 ·show In31 0;unfold In31;decide,h.s0,h.t0,h.t1,h.lo,h.lh,hx.1,hx.2,hy.1,hy.2⟩
end Go.Proofs.YthmmgiaobakilaaGreat

set_option maxRecDepth 100000
namespace Go.Proofs.YthmmgiaobakilaaGreat
open Go.RowKit Go.Shelf
attribute [local go_sem] Oper.semAt_some
def PicOut (w:World) (r:Option PSt) (e:Ending) (w':World):Prop:=Below w.heap.size w w'∧match r with
 | none=>e = .returned (.tuple #[emptyR,.int .i64 12,.int .i64 0])
 | some S=>∃ob hb rv,e = .returned (.tuple #[.agg #[.slice (some ⟨ob,0,none⟩) S.opn.length S.opn.length,.slice (some ⟨hb,0,none⟩) S.hid.length S.hid.length,.int .i64 S.steps,.int .i64 S.touched,rv],.int .i64 0,.int .i64 0])∧w'.heap[ob]?=some (picO S.opn)∧w'.heap[hb]?=some (picO S.hid)∧w'.ownsRow w.heap.size 61 2 rv S.trace.length (tchsC S.trace)∧w.heap.size≤ob∧w.heap.size≤hb∧ob≠hb∧rv.ownBlock≠some ob∧rv.ownBlock≠some hb
set_option maxHeartbeats 8000000 in
theorem scene_paint (w:World) (pw ph:Nat) (so sd:Option Addr) (c1 c2:Nat) (xs ys:List Int) (src:ByteArray) (hx:IntsAt w.heap.size w so xs) (hy:IntsAt w.heap.size w sd ys) (hlx:xs.length≤maxLen) (hly:ys.length≤maxLen) (hE:shapeE pw ph xs ys=0) (hsrc:src.size≤maxLen) (hR:readF src=(0,0)) (ds:List (Tok×Bool)) (t:Sx) (hT:IsTree src ds t) (hwf:WfS t) (hsz:szS t < 100000) (hwt:wtS t≤100000) :
  Calls Tryz.prog 21 #[scV pw ph so sd c1 c2 xs ys src] w fun e w'=>∃D:PD,D.sw=pw∧D.sh=ph∧D.opens=xs∧D.hids=ys∧PicOut w (goP D t (ptsOf pw ph) (startP (pw*ph))) e w':=by
 obtain ⟨⟨hw1,hw2⟩,⟨hh1,hh2⟩,hlo,hlh⟩:=shape_ok hE
 have f0:=four_new w pw ph so sd c1 c2 xs ys src
 obtain ⟨W,hW⟩:∃W,(((w.alloc (.cells #[.int .i64 pw,.int .i64 ph,.slice so xs.length c1,.slice sd ys.length c2,.string src] 24)).alloc (.cells #[.slice none 0 0,.slice none 0 0,.int .i64 0,.int .i64 0,.slice none 0 0] 36)).alloc (.cells #[.int .i64 0] 37)).alloc (.cells #[.int .i64 0] 3)=W:=⟨_,rfl⟩
 rw [hW] at f0
 unfold scV
 refine (callsIn_wide (n:=8)).1 ?_
 refine callsIn_of_wp_marks Tryz.func21 rfl trivial ?_ rfl
 simp only [Tryz.ntmps21,List.size_toArray,List.length_cons,List.length_nil,Nat.reduceAdd,Nat.reduceSub,Array.replicate_succ,Array.replicate_zero,List.push_toArray,List.append_toArray,List.nil_append,List.cons_append]
 obtain ⟨x0,x1,x2,x3,x4⟩:=(bk5 f0.b0).1
 have bw:=f0.bel
 have zw:=f0.sz
 have SHP:=hide (shape_any pw ph so sd c1 c2 xs ys src W w.heap.size (by omega) (hx.later bw (Nat.le_refl _)) (hy.later bw (Nat.le_refl _)) hlx hly)
 have FL:Hid (∀W',Below W.heap.size W W'→Four w pw ph so sd c1 c2 xs ys src W'):=fun W' hb=>f0.later hb
 have FL2:Hid (∀W' W'',Four w pw ph so sd c1 c2 xs ys src W'→Below W'.heap.size W' W''→Four w pw ph so sd c1 c2 xs ys src W''):=fun W' W'' f hb=>f.later hb
 rw [hE] at SHP
 have rd:=fun W=>read_any' src hsrc W
 rw [hR] at rd
 have RD:=hide rd
 have HX:=hide hx
 have HY:=hide hy
 clear f0 bw hE hx hy hR hlx hly hsrc rd
 gi_wp2_with fail
 clear hW x0 x1 x2 x3 x4 zw
 refine ⟨trivial,?_⟩
 refine (callsIn_wide.2 (unhide SHP)).mono ?_
 rintro e W1 ⟨rfl,hb1⟩
 have f1:=unhide FL W1 hb1
 obtain ⟨x0,x1,x2,x3,x4⟩:=(bk5 f1.b0).1
 have F1:=hide f1
 clear FL SHP hb1 f1
 gi_wp2_with fail
 refine ⟨trivial,?_⟩
 refine (callsIn_wide.2 (unhide RD W1)).mono ?_
 rintro e W2 ⟨hb2,no,nl,nc,bo,bl,bc,rfl,htree⟩
 obtain ⟨-,hrep2⟩:=htree ds t hT
 have f2:=unhide FL2 W1 W2 (unhide F1) hb2
 have f3:=f2.later ((Below.refl _ W2).alloc (Nat.le_refl _) (.cells #[.slice no nl nc,.slice bo bl bc] 68))
 obtain ⟨W3,hW3⟩:∃W3,W2.alloc (.cells #[.slice no nl nc,.slice bo bl bc] 68)=W3:=⟨_,rfl⟩
 rw [hW3] at f3
 have z3:W3.heap.size=W2.heap.size+1:=by rw [←hW3];simp
 have s6:W3.heap[W2.heap.size]?=some (.cells #[.slice no nl nc,.slice bo bl bc] 68 (0,0)):=by rw [←hW3];exact heap_alloc_new W2 _
 have rep3:RepL W3 (fun k=>W1.heap.size < k∧k < W2.heap.size) (.slice bo bl bc) t:=by rw [←hW3];exact RepL.later (fun j _ hl=>Below.heap_alloc W2 _ j hl) (fun j hj _=>hj) hrep2
 have b3:=f3.bel
 have z31:=f3.sz
 have NP:=hide (newPainter_any W3 pw ph so sd c1 c2 xs ys src ⟨hw1,hw2⟩ ⟨hh1,hh2⟩ (((unhide HX).later b3 (Nat.le_refl _)).mono (by omega)) (((unhide HY).later b3 (Nat.le_refl _)).mono (by omega)))
 clear x0 x1 x2 x3 x4
 obtain ⟨x0,x1,x2,x3,x4⟩:=(bk5 f3.b0).1
 have F3:=hide f3
 have R3:=hide rep3
 clear FL2 RD hb2 f2 f3 F1 hrep2 rep3 htree
 gi_wp2_with fail
 clear hW3
 refine ⟨trivial,?_⟩
 refine (callsIn_wide.2 (unhide NP)).mono ?_
 rintro e W4 ⟨D,rfl,hpt,hb4,dB,dsw,dsh,dop,dhi,dsr⟩
 obtain ⟨W5,hW5⟩:∃W5,W4.alloc (.cells #[.pointer (some ⟨D.pb,0,none⟩)] 71)=W5:=⟨_,rfl⟩
 have z5:W5.heap.size=W4.heap.size+1:=by rw [←hW5];simp
 have b45:Below W4.heap.size W4 W5:=by rw [←hW5];exact (Below.refl _ W4).alloc (Nat.le_refl _) _
 have s9:W5.heap[W4.heap.size]?=some (.cells #[.pointer (some ⟨D.pb,0,none⟩)] 71 (0,0)):=by rw [←hW5];exact heap_alloc_new W4 _
 have z4:=hb4.size
 have OW4:Hid (D.pb < W4.heap.size∧D.mb < W4.heap.size∧D.ob < W4.heap.size∧D.hb < W4.heap.size):=⟨hpt.ltP,hpt.ltM,hpt.ltO,hpt.ltH⟩
 have f4:=(unhide F3).later hb4
 have f5:=f4.later b45
 clear x0 x1 x2 x3 x4
 obtain ⟨x0,x1,x2,x3,x4⟩:=(bk5 f5.b0).1
 have pt5:PtAt W5 D (startP (pw*ph)) 0 (.slice none 0 0):=by
  have e:((pw:Int)*(ph:Int)).toNat=pw*ph:=by rw [←Int.natCast_mul,Int.toNat_natCast]
  rw [e] at hpt
  exact hpt.below b45
 have F5:=hide f5
 have P5:=hide pt5
 clear NP F3 f4 f5 hpt pt5
 gi_wp2_with fail
 clear hW5
 refine ⟨trivial,?_⟩
 refine (points_in Fence.wide _ trivial rfl pw ph W5).mono ?_
 rintro e W6 ⟨rfl,hW6⟩
 have z6:W6.heap.size=W5.heap.size+2:=by rw [hW6];simp
 have b56:Below W5.heap.size W5 W6:=by rw [hW6];exact ((Below.refl _ W5).alloc (Nat.le_refl _) _).alloc (by simp) _
 have sw6:W6.heap[W5.heap.size]?=some (.cells #[.int .i64 pw] 3 (0,0)):=by
  rw [hW6];exact (Below.heap_alloc _ _ _ (by simp)).trans (heap_alloc_new W5 _)
 have sh6:W6.cell? ⟨W5.heap.size+1,0,none⟩=some (.int .i64 ph):=by
  have:=heap_alloc_new (W5.alloc (.cells #[.int .i64 pw] 3)) (.cells #[.int .i64 ph] 3)
  rw [World.size_alloc] at this
  rw [hW6]
  exact box_cell this
 have pt6:=(unhide P5).below b56
 have f6:=(unhide F5).later b56
 have b36:Below W3.heap.size W3 W6:=hb4.trans ((b45.trans (b56.mono (by omega))).mono (by omega))
 have fix:PFix w D (fun k=>W1.heap.size < k∧k < W2.heap.size) W2.heap.size W4.heap.size W5.heap.size W6.heap.size:=by
  have own4:∀k,D.own k→k < W4.heap.size:=fun k hk=>by
   have:=unhide OW4
   rcases hk with e | e | e | e <;> omega
  exact ⟨fun k hk=>by rw [dB];omega,by rw [dB];omega,by rw [dB];omega,⟨fun ho=>by have:=own4 _ ho;omega,by omega⟩,⟨fun ho=>by have:=own4 _ ho;omega,by omega⟩,by have:=own4 D.mb (.inr (.inl rfl));omega,by rw [dB];omega⟩
 have okD:D.Ok:=⟨by omega,by omega,by omega,by omega,by rw [dop,dsw,dsh];exact hlo,by rw [dhi,dsw,dsh];exact hlh⟩
 have in6:PIn w pw ph so sd c1 c2 xs ys src D t (fun k=>W1.heap.size < k∧k < W2.heap.size) W2.heap.size W4.heap.size W5.heap.size no bo nl nc bl bc (startP (pw*ph)) 0 (.slice none 0 0) W6:=by
  refine ⟨f6,(b36.block _ (by omega)).trans s6,(b56.block _ (by omega)).trans s9,sw6,pt6,⟨(fun e=>by cases e),(fun e=>by cases e)⟩,RepL.later (fun j hj hl=>b36.block j (by omega)) (fun j hj _=>hj) (unhide R3),?_,by show (0:Int)≤20000;decide⟩
  have hl:((pw*ph:Nat):Int)=D.sw*D.sh:=by rw [dsw,dsh,Int.natCast_mul]
  refine ⟨fun s=>by show In31 0;unfold In31;decide,by show (0:Int)≤0;decide,by show (0:Int)≤0;decide,by show (0:Int)≤0;decide,?_,?_,by show (0:Int)≤0;decide,by show (0:Int)≤D.sw-1;omega,by show (0:Int)≤0;decide,by show (0:Int)≤D.sh-1;omega⟩
  ·show (((List.replicate (pw*ph) (0:Int)).length:Nat):Int)=_
   rw [List.length_replicate];exact hl
  ·show (((List.replicate (pw*ph) (0:Int)).length:Nat):Int)=_
   rw [List.length_replicate];exact hl
 clear hW6
 rw [z5] at sw6 sh6 fix in6 z6
 gi_wp2
 refine wpIn_rangeFunc_ownH (α:=Pt pw ph) rfl (by omega) (gf:=61) (lb:=#[.pointer (some ⟨W4.heap.size+1+1,0,none⟩),.pointer (some ⟨W4.heap.size+1,0,none⟩)]) rfl trivial (enters_of Tryz.func61 (by kernel_rfl) rfl)
  (points_stops Fence.wide 7 trivial rfl (by omega) (W4.heap.size+1+1) (W4.heap.size+1) pw ph (by omega) (by omega) W6 (by omega) (by omega) sh6 sw6) (fun h k=>boxK_t h k) boxK_b (Below.refl _ _) (fun _=>rfl)
  (fun pre W=>∃S n rv,goP D t (pre.map (·.1)) (startP (pw*ph))=some S∧PIn w pw ph so sd c1 c2 xs ys src D t (fun k=>W1.heap.size < k∧k < W2.heap.size) W2.heap.size W4.heap.size (W4.heap.size+1) no bo nl nc bl bc S n rv W)
  (fun c pre W=>c = .ret∧goP D t (pre.map (·.1)) (startP (pw*ph))=none∧OutAt w (.slice none 0 0) (.slice none 0 0) (.int .i64 0) (.int .i64 0) (.slice none 0 0) (.int .i64 12) (.int .i64 0) W) ?hI ?hIx ⟨_,_,_,rfl,in6⟩
  (fun x a' W=>∃b,a' = { tmps:=#[Value.agg #[Value.int IntKind.i64 pw,Value.int IntKind.i64 ph,Value.slice so xs.length c1,Value.slice sd ys.length c2,Value.string src],.pointer (some ⟨w.heap.size,0,none⟩),.pointer (some ⟨w.heap.size+1,0,none⟩),.pointer (some ⟨w.heap.size+1+1,0,none⟩),.pointer (some ⟨w.heap.size+1+1+1,0,none⟩),.int .i64 0,.pointer (some ⟨W2.heap.size,0,none⟩),.int .i64 0,.int .i64 0,.pointer (some ⟨W4.heap.size,0,none⟩),.pointer (some ⟨b,0,none⟩),Value.agg #[Value.int IntKind.i64 pw,Value.int IntKind.i64 ph,Value.slice so xs.length c1,Value.slice sd ys.length c2,Value.string src],.int .i64 0,.int .i64 0,.bool false,undef,undef,.tuple #[Value.agg #[Value.slice no nl nc,Value.slice bo bl bc],.int .i64 0,.int .i64 0],.pointer (some ⟨w.heap.size,4,none⟩),.string src,.tuple #[Value.agg #[Value.slice no nl nc,Value.slice bo bl bc],.int .i64 0,.int .i64 0],Value.agg #[Value.slice no nl nc,Value.slice bo bl bc],.int .i64 0,.int .i64 0,.int .i64 0,.bool false,undef,undef,undef,Value.agg #[Value.int IntKind.i64 pw,Value.int IntKind.i64 ph,Value.slice so xs.length c1,Value.slice sd ys.length c2,Value.string src],.pointer (some ⟨D.pb,0,none⟩),.pointer (some ⟨w.heap.size,0,none⟩),.int .i64 pw,.pointer (some ⟨w.heap.size,1,none⟩),.int .i64 ph,.func (.func 61) #[] #[.pointer (some ⟨W4.heap.size+1+1,0,none⟩),.pointer (some ⟨W4.heap.size+1,0,none⟩)],.agg #[.int .i64 x.1.1,.int .i64 x.1.2],undef,undef,undef,undef,undef,undef,undef,undef,undef,undef,undef,undef,undef,undef],defers:=[] }∧W.heap[b]?=some (.cells #[.int .i64 x.1.1,.int .i64 x.1.2] 77 (0,0))) ?hAx ?assign ?body ?done ?stop
 case hI=>
  rintro pre A B row ⟨S,n,rv,hf,hat⟩ hg hr
  exact ⟨S,n,rv,hf,hat.grown fix hg hr⟩
 case hIx=>
  rintro c pre A B row ⟨hc,hf,ho⟩ hg hr
  have hr':=fun r e=>(hr r e).2
  exact ⟨hc,hf,cells_grown hg hr' ho.b1,cells_grown hg hr' ho.b2,cells_grown hg hr' ho.b3,ho.bel.grown hg ho.bel.size (fun r e=>by have:=(hr r e).1;omega)⟩
 case hAx=>
  rintro x a' _ A B row ⟨b,ha,hb⟩ hg hr
  exact ⟨b,ha,cells_grown hg (fun r e=>(hr r e).2) hb⟩
 case assign=>
  rintro l pre x W K ⟨S,n,rv,hf,hat⟩ hK
  have g1:W.grownBy (W.alloc (.cells #[.int .i64 x.1.1,.int .i64 x.1.2] 77)) none:=World.grownBy_alloc W _ none
  have fin:=hK { tmps:=#[Value.agg #[Value.int IntKind.i64 pw,Value.int IntKind.i64 ph,Value.slice so xs.length c1,Value.slice sd ys.length c2,Value.string src],.pointer (some ⟨w.heap.size,0,none⟩),.pointer (some ⟨w.heap.size+1,0,none⟩),.pointer (some ⟨w.heap.size+1+1,0,none⟩),.pointer (some ⟨w.heap.size+1+1+1,0,none⟩),.int .i64 0,.pointer (some ⟨W2.heap.size,0,none⟩),.int .i64 0,.int .i64 0,.pointer (some ⟨W4.heap.size,0,none⟩),.pointer (some ⟨W.heap.size,0,none⟩),Value.agg #[Value.int IntKind.i64 pw,Value.int IntKind.i64 ph,Value.slice so xs.length c1,Value.slice sd ys.length c2,Value.string src],.int .i64 0,.int .i64 0,.bool false,undef,undef,.tuple #[Value.agg #[Value.slice no nl nc,Value.slice bo bl bc],.int .i64 0,.int .i64 0],.pointer (some ⟨w.heap.size,4,none⟩),.string src,.tuple #[Value.agg #[Value.slice no nl nc,Value.slice bo bl bc],.int .i64 0,.int .i64 0],Value.agg #[Value.slice no nl nc,Value.slice bo bl bc],.int .i64 0,.int .i64 0,.int .i64 0,.bool false,undef,undef,undef,Value.agg #[Value.int IntKind.i64 pw,Value.int IntKind.i64 ph,Value.slice so xs.length c1,Value.slice sd ys.length c2,Value.string src],.pointer (some ⟨D.pb,0,none⟩),.pointer (some ⟨w.heap.size,0,none⟩),.int .i64 pw,.pointer (some ⟨w.heap.size,1,none⟩),.int .i64 ph,.func (.func 61) #[] #[.pointer (some ⟨W4.heap.size+1+1,0,none⟩),.pointer (some ⟨W4.heap.size+1,0,none⟩)],.agg #[.int .i64 x.1.1,.int .i64 x.1.2],undef,undef,undef,undef,undef,undef,undef,undef,undef,undef,undef,undef,undef,undef],defers:=[] } (W.alloc (.cells #[.int .i64 x.1.1,.int .i64 x.1.2] 77)) ((KeepsOthers.alloc W _).from _) (fun o h1 _=>(Below.heap_alloc W _ _ (Array.getElem?_eq_some_iff.1 h1).1).trans h1) ⟨S,n,rv,hf,hat.grown fix g1 (fun r e=>by cases e)⟩ ⟨W.heap.size,rfl,heap_alloc_new W _⟩
  have FIN:=hide fin
  clear fin hK hat hf
  gi_wp2
  exact unhide FIN
 case stop=>
  rintro Dd c pre W hD ⟨suf,hpre⟩ ⟨rfl,hf,ho⟩ hK
  gi_wp2
  refine ⟨by simp,.inl ⟨_,_,rfl,run_takeDeferred hK,?_⟩⟩
  have hW9:=grownBy_putObj' W Dd (.deferred none)
  have ro:∀r,some Dd=some r→∃o:Obj,W.heap[r]?=some o∧o.isCells=false:=fun r e=>by cases e;exact ⟨_,hK,rfl⟩
  obtain ⟨z0,z1,z2,z3,z4⟩:=(bk5 (cells_grown hW9 ro ho.b1)).1
  obtain ⟨z7,_⟩:=bkc1 (cells_grown hW9 ro ho.b2)
  obtain ⟨z8,_⟩:=bkc1 (cells_grown hW9 ro ho.b3)
  refine ⟨.tuple #[emptyR,.int .i64 12,.int .i64 0],by simp [results,Tryz.results21,go_sem,emptyR,z0,z1,z2,z3,z4,z7,z8],D,dsw,dsh,dop,dhi,?_⟩
  have e:goP D t (ptsOf pw ph) (startP (pw*ph))=none:=by rw [←hpre];exact goP_err D t _ _ _ hf
  rw [e]
  exact ⟨ho.bel.grown hW9 ho.bel.size (fun r e=>by cases e;omega),rfl⟩
 case done=>
  rintro Dd ps W hD hps ⟨S,n,rv,hf,hat⟩ hK
  have hps':ps.map (·.1)=ptsOf pw ph:=hps
  rw [hps'] at hf
  have hz:=hat.f.sz
  have OO:=hat.f.out (.slice (some ⟨D.ob,0,none⟩) S.opn.length S.opn.length) (.slice (some ⟨D.hb,0,none⟩) S.hid.length S.hid.length) (.int .i64 S.steps) (.int .i64 S.touched) rv (.int .i64 0) (.int .i64 0)
  obtain ⟨ao,cp,hrv⟩:=hat.pt.lenR
  have hbp:=hat.pt.blk
  unfold ptO at hbp
  obtain ⟨⟨-,-,-,-,-,-,-,-,u8,u9,u10,u11,u12⟩,-⟩:=bk13 hbp
  obtain ⟨t9c,-⟩:=bkc1 hat.t9
  obtain ⟨⟨y0,y1,y2,y3,y4⟩,yz⟩:=bk5 hat.f.b1
  have q2:=bkc1 hat.f.b2
  have q3:=bkc1 hat.f.b3
  have hDl:Dd < W.heap.size:=(Array.getElem?_eq_some_iff.1 hK).1
  have out8:∀k,k≠w.heap.size+1→k≠w.heap.size+1+1→k≠w.heap.size+1+1+1→(outW w W (.slice (some ⟨D.ob,0,none⟩) S.opn.length S.opn.length) (.slice (some ⟨D.hb,0,none⟩) S.hid.length S.hid.length) (.int .i64 S.steps) (.int .i64 S.touched) rv (.int .i64 0) (.int .i64 0)).heap[k]?=W.heap[k]?:=fun k a b c=>by
   unfold outW
   exact (Below.heap_setCell _ _ _ _ c).trans ((Below.heap_setCell _ _ _ _ b).trans ((Below.heap_setCell _ _ _ _ a).trans ((Below.heap_setCell _ _ _ _ a).trans ((Below.heap_setCell _ _ _ _ a).trans ((Below.heap_setCell _ _ _ _ a).trans (Below.heap_setCell _ _ _ _ a))))))
  have hds:=fix.ds
  have hbs:=hat.pt.base
  have fo:(outW w W (.slice (some ⟨D.ob,0,none⟩) S.opn.length S.opn.length) (.slice (some ⟨D.hb,0,none⟩) S.hid.length S.hid.length) (.int .i64 S.steps) (.int .i64 S.touched) rv (.int .i64 0) (.int .i64 0)).heap[D.ob]?=some (picO S.opn):=(out8 _ (by have:=hbs D.ob (.inr (.inr (.inl rfl)));omega) (by have:=hbs D.ob (.inr (.inr (.inl rfl)));omega) (by have:=hbs D.ob (.inr (.inr (.inl rfl)));omega)).trans hat.pt.rowO
  have fh:(outW w W (.slice (some ⟨D.ob,0,none⟩) S.opn.length S.opn.length) (.slice (some ⟨D.hb,0,none⟩) S.hid.length S.hid.length) (.int .i64 S.steps) (.int .i64 S.touched) rv (.int .i64 0) (.int .i64 0)).heap[D.hb]?=some (picO S.hid):=(out8 _ (by have:=hbs D.hb (.inr (.inr (.inr rfl)));omega) (by have:=hbs D.hb (.inr (.inr (.inr rfl)));omega) (by have:=hbs D.hb (.inr (.inr (.inr rfl)));omega)).trans hat.pt.rowH
  have fr:=own_sameP hat.pt.rowR (w':=outW w W (.slice (some ⟨D.ob,0,none⟩) S.opn.length S.opn.length) (.slice (some ⟨D.hb,0,none⟩) S.hid.length S.hid.length) (.int .i64 S.steps) (.int .i64 S.touched) rv (.int .i64 0) (.int .i64 0)) (fun k e=>by have:=(hat.pt.rowR.lt k e).1;exact out8 k (by omega) (by omega) (by omega))
  have fk:=(out8 Dd (by omega) (by omega) (by omega)).trans hK
  have FF:Hid (∀W8,W8=outW w W (.slice (some ⟨D.ob,0,none⟩) S.opn.length S.opn.length) (.slice (some ⟨D.hb,0,none⟩) S.hid.length S.hid.length) (.int .i64 S.steps) (.int .i64 S.touched) rv (.int .i64 0) (.int .i64 0)→W8.heap[Dd]?=some (.deferred (some []))∧∀W9,W8.grownBy W9 (some Dd)→OutAt w (.slice (some ⟨D.ob,0,none⟩) S.opn.length S.opn.length) (.slice (some ⟨D.hb,0,none⟩) S.hid.length S.hid.length) (.int .i64 S.steps) (.int .i64 S.touched) rv (.int .i64 0) (.int .i64 0) W9∧PicOut w (some S) (.returned (.tuple #[.agg #[.slice (some ⟨D.ob,0,none⟩) S.opn.length S.opn.length,.slice (some ⟨D.hb,0,none⟩) S.hid.length S.hid.length,.int .i64 S.steps,.int .i64 S.touched,rv],.int .i64 0,.int .i64 0])) W9):=fun W8 e=>by
   subst e
   refine ⟨fk,fun W9 hg=>?_⟩
   have ro:∀r,some Dd=some r→∃o:Obj,(outW w W (.slice (some ⟨D.ob,0,none⟩) S.opn.length S.opn.length) (.slice (some ⟨D.hb,0,none⟩) S.hid.length S.hid.length) (.int .i64 S.steps) (.int .i64 S.touched) rv (.int .i64 0) (.int .i64 0)).heap[r]?=some o∧o.isCells=false:=fun r e=>by cases e;exact ⟨_,fk,rfl⟩
   have bel9:=OO.bel.grown hg OO.bel.size (fun r e=>by cases e;omega)
   refine ⟨⟨cells_grown hg ro OO.b1,cells_grown hg ro OO.b2,cells_grown hg ro OO.b3,bel9⟩,bel9,D.ob,D.hb,rv,rfl,cells_grown hg ro fo,cells_grown hg ro fh,own_base (own_grown hg ro fr) (by omega),by have:=hbs D.ob (.inr (.inr (.inl rfl)));omega,by have:=hbs D.hb (.inr (.inr (.inr rfl)));omega,hat.pt.ne.2.2.2.2.2,fun e=>hat.pt.away _ e (.inr (.inr (.inl rfl))),fun e=>hat.pt.away _ e (.inr (.inr (.inr rfl)))⟩
  unfold outW at FF
  subst hrv
  have HF:=hide hf
  clear OO out8 fo fh fr fk hbs hbp hf hps hps' hat in6
  gi_wp2
  have FF2:=unhide FF _ rfl
  refine ⟨by simp,.inl ⟨_,_,rfl,run_takeDeferred FF2.1,?_⟩⟩
  obtain ⟨o9,p9⟩:=FF2.2 _ (grownBy_putObj' _ Dd (.deferred none))
  obtain ⟨v0,v1,v2,v3,v4⟩:=(bk5 o9.b1).1
  obtain ⟨v5,_⟩:=bkc1 o9.b2
  obtain ⟨v6,_⟩:=bkc1 o9.b3
  refine ⟨.tuple #[.agg #[.slice (some ⟨D.ob,0,none⟩) S.opn.length S.opn.length,.slice (some ⟨D.hb,0,none⟩) S.hid.length S.hid.length,.int .i64 S.steps,.int .i64 S.touched,.slice ao S.trace.length cp],.int .i64 0,.int .i64 0],by simp [results,Tryz.results21,go_sem,v0,v1,v2,v3,v4,v5,v6],D,dsw,dsh,dop,dhi,?_⟩
  rw [unhide HF]
  exact p9
 case body=>
  rintro l pre x a' W hl hloop ⟨S,n,rv,hf,hat⟩ ⟨b,rfl,hb⟩ hlen
  obtain ⟨xr1,xr2,xr3,xr4⟩:=x.2
  have okB:POk D (beginP S x.1.1 x.1.2):=hat.ok.begin ⟨xr1,by omega⟩ ⟨xr3,by omega⟩ (by omega) (by omega)
  have hst:=hat.st
  have eB:(beginP S x.1.1 x.1.2).steps=S.steps:=rfl
  have hs0:=hat.ok.s0
  have BEG:=hide (begin_any W D S n rv x.1.1 x.1.2 hat.pt ⟨xr1,by omega⟩ ⟨xr3,by omega⟩)
  obtain ⟨t9c,-⟩:=bkc1 hat.t9
  obtain ⟨⟨bc0,bc1⟩,-⟩:=bkc2 hb
  have AFT:Hid (∀W7,PtAt W7 D (beginP S x.1.1 x.1.2) 2 rv→PStep D rv W W7 rv→W7.cell? ⟨W4.heap.size,0,none⟩=some (.pointer (some ⟨D.pb,0,none⟩))∧(W7.cell? ⟨W2.heap.size,0,none⟩=some (.slice no nl nc)∧W7.cell? ⟨W2.heap.size,1,none⟩=some (.slice bo bl bc))∧Calls Tryz.prog 38 #[.pointer (some ⟨D.pb,0,none⟩),.slice bo bl bc] W7 (fun e W8=>e = .returned (.tuple #[])∧∃n8 rv8,PtAt W8 D (ptOne D t S x.1) n8 rv8∧PStep D rv W W8 rv8)):=fun W7 p7 k7=>by
   obtain ⟨g1,g2,g3,g4,g5,g6⟩:=hat.moved fix k7
   refine ⟨(bkc1 g3).1,(bkc2 g2).1,?_⟩
   refine (pstm_all 100000 (Nat.le_refl _) t W7 D (beginP S x.1.1 x.1.2) 2 rv _ _ hsz p7 g6 hwf fix.q okD okB (by omega) hwt (by omega)).mono ?_
   rintro e W8 ⟨rfl,n8,rv8,p8,k8,-⟩
   exact ⟨rfl,n8,rv8,p8,k7.trans k8⟩
  have okT:POk D (ptOne D t S x.1):=(st_grow (D:=D) _ t (Nat.le_refl _) hwf _ okB).ok
  have AF2:Hid (∀W8 n8 rv8,PtAt W8 D (ptOne D t S x.1) n8 rv8→PStep D rv W W8 rv8→W8.cell? ⟨W4.heap.size,0,none⟩=some (.pointer (some ⟨D.pb,0,none⟩))∧Four w pw ph so sd c1 c2 xs ys src W8∧KeepsFrom W6.heap.size W W8∧(¬ 20000 < (ptOne D t S x.1).steps→boxK (W4.heap.size+1) W W8∧∃S' n' rv',goP D t ((pre++[x]).map (·.1)) (startP (pw*ph))=some S'∧PIn w pw ph so sd c1 c2 xs ys src D t (fun k=>W1.heap.size < k∧k < W2.heap.size) W2.heap.size W4.heap.size (W4.heap.size+1) no bo nl nc bl bc S' n' rv' W8)):=fun W8 n8 rv8 p8 k8=>by
   obtain ⟨g1,g2,g3,g4,g5,g6⟩:=hat.moved fix k8
   refine ⟨(bkc1 g3).1,g1,k8.keeps hat.pt fix.mb,fun hno=>⟨k8.box fix.ow.1 hat.aw.2,_,n8,rv8,?_,⟨g1,g2,g3,g4,p8,g5,g6,okT,by omega⟩⟩⟩
   rw [List.map_append]
   exact (goP_snoc D t _ x.1 _ S hf).trans (if_neg hno)
  have HOV:Hid (20000 < (ptOne D t S x.1).steps→goP D t ((pre++[x]).map (·.1)) (startP (pw*ph))=none):=fun ho=>by
   rw [List.map_append]
   exact (goP_snoc D t _ x.1 _ S hf).trans (if_pos ho)
  obtain ⟨T,hTe⟩:∃T,ptOne D t S x.1=T:=⟨_,rfl⟩
  rw [hTe] at AFT AF2 HOV okT
  obtain ⟨px,py⟩:∃px:Int,x.1.1=px:=⟨_,rfl⟩
  obtain ⟨qx,qy⟩:∃qx:Int,x.1.2=qx:=⟨_,rfl⟩
  rw [py,qy] at BEG AFT ⊢
  rw [py] at bc0
  rw [qy] at bc1
  clear hat hb hf okB eB hlen hloop hTe in6 hst hs0
  gi_wp2_with fail
  refine ⟨trivial,?_⟩
  refine (CallsIn.inRound l (callsIn_wide.2 (unhide BEG))).mono ?_
  rintro e W7 ⟨rfl,p7,k7⟩
  obtain ⟨t9d,⟨t6a,t6b⟩,st7⟩:=unhide AFT W7 p7 k7
  have ST7:=hide st7
  clear AFT BEG t9c bc0 bc1 st7 p7 k7
  gi_wp2_with fail
  refine ⟨trivial,?_⟩
  refine (CallsIn.inRound l (callsIn_wide.2 (unhide ST7))).mono ?_
  rintro e W8 ⟨rfl,n8,rv8,p8,k8⟩
  obtain ⟨t9e,f8,kp8,go8⟩:=unhide AF2 W8 n8 rv8 p8 k8
  have OV:=hide (over_any W8 D T n8 rv8 p8)
  clear ST7 AF2 t9d t6a t6b p8 k8
  by_cases hov:20000 < T.steps
  ·have hov':decide (20000 < T.steps)=true:=by simp [hov]
   have none8:=unhide HOV hov
   rw [hov'] at OV
   have OO:=hide (f8.out (.slice none 0 0) (.slice none 0 0) (.int .i64 0) (.int .i64 0) (.slice none 0 0) (.int .i64 12) (.int .i64 0))
   unfold outW at OO
   obtain ⟨⟨y0,y1,y2,y3,y4⟩,yz⟩:=bk5 f8.b1
   have q2:=bkc1 f8.b2
   have q3:=bkc1 f8.b3
   have KP:=hide kp8
   have NN:=hide none8
   clear HOV go8 f8 kp8 none8 hov
   gi_wp2_with fail
   refine ⟨trivial,?_⟩
   refine (CallsIn.inRound l (callsIn_wide.2 (unhide OV))).mono ?_
   rintro e w9 ⟨rfl,h9⟩
   obtain rfl:=h9.symm
   gi_wp2
   exact ⟨(unhide KP).trans (((((((KeepsOthers.setCell _ _ _).trans (KeepsOthers.setCell _ _ _)).trans (KeepsOthers.setCell _ _ _)).trans (KeepsOthers.setCell _ _ _)).trans (KeepsOthers.setCell _ _ _)).trans (KeepsOthers.setCell _ _ _)).trans (KeepsOthers.setCell _ _ _) |>.from _),rfl,unhide NN,unhide OO⟩
  ·have hov':decide (20000 < T.steps)=false:=by simp [hov]
   obtain ⟨bx8,in8⟩:=go8 (by omega)
   rw [hov'] at OV
   have FIN:=hide (And.intro kp8 (And.intro bx8 in8))
   clear HOV go8 f8 kp8 bx8 in8 hov
   gi_wp2_with fail
   refine ⟨trivial,?_⟩
   refine (CallsIn.inRound l (callsIn_wide.2 (unhide OV))).mono ?_
   rintro e w9 ⟨rfl,h9⟩
   obtain rfl:=h9.symm
   gi_wp2
   exact unhide FIN
end Go.Proofs.YthmmgiaobakilaaGreat
