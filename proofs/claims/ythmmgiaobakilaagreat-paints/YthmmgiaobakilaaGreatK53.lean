import Derived.Test.YthmmgiaobakilaaGreatK01
import Derived.Test.YthmmgiaobakilaaGreatK18
import Derived.Test.YthmmgiaobakilaaGreatK50
import Derived.Test.YthmmgiaobakilaaGreatK52
set_option maxRecDepth 100000
namespace Go.Proofs.YthmmgiaobakilaaGreat
open Go.RowKit Go.Deep
theorem dcS_cells0 (E:Env):∀(ds:List (Tok×Bool)) (σ:St),(dcS E ds σ).cells=σ.cells++dcC ds
 | [],σ=>by show σ.cells=σ.cells++[];rw [List.append_nil]
 | d::ds,σ=>by
  show (dcS E ds (declT E σ d.1 d.2 true)).cells=_
  rw [dcS_cells0 E ds,(declT_eq E σ d.1 d.2 true).cells]
  unfold dcC
  simp
theorem tree_found {src:ByteArray} {ds:List (Tok×Bool)} {t:Sx} (h:IsTree src ds t):src.size≤300∧∃l p j,lex src src.size 0 []=(some l,p)∧pSource 1000 (l++[overTok p])=some (.ok ((ds,t),j))∧TokW (l++[overTok p])∧(l++[overTok p]).length≤900∧Found3 t (cells0 0 0 ds)∧ds.length≤900:=by
 obtain ⟨hs,l,p,j,hl,hr,htr⟩:=h
 have hW:=lex_tokW hs hl
 obtain ⟨t1,t2,t3⟩:=toks_ok hs hl
 have hlen:=lex_len src src.size 0 [] l p (by simp) (by omega) hl
 have hT:(l++[overTok p]).length≤301:=by simp;omega
 have hd:docC src=(0,0):=by
  rw [←read_doc]
  unfold readF
  rw [if_neg (by omega),hl]
  show toksF (l++[overTok p])=(0,0)
  unfold toksF
  rw [hr]
  exact htr
 have hj:=source_lt t1 hr
 obtain ⟨T,eT⟩:∃T,l++[overTok p]=T:=⟨_,rfl⟩
 have hd2:docT T=(0,0):=by
  unfold docC at hd
  rw [if_neg (by omega),hl] at hd
  rw [←eT]
  exact hd
 rw [eT] at hr hW t1 t2 t3 hT hj
 have h1:(lookS T 1 ds t).fault=0:=by
  apply Classical.byContradiction
  intro hn
  have e:docT T=((lookS T 1 ds t).fault,(lookS T 1 ds t).place):=by
   unfold docT
   rw [hr]
   exact if_neg hn
  rw [hd2] at e
  exact hn (congrArg Prod.fst e).symm
 have nok:NumOK T:=fun i=>⟨by have:=t2 i;omega,by have:=t2 i;omega⟩
 obtain ⟨_,_,hsh⟩:=od_source (X:=GE) (fun n i e j h=>(pXF_wf n).1 T i e j nok h) (fun i u h hu=>by
  rcases hu with rfl | rfl
  ·exact (wrd3 hW (by unfold memB kws sOUT;simp) h).1
  ·exact (wrd3 hW (by unfold memB kws sHIDE;simp) h).1) hr
 have ff:=stS_found3 (E:=envC T 1) rfl (szS t) t (Nat.le_refl _) hsh _ h1
 rw [dcS_cells0] at ff
 obtain ⟨g1,_⟩:=gd_source (p:=fun _=>True) (fun _=>trivial) trivial hr
 exact ⟨hs,l,p,j,hl,by rw [eT];exact hr,by rw [eT];exact hW,by rw [eT];omega,ff,by omega⟩
theorem own_pic {w:World} {base g:Nat} {l:List Int} (h:w.heap[g]?=some (picO l)) (hb:base≤g) (hl:l.length≤maxLen):w.ownsRow base 3 1 (.slice (some ⟨g,0,none⟩) l.length l.length) l.length (l.map (Value.int .i64)):=by
 refine ⟨by simp,.inr ⟨g,l.length,(l.map (Value.int .i64)).toArray,rfl,hb,h,Nat.le_refl _,hl,by simp,?_⟩⟩
 simp
 exact List.take_of_length_le (by simp)
def env3 (toks:List Tok) (sw sh:Int) (xs ys:List Int) (src:ByteArray) (p:Int):Env:=⟨toks,3,sw,sh,xs,ys,src,p⟩
def walkO (tv:Value) (W H:Int) (so sd ov hv:Value) (src:ByteArray):Obj:=.cells #[tv,.int .i64 3,.int .i64 0,.int .i64 0,.slice none 0 0,.int .i64 W,.int .i64 H,so,sd,.string src,ov,hv,.int .i64 0,.int .i64 0,.slice none 0 0,.int .i64 0,.bool false] 59 (0,0)
theorem wk_start {w3 W:World} {T:List Tok} {sw sh:Int} {xs ys:List Int} {src:ByteArray} {N g cap c1 c2 b1 b2:Nat} {so sd:Option Addr}
  (own:W.ownsRow 0 86 4 (.slice (some ⟨g,0,none⟩) T.length cap) T.length (toksCells T)) (hg:g < w3.heap.size) (h0:0 < T.length) (h1:T.length≤1000)
  (hx:IntsAt w3.heap.size W so xs) (hy:IntsAt w3.heap.size W sd ys) (hN:N≤36) (e1:w3.heap.size < b1) (e2:w3.heap.size < b2) (ne:b1≠b2)
  (p1:W.heap[b1]?=some (picO (List.replicate N 0))) (p2:W.heap[b2]?=some (picO (List.replicate N 0)))
  (blk:W.heap[w3.heap.size]?=some (walkO (.slice (some ⟨g,0,none⟩) T.length cap) sw sh (.slice so xs.length c1) (.slice sd ys.length c2) (.slice (some ⟨b1,0,none⟩) N N) (.slice (some ⟨b2,0,none⟩) N N) src)) :
  Wk W w3.heap.size [] (env3 T sw sh xs ys src 0) (st3 N):=by
 have o1:=own_pic (base:=w3.heap.size+1) p1 (by omega) (by rw [List.length_replicate];unfold maxLen;omega)
 have o2:=own_pic (base:=w3.heap.size+1) p2 (by omega) (by rw [List.length_replicate];unfold maxLen;omega)
 rw [List.length_replicate] at o1 o2
 have f1:(st3 N).opn.length=N:=List.length_replicate ..
 have f2:(st3 N).hid.length=N:=List.length_replicate ..
 refine ⟨.slice (some ⟨g,0,none⟩) T.length cap,.slice none 0 0,.slice so xs.length c1,.slice sd ys.length c2,.slice (some ⟨b1,0,none⟩) N N,.slice (some ⟨b2,0,none⟩) N N,.slice none 0 0,⟨blk,own,fun k hk=>?_,h0,h1,World.ownsRow_nil _ _ _ _,World.ownsRow_nil _ _ _ _,by rw [f1];exact o1,by rw [f2];exact o2,.inl rfl,.inl rfl,.inl rfl,.inl rfl,.inl rfl,.inr ?_,⟨so,c1,rfl,hx⟩,⟨sd,c2,rfl,hy⟩,fun p hp=>by cases hp⟩⟩
 ·have e:g=k:=by simpa [Value.ownBlock] using hk
  omega
 ·intro e
  simp [Value.ownBlock] at e
  exact ne e
def Sz (w:World) (b:Nat) (c0 c1 c2 c3 c4:Value):Prop:=w.heap[b]?=some (.cells #[c0,c1,c2,c3,c4] 24 (0,0))
def Rz (w:World) (b:Nat) (c0 c1 c2 c3 c4:Value):Prop:=w.heap[b]?=some (.cells #[c0,c1,c2,c3,c4] 36 (0,0))
theorem Sz.later {w w':World} {b:Nat} {c0 c1 c2 c3 c4:Value} {B:Nat} (h:Sz w b c0 c1 c2 c3 c4) (hb:Below B w w') (hB:b < B):Sz w' b c0 c1 c2 c3 c4:=(hb.block b hB).trans h
theorem Rz.later {w w':World} {b:Nat} {c0 c1 c2 c3 c4:Value} {B:Nat} (h:Rz w b c0 c1 c2 c3 c4) (hb:Below B w w') (hB:b < B):Rz w' b c0 c1 c2 c3 c4:=(hb.block b hB).trans h
abbrev nilS:Value:=.slice none 0 0
def RefRes (w:World) (E P:Int) (r:Option PSt) (e:Ending) (w':World):Prop:=Below w.heap.size w w'∧match r with
 | none=>e = .returned (.tuple #[emptyR,.int .i64 E,.int .i64 P])
 | some S=>∃ov hv rv,e = .returned (.tuple #[.agg #[ov,hv,.int .i64 S.steps,.int .i64 S.touched,rv],.int .i64 E,.int .i64 P])∧w'.ownsRow w.heap.size 3 1 ov S.opn.length (S.opn.map (Value.int .i64))∧w'.ownsRow w.heap.size 3 1 hv S.hid.length (S.hid.map (Value.int .i64))∧w'.ownsRow w.heap.size 61 2 rv S.trace.length (touchesCells S.trace)
def RefOut (w:World) (sw sh:Int) (xs ys:List Int) (src:ByteArray) (e:Ending) (w':World):Prop:=∃E P r,Ans sw sh xs ys src E P r∧RefRes w E P r e w'
theorem own_slice {w:World} {base e size n:Nat} {v:Value} {us:List Value} (h:w.ownsRow base e size v n us):∃ao c,v = .slice ao n c:=by
 rcases h.2 with ⟨rfl,h0⟩ | ⟨g,cap,cur,rfl,_⟩
 ·exact ⟨none,0,by rw [h0]⟩
 ·exact ⟨_,_,rfl⟩
theorem P3.any {E E':Env} {D:PD} {σ:St} {S:PSt} (h:P3 E D σ S):P3 E' D σ S:=⟨h.al,h.st,h.le,h.t0,h.tk,h.tt,h.tr,h.op,h.hi,h.lo,h.lh⟩
set_option maxHeartbeats 4000000 in
theorem refpaint_any (w:World) (sw sh:Int) (so sd:Option Addr) (c1 c2:Nat) (xs ys:List Int) (src:ByteArray) (hx:IntsAt w.heap.size w so xs) (hy:IntsAt w.heap.size w sd ys) (lx:xs.length≤maxLen) (ly:ys.length≤maxLen) :
  Calls Tryz.prog 9 #[scV sw sh so sd c1 c2 xs ys src] w (RefOut w sw sh xs ys src):=by
 unfold scV
 obtain ⟨w0,hw0⟩:∃w0,(w.alloc (.cells #[.int .i64 sw,.int .i64 sh,.slice so xs.length c1,.slice sd ys.length c2,.string src] 24)).alloc (.cells #[nilS,nilS,.int .i64 0,.int .i64 0,nilS] 36)=w0:=⟨_,rfl⟩
 have z0:w0.heap.size=w.heap.size+2:=by rw [←hw0];simp
 have b0:Below w.heap.size w w0:=by rw [←hw0];exact ((Below.refl _ w).alloc (Nat.le_refl _) _).alloc (by simp) _
 have s0:Sz w0 w.heap.size (.int .i64 sw) (.int .i64 sh) (.slice so xs.length c1) (.slice sd ys.length c2) (.string src):=by rw [←hw0];exact (Below.heap_alloc _ _ _ (by simp)).trans (heap_alloc_new w _)
 have r0:Rz w0 (w.heap.size+1) nilS nilS (.int .i64 0) (.int .i64 0) nilS:=by
  rw [←hw0]
  have:=heap_alloc_new (w.alloc (.cells #[.int .i64 sw,.int .i64 sh,.slice so xs.length c1,.slice sd ys.length c2,.string src] 24)) (.cells #[nilS,nilS,.int .i64 0,.int .i64 0,nilS] 36)
  rw [World.size_alloc] at this
  exact this
 have F:=hide (fits_any sw sh so sd c1 c2 xs ys (.string src) w0 ((hx.later b0 (Nat.le_refl _)).mono (by omega)) ((hy.later b0 (Nat.le_refl _)).mono (by omega)) lx ly)
 have B0:=hide b0
 have HX:=hide hx
 have HY:=hide hy
 have Z0:=hide z0
 have fin:∀(W:World) (E P:Int),Rz W (w.heap.size+1) nilS nilS (.int .i64 0) (.int .i64 0) nilS→Below w.heap.size w W→Ans sw sh xs ys src E P none→∀W',(((((W.setCell ⟨w.heap.size+1,0,none⟩ nilS).setCell ⟨w.heap.size+1,1,none⟩ nilS).setCell ⟨w.heap.size+1,2,none⟩ (.int .i64 0)).setCell ⟨w.heap.size+1,3,none⟩ (.int .i64 0)).setCell ⟨w.heap.size+1,4,none⟩ nilS)=W'→Rz W' (w.heap.size+1) nilS nilS (.int .i64 0) (.int .i64 0) nilS∧RefOut w sw sh xs ys src (.returned (.tuple #[emptyR,.int .i64 E,.int .i64 P])) W':=fun W E P hr hb ha W' hW'=>by
  have r':Rz W' (w.heap.size+1) nilS nilS (.int .i64 0) (.int .i64 0) nilS:=by rw [←hW'];exact set5 hr _ _ _ _ _
  refine ⟨r',E,P,none,ha,?_,rfl⟩
  rw [←hW']
  exact ((((hb.setCell (p:=⟨w.heap.size+1,0,none⟩) (by simp) _).setCell (p:=⟨w.heap.size+1,1,none⟩) (by simp) _).setCell (p:=⟨w.heap.size+1,2,none⟩) (by simp) _).setCell (p:=⟨w.heap.size+1,3,none⟩) (by simp) _).setCell (p:=⟨w.heap.size+1,4,none⟩) (by simp) _
 have FIN:=hide fin
 obtain ⟨⟨y0,y1,y2,y3,y4⟩,_⟩:=bk5 s0
 clear hx hy b0 z0 fin
 go_enter Tryz.func9,Tryz.ntmps9
 go_wp2_with fail
 clear hw0 y0 y1 y2 y3 y4
 refine (unhide F).mono ?_
 rintro e w1 ⟨rfl,b1⟩
 have z0:=unhide Z0
 have s1:=s0.later b1 (by omega)
 have r1:=r0.later b1 (by omega)
 have B1:Hid (Below w.heap.size w w1):=(unhide B0).trans (b1.mono (by omega))
 have Z1:Hid (w.heap.size+2≤w1.heap.size):=by show _≤_;have:=b1.size;omega
 clear F B0 b1 s0 r0 z0 Z0
 by_cases hs:shapeE sw sh xs ys=0
 ·rw [hs]
  obtain ⟨⟨y0,y1,y2,y3,y4⟩,_⟩:=bk5 s1
  go_wp2_with fail
  clear y0 y1 y2 y3 y4
  refine (refcheck_any src _).mono ?_
  rintro e w2 ⟨rfl,b2⟩
  rw [←read_doc]
  have z1:=unhide Z1
  have s2:=s1.later b2 (by omega)
  have r2:=r1.later b2 (by omega)
  have B2:Hid (Below w.heap.size w w2):=(unhide B1).trans (b2.mono (by omega))
  have Z2:Hid (w.heap.size+2≤w2.heap.size):=by show _≤_;have:=b2.size;omega
  clear B1 b2 s1 r1 z1 Z1
  by_cases hr:(readF src).1=0
  ·obtain ⟨ds,t,hT,hrd⟩:=tree_is hr
   rw [hrd]
   obtain ⟨hs3,l,p,jj,hl,hps,hW,hTl,hF3,hdl⟩:=tree_found hT
   have hsd:(sideB sw&&sideB sh)=true:=by
    unfold shapeE at hs
    split at hs
    ·assumption
    ·cases hs
   rw [Bool.and_eq_true] at hsd
   obtain ⟨a1,a2,a3,a4,a5,a6⟩:=side_mul hsd.1 hsd.2
   obtain ⟨W,rfl⟩:∃W:Nat,sw=(W:Int):=⟨sw.toNat,by omega⟩
   obtain ⟨H,rfl⟩:∃H:Nat,sh=(H:Int):=⟨sh.toNat,by omega⟩
   obtain ⟨N,hN⟩:∃N:Nat,(W:Int)*(H:Int)=(N:Int):=⟨W*H,by rw [Int.natCast_mul]⟩
   rw [hN] at a5 a6
   have TK:=hide (tokens_any src w2 hs3)
   have HL:=hide hl
   have HT:=hide hT
   have HPS:=hide hps
   have HW:=hide hW
   have HF3:=hide hF3
   have HS:=hide hs
   have HRD:=hide hrd
   obtain ⟨⟨y0,y1,y2,y3,y4⟩,_⟩:=bk5 s2
   clear hl hT hps hW hF3 hs hrd hr hsd
   go_wp2_with fail
   clear y0 y1 y2 y3 y4
   refine (unhide TK).mono ?_
   rintro e w3 ⟨ho,b3⟩
   unfold TokOut at ho
   rw [unhide HL] at ho
   obtain ⟨v,rfl,own⟩:=ho
   obtain ⟨T,eT⟩:∃T,l++[overTok p]=T:=⟨_,rfl⟩
   have hTl':T.length=l.length+1:=by rw [←eT];simp
   obtain ⟨g,cap,rfl⟩:=own_succ own
   rw [eT,←hTl'] at own
   rw [eT] at hTl HPS HW
   have z2:=unhide Z2
   have s3:=s2.later b3 (by omega)
   have r3:=r2.later b3 (by omega)
   have B3:Hid (Below w.heap.size w w3):=(unhide B2).trans (b3.mono (by omega))
   have Z3:Hid (w.heap.size+2≤w3.heap.size):=by show _≤_;have:=b3.size;omega
   clear B2 b3 s2 r2 z2 Z2 TK HL eT
   obtain ⟨⟨y0,y1,y2,y3,y4⟩,_⟩:=bk5 s3
   obtain ⟨w4,hw4⟩:∃w4,w3.alloc (.cells #[.slice (some ⟨g,0,none⟩) (l.length+1) cap,.int .i64 3,.int .i64 0,.int .i64 0,nilS,.int .i64 (W:Int),.int .i64 (H:Int),.slice so xs.length c1,.slice sd ys.length c2,.string src,nilS,nilS,.int .i64 0,.int .i64 0,nilS,.int .i64 0,.bool false] 59)=w4:=⟨_,rfl⟩
   have b4:Below w3.heap.size w3 w4:=by rw [←hw4];exact (Below.refl _ w3).alloc (Nat.le_refl _) _
   have k4:w4.heap[w3.heap.size]?=some (.cells #[.slice (some ⟨g,0,none⟩) (l.length+1) cap,.int .i64 3,.int .i64 0,.int .i64 0,nilS,.int .i64 (W:Int),.int .i64 (H:Int),.slice so xs.length c1,.slice sd ys.length c2,.string src,nilS,nilS,.int .i64 0,.int .i64 0,nilS,.int .i64 0,.bool false] 59 (0,0)):=by rw [←hw4];exact heap_alloc_new w3 _
   have z3:=unhide Z3
   have z4:w4.heap.size=w3.heap.size+1:=by rw [←hw4];simp
   obtain ⟨w5,hw5⟩:∃w5,w4.alloc (picO (List.replicate N 0))=w5:=⟨_,rfl⟩
   have z5:w5.heap.size=w3.heap.size+2:=by rw [←hw5];simp;omega
   have b5:Below w4.heap.size w4 w5:=by rw [←hw5];exact (Below.refl _ w4).alloc (Nat.le_refl _) _
   have p5:w5.heap[w4.heap.size]?=some (picO (List.replicate N 0)):=by rw [←hw5];exact heap_alloc_new w4 _
   have k5:=(b5.block w3.heap.size (by omega)).trans k4
   obtain ⟨w6,hw6⟩:∃w6,w5.setCell ⟨w3.heap.size,10,none⟩ (.slice (some ⟨w4.heap.size,0,none⟩) N N)=w6:=⟨_,rfl⟩
   have z6:w6.heap.size=w3.heap.size+2:=by rw [←hw6];simp;omega
   have k6:=heap_setCell_same w5 w3.heap.size 10 _ _ (.slice (some ⟨w4.heap.size,0,none⟩) N N) k5
   rw [hw6] at k6
   have oth6:∀k,k≠w3.heap.size→w6.heap[k]?=w5.heap[k]?:=fun k hk=>by rw [←hw6];exact Below.heap_setCell _ _ _ _ hk
   have p6:=(oth6 _ (by omega)).trans p5
   obtain ⟨w7,hw7⟩:∃w7,w6.alloc (picO (List.replicate N 0))=w7:=⟨_,rfl⟩
   have b7:Below w6.heap.size w6 w7:=by rw [←hw7];exact (Below.refl _ w6).alloc (Nat.le_refl _) _
   have q7:w7.heap[w6.heap.size]?=some (picO (List.replicate N 0)):=by rw [←hw7];exact heap_alloc_new w6 _
   have p7:=(b7.block w4.heap.size (by omega)).trans p6
   have k7:=(b7.block w3.heap.size (by omega)).trans k6
   obtain ⟨w8,hw8⟩:∃w8,w7.setCell ⟨w3.heap.size,11,none⟩ (.slice (some ⟨w6.heap.size,0,none⟩) N N)=w8:=⟨_,rfl⟩
   have z7:w7.heap.size=w3.heap.size+3:=by rw [←hw7];simp;omega
   have z8:w8.heap.size=w3.heap.size+3:=by rw [←hw8];simp;omega
   have k8:=heap_setCell_same w7 w3.heap.size 11 _ _ (.slice (some ⟨w6.heap.size,0,none⟩) N N) k7
   rw [hw8] at k8
   have oth8:∀k,k≠w3.heap.size→w8.heap[k]?=w7.heap[k]?:=fun k hk=>by rw [←hw8];exact Below.heap_setCell _ _ _ _ hk
   have p8:=(oth8 _ (by omega)).trans p7
   have q8:=(oth8 _ (by omega)).trans q7
   have b8:Below w3.heap.size w3 w8:=by
    rw [←hw8,←hw7,←hw6,←hw5]
    refine ((((b4.alloc (by omega) _).setCell (p:=⟨w3.heap.size,10,none⟩) (by simp) _).alloc ?_ _).setCell (p:=⟨w3.heap.size,11,none⟩) (by simp) _)
    simp
    omega
   have s4:=s3.later b4 (by omega)
   have b6:Below w3.heap.size w3 w6:=by
    rw [←hw6,←hw5]
    exact (b4.alloc (by omega) _).setCell (p:=⟨w3.heap.size,10,none⟩) (by simp) _
   have s6:=s3.later b6 (by omega)
   have s8:=s3.later b8 (by omega)
   have r8:=r3.later b8 (by omega)
   have B8:Hid (Below w.heap.size w w8):=(unhide B3).trans (b8.mono (by omega))
   have hgl:=(own.lt g rfl).2
   have hwk:Wk w8 w3.heap.size [] (env3 T W H xs ys src 0) (st3 N):=by
    refine wk_start (own_sameP (own_le own (Nat.zero_le _)) (fun k hk=>b8.block k (own.lt k hk).2)) hgl (by omega) (by omega) ?_ ?_ (by omega) (by omega) (by omega) (by omega) p8 q8 (by rw [hTl'];exact k8)
    ·exact ((unhide HX).later (unhide B8) (Nat.le_refl _)).mono (by omega)
    ·exact ((unhide HY).later (unhide B8) (Nat.le_refl _)).mono (by omega)
   have WK:=hide hwk
   have S8:=hide s8
   have R8:=hide r8
   obtain ⟨⟨x0,x1,x2,x3,x4⟩,_⟩:=bk5 s4
   obtain ⟨⟨u0,u1,u2,u3,u4⟩,_⟩:=bk5 s6
   obtain ⟨⟨v0,v1,v2,v3,v4⟩,_⟩:=bk5 s8
   have m4:=make_pic w4 N a6
   have m6:=make_pic w6 N a6
   rw [hw5] at m4
   rw [hw7] at m6
   have c5:w5.cell? ⟨w3.heap.size,10,none⟩=some nilS:=by simp [World.cell?,k5]
   have f5:w5.frozen? ⟨w3.heap.size,10,none⟩=false:=by simp [World.frozen?,k5]
   have c7:w7.cell? ⟨w3.heap.size,11,none⟩=some nilS:=by simp [World.cell?,k7]
   have f7:w7.frozen? ⟨w3.heap.size,11,none⟩=false:=by simp [World.frozen?,k7]
   have Z8:Hid (w.heap.size+2≤w3.heap.size∧w8.heap.size=w3.heap.size+3):=⟨z3,z8⟩
   clear z3 z4 z5 z6 z7 z8 k4 k5 k6 k7 k8 p5 p6 p7 p8 q7 q8 b4 b5 b6 b7 b8 s3 s4 s6 s8 r3 r8 own hwk oth6 oth8 hgl B3 Z3
   go_wp2
   clear hw4 hw5 hw6 hw7 hw8 m4 m6 c5 f5 c7 f7 x0 x1 x2 x3 x4 y0 y1 y2 y3 y4 u0 u1 u2 u3 u4 v0 v1 v2 v3 v4
   have hWH:W*H=N:=by
    have:((W*H:Nat):Int)=(N:Int):=by rw [Int.natCast_mul];exact hN
    omega
   have ANS:Hid (∀r,r=goP (pdOf W H xs ys) t (ptsOf W H) (startP N)→Ans W H xs ys src (if r.isSome then 0 else 12) 0 r):=fun r hr=>by
    refine .inr (.inr ⟨unhide HS,unhide HRD,rfl,ds,t,unhide HT,?_,rfl⟩)
    rw [Int.toNat_natCast,Int.toNat_natCast,hWH]
    exact hr
   have PT:Hid (∀(q:Nat) (σ:St) (S:PSt),q < N→P3 (env3 T W H xs ys src q) (pdOf W H xs ys) σ S→∃σ',sourceM 1000 (env3 T W H xs ys src q) σ=some σ'∧OkS σ'∧(((ptOne (pdOf W H xs ys) t S (((q % W:Nat):Int),((q / W:Nat):Int))).steps≤20000∧P3 (env3 T W H xs ys src q) (pdOf W H xs ys) σ' (ptOne (pdOf W H xs ys) t S (((q % W:Nat):Int),((q / W:Nat):Int))))∨(20000 < (ptOne (pdOf W H xs ys) t S (((q % W:Nat):Int),((q / W:Nat):Int))).steps∧σ'.dead=true))):=fun q σ S hq hP=>by
    have hE:E3 (env3 T W H xs ys src q) (pdOf W H xs ys):=e3_of rfl rfl rfl rfl rfl (unhide HS) (by show (0:Int)≤(q:Int);omega) (by show (q:Int) < (W:Int)*(H:Int);omega)
    have hTW:=unhide HW
    exact source3 hE ⟨hTW.last,hTW.nums⟩ hTW (by show T.length≤900;omega) 999 (unhide HPS) hdl (unhide HF3) hP
   have GS:Hid (∀(q:Nat) (S:PSt),q < N→goP (pdOf W H xs ys) t ((ptsOf W H).take q) (startP N)=some S→goP (pdOf W H xs ys) t ((ptsOf W H).take (q+1)) (startP N)=if 20000 < (ptOne (pdOf W H xs ys) t S (((q % W:Nat):Int),((q / W:Nat):Int))).steps then none else some (ptOne (pdOf W H xs ys) t S (((q % W:Nat):Int),((q / W:Nat):Int)))):=fun q S hq hg=>by
    rw [take_next (by omega) (by omega) (by omega)]
    exact goP_snoc _ _ _ _ _ _ hg
   have st0:P3 (env3 T W H xs ys src 0) (pdOf W H xs ys) (st3 N) (startP N):=p3_start (by show (N:Int)=(W:Int)*(H:Int);omega)
   have OK0:OkS (st3 N):=⟨by show 0≤1000;omega,by show (0:Int)≤0;decide,by show (0:Int)≤0;decide,by show (0:Int)≤_;decide⟩
   clear HT HF3 HS HRD HW HPS
   go_loopw [11] (fun i wr=>∃(q:Nat) (pp:Int) (σ:St) (S:PSt),q≤N∧i = .int .i64 (q:Int)∧Wk wr w3.heap.size [] (env3 T W H xs ys src pp) σ∧OkS σ∧P3 (env3 T W H xs ys src 0) (pdOf W H xs ys) σ S∧goP (pdOf W H xs ys) t ((ptsOf W H).take q) (startP N)=some S∧Below w3.heap.size w8 wr) (fun i _=>N-(intOf i).toNat)
   case atStart=>exact ⟨0,0,st3 N,startP N,Nat.zero_le _,rfl,unhide WK,OK0,st0,rfl,Below.refl _ _⟩
   case round=>
    clear st0 OK0 WK
    obtain ⟨q,pp,σ,S,hq,rfl,hwk,hok,hP,hg,hnx⟩:=hrel
    obtain ⟨z1,z2⟩:=unhide Z8
    have sr:=(unhide S8).later hnx (by omega)
    have rr:=(unhide R8).later hnx (by omega)
    have Bn:Hid (Below w.heap.size w wr):=(unhide B8).trans (hnx.mono (by omega))
    obtain ⟨⟨v0,v1,v2,v3,v4⟩,_⟩:=bk5 sr
    obtain ⟨tv,lv,sv,dv,ov,hv,rv,hc⟩:=hwk
    by_cases hlt:q < N
    ·have hlt':(q:Int) < (N:Int):=by omega
     have c15:=hc.cell 15
     have f15:=hc.thaw 15
     simp at c15
     obtain ⟨w9,hw9⟩:∃w9,wr.setCell ⟨w3.heap.size,15,none⟩ (.int .i64 (q:Int))=w9:=⟨_,rfl⟩
     have h9:Wk w9 w3.heap.size [] (env3 T W H xs ys src q) σ:=by rw [←hw9];exact ⟨_,_,_,_,_,_,_,hc.point (q:Int)⟩
     have b9:Below w3.heap.size w8 w9:=by rw [←hw9];exact hnx.setCell (p:=⟨w3.heap.size,15,none⟩) (by simp) _
     obtain ⟨σ',e1,e2,e3⟩:=unhide PT q σ S hlt hP.any
     have SR:=hide (source_hi 1000 w9 w3.heap.size [] (env3 T W H xs ys src q) σ σ' h9 hok rfl ⟨by show (1:Int)≤(W:Int);omega,by show (W:Int)≤6;omega⟩ ⟨by show (0:Int)≤(q:Int);omega,by show (q:Int) < 1000;omega⟩ e1)
     have B9:=hide b9
     have E3':=hide e3
     have G:=hide (unhide GS q S hlt hg)
     clear hc h9 b9 e1 e3 hP hg hnx sr rr Bn
     go_wp2_with fail
     clear hw9 c15 f15 v0 v1 v2 v3 v4
     refine (unhide SR).mono ?_
     rintro e w10 ⟨rfl,h10,b10⟩
     have bb:=(unhide B9).trans b10
     obtain ⟨tv',lv',sv',dv',ov',hv',rv',hc'⟩:=h10
     have c16:=hc'.cell 16
     simp at c16
     have r10:=(unhide R8).later bb (by omega)
     have B10:Hid (Below w.heap.size w w10):=(unhide B8).trans (bb.mono (by omega))
     rcases unhide E3' with ⟨g1,g2⟩ | ⟨g1,g2⟩
     ·have g3:=g2.al
      rw [g3] at c16
      have gg:=unhide G
      rw [if_neg (by omega)] at gg
      have NX:Hid (∃(q':Nat) (pp':Int) (σ2:St) (S2:PSt),q'≤N∧Value.int .i64 ((q:Int)+1) = .int .i64 (q':Int)∧Wk w10 w3.heap.size [] (env3 T W H xs ys src pp') σ2∧OkS σ2∧P3 (env3 T W H xs ys src 0) (pdOf W H xs ys) σ2 S2∧goP (pdOf W H xs ys) t ((ptsOf W H).take q') (startP N)=some S2∧Below w3.heap.size w8 w10):=
       ⟨q+1,(q:Int),σ',_,by omega,by rw [Int.natCast_add];rfl,⟨_,_,_,_,_,_,_,hc'⟩,e2,g2.any,gg,bb⟩
      clear hc' r10 B10 bb b10 g1 g2 g3 gg E3' G SR B9 e2
      go_wp2
      go_roundw
      case rel=>exact unhide NX
      case measure=>simp [intOf];omega
     ·rw [g2] at c16
      have gg:=unhide G
      rw [if_pos g1] at gg
      have gn:goP (pdOf W H xs ys) t (ptsOf W H) (startP N)=none:=by
       rw [pts_split W H (q+1)]
       exact goP_err _ _ _ _ _ gg
      obtain ⟨w11,hw11⟩:∃w11,(((((w10.setCell ⟨w.heap.size+1,0,none⟩ nilS).setCell ⟨w.heap.size+1,1,none⟩ nilS).setCell ⟨w.heap.size+1,2,none⟩ (.int .i64 0)).setCell ⟨w.heap.size+1,3,none⟩ (.int .i64 0)).setCell ⟨w.heap.size+1,4,none⟩ nilS)=w11:=⟨_,rfl⟩
      obtain ⟨r11,O⟩:=unhide FIN w10 12 0 r10 (unhide B10) (unhide ANS none gn.symm) w11 hw11
      obtain ⟨_,k0,k1,k2,k3,k4⟩:=bk5 r10
      obtain ⟨⟨x0,x1,x2,x3,x4⟩,_⟩:=bk5 r11
      have O':=hide O
      clear O r10 r11 FIN hc' bb b10 g1 g2 gg gn E3' G SR B9 B10 e2 PT GS ANS
      go_wp2
      refine bodyPost_ret (v:=.tuple #[emptyR,.int .i64 12,.int .i64 0]) (by simp [results,emptyR,Tryz.results9,go_sem,x0,x1,x2,x3,x4]) rfl ?_
      exact unhide O'
    ·have hge:decide ((q:Int) < (N:Int))=false:=by simp;omega
     have qN:q=N:=by omega
     have gn:goP (pdOf W H xs ys) t (ptsOf W H) (startP N)=some S:=by
      rw [qN,List.take_of_length_le (by rw [ptsOf_len,hWH];exact Nat.le_refl _)] at hg
      exact hg
     obtain ⟨oa,oc,rfl⟩:=own_slice hc.rowO
     obtain ⟨ha,hcp,rfl⟩:=own_slice hc.rowH
     obtain ⟨ra,rc,rfl⟩:=own_slice hc.rowR
     have c10:=hc.cell 10
     have c11:=hc.cell 11
     have c12:=hc.cell 12
     have c13:=hc.cell 13
     have c14:=hc.cell 14
     simp at c10 c11 c12 c13 c14
     rw [hP.st] at c12
     rw [hP.tt] at c13
     obtain ⟨w11,hw11⟩:∃w11,(((((wr.setCell ⟨w.heap.size+1,0,none⟩ (.slice oa σ.opn.length oc)).setCell ⟨w.heap.size+1,1,none⟩ (.slice ha σ.hid.length hcp)).setCell ⟨w.heap.size+1,2,none⟩ (.int .i64 S.steps)).setCell ⟨w.heap.size+1,3,none⟩ (.int .i64 S.touched)).setCell ⟨w.heap.size+1,4,none⟩ (.slice ra σ.trace.length rc))=w11:=⟨_,rfl⟩
     have r11:Rz w11 (w.heap.size+1) (.slice oa σ.opn.length oc) (.slice ha σ.hid.length hcp) (.int .i64 S.steps) (.int .i64 S.touched) (.slice ra σ.trace.length rc):=by rw [←hw11];exact set5 rr _ _ _ _ _
     have keep:∀(e size n:Nat) (x:Value) (us:List Value),wr.ownsRow (w3.heap.size+1) e size x n us→w11.ownsRow w.heap.size e size x n us:=fun e size n x us h=>by
      rw [←hw11]
      have lt:w.heap.size+1 < w3.heap.size+1:=by omega
      exact own_le (ownsRow_setCell_below (ownsRow_setCell_below (ownsRow_setCell_below (ownsRow_setCell_below (ownsRow_setCell_below h (a:=⟨w.heap.size+1,0,none⟩) lt (.slice oa σ.opn.length oc)) (a:=⟨w.heap.size+1,1,none⟩) lt (.slice ha σ.hid.length hcp)) (a:=⟨w.heap.size+1,2,none⟩) lt (.int .i64 S.steps)) (a:=⟨w.heap.size+1,3,none⟩) lt (.int .i64 S.touched)) (a:=⟨w.heap.size+1,4,none⟩) lt (.slice ra σ.trace.length rc)) (by omega)
     have o1:=keep _ _ _ _ _ hc.rowO
     have o2:=keep _ _ _ _ _ hc.rowH
     have o3:=keep _ _ _ _ _ hc.rowR
     rw [hP.op] at o1
     rw [hP.hi] at o2
     rw [hP.tr] at o3
     have bw:Below w.heap.size w w11:=by
      rw [←hw11]
      exact (((((unhide Bn).setCell (p:=⟨w.heap.size+1,0,none⟩) (by simp) _).setCell (p:=⟨w.heap.size+1,1,none⟩) (by simp) _).setCell (p:=⟨w.heap.size+1,2,none⟩) (by simp) _).setCell (p:=⟨w.heap.size+1,3,none⟩) (by simp) _).setCell (p:=⟨w.heap.size+1,4,none⟩) (by simp) _
     have O:Hid (RefOut w W H xs ys src (.returned (.tuple #[.agg #[(.slice oa σ.opn.length oc),(.slice ha σ.hid.length hcp),.int .i64 S.steps,.int .i64 S.touched,(.slice ra σ.trace.length rc)],.int .i64 0,.int .i64 0])) w11):=by
      show RefOut w W H xs ys src _ w11
      rw [hP.op,hP.hi,hP.tr]
      exact ⟨0,0,some S,unhide ANS (some S) gn.symm,bw,_,_,_,rfl,o1,o2,o3⟩
     obtain ⟨_,k0,k1,k2,k3,k4⟩:=bk5 rr
     obtain ⟨⟨x0,x1,x2,x3,x4⟩,_⟩:=bk5 r11
     clear hc hP hg gn o1 o2 o3 bw keep r11 rr sr hnx Bn PT GS ANS FIN
     go_wp2
     refine bodyPost_ret (v:=.tuple #[.agg #[(.slice oa σ.opn.length oc),(.slice ha σ.hid.length hcp),.int .i64 S.steps,.int .i64 S.touched,(.slice ra σ.trace.length rc)],.int .i64 0,.int .i64 0]) (by simp [results,Tryz.results9,go_sem,x0,x1,x2,x3,x4]) rfl ?_
     exact unhide O
  ·obtain ⟨w3,hw3⟩:∃w3,(((((w2.setCell ⟨w.heap.size+1,0,none⟩ nilS).setCell ⟨w.heap.size+1,1,none⟩ nilS).setCell ⟨w.heap.size+1,2,none⟩ (.int .i64 0)).setCell ⟨w.heap.size+1,3,none⟩ (.int .i64 0)).setCell ⟨w.heap.size+1,4,none⟩ nilS)=w3:=⟨_,rfl⟩
   obtain ⟨r3,O⟩:=unhide FIN w2 _ _ r2 (unhide B2) (.inr (.inl ⟨hs,hr,rfl,rfl,rfl⟩)) w3 hw3
   obtain ⟨_,f0,f1,f2,f3,f4⟩:=bk5 r2
   obtain ⟨⟨x0,x1,x2,x3,x4⟩,_⟩:=bk5 r3
   have O':=hide O
   have hr':((readF src).1 != 0)=true:=by simp [hr]
   clear O r2 r3 s2 FIN
   go_wp2
   refine bodyPost_ret (v:=.tuple #[emptyR,.int .i64 (readF src).1,.int .i64 (readF src).2]) (by simp [results,emptyR,Tryz.results9,go_sem,x0,x1,x2,x3,x4]) rfl ?_
   exact unhide O'
 ·obtain ⟨w3,hw3⟩:∃w3,(((((w1.setCell ⟨w.heap.size+1,0,none⟩ nilS).setCell ⟨w.heap.size+1,1,none⟩ nilS).setCell ⟨w.heap.size+1,2,none⟩ (.int .i64 0)).setCell ⟨w.heap.size+1,3,none⟩ (.int .i64 0)).setCell ⟨w.heap.size+1,4,none⟩ nilS)=w3:=⟨_,rfl⟩
  obtain ⟨r3,O⟩:=unhide FIN w1 _ _ r1 (unhide B1) (.inl ⟨hs,rfl,rfl,rfl⟩) w3 hw3
  obtain ⟨_,f0,f1,f2,f3,f4⟩:=bk5 r1
  obtain ⟨⟨x0,x1,x2,x3,x4⟩,_⟩:=bk5 r3
  have O':=hide O
  have hs':(shapeE sw sh xs ys != 0)=true:=by simp [hs]
  clear O r1 r3 s1 FIN
  go_wp2
  refine bodyPost_ret (v:=.tuple #[emptyR,.int .i64 (shapeE sw sh xs ys),.int .i64 0]) (by simp [results,emptyR,Tryz.results9,go_sem,x0,x1,x2,x3,x4]) rfl ?_
  exact unhide O'
def TchAt (B:Nat) (w:World) (ao:Option Addr) (l:List (Int×Int)):Prop:=
 l=[]∨∃g,ao=some ⟨g,0,none⟩∧g < B∧∀j,j < l.length→w.cell? ⟨g,j*2,none⟩=some (.int .i64 (l.getD j (0,0)).1)∧w.cell? ⟨g,j*2+1,none⟩=some (.int .i64 (l.getD j (0,0)).2)
theorem TchAt.later {B B':Nat} {w w':World} {ao:Option Addr} {l:List (Int×Int)} (h:TchAt B w ao l) (hb:Below B' w w') (hB:B≤B'):TchAt B w' ao l:=by
 rcases h with h | ⟨g,h1,h2,h3⟩
 ·exact .inl h
 ·exact .inr ⟨g,h1,h2,fun j hj=>⟨(hb.cell (p:=⟨g,j*2,none⟩) (by show g < B';omega)).trans (h3 j hj).1,(hb.cell (p:=⟨g,j*2+1,none⟩) (by show g < B';omega)).trans (h3 j hj).2⟩⟩
theorem TchAt.mono {B B':Nat} {w:World} {ao:Option Addr} {l:List (Int×Int)} (h:TchAt B w ao l) (hB:B≤B'):TchAt B' w ao l:=by
 rcases h with h | ⟨g,h1,h2,h3⟩
 ·exact .inl h
 ·exact .inr ⟨g,h1,by omega,h3⟩
theorem tchs_at:∀(l:List (Int×Int)) (j:Nat),j < l.length→(tchsC l)[j*2]?=some (.int .i64 (l.getD j (0,0)).1)∧(tchsC l)[j*2+1]?=some (.int .i64 (l.getD j (0,0)).2)
 | [],j,h=>by simp at h
 | (a,b)::l,0,_=>⟨rfl,rfl⟩
 | (a,b)::l,j+1,h=>by
  have:=tchs_at l j (by simpa using h)
  have e:tchsC ((a,b)::l) = .int .i64 a :: .int .i64 b::tchsC l:=rfl
  rw [e,show (j+1)*2=j*2+1+1 by omega,show j*2+1+1+1=(j*2+1)+1+1 by omega]
  simpa using this
theorem ints_own {w:World} {base e n:Nat} {v:Value} {xs:List Int} (h:w.ownsRow base e 1 v n (xs.map (Value.int .i64))) (hn:n=xs.length):∃ao c,v = .slice ao xs.length c∧IntsAt w.heap.size w ao xs∧xs.length≤maxLen:=by
 subst hn
 rcases h.2 with ⟨h1,h0⟩ | ⟨g,cap,cur,hv,_,_,k1,k2,_⟩
 ·exact ⟨none,0,by rw [h1,h0],.inl (List.eq_nil_of_length_eq_zero h0),by rw [h0];exact Nat.zero_le _⟩
 ·subst hv
  refine ⟨_,_,rfl,.inr ⟨g,0,rfl,(h.lt g rfl).2,fun j hj=>?_⟩,by omega⟩
  have:=h.cellAt j (by omega)
  rw [Nat.zero_add]
  refine this.trans ?_
  simp [List.getElem?_map,List.getElem?_eq_getElem hj,List.getD]
theorem tchs_own {w:World} {base e n:Nat} {v:Value} {l:List (Int×Int)} (h:w.ownsRow base e 2 v n (tchsC l)) (hn:n=l.length):∃ao c,v = .slice ao l.length c∧TchAt w.heap.size w ao l∧l.length≤maxLen:=by
 subst hn
 rcases h.2 with ⟨h1,h0⟩ | ⟨g,cap,cur,hv,_,_,k1,k2,_⟩
 ·exact ⟨none,0,by rw [h1,h0],.inl (List.eq_nil_of_length_eq_zero h0),by rw [h0];exact Nat.zero_le _⟩
 ·subst hv
  refine ⟨_,_,rfl,.inr ⟨g,rfl,(h.lt g rfl).2,fun j hj=>?_⟩,by omega⟩
  obtain ⟨t1,t2⟩:=tchs_at l j hj
  exact ⟨(h.cellAt _ (by omega)).trans t1,(h.cellAt _ (by omega)).trans t2⟩
set_option maxHeartbeats 1000000 in
theorem same_ints (ao bo:Option Addr) (c d:Nat) (xs:List Int) (w:World) (hx:IntsAt w.heap.size w ao xs) (hy:IntsAt w.heap.size w bo xs) (hm:xs.length≤maxLen) :
  Calls Tryz.prog 26 #[.slice ao xs.length c,.slice bo xs.length d] w fun e w'=>e = .returned (.bool true)∧Below w.heap.size w w':=by
 have hl:xs.length≤9223372036854775807:=by unfold maxLen at hm;omega
 clear hm
 go_enter Tryz.func26,Tryz.ntmps26
 go_wp2
 go_loopw [5] (fun i wr=>∃k:Nat,k≤xs.length∧i = .int .i64 k∧Below w.heap.size w wr) (fun i _=>xs.length-(intOf i).toNat)
 case atStart=>exact ⟨0,Nat.zero_le _,rfl,Below.refl _ _⟩
 case round=>
  obtain ⟨k,hk,rfl,hnx⟩:=hrel
  by_cases hlt:k < xs.length
  ·rcases hx with hx | ⟨b1,off1,rfl,hb1,hc1⟩
   ·simp [hx] at hlt
   rcases hy with hy | ⟨b2,off2,rfl,hb2,hc2⟩
   ·simp [hy] at hlt
   have x1:=(hnx.cell (p:=⟨b1,off1+k,none⟩) hb1).trans (hc1 k hlt)
   have x2:=(hnx.cell (p:=⟨b2,off2+k,none⟩) hb2).trans (hc2 k hlt)
   clear hc1 hc2
   generalize xs.getD k 0=v at x1 x2
   have hi:(k:Int) < (xs.length:Int):=by omega
   have R:=hide hnx.drew
   clear hnx
   go_wp2
   go_region
   all_goals (try go_wp2)
   all_goals
    go_roundw
    case rel=>exact ⟨k+1,by omega,by go_num,unhide R⟩
    case measure=>simp [intOf];omega
  ·go_wp2
   go_ret
   exact ⟨rfl,hnx⟩
theorem Rz.new (w:World) (c0 c1 c2 c3 c4:Value):Rz (w.alloc (.cells #[c0,c1,c2,c3,c4] 36)) w.heap.size c0 c1 c2 c3 c4:=heap_alloc_new w _
theorem Sz.new (w:World) (c0 c1 c2 c3 c4:Value):Sz (w.alloc (.cells #[c0,c1,c2,c3,c4] 24)) w.heap.size c0 c1 c2 c3 c4:=heap_alloc_new w _
set_option maxHeartbeats 2000000 in
theorem same_result (ao bo to ao' bo' to':Option Addr) (c d f c' d' f':Nat) (xs ys:List Int) (st tt:Int) (l:List (Int×Int)) (w:World)
  (hx:IntsAt w.heap.size w ao xs) (hy:IntsAt w.heap.size w bo ys) (ht:TchAt w.heap.size w to l) (hx':IntsAt w.heap.size w ao' xs) (hy':IntsAt w.heap.size w bo' ys) (ht':TchAt w.heap.size w to' l) (lx:xs.length≤maxLen) (ly:ys.length≤maxLen) (hm:l.length≤maxLen) :
  Calls Tryz.prog 10 #[.agg #[.slice ao xs.length c,.slice bo ys.length d,.int .i64 st,.int .i64 tt,.slice to l.length f],.agg #[.slice ao' xs.length c',.slice bo' ys.length d',.int .i64 st,.int .i64 tt,.slice to' l.length f']] w fun e w'=>e = .returned (.bool true)∧Below w.heap.size w w':=by
 have hl:l.length≤9223372036854775807:=by unfold maxLen at hm;omega
 clear hm
 obtain ⟨w1,hw1⟩:∃w1,(w.alloc (.cells #[.slice ao xs.length c,.slice bo ys.length d,.int .i64 st,.int .i64 tt,.slice to l.length f] 36)).alloc (.cells #[.slice ao' xs.length c',.slice bo' ys.length d',.int .i64 st,.int .i64 tt,.slice to' l.length f'] 36)=w1:=⟨_,rfl⟩
 have z1:w1.heap.size=w.heap.size+2:=by rw [←hw1];simp
 have b1:Below w.heap.size w w1:=by rw [←hw1];exact ((Below.refl _ w).alloc (Nat.le_refl _) _).alloc (by simp) _
 have r1:Rz w1 w.heap.size (.slice ao xs.length c) (.slice bo ys.length d) (.int .i64 st) (.int .i64 tt) (.slice to l.length f):=by rw [←hw1];exact (Below.heap_alloc _ _ _ (by simp)).trans (heap_alloc_new w _)
 have s1:Rz w1 (w.heap.size+1) (.slice ao' xs.length c') (.slice bo' ys.length d') (.int .i64 st) (.int .i64 tt) (.slice to' l.length f'):=by
  rw [←hw1]
  have:=Rz.new (w.alloc (.cells #[.slice ao xs.length c,.slice bo ys.length d,.int .i64 st,.int .i64 tt,.slice to l.length f] 36)) (.slice ao' xs.length c') (.slice bo' ys.length d') (.int .i64 st) (.int .i64 tt) (.slice to' l.length f')
  rw [World.size_alloc] at this
  exact this
 obtain ⟨⟨x0,x1,x2,x3,x4⟩,_⟩:=bk5 r1
 obtain ⟨⟨y0,y1,y2,y3,y4⟩,_⟩:=bk5 s1
 have S1:=hide (same_ints ao ao' c c' xs w1 ((hx.later b1 (Nat.le_refl _)).mono b1.size) ((hx'.later b1 (Nat.le_refl _)).mono b1.size) lx)
 have S2:=hide (fun w2 (b2:Below w.heap.size w w2)=>same_ints bo bo' d d' ys w2 ((hy.later b2 (Nat.le_refl _)).mono b2.size) ((hy'.later b2 (Nat.le_refl _)).mono b2.size) ly)
 have HT:Hid (∀w2,Below w.heap.size w w2→TchAt w.heap.size w2 to l∧TchAt w.heap.size w2 to' l):=fun w2 b2=>⟨ht.later b2 (Nat.le_refl _),ht'.later b2 (Nat.le_refl _)⟩
 have B1:=hide b1
 have R1:Hid (Rz w1 w.heap.size _ _ _ _ _∧Rz w1 (w.heap.size+1) _ _ _ _ _):=⟨r1,s1⟩
 have Z1:=hide z1
 clear b1 r1 s1 z1 hx hy ht hx' hy' ht' lx ly
 go_enter Tryz.func10,Tryz.ntmps10
 go_wp2_with fail
 clear hw1 x0 x1 x2 x3 x4 y0 y1 y2 y3 y4
 refine (unhide S1).mono ?_
 rintro e w2 ⟨rfl,b2⟩
 have z1:=unhide Z1
 have r2:=(unhide R1).1.later b2 (by omega)
 have s2:=(unhide R1).2.later b2 (by omega)
 have B2:=hide ((unhide B1).trans (b2.mono (by omega)))
 have e2:=b2.size
 obtain ⟨⟨x0,x1,x2,x3,x4⟩,_⟩:=bk5 r2
 obtain ⟨⟨y0,y1,y2,y3,y4⟩,_⟩:=bk5 s2
 have R2:Hid ((Rz w2 w.heap.size _ _ _ _ _∧Rz w2 (w.heap.size+1) _ _ _ _ _)∧w.heap.size+2≤w2.heap.size):=⟨⟨r2,s2⟩,by omega⟩
 clear S1 z1 r2 s2 b2 e2 B1 R1 Z1
 go_wp2_with fail
 clear x0 x1 x2 x3 x4 y0 y1 y2 y3 y4
 refine (unhide S2 w2 (unhide B2)).mono ?_
 rintro e w3 ⟨rfl,b3⟩
 have r3:=(unhide R2).1.1.later b3 (by have:=(unhide R2).2;omega)
 have s3:=(unhide R2).1.2.later b3 (by have:=(unhide R2).2;omega)
 have B3:=hide ((unhide B2).trans (b3.mono (by have:=(unhide R2).2;omega)))
 have e3:=b3.size
 have HT3:=hide (unhide HT w3 (unhide B3))
 obtain ⟨⟨x0,x1,x2,x3,x4⟩,_⟩:=bk5 r3
 obtain ⟨⟨y0,y1,y2,y3,y4⟩,_⟩:=bk5 s3
 have R3:Hid ((Rz w3 w.heap.size _ _ _ _ _∧Rz w3 (w.heap.size+1) _ _ _ _ _)∧w.heap.size+2≤w3.heap.size):=⟨⟨r3,s3⟩,by have:=(unhide R2).2;omega⟩
 clear S2 r3 s3 b3 e3 B2 R2 HT
 go_wp2
 clear x0 x1 x2 x3 x4 y0 y1 y2 y3 y4
 go_loopw [7] (fun i wr=>∃k:Nat,k≤l.length∧i = .int .i64 k∧Below w3.heap.size w3 wr) (fun i _=>l.length-(intOf i).toNat)
 case atStart=>exact ⟨0,Nat.zero_le _,rfl,Below.refl _ _⟩
 case round=>
  obtain ⟨k,hk,rfl,hnx⟩:=hrel
  have z3:=(unhide R3).2
  obtain ⟨⟨_,_,_,_,x4⟩,_⟩:=bk5 ((unhide R3).1.1.later hnx (by omega))
  obtain ⟨⟨_,_,_,_,y4⟩,_⟩:=bk5 ((unhide R3).1.2.later hnx (by omega))
  by_cases hlt:k < l.length
  ·obtain ⟨ht,ht'⟩:=unhide HT3
   rcases ht with hx | ⟨g1,rfl,hb1,hc1⟩
   ·simp [hx] at hlt
   rcases ht' with hy | ⟨g2,rfl,hb2,hc2⟩
   ·simp [hy] at hlt
   have u1:=(hnx.cell (p:=⟨g1,k*2,none⟩) (by show g1 < w3.heap.size;omega)).trans (hc1 k hlt).1
   have u2:=(hnx.cell (p:=⟨g1,k*2+1,none⟩) (by show g1 < w3.heap.size;omega)).trans (hc1 k hlt).2
   have u3:=(hnx.cell (p:=⟨g2,k*2,none⟩) (by show g2 < w3.heap.size;omega)).trans (hc2 k hlt).1
   have u4:=(hnx.cell (p:=⟨g2,k*2+1,none⟩) (by show g2 < w3.heap.size;omega)).trans (hc2 k hlt).2
   clear hc1 hc2
   generalize (l.getD k (0,0)).1=v1 at u1 u3
   generalize (l.getD k (0,0)).2=v2 at u2 u4
   have hi:(k:Int) < (l.length:Int):=by omega
   have R:=hide hnx.drew
   clear hnx z3 R3 B3 HT3
   go_wp2
   go_region
   all_goals (try go_wp2)
   all_goals
    go_roundw
    case rel=>exact ⟨k+1,by omega,by go_num,unhide R⟩
    case measure=>simp [intOf];omega
  ·go_wp2
   go_ret
   exact ⟨rfl,(unhide B3).trans (hnx.mono (by omega))⟩
theorem below_al (w:World) (o:Obj):Below w.heap.size w (w.alloc o):=(Below.refl _ w).alloc (Nat.le_refl _) o
def rOp:Option PSt→List Int | none=>[] | some S=>S.opn
def rHi:Option PSt→List Int | none=>[] | some S=>S.hid
def rSt:Option PSt→Int | none=>0 | some S=>S.steps
def rTt:Option PSt→Int | none=>0 | some S=>S.touched
def rTr:Option PSt→List (Int×Int) | none=>[] | some S=>S.trace
theorem PntRes.shape {w:World} {E P:Int} {r:Option PSt} {e:Ending} {w':World} (h:PntRes w E P r e w'):∃ao c bo d to f,e = .returned (.tuple #[.agg #[.slice ao (rOp r).length c,.slice bo (rHi r).length d,.int .i64 (rSt r),.int .i64 (rTt r),.slice to (rTr r).length f],.int .i64 E,.int .i64 P])∧IntsAt w'.heap.size w' ao (rOp r)∧IntsAt w'.heap.size w' bo (rHi r)∧TchAt w'.heap.size w' to (rTr r)∧Below w.heap.size w w':=by
 cases r with
 | none=>exact ⟨none,0,none,0,none,0,h.2,.inl rfl,.inl rfl,.inl rfl,h.1⟩
 | some S=>
  obtain ⟨hb,ob,hb',rv,he,ho,hh,hr,_⟩:=h
  have i1:IntsAt w'.heap.size w' (some ⟨ob,0,none⟩) S.opn:=by
   refine .inr ⟨ob,0,rfl,(Array.getElem?_eq_some_iff.1 ho).1,fun j hj=>?_⟩
   rw [Nat.zero_add];exact (pic_cell ho hj).1
  have i2:IntsAt w'.heap.size w' (some ⟨hb',0,none⟩) S.hid:=by
   refine .inr ⟨hb',0,rfl,(Array.getElem?_eq_some_iff.1 hh).1,fun j hj=>?_⟩
   rw [Nat.zero_add];exact (pic_cell hh hj).1
  obtain ⟨to,f,rfl,i3,_⟩:=tchs_own hr rfl
  exact ⟨_,_,_,_,to,f,he,i1,i2,i3,hb⟩
theorem RefRes.shape {w:World} {E P:Int} {r:Option PSt} {e:Ending} {w':World} (h:RefRes w E P r e w'):∃ao c bo d to f,e = .returned (.tuple #[.agg #[.slice ao (rOp r).length c,.slice bo (rHi r).length d,.int .i64 (rSt r),.int .i64 (rTt r),.slice to (rTr r).length f],.int .i64 E,.int .i64 P])∧IntsAt w'.heap.size w' ao (rOp r)∧IntsAt w'.heap.size w' bo (rHi r)∧TchAt w'.heap.size w' to (rTr r)∧(rOp r).length≤maxLen∧(rHi r).length≤maxLen∧(rTr r).length≤maxLen∧Below w.heap.size w w':=by
 cases r with
 | none=>exact ⟨none,0,none,0,none,0,h.2,.inl rfl,.inl rfl,.inl rfl,Nat.zero_le _,Nat.zero_le _,Nat.zero_le _,h.1⟩
 | some S=>
  obtain ⟨hb,ov,hv,rv,he,ho,hh,hr⟩:=h
  obtain ⟨ao,c,rfl,i1,l1⟩:=ints_own ho rfl
  obtain ⟨bo,d,rfl,i2,l2⟩:=ints_own hh rfl
  obtain ⟨to,f,rfl,i3,l3⟩:=tchs_own hr rfl
  exact ⟨ao,c,bo,d,to,f,he,i1,i2,i3,l1,l2,l3,hb⟩
set_option maxHeartbeats 2000000 in
theorem paints_one (w:World) (sw sh:Int) (so sd:Option Addr) (c1 c2:Nat) (xs ys:List Int) (src:ByteArray) (hx:IntsAt w.heap.size w so xs) (hy:IntsAt w.heap.size w sd ys) (lx:xs.length≤maxLen) (ly:ys.length≤maxLen) (ls:src.size≤maxLen) :
  Calls Tryz.prog 5 #[scV sw sh so sd c1 c2 xs ys src] w fun e w'=>e = .returned (.bool true)∧Below w.heap.size w w':=by
 unfold scV
 obtain ⟨w1,hw1⟩:∃w1,w.alloc (.cells #[.int .i64 sw,.int .i64 sh,.slice so xs.length c1,.slice sd ys.length c2,.string src] 24)=w1:=⟨_,rfl⟩
 have z1:w1.heap.size=w.heap.size+1:=by rw [←hw1];simp
 have b1:Below w.heap.size w w1:=by rw [←hw1];exact below_al _ _
 have s1:Sz w1 w.heap.size (.int .i64 sw) (.int .i64 sh) (.slice so xs.length c1) (.slice sd ys.length c2) (.string src):=by rw [←hw1];exact Sz.new _ _ _ _ _ _
 have PP:=hide (paint_any w1 sw sh so sd c1 c2 xs ys src ((hx.later b1 (Nat.le_refl _)).mono (by omega)) ((hy.later b1 (Nat.le_refl _)).mono (by omega)) lx ly ls)
 have RP:=hide (fun w2 (b2:Below w.heap.size w w2)=>refpaint_any w2 sw sh so sd c1 c2 xs ys src ((hx.later b2 (Nat.le_refl _)).mono b2.size) ((hy.later b2 (Nat.le_refl _)).mono b2.size) lx ly)
 unfold scV at PP RP
 obtain ⟨⟨x0,x1,x2,x3,x4⟩,_⟩:=bk5 s1
 have B1:=hide b1
 have SS1:=hide s1
 have Z1:=hide z1
 clear b1 s1 z1 hx hy lx ly ls
 go_enter Tryz.func5,Tryz.ntmps5
 go_wp2_with fail
 clear hw1 x0 x1 x2 x3 x4
 refine (unhide PP).mono ?_
 rintro e w2 ⟨E,P,r,hA,hR⟩
 obtain ⟨ao,c,bo,d,to,f,rfl,i1,i2,i3,b2⟩:=hR.shape
 have z1:=unhide Z1
 have e2:=b2.size
 obtain ⟨w3,hw3⟩:∃w3,w2.alloc (.cells #[.slice ao (rOp r).length c,.slice bo (rHi r).length d,.int .i64 (rSt r),.int .i64 (rTt r),.slice to (rTr r).length f] 36)=w3:=⟨_,rfl⟩
 have z3:w3.heap.size=w2.heap.size+1:=by rw [←hw3];simp
 have b3:Below w2.heap.size w2 w3:=by rw [←hw3];exact below_al _ _
 have r3:=Rz.new w2 (.slice ao (rOp r).length c) (.slice bo (rHi r).length d) (.int .i64 (rSt r)) (.int .i64 (rTt r)) (.slice to (rTr r).length f)
 rw [hw3] at r3
 have s3:=((unhide SS1).later b2 (by omega)).later b3 (by omega)
 have B3:=hide (((unhide B1).trans (b2.mono (by omega))).trans (b3.mono (by omega)))
 obtain ⟨⟨x0,x1,x2,x3,x4⟩,_⟩:=bk5 s3
 have I3:Hid (IntsAt w3.heap.size w3 ao (rOp r)∧IntsAt w3.heap.size w3 bo (rHi r)∧TchAt w3.heap.size w3 to (rTr r)):=⟨(i1.later b3 (Nat.le_refl _)).mono (by omega),(i2.later b3 (Nat.le_refl _)).mono (by omega),(i3.later b3 (Nat.le_refl _)).mono (by omega)⟩
 have R3:=hide r3
 have Z3:Hid (w3.heap.size=w2.heap.size+1∧w.heap.size < w2.heap.size):=⟨z3,by omega⟩
 have HA:=hide hA
 clear PP hA hR i1 i2 i3 b2 z1 e2 z3 b3 r3 s3 B1 SS1 Z1
 go_wp2_with fail
 clear hw3 x0 x1 x2 x3 x4
 refine (unhide RP w3 (unhide B3)).mono ?_
 rintro e w4 ⟨E',P',r',hA',hR'⟩
 obtain ⟨rfl,rfl,rfl⟩:=ans_unique (unhide HA) hA'
 obtain ⟨ao',c',bo',d',to',f',rfl,i1',i2',i3',l1,l2,l3,b4⟩:=hR'.shape
 have z3:=unhide Z3
 have e4:=b4.size
 obtain ⟨w5,hw5⟩:∃w5,w4.alloc (.cells #[.slice ao' (rOp r').length c',.slice bo' (rHi r').length d',.int .i64 (rSt r'),.int .i64 (rTt r'),.slice to' (rTr r').length f'] 36)=w5:=⟨_,rfl⟩
 have z5:w5.heap.size=w4.heap.size+1:=by rw [←hw5];simp
 have b5:Below w4.heap.size w4 w5:=by rw [←hw5];exact below_al _ _
 have r5:=Rz.new w4 (.slice ao' (rOp r').length c') (.slice bo' (rHi r').length d') (.int .i64 (rSt r')) (.int .i64 (rTt r')) (.slice to' (rTr r').length f')
 rw [hw5] at r5
 have q5:=((unhide R3).later b4 (by omega)).later b5 (by omega)
 have B5:=hide (((unhide B3).trans (b4.mono (by omega))).trans (b5.mono (by omega)))
 have b35:Below w3.heap.size w3 w5:=b4.trans (b5.mono e4)
 obtain ⟨j1,j2,j3⟩:=unhide I3
 have SR:=hide (same_result ao bo to ao' bo' to' c d f c' d' f' (rOp r') (rHi r') (rSt r') (rTt r') (rTr r') w5 ((j1.later b35 (Nat.le_refl _)).mono (by omega)) ((j2.later b35 (Nat.le_refl _)).mono (by omega)) ((j3.later b35 (Nat.le_refl _)).mono (by omega)) ((i1'.later b5 (Nat.le_refl _)).mono (by omega)) ((i2'.later b5 (Nat.le_refl _)).mono (by omega)) ((i3'.later b5 (Nat.le_refl _)).mono (by omega)) l1 l2 l3)
 obtain ⟨⟨x0,x1,x2,x3,x4⟩,_⟩:=bk5 r5
 obtain ⟨⟨y0,y1,y2,y3,y4⟩,_⟩:=bk5 q5
 have Z5:Hid (w.heap.size≤w5.heap.size):=by show _≤_;omega
 clear RP HA hA' hR' i1' i2' i3' l1 l2 l3 b4 z3 e4 z5 b5 r5 q5 B3 b35 j1 j2 j3 I3 R3 Z3
 go_wp2_with fail
 clear hw5 x0 x1 x2 x3 x4 y0 y1 y2 y3 y4
 refine (unhide SR).mono ?_
 rintro e w6 ⟨rfl,b6⟩
 have B6:=hide ((unhide B5).trans (b6.mono (unhide Z5)))
 clear SR b6 B5 Z5
 go_wp2
 go_ret
 exact ⟨rfl,unhide B6⟩
def exSrc:ByteArray:=⟨#[111,117,116,32,112,101,101,107,91,120,44,32,121,93,59,32,104,105,100,101,32,115,112,121,91,49,32,45,32,120,44,32,121,93,59]⟩
theorem ints_two {w:World} {b:Nat} {x y:Int} (h:w.heap[b]?=some (.cells #[.int .i64 x,.int .i64 y] 3 (0,0))):IntsAt (b+1) w (some ⟨b,0,none⟩) [x,y]:=by
 refine .inr ⟨b,0,rfl,by omega,fun j hj=>?_⟩
 have hj':j=0∨j=1:=by simp at hj;omega
 rcases hj' with rfl | rfl
 ·exact (bkp2 h).1.1
 ·exact (bkp2 h).1.2
set_option maxHeartbeats 2000000 in
theorem first_any (w:World):Calls Tryz.prog 6 #[] w fun e w'=>∃so sd,e = .returned (scV 2 1 so sd 2 2 [10,20] [30,40] exSrc)∧IntsAt w'.heap.size w' so [10,20]∧IntsAt w'.heap.size w' sd [30,40]∧Below w.heap.size w w':=by
 obtain ⟨w1,hw1⟩:∃w1,w.alloc (.cells #[.int .i64 2,.int .i64 1,.slice (some ⟨w.heap.size+1,0,none⟩) 2 2,.slice (some ⟨w.heap.size+1+1,0,none⟩) 2 2,.string exSrc] 24)=w1:=⟨_,rfl⟩
 have z1:w1.heap.size=w.heap.size+1:=by rw [←hw1];simp
 have b1:Below w.heap.size w w1:=by rw [←hw1];exact below_al _ _
 have s1:Sz w1 w.heap.size (.int .i64 2) (.int .i64 1) (.slice (some ⟨w.heap.size+1,0,none⟩) 2 2) (.slice (some ⟨w.heap.size+1+1,0,none⟩) 2 2) (.string exSrc):=by rw [←hw1];exact Sz.new _ _ _ _ _ _
 obtain ⟨w2,hw2⟩:∃w2,w1.alloc (.cells #[.int .i64 10,.int .i64 20] 3)=w2:=⟨_,rfl⟩
 have z2:w2.heap.size=w1.heap.size+1:=by rw [←hw2];simp
 have b2:Below w1.heap.size w1 w2:=by rw [←hw2];exact below_al _ _
 have i2:IntsAt (w1.heap.size+1) w2 (some ⟨w1.heap.size,0,none⟩) [10,20]:=by rw [←hw2];exact ints_two (heap_alloc_new w1 _)
 obtain ⟨w3,hw3⟩:∃w3,w2.alloc (.cells #[.int .i64 30,.int .i64 40] 3)=w3:=⟨_,rfl⟩
 have z3:w3.heap.size=w2.heap.size+1:=by rw [←hw3];simp
 have b3:Below w2.heap.size w2 w3:=by rw [←hw3];exact below_al _ _
 have i3:IntsAt (w2.heap.size+1) w3 (some ⟨w2.heap.size,0,none⟩) [30,40]:=by rw [←hw3];exact ints_two (heap_alloc_new w2 _)
 have s3:=(s1.later b2 (by omega)).later b3 (by omega)
 obtain ⟨⟨x0,x1,x2,x3,x4⟩,_⟩:=bk5 s3
 have F:Hid (IntsAt w3.heap.size w3 (some ⟨w.heap.size+1,0,none⟩) [10,20]∧IntsAt w3.heap.size w3 (some ⟨w.heap.size+1+1,0,none⟩) [30,40]∧Below w.heap.size w w3):=by
  rw [←z1,←z2]
  exact ⟨(i2.later b3 (by omega)).mono (by omega),i3.mono (by omega),(b1.trans (b2.mono (by omega))).trans (b3.mono (by omega))⟩
 have HW:Hid (((w.alloc (.cells #[.int .i64 2,.int .i64 1,.slice (some ⟨w.heap.size+1,0,none⟩) 2 2,.slice (some ⟨w.heap.size+1+1,0,none⟩) 2 2,.string exSrc] 24)).alloc (.cells #[.int .i64 10,.int .i64 20] 3)).alloc (.cells #[.int .i64 30,.int .i64 40] 3)=w3):=by show _=_;rw [hw1,hw2,hw3]
 clear z1 b1 s1 z2 b2 i2 z3 b3 i3 s3 hw1 hw2 hw3
 go_enter Tryz.func6,Tryz.ntmps6
 go_wp2
 have HW':=unhide HW
 unfold exSrc at HW'
 rw [HW']
 unfold exSrc at x4
 refine bodyPost_ret (v:=scV 2 1 (some ⟨w.heap.size+1,0,none⟩) (some ⟨w.heap.size+1+1,0,none⟩) 2 2 [10,20] [30,40] exSrc) (by simp [results,Tryz.results6,go_sem,x0,x1,x2,x3,x4,scV,exSrc]) rfl ⟨_,_,rfl,(unhide F).1,(unhide F).2.1,(unhide F).2.2⟩
set_option maxHeartbeats 2000000 in
theorem paints_walk (w:World) (sw sh:Int) (so sd:Option Addr) (c1 c2:Nat) (xs ys:List Int) (src:ByteArray) (hx:IntsAt w.heap.size w so xs) (hy:IntsAt w.heap.size w sd ys) (lx:xs.length≤maxLen) (ly:ys.length≤maxLen) (ls:src.size≤maxLen) :
  Calls Tryz.prog 3 #[scV sw sh so sd c1 c2 xs ys src] w fun e w'=>e = .returned (.bool true)∧Below w.heap.size w w':=by
 unfold scV
 obtain ⟨w1,hw1⟩:∃w1,w.alloc (.cells #[.int .i64 sw,.int .i64 sh,.slice so xs.length c1,.slice sd ys.length c2,.string src] 24)=w1:=⟨_,rfl⟩
 have z1:w1.heap.size=w.heap.size+1:=by rw [←hw1];simp
 have b1:Below w.heap.size w w1:=by rw [←hw1];exact below_al _ _
 have s1:Sz w1 w.heap.size (.int .i64 sw) (.int .i64 sh) (.slice so xs.length c1) (.slice sd ys.length c2) (.string src):=by rw [←hw1];exact Sz.new _ _ _ _ _ _
 have PP:=hide (fun w2 (b2:Below w.heap.size w w2)=>paints_one w2 sw sh so sd c1 c2 xs ys src ((hx.later b2 (Nat.le_refl _)).mono b2.size) ((hy.later b2 (Nat.le_refl _)).mono b2.size) lx ly ls)
 unfold scV at PP
 have B1:=hide b1
 have SS1:=hide s1
 have Z1:=hide z1
 clear b1 s1 z1 hx hy lx ly ls
 go_enter Tryz.func3,Tryz.ntmps3
 go_wp2_with fail
 clear hw1
 refine (first_any w1).mono ?_
 rintro e w2 ⟨so',sd',rfl,i1,i2,b2⟩
 go_wp2_with fail
 have hm:(2:Nat)≤maxLen:=by unfold maxLen;decide
 refine (paints_one w2 2 1 so' sd' 2 2 [10,20] [30,40] exSrc i1 i2 hm hm (by unfold maxLen;decide)).mono ?_
 rintro e w3 ⟨rfl,b3⟩
 have z1:=unhide Z1
 have e2:=b2.size
 have e3:=b3.size
 have s3:=((unhide SS1).later b2 (by omega)).later b3 (by omega)
 have B3:=hide (((unhide B1).trans (b2.mono (by omega))).trans (b3.mono (by omega)))
 obtain ⟨⟨x0,x1,x2,x3,x4⟩,_⟩:=bk5 s3
 have Z3:Hid (w.heap.size≤w3.heap.size):=by show _≤_;omega
 clear i1 i2 b2 b3 z1 e2 e3 s3 B1 SS1 Z1 hm
 go_wp2_with fail
 clear x0 x1 x2 x3 x4
 refine (unhide PP w3 (unhide B3)).mono ?_
 rintro e w4 ⟨rfl,b4⟩
 have B4:=hide ((unhide B3).trans (b4.mono (unhide Z3)))
 clear PP b4 B3 Z3
 go_wp2
 go_ret
 exact ⟨rfl,unhide B4⟩
end Go.Proofs.YthmmgiaobakilaaGreat
