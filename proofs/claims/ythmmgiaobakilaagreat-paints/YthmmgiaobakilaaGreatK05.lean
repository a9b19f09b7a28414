import Derived.Test.YthmmgiaobakilaaGreatK04
import Derived.Deep.LoopGhost
set_option maxRecDepth 100000
namespace Go.Proofs.YthmmgiaobakilaaGreat
open Go.RowKit Go.Deep
def ebk (w:World) (b:Nat) (k p:Int) (wd:ByteArray) (n s:Int) (sv:Value):Prop:=w.heap[b]?=some (.cells #[.int .i64 k,.int .i64 p,.string wd,.int .i32 n,.int .i32 s,sv] 119 (0,0))
theorem put6_other {w:World} {b k0:Nat} {k p n s:Int} {wd:ByteArray} {sv:Value} (h:k0≠b):(put6 w b k p wd n s sv).heap[k0]?=w.heap[k0]?:=by
 unfold put6
 exact (Below.heap_setCell _ _ _ _ h).trans ((Below.heap_setCell _ _ _ _ h).trans ((Below.heap_setCell _ _ _ _ h).trans ((Below.heap_setCell _ _ _ _ h).trans ((Below.heap_setCell _ _ _ _ h).trans (Below.heap_setCell _ _ _ _ h)))))
theorem blk5 {w:World} {b:Nat} {ty:TypeId} {c0 c1 c2 c3 c4:Value} (h:w.heap[b]?=some (.cells #[c0,c1,c2,c3,c4] ty (0,0))) :
  w.cell? ⟨b,0,none⟩=some c0∧w.cell? ⟨b,1,none⟩=some c1∧w.cell? ⟨b,2,none⟩=some c2∧w.cell? ⟨b,3,none⟩=some c3∧w.cell? ⟨b,4,none⟩=some c4:=by
 refine ⟨?_,?_,?_,?_,?_⟩ <;> simp [World.cell?,h]
theorem ebk_put6 {w:World} {b:Nat} {k p n s k' p' n' s':Int} {wd wd':ByteArray} {sv sv':Value} (h:ebk w b k p wd n s sv):ebk (put6 w b k' p' wd' n' s' sv') b k' p' wd' n' s' sv':=
 heap_setCell_same _ b 5 _ _ _ (heap_setCell_same _ b 4 _ _ _ (heap_setCell_same _ b 3 _ _ _ (heap_setCell_same _ b 2 _ _ _ (heap_setCell_same _ b 1 _ _ _ (heap_setCell_same _ b 0 _ _ _ h)))))
def ChainAt (P:PE) (ops:List ByteArray) (T:List Tok) (Q:Nat→Prop) (pb tb cap:Nat) (f pl:Int) (r:Except Nat (Ex×Nat)) (m:Nat) (v:Value) (w:World):Prop:=
 (∃e i,PsAt w pb tb cap T i f pl∧RepV w Q v e∧pChain P ops T m e i=some r)∨(∃x,r = .error x∧PsAt w pb tb cap T (T.length-1) (badF f) (badP f pl (tkAt T x).place))
theorem exW_inj {k p n s:Int} {wd:ByteArray} {sv:Value} {t:Tok} {sw:Value} (h:exW k p wd n s sv=exV t sw):k=kP t∧p=t.place∧wd=wP t∧n=nP t∧s=sP t∧sv=sw:=by
 unfold exW exV at h
 simpa using h
theorem put6_size {w:World} {b:Nat} {k p n s:Int} {wd:ByteArray} {sv:Value} : (put6 w b k p wd n s sv).heap.size=w.heap.size:=by
 unfold put6
 simp
theorem cells12 {w:World} {g:Nat} {ty:TypeId} {c0 c1 c2 c3 c4 c5 c6 c7 c8 c9 ca cb:Value} (h:w.heap[g]?=some (.cells #[c0,c1,c2,c3,c4,c5,c6,c7,c8,c9,ca,cb] ty (0,0))) (k:Nat):w.cell? ⟨g,k,none⟩ = #[c0,c1,c2,c3,c4,c5,c6,c7,c8,c9,ca,cb][k]?:=by
 simp only [World.cell?]
 rw [h]
 simp
theorem chain_step {P:PE} {ops:List ByteArray} {T:List Tok} {Q:Nat→Prop} {pb tb cap eb B6 m:Nat} {f pl:Int} {r r2:Except Nat (Ex×Nat)} {w6:World} {t:Tok} {e:Ex} {b0 b1 b3 b4 c0 c1 c3 c4:Int} {b2 c2:ByteArray} {bs cs:Value}
  (hrep:RepV w6 Q (exW b0 b1 b2 b3 b4 bs) e)
  (h6:ERes w6 (fun g=>B6≤g) pb tb cap T f pl (exW c0 c1 c2 c3 c4 cs) r2)
  (hpc:andThen (some r2) (fun x j=>pChain P ops T m (node2 t e x) j)=some r)
  (hQ:∀g,B6≤g→g < w6.heap.size→Q g) (hQn:Q w6.heap.size) (heQ:¬ Q eb) (hep:eb≠pb) (het:eb≠tb) :
  ChainAt P ops T Q pb tb cap f pl r m (exW (kP t) t.place (wP t) (nP t) (sP t) (.slice (some ⟨w6.heap.size,0,none⟩) 2 2)) ((put6 w6 eb (kP t) t.place (wP t) (nP t) (sP t) (.slice (some ⟨w6.heap.size,0,none⟩) 2 2)).alloc (.cells #[.int .i64 b0,.int .i64 b1,.string b2,.int .i32 b3,.int .i32 b4,bs,.int .i64 c0,.int .i64 c1,.string c2,.int .i32 c3,.int .i32 c4,cs] 119)):=by
 generalize hW:((put6 w6 eb (kP t) t.place (wP t) (nP t) (sP t) (.slice (some ⟨w6.heap.size,0,none⟩) 2 2)).alloc (.cells #[.int .i64 b0,.int .i64 b1,.string b2,.int .i32 b3,.int .i32 b4,bs,.int .i64 c0,.int .i64 c1,.string c2,.int .i32 c3,.int .i32 c4,cs] 119))=W
 have stay:∀k,k≠eb→k < w6.heap.size→W.heap[k]?=w6.heap[k]?:=fun k hk hl=>by rw [←hW];exact (Below.heap_alloc _ _ k (by rw [put6_size];exact hl)).trans (put6_other hk)
 have new:W.heap[w6.heap.size]?=some (.cells #[.int .i64 b0,.int .i64 b1,.string b2,.int .i32 b3,.int .i32 b4,bs,.int .i64 c0,.int .i64 c1,.string c2,.int .i32 c3,.int .i32 c4,cs] 119 (0,0)):=by
  have:=heap_alloc_new (put6 w6 eb (kP t) t.place (wP t) (nP t) (sP t) (.slice (some ⟨w6.heap.size,0,none⟩) 2 2)) (.cells #[.int .i64 b0,.int .i64 b1,.string b2,.int .i32 b3,.int .i32 b4,bs,.int .i64 c0,.int .i64 c1,.string c2,.int .i32 c3,.int .i32 c4,cs] 119)
  rw [put6_size] at this
  rw [←hW]
  exact this
 have ps:∀ {i:Nat} {f pl:Int},PsAt w6 pb tb cap T i f pl→PsAt W pb tb cap T i f pl:=fun h=>by rw [←hW];exact (h.put6 hep het).alloc _
 have sQ:Stay Q w6 W:=fun k hk hl=>stay k (fun e=>heQ (e ▸ hk)) hl
 cases r2 with
 | error x=>cases hpc;exact .inr ⟨x,rfl,ps h6⟩
 | ok xj=>
  obtain ⟨x,j⟩:=xj
  refine .inl ⟨node2 t e x,j,ps h6.1,?_,hpc⟩
  have hrx:RepV w6 Q (exW c0 c1 c2 c3 c4 cs) x:=h6.2.later (fun _ _ _=>rfl) hQ
  obtain ⟨_,_,te,ke,re,sve,rfl,eve,hke⟩:=hrep
  obtain ⟨_,_,tx,kx,rx,svx,rfl,evx,hkx⟩:=hrx
  obtain ⟨rfl,rfl,rfl,rfl,rfl,rfl⟩:=exW_inj eve
  obtain ⟨rfl,rfl,rfl,rfl,rfl,rfl⟩:=exW_inj evx
  refine ⟨0,0,t,_,.nil,.slice (some ⟨w6.heap.size,0,none⟩) 2 2,rfl,rfl,.inr ⟨(fun h=>by (cases h)),w6.heap.size,2,rfl,hQn,?_⟩⟩
  have cell:=cells12 new
  refine ⟨⟨bs,⟨by rw [cell];rfl,by rw [cell];rfl,by rw [cell];rfl,by rw [cell];rfl,by rw [cell];rfl,by rw [cell];rfl⟩,?_⟩,⟨cs,⟨by rw [cell];rfl,by rw [cell];rfl,by rw [cell];rfl,by rw [cell];rfl,by rw [cell];rfl,by rw [cell];rfl⟩,?_⟩,trivial⟩
  ·exact hke.later sQ (fun _ h _=>h)
  ·exact hkx.later sQ (fun _ h _=>h)
def runesT:List Int:=[215,247]
theorem any_T {T:List Tok} (hT:TokW T) (i:Nat):((kP (tkAt T i)==4)&&runesT.any (fun t=>sP (tkAt T i)==t))=opsT.any (isT T i):=by
 have e:runesT=opsT.map runeOf:=by unfold runeOf;simp only [ByteArray.toList_eq];decide
 have m:∀s∈opsT,s∈signs:=by intro s hs;simp only [opsT,List.mem_cons,List.not_mem_nil,or_false] at hs;rcases hs with rfl | rfl <;> simp [signs]
 rw [e,List.any_map]
 have:∀l:List ByteArray,(∀s∈l,s∈signs)→((kP (tkAt T i)==4)&&l.any ((fun t=>sP (tkAt T i)==t) ∘ runeOf))=l.any (isT T i):=fun l=>by
  induction l with
  | nil=>intro _;simp
  | cons a l ih=>
   intro hm
   rw [List.any_cons,List.any_cons,Bool.and_or_distrib_left,ih (fun s hs=>hm s (List.mem_cons_of_mem _ hs))]
   have:=sg_is hT i (hm a List.mem_cons_self)
   unfold sgB at this
   rw [←this]
   rfl
 exact this _ m
set_option maxHeartbeats 8000000 in
theorem pterm_any {P:PE} (hP:ParsesE 149 P) (m:Nat):ParsesE 144 (pLevel P opsT m):=by
 intro w pb tb cap i T f pl r hT h hr
 have hp:=h.plt
 have hlow:=h.low
 unfold pLevel at hr
 split at hr
 ·cases hr
 cases hx:P T i with
 | none=>rw [hx] at hr;cases hr
 | some r1=>
 rw [hx] at hr
 have HX:=hide hx
 have HR:=hide hr
 clear hx hr
 go_enter Tryz.func144,Tryz.ntmps144
 go_wp2_with fail
 refine (hP _ pb tb cap i T f pl r1 hT (h.alloc _) (unhide HX)).mono ?_
 rintro e w1 ⟨k1,a0,a1,a2,a3,a4,ao,len,c,rfl,h1⟩
 have q1:w1.heap[w.heap.size]?=some (.cells #[.int .i64 0,.int .i64 0,.string ⟨#[]⟩,.int .i32 0,.int .i32 0,.slice none 0 0] 119 (0,0)):=(k1.2 _ (by simp) (by omega)).trans (heap_alloc_new w _)
 have K1:=(Kept.alloc pb w _).trans k1
 have lt1:w.heap.size < w1.heap.size:=(Array.getElem?_eq_some_iff.1 q1).1
 clear h k1 HX
 unfold exW
 have hc0:ChainAt P opsT T (fun g=>w.heap.size < g∧g≠w1.heap.size) pb tb cap f pl r m (exW a0 a1 a2 a3 a4 (.slice ao len c)) w1:=by
  have hr:=unhide HR
  cases r1 with
  | error x=>cases hr;exact .inr ⟨x,rfl,h1⟩
  | ok xj=>
   obtain ⟨t,j⟩:=xj
   exact .inl ⟨t,j,h1.1,h1.2.later (fun _ _ _=>rfl) (fun k hk hl=>⟨by have:w.heap.size+1≤k:=(by simpa using hk);omega,by omega⟩),hr⟩
 go_wp2
 go_loopg [4] m (fun k _ wr=>∃b0 b1 b2 b3 b4 bo bl bc,ebk wr w1.heap.size b0 b1 b2 b3 b4 (.slice bo bl bc)∧ebk wr w.heap.size 0 0 ⟨#[]⟩ 0 0 (.slice none 0 0)∧Kept pb w wr∧ChainAt P opsT T (fun g=>w.heap.size < g∧g≠w1.heap.size) pb tb cap f pl r k (exW b0 b1 b2 b3 b4 (.slice bo bl bc)) wr)
 case atStart=>
  refine ⟨a0,a1,a2,a3,a4,ao,len,c,heap_alloc_new w1 _,(Below.heap_alloc w1 _ _ lt1).trans q1,K1.trans (Kept.alloc pb w1 _),?_⟩
  rcases hc0 with ⟨e,i',h2,h3,h4⟩ | ⟨x,h2,h3⟩
  ·exact .inl ⟨e,i',h2.alloc _,h3.later (fun k _ hl=>Below.heap_alloc w1 _ k hl) (fun _ hk _=>hk),h4⟩
  ·exact .inr ⟨x,h2,h3.alloc _⟩
 case round=>
  clear HR h1 hc0
  obtain ⟨b0,b1,b2,b3,b4,bo,bl,bc,he,hz,kw,hch⟩:=hrel
  have ltE:w1.heap.size < wr.heap.size:=(Array.getElem?_eq_some_iff.1 he).1
  obtain ⟨i',f',pl',hps,hdead⟩:∃i' f' pl',PsAt wr pb tb cap T i' f' pl'∧((∃e,f'=f∧pl'=pl∧RepV wr (fun g=>w.heap.size < g∧g≠w1.heap.size) (exW b0 b1 b2 b3 b4 (.slice bo bl bc)) e∧pChain P opsT T gk e i'=some r)∨(∃x,i'=T.length-1∧r = .error x∧f'=badF f∧pl'=badP f pl (tkAt T x).place)):=by
   rcases hch with ⟨e,i',h2,h3,h4⟩ | ⟨x,h2,h3⟩
   ·exact ⟨i',f,pl,h2,.inl ⟨e,rfl,rfl,h3,h4⟩⟩
   ·exact ⟨_,_,_,h3,.inr ⟨x,rfl,h2,rfl,rfl⟩⟩
  clear hch
  go_wp2_with fail
  refine (next_any wr pb tb cap i' T f' pl' hps).mono ?_
  rintro e w2 ⟨rfl,hb2⟩
  have h2:=hps.below hb2 (Nat.le_refl _)
  go_wp2_with fail
  refine (isSign_any _ (kP (tkAt T i')) (tkAt T i').place (nP (tkAt T i')) (sP (tkAt T i')) (wP (tkAt T i')) w2.heap.size 0 2 runesT (runes_new w2 runesT) (by simp [runesT])).mono ?_
  rintro e w3 ⟨rfl,hb3⟩
  have h3:=(h2.alloc _).below hb3 (Nat.le_refl _)
  have B3:Below wr.heap.size wr w3:=(hb2.alloc hb2.size _).trans (hb3.mono (by have:=hb2.size;simp;omega))
  have he3:ebk w3 w1.heap.size b0 b1 b2 b3 b4 (.slice bo bl bc):=(B3.block _ ltE).trans he
  have hz3:ebk w3 w.heap.size 0 0 ⟨#[]⟩ 0 0 (.slice none 0 0):=(B3.block _ (by omega)).trans hz
  have K3:Kept pb w w3:=kw.trans (Kept.below B3)
  have sz3:=B3.size
  rw [any_T hT i']
  clear hps h2 hb2 hb3 he hz kw
  obtain ⟨⟨d0,d1,d2,d3,d4,d5⟩,z0,z1,z2,z3,z4,z5⟩:=blk6 hz3
  obtain ⟨⟨x0,x1,x2,x3,x4,x5⟩,y0,y1,y2,y3,y4,y5⟩:=blk6 he3
  cases hany:opsT.any (isT T i')
  ·have KK:=hide K3
   have BB:=hide B3
   have HE:=hide he3
   have HZ:=hide hz3
   have H3:=hide h3
   have HD:=hide hdead
   clear K3 B3 he3 hz3 h3 hdead
   go_wp2
   refine bodyPost_ret (v:=exW b0 b1 b2 b3 b4 (.slice bo bl bc)) (by simp [results,Tryz.results144,go_sem,exW,d0,d1,d2,d3,d4,d5]) rfl ⟨(unhide KK).put6 (Nat.le_refl _),b0,b1,b2,b3,b4,bo,bl,bc,rfl,?_⟩
   have h3:=unhide H3
   rcases unhide HD with ⟨e,rfl,rfl,hrep,hpc⟩ | ⟨x,rfl,rfl,rfl,rfl⟩
   ·cases gk with
    | zero=>cases hpc
    | succ gk=>
     rw [pChain,hany,if_neg (by simp)] at hpc
     cases hpc
     refine ⟨h3.put6 (by omega) (by omega),hrep.later (fun k hk hl=>?_) (fun k hk _=>by show _≤k;have:=hk.1;omega)⟩
     exact (put6_other (by have:=hk.1;omega)).trans ((unhide BB).block k hl)
   ·exact h3.put6 (by omega) (by omega)
  ·have hi1:i'+1 < T.length:=by
    obtain ⟨s,_,hs⟩:=List.any_eq_true.1 hany
    exact isT_next hT.last h3.lt hs
   rcases hdead with ⟨e,rfl,rfl,hrep,hpc⟩ | ⟨x,rfl,_⟩
   ·cases gk with
    | zero=>cases hpc
    | succ gk=>
    rw [pChain,hany,if_pos rfl] at hpc
    cases hx:P T (i'+1) with
    | none=>rw [hx] at hpc;cases hpc
    | some r2=>
    rw [hx] at hpc
    have HX:=hide hx
    have HPC:=hide hpc
    have KK:=hide K3
    have BB:=hide B3
    clear hx hpc K3 B3 x0 x1 x2 x3 x4 x5 y0 y1 y2 y3 y4 y5 d0 d1 d2 d3 d4 d5 z0 z1 z2 z3 z4 z5
    go_wp2_with fail
    refine (take_any w3 pb tb cap i' T f' pl' h3 hi1).mono ?_
    rintro e w4 ⟨rfl,h4,k4⟩
    have he4:ebk w4 w1.heap.size b0 b1 b2 b3 b4 (.slice bo bl bc):=(k4.2 _ (by omega) (by omega)).trans he3
    have hz4:ebk w4 w.heap.size 0 0 ⟨#[]⟩ 0 0 (.slice none 0 0):=(k4.2 _ (by omega) (by omega)).trans hz3
    have sz4:=k4.1
    clear he3 hz3 h3
    have K4:=(unhide KK).trans k4
    have S4:Stay (fun g=>w.heap.size < g∧g≠w1.heap.size) wr w4:=fun k hk hl=>(k4.2 k (by omega) (by have:=hk.1;omega)).trans ((unhide BB).block k hl)
    have hpE:pb≠w1.heap.size:=by omega
    have hpZ:pb≠w.heap.size:=by omega
    clear k4 KK
    unfold tokP tkV
    obtain ⟨t0,ht0⟩:∃t0,kP (tkAt T i')=t0:=⟨_,rfl⟩
    obtain ⟨t1,ht1⟩:∃t1,(tkAt T i').place=t1:=⟨_,rfl⟩
    obtain ⟨t2,ht2⟩:∃t2,wP (tkAt T i')=t2:=⟨_,rfl⟩
    obtain ⟨t3,ht3⟩:∃t3,nP (tkAt T i')=t3:=⟨_,rfl⟩
    obtain ⟨t4,ht4⟩:∃t4,sP (tkAt T i')=t4:=⟨_,rfl⟩
    rw [ht0,ht1,ht2,ht3,ht4]
    have HT:=hide (And.intro ht0 (And.intro ht1 (And.intro ht2 (And.intro ht3 ht4))))
    clear ht0 ht1 ht2 ht3 ht4
    go_wp2_with fail
    obtain ⟨w5,hw5⟩:∃w5,w4.alloc (.cells #[.int .i64 t0,.int .i64 t1,.string t2,.int .i32 t3,.int .i32 t4] 116)=w5:=⟨_,rfl⟩
    rw [hw5]
    have s5:w5.heap[w4.heap.size]?=some (.cells #[.int .i64 t0,.int .i64 t1,.string t2,.int .i32 t3,.int .i32 t4] 116 (0,0)):=by rw [←hw5];exact heap_alloc_new w4 _
    have h5:PsAt w5.drew pb tb cap T (i'+1) f' pl':=by rw [←hw5];exact (h4.alloc _).later (fun _ _=>rfl)
    have he5:ebk w5 w1.heap.size b0 b1 b2 b3 b4 (.slice bo bl bc):=by rw [←hw5];exact (Below.heap_alloc w4 _ _ (by omega)).trans he4
    have hz5:ebk w5 w.heap.size 0 0 ⟨#[]⟩ 0 0 (.slice none 0 0):=by rw [←hw5];exact (Below.heap_alloc w4 _ _ (by omega)).trans hz4
    have K5:Kept pb w w5:=by rw [←hw5];exact K4.trans (Kept.alloc pb w4 _)
    have S5:Stay (fun g=>w.heap.size < g∧g≠w1.heap.size) wr w5:=by rw [←hw5];exact fun k hk hl=>(Below.heap_alloc w4 _ k (by omega)).trans (S4 k hk hl)
    have sz5:w4.heap.size < w5.heap.size:=(Array.getElem?_eq_some_iff.1 s5).1
    have fin:∀(w6:World) (c0 c1:Int) (c2:ByteArray) (c3 c4:Int) (co:Option Addr) (cl cc:Nat),Kept pb w5.drew w6→ERes w6 (fun g=>w5.drew.heap.size≤g) pb tb cap T f' pl' (exW c0 c1 c2 c3 c4 (.slice co cl cc)) r2 →
      ∃b0' b1' b2' b3' b4' bo' bl' bc',ebk ((put6 w6 w1.heap.size t0 t1 t2 t3 t4 (.slice (some ⟨w6.heap.size,0,none⟩) 2 2)).alloc (.cells #[.int .i64 b0,.int .i64 b1,.string b2,.int .i32 b3,.int .i32 b4,.slice bo bl bc,.int .i64 c0,.int .i64 c1,.string c2,.int .i32 c3,.int .i32 c4,.slice co cl cc] 119)) w1.heap.size b0' b1' b2' b3' b4' (.slice bo' bl' bc') ∧
       ebk ((put6 w6 w1.heap.size t0 t1 t2 t3 t4 (.slice (some ⟨w6.heap.size,0,none⟩) 2 2)).alloc (.cells #[.int .i64 b0,.int .i64 b1,.string b2,.int .i32 b3,.int .i32 b4,.slice bo bl bc,.int .i64 c0,.int .i64 c1,.string c2,.int .i32 c3,.int .i32 c4,.slice co cl cc] 119)) w.heap.size 0 0 ⟨#[]⟩ 0 0 (.slice none 0 0) ∧
       Kept pb w ((put6 w6 w1.heap.size t0 t1 t2 t3 t4 (.slice (some ⟨w6.heap.size,0,none⟩) 2 2)).alloc (.cells #[.int .i64 b0,.int .i64 b1,.string b2,.int .i32 b3,.int .i32 b4,.slice bo bl bc,.int .i64 c0,.int .i64 c1,.string c2,.int .i32 c3,.int .i32 c4,.slice co cl cc] 119)) ∧
       ChainAt P opsT T (fun g=>w.heap.size < g∧g≠w1.heap.size) pb tb cap f' pl' r gk (exW b0' b1' b2' b3' b4' (.slice bo' bl' bc')) ((put6 w6 w1.heap.size t0 t1 t2 t3 t4 (.slice (some ⟨w6.heap.size,0,none⟩) 2 2)).alloc (.cells #[.int .i64 b0,.int .i64 b1,.string b2,.int .i32 b3,.int .i32 b4,.slice bo bl bc,.int .i64 c0,.int .i64 c1,.string c2,.int .i32 c3,.int .i32 c4,.slice co cl cc] 119)):=by
     intro w6 c0 c1 c2 c3 c4 co cl cc k6 h6
     have k6':Kept pb w5 w6:=k6.undrew
     have sz6:=k6'.1
     have he6:ebk w6 w1.heap.size b0 b1 b2 b3 b4 (.slice bo bl bc):=(k6'.2 _ (by omega) (by omega)).trans he5
     have hz6:ebk w6 w.heap.size 0 0 ⟨#[]⟩ 0 0 (.slice none 0 0):=(k6'.2 _ (by omega) (by omega)).trans hz5
     have S6:Stay (fun g=>w.heap.size < g∧g≠w1.heap.size) w5 w6:=k6'.stay (fun h=>by have:=h.1;omega)
     have sw5:wr.heap.size≤w5.heap.size:=by omega
     obtain ⟨ht0,ht1,ht2,ht3,ht4⟩:=unhide HT
     refine ⟨t0,t1,t2,t3,t4,some ⟨w6.heap.size,0,none⟩,2,2,?_,?_,?_,?_⟩
     ·exact (Below.heap_alloc _ _ _ (by rw [put6_size];omega)).trans (ebk_put6 he6)
     ·exact (Below.heap_alloc _ _ _ (by rw [put6_size];omega)).trans ((put6_other (by omega)).trans hz6)
     ·exact ((K5.trans k6').put6 (by omega)).trans (Kept.alloc _ _ _)
     ·rw [←ht0,←ht1,←ht2,←ht3,←ht4]
      exact chain_step (hrep.later (S5.trans sw5 S6) (fun _ h _=>h)) h6 (unhide HPC) (fun g hg _=>⟨by have:w5.heap.size≤g:=hg;omega,by have:w5.heap.size≤g:=hg;omega⟩) ⟨by omega,by omega⟩ (fun h=>h.2 rfl) (by omega) (by omega)
    clear hw5 h4 he4 hz4 K4
    obtain ⟨⟨x0,x1,x2,x3,x4,x5⟩,y0,y1,y2,y3,y4,y5⟩:=blk6 he5
    obtain ⟨g0,g1,g2,g3,g4⟩:=blk5 s5
    go_region_with (go_at_call_of 149 (Value.pointer (some ⟨pb,0,none⟩));refine (hP _ pb tb cap (i'+1) T f' pl' r2 hT ?_ (unhide HX)).mono ?_;exact h5;rintro e w6 ⟨k6,c0,c1,c2,c3,c4,co,cl,cc,rfl,h6⟩;have he6:ebk w6 w1.heap.size b0 b1 b2 b3 b4 (.slice bo bl bc):=(k6.2 _ (by show _ < w5.heap.size;omega) (by omega)).trans he5;have s6:=(k6.2 _ (by show _ < w5.heap.size;omega) (by omega)).trans s5;obtain ⟨⟨v0,v1,v2,v3,v4,v5⟩,u0,u1,u2,u3,u4,u5⟩:=blk6 he6;obtain ⟨n0,n1,n2,n3,n4⟩:=blk5 s6;have l6:w1.heap.size < w6.heap.size:=(Array.getElem?_eq_some_iff.1 he6).1;have m6:w1.heap.size≠w6.heap.size:=(by omega);have l7:w4.heap.size < w6.heap.size:=(Array.getElem?_eq_some_iff.1 s6).1;have m7:w4.heap.size≠w6.heap.size:=(by omega);unfold exW)
    all_goals go_wp2
    all_goals go_roundg gk
    all_goals first | exact fin w6 c0 c1 c2 c3 c4 co cl cc k6 h6 | omega
   ·exfalso
    have:=List.any_eq_true.1 hany
    obtain ⟨s,_,hs⟩:=this
    rw [over_is hT.last s] at hs
    cases hs
def runesS:List Int:=[43,45]
theorem any_S {T:List Tok} (hT:TokW T) (i:Nat):((kP (tkAt T i)==4)&&runesS.any (fun t=>sP (tkAt T i)==t))=opsS.any (isT T i):=by
 have e:runesS=opsS.map runeOf:=by unfold runeOf;simp only [ByteArray.toList_eq];decide
 have m:∀s∈opsS,s∈signs:=by intro s hs;simp only [opsS,List.mem_cons,List.not_mem_nil,or_false] at hs;rcases hs with rfl | rfl <;> simp [signs]
 rw [e,List.any_map]
 have:∀l:List ByteArray,(∀s∈l,s∈signs)→((kP (tkAt T i)==4)&&l.any ((fun t=>sP (tkAt T i)==t) ∘ runeOf))=l.any (isT T i):=fun l=>by
  induction l with
  | nil=>intro _;simp
  | cons a l ih=>
   intro hm
   rw [List.any_cons,List.any_cons,Bool.and_or_distrib_left,ih (fun s hs=>hm s (List.mem_cons_of_mem _ hs))]
   have:=sg_is hT i (hm a List.mem_cons_self)
   unfold sgB at this
   rw [←this]
   rfl
 exact this _ m
set_option maxHeartbeats 8000000 in
theorem psum_any {P:PE} (hP:ParsesE 144 P) (m:Nat):ParsesE 141 (pLevel P opsS m):=by
 intro w pb tb cap i T f pl r hT h hr
 have hp:=h.plt
 have hlow:=h.low
 unfold pLevel at hr
 split at hr
 ·cases hr
 cases hx:P T i with
 | none=>rw [hx] at hr;cases hr
 | some r1=>
 rw [hx] at hr
 have HX:=hide hx
 have HR:=hide hr
 clear hx hr
 go_enter Tryz.func141,Tryz.ntmps141
 go_wp2_with fail
 refine (hP _ pb tb cap i T f pl r1 hT (h.alloc _) (unhide HX)).mono ?_
 rintro e w1 ⟨k1,a0,a1,a2,a3,a4,ao,len,c,rfl,h1⟩
 have q1:w1.heap[w.heap.size]?=some (.cells #[.int .i64 0,.int .i64 0,.string ⟨#[]⟩,.int .i32 0,.int .i32 0,.slice none 0 0] 119 (0,0)):=(k1.2 _ (by simp) (by omega)).trans (heap_alloc_new w _)
 have K1:=(Kept.alloc pb w _).trans k1
 have lt1:w.heap.size < w1.heap.size:=(Array.getElem?_eq_some_iff.1 q1).1
 clear h k1 HX
 unfold exW
 have hc0:ChainAt P opsS T (fun g=>w.heap.size < g∧g≠w1.heap.size) pb tb cap f pl r m (exW a0 a1 a2 a3 a4 (.slice ao len c)) w1:=by
  have hr:=unhide HR
  cases r1 with
  | error x=>cases hr;exact .inr ⟨x,rfl,h1⟩
  | ok xj=>
   obtain ⟨t,j⟩:=xj
   exact .inl ⟨t,j,h1.1,h1.2.later (fun _ _ _=>rfl) (fun k hk hl=>⟨by have:w.heap.size+1≤k:=(by simpa using hk);omega,by omega⟩),hr⟩
 go_wp2
 go_loopg [4] m (fun k _ wr=>∃b0 b1 b2 b3 b4 bo bl bc,ebk wr w1.heap.size b0 b1 b2 b3 b4 (.slice bo bl bc)∧ebk wr w.heap.size 0 0 ⟨#[]⟩ 0 0 (.slice none 0 0)∧Kept pb w wr∧ChainAt P opsS T (fun g=>w.heap.size < g∧g≠w1.heap.size) pb tb cap f pl r k (exW b0 b1 b2 b3 b4 (.slice bo bl bc)) wr)
 case atStart=>
  refine ⟨a0,a1,a2,a3,a4,ao,len,c,heap_alloc_new w1 _,(Below.heap_alloc w1 _ _ lt1).trans q1,K1.trans (Kept.alloc pb w1 _),?_⟩
  rcases hc0 with ⟨e,i',h2,h3,h4⟩ | ⟨x,h2,h3⟩
  ·exact .inl ⟨e,i',h2.alloc _,h3.later (fun k _ hl=>Below.heap_alloc w1 _ k hl) (fun _ hk _=>hk),h4⟩
  ·exact .inr ⟨x,h2,h3.alloc _⟩
 case round=>
  clear HR h1 hc0
  obtain ⟨b0,b1,b2,b3,b4,bo,bl,bc,he,hz,kw,hch⟩:=hrel
  have ltE:w1.heap.size < wr.heap.size:=(Array.getElem?_eq_some_iff.1 he).1
  obtain ⟨i',f',pl',hps,hdead⟩:∃i' f' pl',PsAt wr pb tb cap T i' f' pl'∧((∃e,f'=f∧pl'=pl∧RepV wr (fun g=>w.heap.size < g∧g≠w1.heap.size) (exW b0 b1 b2 b3 b4 (.slice bo bl bc)) e∧pChain P opsS T gk e i'=some r)∨(∃x,i'=T.length-1∧r = .error x∧f'=badF f∧pl'=badP f pl (tkAt T x).place)):=by
   rcases hch with ⟨e,i',h2,h3,h4⟩ | ⟨x,h2,h3⟩
   ·exact ⟨i',f,pl,h2,.inl ⟨e,rfl,rfl,h3,h4⟩⟩
   ·exact ⟨_,_,_,h3,.inr ⟨x,rfl,h2,rfl,rfl⟩⟩
  clear hch
  go_wp2_with fail
  refine (next_any wr pb tb cap i' T f' pl' hps).mono ?_
  rintro e w2 ⟨rfl,hb2⟩
  have h2:=hps.below hb2 (Nat.le_refl _)
  go_wp2_with fail
  refine (isSign_any _ (kP (tkAt T i')) (tkAt T i').place (nP (tkAt T i')) (sP (tkAt T i')) (wP (tkAt T i')) w2.heap.size 0 2 runesS (runes_new w2 runesS) (by simp [runesS])).mono ?_
  rintro e w3 ⟨rfl,hb3⟩
  have h3:=(h2.alloc _).below hb3 (Nat.le_refl _)
  have B3:Below wr.heap.size wr w3:=(hb2.alloc hb2.size _).trans (hb3.mono (by have:=hb2.size;simp;omega))
  have he3:ebk w3 w1.heap.size b0 b1 b2 b3 b4 (.slice bo bl bc):=(B3.block _ ltE).trans he
  have hz3:ebk w3 w.heap.size 0 0 ⟨#[]⟩ 0 0 (.slice none 0 0):=(B3.block _ (by omega)).trans hz
  have K3:Kept pb w w3:=kw.trans (Kept.below B3)
  have sz3:=B3.size
  rw [any_S hT i']
  clear hps h2 hb2 hb3 he hz kw
  obtain ⟨⟨d0,d1,d2,d3,d4,d5⟩,z0,z1,z2,z3,z4,z5⟩:=blk6 hz3
  obtain ⟨⟨x0,x1,x2,x3,x4,x5⟩,y0,y1,y2,y3,y4,y5⟩:=blk6 he3
  cases hany:opsS.any (isT T i')
  ·have KK:=hide K3
   have BB:=hide B3
   have HE:=hide he3
   have HZ:=hide hz3
   have H3:=hide h3
   have HD:=hide hdead
   clear K3 B3 he3 hz3 h3 hdead
   go_wp2
   refine bodyPost_ret (v:=exW b0 b1 b2 b3 b4 (.slice bo bl bc)) (by simp [results,Tryz.results141,go_sem,exW,d0,d1,d2,d3,d4,d5]) rfl ⟨(unhide KK).put6 (Nat.le_refl _),b0,b1,b2,b3,b4,bo,bl,bc,rfl,?_⟩
   have h3:=unhide H3
   rcases unhide HD with ⟨e,rfl,rfl,hrep,hpc⟩ | ⟨x,rfl,rfl,rfl,rfl⟩
   ·cases gk with
    | zero=>cases hpc
    | succ gk=>
     rw [pChain,hany,if_neg (by simp)] at hpc
     cases hpc
     refine ⟨h3.put6 (by omega) (by omega),hrep.later (fun k hk hl=>?_) (fun k hk _=>by show _≤k;have:=hk.1;omega)⟩
     exact (put6_other (by have:=hk.1;omega)).trans ((unhide BB).block k hl)
   ·exact h3.put6 (by omega) (by omega)
  ·have hi1:i'+1 < T.length:=by
    obtain ⟨s,_,hs⟩:=List.any_eq_true.1 hany
    exact isT_next hT.last h3.lt hs
   rcases hdead with ⟨e,rfl,rfl,hrep,hpc⟩ | ⟨x,rfl,_⟩
   ·cases gk with
    | zero=>cases hpc
    | succ gk=>
    rw [pChain,hany,if_pos rfl] at hpc
    cases hx:P T (i'+1) with
    | none=>rw [hx] at hpc;cases hpc
    | some r2=>
    rw [hx] at hpc
    have HX:=hide hx
    have HPC:=hide hpc
    have KK:=hide K3
    have BB:=hide B3
    clear hx hpc K3 B3 x0 x1 x2 x3 x4 x5 y0 y1 y2 y3 y4 y5 d0 d1 d2 d3 d4 d5 z0 z1 z2 z3 z4 z5
    go_wp2_with fail
    refine (take_any w3 pb tb cap i' T f' pl' h3 hi1).mono ?_
    rintro e w4 ⟨rfl,h4,k4⟩
    have he4:ebk w4 w1.heap.size b0 b1 b2 b3 b4 (.slice bo bl bc):=(k4.2 _ (by omega) (by omega)).trans he3
    have hz4:ebk w4 w.heap.size 0 0 ⟨#[]⟩ 0 0 (.slice none 0 0):=(k4.2 _ (by omega) (by omega)).trans hz3
    have sz4:=k4.1
    clear he3 hz3 h3
    have K4:=(unhide KK).trans k4
    have S4:Stay (fun g=>w.heap.size < g∧g≠w1.heap.size) wr w4:=fun k hk hl=>(k4.2 k (by omega) (by have:=hk.1;omega)).trans ((unhide BB).block k hl)
    have hpE:pb≠w1.heap.size:=by omega
    have hpZ:pb≠w.heap.size:=by omega
    clear k4 KK
    unfold tokP tkV
    obtain ⟨t0,ht0⟩:∃t0,kP (tkAt T i')=t0:=⟨_,rfl⟩
    obtain ⟨t1,ht1⟩:∃t1,(tkAt T i').place=t1:=⟨_,rfl⟩
    obtain ⟨t2,ht2⟩:∃t2,wP (tkAt T i')=t2:=⟨_,rfl⟩
    obtain ⟨t3,ht3⟩:∃t3,nP (tkAt T i')=t3:=⟨_,rfl⟩
    obtain ⟨t4,ht4⟩:∃t4,sP (tkAt T i')=t4:=⟨_,rfl⟩
    rw [ht0,ht1,ht2,ht3,ht4]
    have HT:=hide (And.intro ht0 (And.intro ht1 (And.intro ht2 (And.intro ht3 ht4))))
    clear ht0 ht1 ht2 ht3 ht4
    go_wp2_with fail
    obtain ⟨w5,hw5⟩:∃w5,w4.alloc (.cells #[.int .i64 t0,.int .i64 t1,.string t2,.int .i32 t3,.int .i32 t4] 116)=w5:=⟨_,rfl⟩
    rw [hw5]
    have s5:w5.heap[w4.heap.size]?=some (.cells #[.int .i64 t0,.int .i64 t1,.string t2,.int .i32 t3,.int .i32 t4] 116 (0,0)):=by rw [←hw5];exact heap_alloc_new w4 _
    have h5:PsAt w5.drew pb tb cap T (i'+1) f' pl':=by rw [←hw5];exact (h4.alloc _).later (fun _ _=>rfl)
    have he5:ebk w5 w1.heap.size b0 b1 b2 b3 b4 (.slice bo bl bc):=by rw [←hw5];exact (Below.heap_alloc w4 _ _ (by omega)).trans he4
    have hz5:ebk w5 w.heap.size 0 0 ⟨#[]⟩ 0 0 (.slice none 0 0):=by rw [←hw5];exact (Below.heap_alloc w4 _ _ (by omega)).trans hz4
    have K5:Kept pb w w5:=by rw [←hw5];exact K4.trans (Kept.alloc pb w4 _)
    have S5:Stay (fun g=>w.heap.size < g∧g≠w1.heap.size) wr w5:=by rw [←hw5];exact fun k hk hl=>(Below.heap_alloc w4 _ k (by omega)).trans (S4 k hk hl)
    have sz5:w4.heap.size < w5.heap.size:=(Array.getElem?_eq_some_iff.1 s5).1
    have fin:∀(w6:World) (c0 c1:Int) (c2:ByteArray) (c3 c4:Int) (co:Option Addr) (cl cc:Nat),Kept pb w5.drew w6→ERes w6 (fun g=>w5.drew.heap.size≤g) pb tb cap T f' pl' (exW c0 c1 c2 c3 c4 (.slice co cl cc)) r2 →
      ∃b0' b1' b2' b3' b4' bo' bl' bc',ebk ((put6 w6 w1.heap.size t0 t1 t2 t3 t4 (.slice (some ⟨w6.heap.size,0,none⟩) 2 2)).alloc (.cells #[.int .i64 b0,.int .i64 b1,.string b2,.int .i32 b3,.int .i32 b4,.slice bo bl bc,.int .i64 c0,.int .i64 c1,.string c2,.int .i32 c3,.int .i32 c4,.slice co cl cc] 119)) w1.heap.size b0' b1' b2' b3' b4' (.slice bo' bl' bc') ∧
       ebk ((put6 w6 w1.heap.size t0 t1 t2 t3 t4 (.slice (some ⟨w6.heap.size,0,none⟩) 2 2)).alloc (.cells #[.int .i64 b0,.int .i64 b1,.string b2,.int .i32 b3,.int .i32 b4,.slice bo bl bc,.int .i64 c0,.int .i64 c1,.string c2,.int .i32 c3,.int .i32 c4,.slice co cl cc] 119)) w.heap.size 0 0 ⟨#[]⟩ 0 0 (.slice none 0 0) ∧
       Kept pb w ((put6 w6 w1.heap.size t0 t1 t2 t3 t4 (.slice (some ⟨w6.heap.size,0,none⟩) 2 2)).alloc (.cells #[.int .i64 b0,.int .i64 b1,.string b2,.int .i32 b3,.int .i32 b4,.slice bo bl bc,.int .i64 c0,.int .i64 c1,.string c2,.int .i32 c3,.int .i32 c4,.slice co cl cc] 119)) ∧
       ChainAt P opsS T (fun g=>w.heap.size < g∧g≠w1.heap.size) pb tb cap f' pl' r gk (exW b0' b1' b2' b3' b4' (.slice bo' bl' bc')) ((put6 w6 w1.heap.size t0 t1 t2 t3 t4 (.slice (some ⟨w6.heap.size,0,none⟩) 2 2)).alloc (.cells #[.int .i64 b0,.int .i64 b1,.string b2,.int .i32 b3,.int .i32 b4,.slice bo bl bc,.int .i64 c0,.int .i64 c1,.string c2,.int .i32 c3,.int .i32 c4,.slice co cl cc] 119)):=by
     intro w6 c0 c1 c2 c3 c4 co cl cc k6 h6
     have k6':Kept pb w5 w6:=k6.undrew
     have sz6:=k6'.1
     have he6:ebk w6 w1.heap.size b0 b1 b2 b3 b4 (.slice bo bl bc):=(k6'.2 _ (by omega) (by omega)).trans he5
     have hz6:ebk w6 w.heap.size 0 0 ⟨#[]⟩ 0 0 (.slice none 0 0):=(k6'.2 _ (by omega) (by omega)).trans hz5
     have S6:Stay (fun g=>w.heap.size < g∧g≠w1.heap.size) w5 w6:=k6'.stay (fun h=>by have:=h.1;omega)
     have sw5:wr.heap.size≤w5.heap.size:=by omega
     obtain ⟨ht0,ht1,ht2,ht3,ht4⟩:=unhide HT
     refine ⟨t0,t1,t2,t3,t4,some ⟨w6.heap.size,0,none⟩,2,2,?_,?_,?_,?_⟩
     ·exact (Below.heap_alloc _ _ _ (by rw [put6_size];omega)).trans (ebk_put6 he6)
     ·exact (Below.heap_alloc _ _ _ (by rw [put6_size];omega)).trans ((put6_other (by omega)).trans hz6)
     ·exact ((K5.trans k6').put6 (by omega)).trans (Kept.alloc _ _ _)
     ·rw [←ht0,←ht1,←ht2,←ht3,←ht4]
      exact chain_step (hrep.later (S5.trans sw5 S6) (fun _ h _=>h)) h6 (unhide HPC) (fun g hg _=>⟨by have:w5.heap.size≤g:=hg;omega,by have:w5.heap.size≤g:=hg;omega⟩) ⟨by omega,by omega⟩ (fun h=>h.2 rfl) (by omega) (by omega)
    clear hw5 h4 he4 hz4 K4
    obtain ⟨⟨x0,x1,x2,x3,x4,x5⟩,y0,y1,y2,y3,y4,y5⟩:=blk6 he5
    obtain ⟨g0,g1,g2,g3,g4⟩:=blk5 s5
    go_region_with (go_at_call_of 144 (Value.pointer (some ⟨pb,0,none⟩));refine (hP _ pb tb cap (i'+1) T f' pl' r2 hT ?_ (unhide HX)).mono ?_;exact h5;rintro e w6 ⟨k6,c0,c1,c2,c3,c4,co,cl,cc,rfl,h6⟩;have he6:ebk w6 w1.heap.size b0 b1 b2 b3 b4 (.slice bo bl bc):=(k6.2 _ (by show _ < w5.heap.size;omega) (by omega)).trans he5;have s6:=(k6.2 _ (by show _ < w5.heap.size;omega) (by omega)).trans s5;obtain ⟨⟨v0,v1,v2,v3,v4,v5⟩,u0,u1,u2,u3,u4,u5⟩:=blk6 he6;obtain ⟨n0,n1,n2,n3,n4⟩:=blk5 s6;have l6:w1.heap.size < w6.heap.size:=(Array.getElem?_eq_some_iff.1 he6).1;have m6:w1.heap.size≠w6.heap.size:=(by omega);have l7:w4.heap.size < w6.heap.size:=(Array.getElem?_eq_some_iff.1 s6).1;have m7:w4.heap.size≠w6.heap.size:=(by omega);unfold exW)
    all_goals go_wp2
    all_goals go_roundg gk
    all_goals first | exact fin w6 c0 c1 c2 c3 c4 co cl cc k6 h6 | omega
   ·exfalso
    have:=List.any_eq_true.1 hany
    obtain ⟨s,_,hs⟩:=this
    rw [over_is hT.last s] at hs
    cases hs
def runesE:List Int:=[61,8800,60,8804]
theorem any_E {T:List Tok} (hT:TokW T) (i:Nat):((kP (tkAt T i)==4)&&runesE.any (fun t=>sP (tkAt T i)==t))=opsE.any (isT T i):=by
 have e:runesE=opsE.map runeOf:=by unfold runeOf;simp only [ByteArray.toList_eq];decide
 have m:∀s∈opsE,s∈signs:=by intro s hs;simp only [opsE,List.mem_cons,List.not_mem_nil,or_false] at hs;rcases hs with rfl | rfl | rfl | rfl <;> simp [signs]
 rw [e,List.any_map]
 have:∀l:List ByteArray,(∀s∈l,s∈signs)→((kP (tkAt T i)==4)&&l.any ((fun t=>sP (tkAt T i)==t) ∘ runeOf))=l.any (isT T i):=fun l=>by
  induction l with
  | nil=>intro _;simp
  | cons a l ih=>
   intro hm
   rw [List.any_cons,List.any_cons,Bool.and_or_distrib_left,ih (fun s hs=>hm s (List.mem_cons_of_mem _ hs))]
   have:=sg_is hT i (hm a List.mem_cons_self)
   unfold sgB at this
   rw [←this]
   rfl
 exact this _ m
theorem chain_out {P:PE} {T:List Tok} {Q:Nat→Prop} {pb tb cap b B:Nat} {f pl:Int} {r:Except Nat (Ex×Nat)} {v:Value} {W:World} {k p n s:Int} {wd:ByteArray} {sv:Value} (h:ChainAt P [] T Q pb tb cap f pl r 1 v W) (h1:b≠pb) (h2:b≠tb) (hQb:¬ Q b) (hQ:∀k,Q k→B≤k) :
  ERes (put6 W b k p wd n s sv) (fun g=>B≤g) pb tb cap T f pl v r:=by
 rcases h with ⟨e,i,g1,g2,g3⟩ | ⟨x,rfl,g1⟩
 ·have g4:(some (Except.ok (e,i)):PR Ex)=some r:=g3
  cases g4
  exact ⟨g1.put6 h1 h2,g2.later (fun j hj _=>put6_other (fun (e:j=b)=>hQb (by rw [←e];exact hj))) (fun k hk _=>hQ k hk)⟩
 ·exact g1.put6 h1 h2
set_option maxHeartbeats 8000000 in
theorem pexpr_any {P:PE} (hP:ParsesE 141 P):ParsesE 130 (pExpr P):=by
 intro w pb tb cap i T f pl r hT h hr
 have hp:=h.plt
 have hlow:=h.low
 unfold pExpr at hr
 cases hx:P T i with
 | none=>rw [hx] at hr;cases hr
 | some r1=>
 rw [hx] at hr
 have HX:=hide hx
 have HR:=hide hr
 clear hx hr
 go_enter Tryz.func130,Tryz.ntmps130
 go_wp2_with fail
 refine (hP _ pb tb cap i T f pl r1 hT (h.alloc _) (unhide HX)).mono ?_
 rintro e w1 ⟨k1,b0,b1,b2,b3,b4,bo,bl,bc,rfl,h1⟩
 have q1:w1.heap[w.heap.size]?=some (.cells #[.int .i64 0,.int .i64 0,.string ⟨#[]⟩,.int .i32 0,.int .i32 0,.slice none 0 0] 119 (0,0)):=(k1.2 _ (by simp) (by omega)).trans (heap_alloc_new w _)
 have K1:=(Kept.alloc pb w _).trans k1
 have lt1:w.heap.size < w1.heap.size:=(Array.getElem?_eq_some_iff.1 q1).1
 clear h k1 HX
 unfold exW
 obtain ⟨wr,hwr⟩:∃wr,w1.alloc (.cells #[.int .i64 b0,.int .i64 b1,.string b2,.int .i32 b3,.int .i32 b4,.slice bo bl bc] 119)=wr:=⟨_,rfl⟩
 have he:ebk wr w1.heap.size b0 b1 b2 b3 b4 (.slice bo bl bc):=by rw [←hwr];exact heap_alloc_new w1 _
 have hz:ebk wr w.heap.size 0 0 ⟨#[]⟩ 0 0 (.slice none 0 0):=by rw [←hwr];exact (Below.heap_alloc w1 _ _ lt1).trans q1
 have kw:Kept pb w wr:=by rw [←hwr];exact K1.trans (Kept.alloc pb w1 _)
 have ltE:w1.heap.size < wr.heap.size:=(Array.getElem?_eq_some_iff.1 he).1
 obtain ⟨i',f',pl',hps,hdead⟩:∃i' f' pl',PsAt wr pb tb cap T i' f' pl'∧((∃e,f'=f∧pl'=pl∧RepV wr (fun g=>w.heap.size < g∧g≠w1.heap.size) (exW b0 b1 b2 b3 b4 (.slice bo bl bc)) e∧pPair P T e i'=some r)∨(∃x,i'=T.length-1∧r = .error x∧f'=badF f∧pl'=badP f pl (tkAt T x).place)):=by
  have hr:=unhide HR
  cases r1 with
  | error x=>cases hr;exact ⟨_,_,_,by rw [←hwr];exact PsAt.alloc h1 _,.inr ⟨x,rfl,rfl,rfl,rfl⟩⟩
  | ok xj=>
   obtain ⟨t,j⟩:=xj
   refine ⟨j,f,pl,by rw [←hwr];exact h1.1.alloc _,.inl ⟨t,rfl,rfl,?_,hr⟩⟩
   exact h1.2.later (by rw [←hwr];exact fun k _ hl=>Below.heap_alloc w1 _ k hl) (fun k hk hl=>⟨by have:w.heap.size+1≤k:=(by simpa using hk);omega,by omega⟩)
 clear HR h1 K1 q1
 go_wp2_with fail
 clear hwr
 refine (next_any wr pb tb cap i' T f' pl' hps).mono ?_
 rintro e w2 ⟨rfl,hb2⟩
 have h2:=hps.below hb2 (Nat.le_refl _)
 go_wp2_with fail
 refine (isSign_any _ (kP (tkAt T i')) (tkAt T i').place (nP (tkAt T i')) (sP (tkAt T i')) (wP (tkAt T i')) w2.heap.size 0 4 runesE (runes_new w2 runesE) (by simp [runesE])).mono ?_
 rintro e w3 ⟨rfl,hb3⟩
 have h3:=(h2.alloc _).below hb3 (Nat.le_refl _)
 have B3:Below wr.heap.size wr w3:=(hb2.alloc hb2.size _).trans (hb3.mono (by have:=hb2.size;simp;omega))
 have he3:ebk w3 w1.heap.size b0 b1 b2 b3 b4 (.slice bo bl bc):=(B3.block _ ltE).trans he
 have hz3:ebk w3 w.heap.size 0 0 ⟨#[]⟩ 0 0 (.slice none 0 0):=(B3.block _ (by omega)).trans hz
 have K3:Kept pb w w3:=kw.trans (Kept.below B3)
 have sz3:=B3.size
 rw [any_E hT i']
 clear hps h2 hb2 hb3 he hz kw
 obtain ⟨⟨d0,d1,d2,d3,d4,d5⟩,z0,z1,z2,z3,z4,z5⟩:=blk6 hz3
 obtain ⟨⟨x0,x1,x2,x3,x4,x5⟩,y0,y1,y2,y3,y4,y5⟩:=blk6 he3
 cases hany:opsE.any (isT T i')
 ·have KK:=hide K3
  have BB:=hide B3
  have HE:=hide he3
  have HZ:=hide hz3
  have H3:=hide h3
  have HD:=hide hdead
  clear K3 B3 he3 hz3 h3 hdead
  go_wp2
  refine bodyPost_ret (v:=exW b0 b1 b2 b3 b4 (.slice bo bl bc)) (by simp [results,Tryz.results130,go_sem,exW,d0,d1,d2,d3,d4,d5]) rfl ⟨(unhide KK).put6 (Nat.le_refl _),b0,b1,b2,b3,b4,bo,bl,bc,rfl,?_⟩
  have h3:=unhide H3
  rcases unhide HD with ⟨e,rfl,rfl,hrep,hpc⟩ | ⟨x,rfl,rfl,rfl,rfl⟩
  ·rw [pPair,hany,if_neg (by simp)] at hpc
   cases hpc
   refine ⟨h3.put6 (by omega) (by omega),hrep.later (fun k hk hl=>?_) (fun k hk _=>by show _≤k;have:=hk.1;omega)⟩
   exact (put6_other (by have:=hk.1;omega)).trans ((unhide BB).block k hl)
  ·exact h3.put6 (by omega) (by omega)
 ·have hi1:i'+1 < T.length:=by
   obtain ⟨s,_,hs⟩:=List.any_eq_true.1 hany
   exact isT_next hT.last h3.lt hs
  rcases hdead with ⟨e,rfl,rfl,hrep,hpc⟩ | ⟨x,rfl,_⟩
  ·rw [pPair,hany,if_pos rfl] at hpc
   cases hx:P T (i'+1) with
   | none=>rw [hx] at hpc;cases hpc
   | some r2=>
   rw [hx] at hpc
   have HX:=hide hx
   have HPC:=hide hpc
   have KK:=hide K3
   have BB:=hide B3
   clear hx hpc K3 B3 x0 x1 x2 x3 x4 x5 y0 y1 y2 y3 y4 y5 d0 d1 d2 d3 d4 d5 z0 z1 z2 z3 z4 z5
   go_wp2_with fail
   refine (take_any w3 pb tb cap i' T f' pl' h3 hi1).mono ?_
   rintro e w4 ⟨rfl,h4,k4⟩
   have he4:ebk w4 w1.heap.size b0 b1 b2 b3 b4 (.slice bo bl bc):=(k4.2 _ (by omega) (by omega)).trans he3
   have hz4:ebk w4 w.heap.size 0 0 ⟨#[]⟩ 0 0 (.slice none 0 0):=(k4.2 _ (by omega) (by omega)).trans hz3
   have sz4:=k4.1
   clear he3 hz3 h3
   have K4:=(unhide KK).trans k4
   have S4:Stay (fun g=>w.heap.size < g∧g≠w1.heap.size) wr w4:=fun k hk hl=>(k4.2 k (by omega) (by have:=hk.1;omega)).trans ((unhide BB).block k hl)
   have hpE:pb≠w1.heap.size:=by omega
   have hpZ:pb≠w.heap.size:=by omega
   clear k4 KK
   unfold tokP tkV
   obtain ⟨t0,ht0⟩:∃t0,kP (tkAt T i')=t0:=⟨_,rfl⟩
   obtain ⟨t1,ht1⟩:∃t1,(tkAt T i').place=t1:=⟨_,rfl⟩
   obtain ⟨t2,ht2⟩:∃t2,wP (tkAt T i')=t2:=⟨_,rfl⟩
   obtain ⟨t3,ht3⟩:∃t3,nP (tkAt T i')=t3:=⟨_,rfl⟩
   obtain ⟨t4,ht4⟩:∃t4,sP (tkAt T i')=t4:=⟨_,rfl⟩
   rw [ht0,ht1,ht2,ht3,ht4]
   have HT:=hide (And.intro ht0 (And.intro ht1 (And.intro ht2 (And.intro ht3 ht4))))
   clear ht0 ht1 ht2 ht3 ht4
   go_wp2_with fail
   obtain ⟨w5,hw5⟩:∃w5,w4.alloc (.cells #[.int .i64 t0,.int .i64 t1,.string t2,.int .i32 t3,.int .i32 t4] 116)=w5:=⟨_,rfl⟩
   rw [hw5]
   have s5:w5.heap[w4.heap.size]?=some (.cells #[.int .i64 t0,.int .i64 t1,.string t2,.int .i32 t3,.int .i32 t4] 116 (0,0)):=by rw [←hw5];exact heap_alloc_new w4 _
   have h5:PsAt w5.drew pb tb cap T (i'+1) f' pl':=by rw [←hw5];exact (h4.alloc _).later (fun _ _=>rfl)
   have he5:ebk w5 w1.heap.size b0 b1 b2 b3 b4 (.slice bo bl bc):=by rw [←hw5];exact (Below.heap_alloc w4 _ _ (by omega)).trans he4
   have hz5:ebk w5 w.heap.size 0 0 ⟨#[]⟩ 0 0 (.slice none 0 0):=by rw [←hw5];exact (Below.heap_alloc w4 _ _ (by omega)).trans hz4
   have K5:Kept pb w w5:=by rw [←hw5];exact K4.trans (Kept.alloc pb w4 _)
   have S5:Stay (fun g=>w.heap.size < g∧g≠w1.heap.size) wr w5:=by rw [←hw5];exact fun k hk hl=>(Below.heap_alloc w4 _ k (by omega)).trans (S4 k hk hl)
   have sz5:w4.heap.size < w5.heap.size:=(Array.getElem?_eq_some_iff.1 s5).1
   have fin:∀(w6:World) (c0 c1:Int) (c2:ByteArray) (c3 c4:Int) (co:Option Addr) (cl cc:Nat),Kept pb w5.drew w6→ERes w6 (fun g=>w5.drew.heap.size≤g) pb tb cap T f' pl' (exW c0 c1 c2 c3 c4 (.slice co cl cc)) r2 →
     ∃b0' b1' b2' b3' b4' bo' bl' bc',ebk ((put6 w6 w1.heap.size t0 t1 t2 t3 t4 (.slice (some ⟨w6.heap.size,0,none⟩) 2 2)).alloc (.cells #[.int .i64 b0,.int .i64 b1,.string b2,.int .i32 b3,.int .i32 b4,.slice bo bl bc,.int .i64 c0,.int .i64 c1,.string c2,.int .i32 c3,.int .i32 c4,.slice co cl cc] 119)) w1.heap.size b0' b1' b2' b3' b4' (.slice bo' bl' bc') ∧
      ebk ((put6 w6 w1.heap.size t0 t1 t2 t3 t4 (.slice (some ⟨w6.heap.size,0,none⟩) 2 2)).alloc (.cells #[.int .i64 b0,.int .i64 b1,.string b2,.int .i32 b3,.int .i32 b4,.slice bo bl bc,.int .i64 c0,.int .i64 c1,.string c2,.int .i32 c3,.int .i32 c4,.slice co cl cc] 119)) w.heap.size 0 0 ⟨#[]⟩ 0 0 (.slice none 0 0) ∧
      Kept pb w ((put6 w6 w1.heap.size t0 t1 t2 t3 t4 (.slice (some ⟨w6.heap.size,0,none⟩) 2 2)).alloc (.cells #[.int .i64 b0,.int .i64 b1,.string b2,.int .i32 b3,.int .i32 b4,.slice bo bl bc,.int .i64 c0,.int .i64 c1,.string c2,.int .i32 c3,.int .i32 c4,.slice co cl cc] 119)) ∧
      ChainAt P [] T (fun g=>w.heap.size < g∧g≠w1.heap.size) pb tb cap f' pl' r 1 (exW b0' b1' b2' b3' b4' (.slice bo' bl' bc')) ((put6 w6 w1.heap.size t0 t1 t2 t3 t4 (.slice (some ⟨w6.heap.size,0,none⟩) 2 2)).alloc (.cells #[.int .i64 b0,.int .i64 b1,.string b2,.int .i32 b3,.int .i32 b4,.slice bo bl bc,.int .i64 c0,.int .i64 c1,.string c2,.int .i32 c3,.int .i32 c4,.slice co cl cc] 119)):=by
    intro w6 c0 c1 c2 c3 c4 co cl cc k6 h6
    have k6':Kept pb w5 w6:=k6.undrew
    have sz6:=k6'.1
    have he6:ebk w6 w1.heap.size b0 b1 b2 b3 b4 (.slice bo bl bc):=(k6'.2 _ (by omega) (by omega)).trans he5
    have hz6:ebk w6 w.heap.size 0 0 ⟨#[]⟩ 0 0 (.slice none 0 0):=(k6'.2 _ (by omega) (by omega)).trans hz5
    have S6:Stay (fun g=>w.heap.size < g∧g≠w1.heap.size) w5 w6:=k6'.stay (fun h=>by have:=h.1;omega)
    have sw5:wr.heap.size≤w5.heap.size:=by omega
    obtain ⟨ht0,ht1,ht2,ht3,ht4⟩:=unhide HT
    refine ⟨t0,t1,t2,t3,t4,some ⟨w6.heap.size,0,none⟩,2,2,?_,?_,?_,?_⟩
    ·exact (Below.heap_alloc _ _ _ (by rw [put6_size];omega)).trans (ebk_put6 he6)
    ·exact (Below.heap_alloc _ _ _ (by rw [put6_size];omega)).trans ((put6_other (by omega)).trans hz6)
    ·exact ((K5.trans k6').put6 (by omega)).trans (Kept.alloc _ _ _)
    ·rw [←ht0,←ht1,←ht2,←ht3,←ht4]
     exact chain_step (hrep.later (S5.trans sw5 S6) (fun _ h _=>h)) h6 (unhide HPC) (fun g hg _=>⟨by have:w5.heap.size≤g:=hg;omega,by have:w5.heap.size≤g:=hg;omega⟩) ⟨by omega,by omega⟩ (fun h=>h.2 rfl) (by omega) (by omega)
   clear hw5 h4 he4 hz4 K4
   obtain ⟨⟨x0,x1,x2,x3,x4,x5⟩,y0,y1,y2,y3,y4,y5⟩:=blk6 he5
   obtain ⟨g0,g1,g2,g3,g4⟩:=blk5 s5
   go_region_with (go_at_call_of 141 (Value.pointer (some ⟨pb,0,none⟩));refine (hP _ pb tb cap (i'+1) T f' pl' r2 hT ?_ (unhide HX)).mono ?_;exact h5;rintro e w6 ⟨k6,c0,c1,c2,c3,c4,co,cl,cc,rfl,h6⟩;have he6:ebk w6 w1.heap.size b0 b1 b2 b3 b4 (.slice bo bl bc):=(k6.2 _ (by show _ < w5.heap.size;omega) (by omega)).trans he5;have s6:=(k6.2 _ (by show _ < w5.heap.size;omega) (by omega)).trans s5;obtain ⟨⟨v0,v1,v2,v3,v4,v5⟩,u0,u1,u2,u3,u4,u5⟩:=blk6 he6;obtain ⟨n0,n1,n2,n3,n4⟩:=blk5 s6;have l6:w1.heap.size < w6.heap.size:=(Array.getElem?_eq_some_iff.1 he6).1;have m6:w1.heap.size≠w6.heap.size:=(by omega);have l7:w4.heap.size < w6.heap.size:=(Array.getElem?_eq_some_iff.1 s6).1;have m7:w4.heap.size≠w6.heap.size:=(by omega);unfold exW)
   all_goals obtain ⟨o0,o1,o2,o3,o4,oo,ol,oc,qe,qz,qk,qc⟩:=fin w6 c0 c1 c2 c3 c4 co cl cc k6 h6
   all_goals unfold put6 at qe qz qk qc
   all_goals generalize hW:(((((((w6.setCell ⟨w1.heap.size,0,none⟩ (.int .i64 t0)).setCell ⟨w1.heap.size,1,none⟩ (.int .i64 t1)).setCell ⟨w1.heap.size,2,none⟩ (.string t2)).setCell ⟨w1.heap.size,3,none⟩ (.int .i32 t3)).setCell ⟨w1.heap.size,4,none⟩ (.int .i32 t4)).setCell ⟨w1.heap.size,5,none⟩ (.slice (some ⟨w6.heap.size,0,none⟩) 2 2)).alloc (.cells #[.int .i64 b0,.int .i64 b1,.string b2,.int .i32 b3,.int .i32 b4,.slice bo bl bc,.int .i64 c0,.int .i64 c1,.string c2,.int .i32 c3,.int .i32 c4,.slice co cl cc] 119))=W at qe qz qk qc ⊢
   all_goals clear hW
   all_goals obtain ⟨⟨i0,i1,i2,i3,i4,i5⟩,j0,j1,j2,j3,j4,j5⟩:=blk6 qe
   all_goals obtain ⟨⟨d0,d1,d2,d3,d4,d5⟩,z0,z1,z2,z3,z4,z5⟩:=blk6 qz
   all_goals have QK:=hide qk
   all_goals have QC:=hide qc
   all_goals clear qe qz qk qc fin h6 k6
   all_goals go_wp2
   all_goals refine bodyPost_ret (v:=exW o0 o1 o2 o3 o4 (.slice oo ol oc)) (by simp [results,Tryz.results130,go_sem,exW,d0,d1,d2,d3,d4,d5]) rfl ⟨(unhide QK).put6 (Nat.le_refl _),o0,o1,o2,o3,o4,oo,ol,oc,rfl,chain_out (unhide QC) (by omega) (by omega) (fun h=>by have:=h.1;omega) (fun k hk=>by have:=hk.1;omega)⟩
  ·exfalso
   have:=List.any_eq_true.1 hany
   obtain ⟨s,_,hs⟩:=this
   rw [over_is hT.last s] at hs
   cases hs
end Go.Proofs.YthmmgiaobakilaaGreat
