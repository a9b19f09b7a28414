import Derived.Test.YthmmgiaobakilaaGreatJ51
set_option maxRecDepth 100000
namespace Go.Proofs.YthmmgiaobakilaaGreat
open Go.RowKit Go.Deep
def TchAt (B:Nat)(w:World)(ao:Option Addr)(l:List (Int×Int)):Prop:=
 l=[]∨∃g,ao=some⟨g,0,none⟩∧g < B∧∀j,j < l.length→w.cell? ⟨g,j*2,none⟩=some (.int .i64 (l.getD j (0,0)).1)∧w.cell? ⟨g,j*2+1,none⟩=some (.int .i64 (l.getD j (0,0)).2)
theorem TchAt.later{B B':Nat}{w w':World}{ao:Option Addr}{l:List (Int×Int)}(h:TchAt B w ao l)(hb:Below B' w w')(hB:B≤B'):TchAt B w' ao l:=by
 rcases h with h | ⟨g,h1,h2,h3⟩
 ·exact .inl h
 ·exact .inr⟨g,h1,h2,fun j hj=>⟨(hb.cell (p:=⟨g,j*2,none⟩)(by show g < B';omega)).trans (h3 j hj).1,(hb.cell (p:=⟨g,j*2+1,none⟩)(by show g < B';omega)).trans (h3 j hj).2⟩⟩
theorem TchAt.mono{B B':Nat}{w:World}{ao:Option Addr}{l:List (Int×Int)}(h:TchAt B w ao l)(hB:B≤B'):TchAt B' w ao l:=by
 rcases h with h | ⟨g,h1,h2,h3⟩
 ·exact .inl h
 ·exact .inr⟨g,h1,by omega,h3⟩
theorem tchs_at:∀(l:List (Int×Int))(j:Nat),j < l.length→(tchsC l)[j*2]?=some (.int .i64 (l.getD j (0,0)).1)∧(tchsC l)[j*2+1]?=some (.int .i64 (l.getD j (0,0)).2)
 | [],j,h=>by simp at h
 | (a,b)::l,0,_=>⟨rfl,rfl⟩
 | (a,b)::l,j+1,h=>by
  have:=tchs_at l j (by simpa using h)
  have e:tchsC ((a,b)::l) = .int .i64 a :: .int .i64 b::tchsC l:=rfl
  rw [e,show (j+1)*2=j*2+1+1 by omega,show j*2+1+1+1=(j*2+1)+1+1 by omega]
  simpa using this
theorem ints_own{w:World}{base e n:Nat}{v:Value}{xs:List Int}(h:w.ownsRow base e 1 v n (xs.map (Value.int .i64)))(hn:n=xs.length):∃ao c,v = .slice ao xs.length c∧IntsAt w.heap.size w ao xs∧xs.length≤maxLen:=by
 subst hn
 rcases h.2 with⟨h1,h0⟩ | ⟨g,cap,cur,hv,_,_,k1,k2,_⟩
 ·exact⟨none,0,by rw [h1,h0],.inl (List.eq_nil_of_length_eq_zero h0),by rw [h0];exact Nat.zero_le _⟩
 ·subst hv
  refine⟨_,_,rfl,.inr⟨g,0,rfl,(h.lt g rfl).2,fun j hj=>?_⟩,by omega⟩
  have:=h.cellAt j (by omega)
  rw [Nat.zero_add]
  refine this.trans ?_
  simp [List.getElem?_map,List.getElem?_eq_getElem hj,List.getD]
theorem tchs_own{w:World}{base e n:Nat}{v:Value}{l:List (Int×Int)}(h:w.ownsRow base e 2 v n (tchsC l))(hn:n=l.length):∃ao c,v = .slice ao l.length c∧TchAt w.heap.size w ao l∧l.length≤maxLen:=by
 subst hn
 rcases h.2 with⟨h1,h0⟩ | ⟨g,cap,cur,hv,_,_,k1,k2,_⟩
 ·exact⟨none,0,by rw [h1,h0],.inl (List.eq_nil_of_length_eq_zero h0),by rw [h0];exact Nat.zero_le _⟩
 ·subst hv
  refine⟨_,_,rfl,.inr⟨g,rfl,(h.lt g rfl).2,fun j hj=>?_⟩,by omega⟩
  obtain⟨t1,t2⟩:=tchs_at l j hj
  exact⟨(h.cellAt _ (by omega)).trans t1,(h.cellAt _ (by omega)).trans t2⟩
set_option maxHeartbeats 1000000 in
theorem same_ints (ao bo:Option Addr)(c d:Nat)(xs:List Int)(w:World)(hx:IntsAt w.heap.size w ao xs)(hy:IntsAt w.heap.size w bo xs)(hm:xs.length≤maxLen) :
  Calls Tryz.prog 26 #[.slice ao xs.length c,.slice bo xs.length d]w fun e w'=>e = .returned (.bool true)∧Below w.heap.size w w':=by
 have hl:xs.length≤9223372036854775807:=by unfold maxLen at hm;omega
 clear hm
 go_enter Tryz.func26,Tryz.ntmps26
 go_wp2
 go_loopw [5](fun i wr=>∃k:Nat,k≤xs.length∧i = .int .i64 k∧Below w.heap.size w wr)(fun i _=>xs.length-(intOf i).toNat)
 case atStart=>exact⟨0,Nat.zero_le _,rfl,Below.refl _ _⟩
 case round=>
  obtain⟨k,hk,rfl,hnx⟩:=hrel
  by_cases hlt:k < xs.length
  ·rcases hx with hx | ⟨b1,off1,rfl,hb1,hc1⟩
   ·simp [hx]at hlt
   rcases hy with hy | ⟨b2,off2,rfl,hb2,hc2⟩
   ·simp [hy]at hlt
   have x1:=(hnx.cell (p:=⟨b1,off1+k,none⟩)hb1).trans (hc1 k hlt)
   have x2:=(hnx.cell (p:=⟨b2,off2+k,none⟩)hb2).trans (hc2 k hlt)
   clear hc1 hc2
   generalize xs.getD k 0=v at x1 x2
   have hi:(k:Int) < (xs.length:Int):=by omega
   have R:=hide hnx.drew
   clear hnx
   go_wp2
   go_region
   all_goals (try go_wp2)
   all_goals
    go_roundw
    case rel=>exact⟨k+1,by omega,by go_num,unhide R⟩
    case measure=>simp [intOf];omega
  ·go_wp2
   go_ret
   exact⟨rfl,hnx⟩
theorem Rz.new (w:World)(c0 c1 c2 c3 c4:Value):Rz (w.alloc (.cells #[c0,c1,c2,c3,c4] 36))w.heap.size c0 c1 c2 c3 c4:=heap_alloc_new w _
theorem Sz.new (w:World)(c0 c1 c2 c3 c4:Value):Sz (w.alloc (.cells #[c0,c1,c2,c3,c4] 24))w.heap.size c0 c1 c2 c3 c4:=heap_alloc_new w _
set_option maxHeartbeats 2000000 in
theorem same_result (ao bo to ao' bo' to':Option Addr)(c d f c' d' f':Nat)(xs ys:List Int)(st tt:Int)(l:List (Int×Int))(w:World)
  (hx:IntsAt w.heap.size w ao xs)(hy:IntsAt w.heap.size w bo ys)(ht:TchAt w.heap.size w to l)(hx':IntsAt w.heap.size w ao' xs)(hy':IntsAt w.heap.size w bo' ys)(ht':TchAt w.heap.size w to' l)(lx:xs.length≤maxLen)(ly:ys.length≤maxLen)(hm:l.length≤maxLen) :
  Calls Tryz.prog 10 #[.agg #[.slice ao xs.length c,.slice bo ys.length d,.int .i64 st,.int .i64 tt,.slice to l.length f],.agg #[.slice ao' xs.length c',.slice bo' ys.length d',.int .i64 st,.int .i64 tt,.slice to' l.length f']]w fun e w'=>e = .returned (.bool true)∧Below w.heap.size w w':=by
 have hl:l.length≤9223372036854775807:=by unfold maxLen at hm;omega
 clear hm
 obtain⟨w1,hw1⟩:∃w1,(w.alloc (.cells #[.slice ao xs.length c,.slice bo ys.length d,.int .i64 st,.int .i64 tt,.slice to l.length f] 36)).alloc (.cells #[.slice ao' xs.length c',.slice bo' ys.length d',.int .i64 st,.int .i64 tt,.slice to' l.length f'] 36)=w1:=⟨_,rfl⟩
 have z1:w1.heap.size=w.heap.size+2:=by rw [←hw1];simp
 have b1:Below w.heap.size w w1:=by rw [←hw1];exact ((Below.refl _ w).alloc (Nat.le_refl _)_).alloc (by simp)_
 have r1:Rz w1 w.heap.size (.slice ao xs.length c)(.slice bo ys.length d)(.int .i64 st)(.int .i64 tt)(.slice to l.length f):=by rw [←hw1];exact (Below.heap_alloc _ _ _ (by simp)).trans (heap_alloc_new w _)
 have s1:Rz w1 (w.heap.size+1)(.slice ao' xs.length c')(.slice bo' ys.length d')(.int .i64 st)(.int .i64 tt)(.slice to' l.length f'):=by
  rw [←hw1]
  have:=Rz.new (w.alloc (.cells #[.slice ao xs.length c,.slice bo ys.length d,.int .i64 st,.int .i64 tt,.slice to l.length f] 36))(.slice ao' xs.length c')(.slice bo' ys.length d')(.int .i64 st)(.int .i64 tt)(.slice to' l.length f')
  rw [World.size_alloc]at this
  exact this
 obtain⟨⟨x0,x1,x2,x3,x4⟩,_⟩:=bk5 r1
 obtain⟨⟨y0,y1,y2,y3,y4⟩,_⟩:=bk5 s1
 have S1:=hide (same_ints ao ao' c c' xs w1 ((hx.later b1 (Nat.le_refl _)).mono b1.size)((hx'.later b1 (Nat.le_refl _)).mono b1.size)lx)
 have S2:=hide (fun w2 (b2:Below w.heap.size w w2)=>same_ints bo bo' d d' ys w2 ((hy.later b2 (Nat.le_refl _)).mono b2.size)((hy'.later b2 (Nat.le_refl _)).mono b2.size)ly)
 have HT:Hid (∀w2,Below w.heap.size w w2→TchAt w.heap.size w2 to l∧TchAt w.heap.size w2 to' l):=fun w2 b2=>⟨ht.later b2 (Nat.le_refl _),ht'.later b2 (Nat.le_refl _)⟩
 have B1:=hide b1
 have R1:Hid (Rz w1 w.heap.size _ _ _ _ _∧Rz w1 (w.heap.size+1)_ _ _ _ _):=⟨r1,s1⟩
 have Z1:=hide z1
 clear b1 r1 s1 z1 hx hy ht hx' hy' ht' lx ly
 go_enter Tryz.func10,Tryz.ntmps10
 go_wp2_with fail
 clear hw1 x0 x1 x2 x3 x4 y0 y1 y2 y3 y4
 refine (unhide S1).mono ?_
 rintro e w2⟨rfl,b2⟩
 have z1:=unhide Z1
 have r2:=(unhide R1).1.later b2 (by omega)
 have s2:=(unhide R1).2.later b2 (by omega)
 have B2:=hide ((unhide B1).trans (b2.mono (by omega)))
 have e2:=b2.size
 obtain⟨⟨x0,x1,x2,x3,x4⟩,_⟩:=bk5 r2
 obtain⟨⟨y0,y1,y2,y3,y4⟩,_⟩:=bk5 s2
 have R2:Hid ((Rz w2 w.heap.size _ _ _ _ _∧Rz w2 (w.heap.size+1)_ _ _ _ _)∧w.heap.size+2≤w2.heap.size):=⟨⟨r2,s2⟩,by omega⟩
 clear S1 z1 r2 s2 b2 e2 B1 R1 Z1
 go_wp2_with fail
 clear x0 x1 x2 x3 x4 y0 y1 y2 y3 y4
 refine (unhide S2 w2 (unhide B2)).mono ?_
 rintro e w3⟨rfl,b3⟩
 have r3:=(unhide R2).1.1.later b3 (by have:=(unhide R2).2;omega)
 have s3:=(unhide R2).1.2.later b3 (by have:=(unhide R2).2;omega)
 have B3:=hide ((unhide B2).trans (b3.mono (by have:=(unhide R2).2;omega)))
 have e3:=b3.size
 have HT3:=hide (unhide HT w3 (unhide B3))
 obtain⟨⟨x0,x1,x2,x3,x4⟩,_⟩:=bk5 r3
 obtain⟨⟨y0,y1,y2,y3,y4⟩,_⟩:=bk5 s3
 have R3:Hid ((Rz w3 w.heap.size _ _ _ _ _∧Rz w3 (w.heap.size+1)_ _ _ _ _)∧w.heap.size+2≤w3.heap.size):=⟨⟨r3,s3⟩,by have:=(unhide R2).2;omega⟩
 clear S2 r3 s3 b3 e3 B2 R2 HT
 go_wp2
 clear x0 x1 x2 x3 x4 y0 y1 y2 y3 y4
 go_loopw [7](fun i wr=>∃k:Nat,k≤l.length∧i = .int .i64 k∧Below w3.heap.size w3 wr)(fun i _=>l.length-(intOf i).toNat)
 case atStart=>exact⟨0,Nat.zero_le _,rfl,Below.refl _ _⟩
 case round=>
  obtain⟨k,hk,rfl,hnx⟩:=hrel
  have z3:=(unhide R3).2
  obtain⟨⟨_,_,_,_,x4⟩,_⟩:=bk5 ((unhide R3).1.1.later hnx (by omega))
  obtain⟨⟨_,_,_,_,y4⟩,_⟩:=bk5 ((unhide R3).1.2.later hnx (by omega))
  by_cases hlt:k < l.length
  ·obtain⟨ht,ht'⟩:=unhide HT3
   rcases ht with hx | ⟨g1,rfl,hb1,hc1⟩
   ·simp [hx]at hlt
   rcases ht' with hy | ⟨g2,rfl,hb2,hc2⟩
   ·simp [hy]at hlt
   have u1:=(hnx.cell (p:=⟨g1,k*2,none⟩)(by show g1 < w3.heap.size;omega)).trans (hc1 k hlt).1
   have u2:=(hnx.cell (p:=⟨g1,k*2+1,none⟩)(by show g1 < w3.heap.size;omega)).trans (hc1 k hlt).2
   have u3:=(hnx.cell (p:=⟨g2,k*2,none⟩)(by show g2 < w3.heap.size;omega)).trans (hc2 k hlt).1
   have u4:=(hnx.cell (p:=⟨g2,k*2+1,none⟩)(by show g2 < w3.heap.size;omega)).trans (hc2 k hlt).2
   clear hc1 hc2
   generalize (l.getD k (0,0)).1=v1 at u1 u3
   generalize (l.getD k (0,0)).2=v2 at u2 u4
   have hi:(k:Int) < (l.length:Int):=by omega
   have R:=hide hnx.drew
   clear hnx z3 R3 B3 HT3
   go_wp2
   go_region
   all_goals (try go_wp2)
   all_goals
    go_roundw
    case rel=>exact⟨k+1,by omega,by go_num,unhide R⟩
    case measure=>simp [intOf];omega
  ·go_wp2
   go_ret
   exact⟨rfl,(unhide B3).trans (hnx.mono (by omega))⟩
end Go.Proofs.YthmmgiaobakilaaGreat
