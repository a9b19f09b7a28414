import Derived.Test.YthmmgiaobakilaaGreatK29
import Derived.Test.YthmmgiaobakilaaGreatK32
set_option maxRecDepth 100000
namespace Go.Proofs.YthmmgiaobakilaaGreat
open Go.RowKit Go.Shelf
set_option maxHeartbeats 16000000 in
theorem read_flow (s:ByteArray) (h:s.size≤300) (l:List Tok) (p:Nat) (hx:lex s s.size 0 []=(some l,p)) (n:Nat) (ds:List (Tok×Bool)) (sx:Sx) (jj:Nat) (hn:n≤1000) (hr:pSource n (l++[overTok p])=some (.ok ((ds,sx),jj))) (hfew:(l++[overTok p]).length≤1000) (had:∀d∈ds,TokB d.1) (has:AllS TokB sx∧AllZ sx) (hsz:ds.length+szS sx+2≤100000) (hn0:(namesF ds sx).1=0) (hdn:ds.length≤1000) (hne:(flowF ds sx).1≠0) (w:World):Calls Tryz.prog 34 #[.string s] w fun e w'=>Below w.heap.size w w'∧e = .returned (.tuple #[noTree,.int .i64 (flowF ds sx).1,.int .i64 (flowF ds sx).2]):=by
 obtain ⟨nf,hnf⟩:∃nf,namesF ds sx=nf:=⟨_,rfl⟩
 have HNF:=hide hnf
 rw [hnf] at hn0
 clear hnf
 obtain ⟨ff,hff⟩:∃ff,flowF ds sx=ff:=⟨_,rfl⟩
 have HFF:=hide hff
 rw [hff] at hne ⊢
 clear hff
 have hW:=lex_tokW h hx
 go_enter Tryz.func34,Tryz.ntmps34
 go_wp2_with fail
 obtain ⟨w1,hw1⟩:∃w1,w.alloc (.cells #[.slice none 0 0,.slice none 0 0] 68)=w1:=⟨_,rfl⟩
 rw [hw1]
 refine (scanT s h w1).mono ?_
 rintro e w2 ⟨hb,ho⟩
 rw [hx] at ho
 obtain ⟨hp,g,c,hg,hc,rfl,htk⟩:p=s.size∧∃g c,(w1.heap.size≤g∧g < w2.heap.size)∧((l++[overTok p]).length≤c∧c≤maxLen)∧e = .returned (.tuple #[.slice (some ⟨g,0,none⟩) (l++[overTok p]).length c,.agg #[.int .i64 0,.int .i64 0]])∧PToks w2 g (l++[overTok p]):=ho
 obtain ⟨T,hTe⟩:∃T,l++[overTok p]=T:=⟨_,rfl⟩
 rw [hTe] at hr hfew hc htk hW ⊢
 have z1:w1.heap.size=w.heap.size+1:=by rw [←hw1];simp
 have hz:=hb.size
 have r1:w2.heap[w.heap.size]?=some (.cells #[.slice none 0 0,.slice none 0 0] 68 (0,0)):=(hb.block _ (by omega)).trans (by rw [←hw1];exact heap_alloc_new w _)
 have b0:Below w.heap.size w w1:=by rw [←hw1];exact (Below.refl _ w).alloc (Nat.le_refl _) _
 have bw:Below w.heap.size w w2:=b0.trans ⟨hb.os,hb.tape,hb.output,hb.size,fun k hk=>hb.block k (by omega)⟩
 have hl1:w.heap.size < w2.heap.size:=by omega
 have HTE:=hide hTe
 clear hx hb hw1 hTe hp
 go_wp2_with fail
 obtain ⟨w3,hw3⟩:∃w3,w2.alloc (.cells #[.int .i64 0,.int .i64 0] 105)=w3:=⟨_,rfl⟩
 rw [hw3]
 have z3:w3.heap.size=w2.heap.size+1:=by rw [←hw3];simp
 have htk3:PToks w3 g T:=by
  have hg3:w3.heap[g]?=w2.heap[g]?:=by rw [←hw3];exact Below.heap_alloc w2 _ g hg.2
  have f:∀o,w3.cell? ⟨g,o,none⟩=w2.cell? ⟨g,o,none⟩:=fun o=>World.cell?_of_block hg3
  intro j hj
  have:=htk j hj
  rw [f,f,f,f,f]
  exact this
 refine (parse_any w3 g c T hW htk3 (by omega) hfew hc n hn _ hr).mono ?_
 rintro e w4 ⟨hb4,no,nl,nc,bo,bl,bc,f,pl,rfl,hout⟩
 obtain ⟨rfl,rfl,hD,hL⟩:f=0∧pl=0∧RepD w4 (fun g=>w3.heap.size≤g) (.slice no nl nc) ds∧RepL w4 (fun g=>w3.heap.size≤g) (.slice bo bl bc) sx:=by
  rcases hout with ⟨ds',s',j,hq,h1,h2,h3,h4⟩ | ⟨y,hq,_⟩
  ·cases hq;exact ⟨h1,h2,h3,h4⟩
  ·cases hq
 have hz4:=hb4.size
 have r4:w4.heap[w.heap.size]?=some (.cells #[.slice none 0 0,.slice none 0 0] 68 (0,0)):=(hb4.block _ (by omega)).trans (by rw [←hw3];exact (Below.heap_alloc w2 _ _ (by omega)).trans r1)
 have q4:w4.heap[w2.heap.size]?=some (.cells #[.int .i64 0,.int .i64 0] 105 (0,0)):=(hb4.block _ (by omega)).trans (by rw [←hw3];exact heap_alloc_new w2 _)
 have bw4:Below w.heap.size w w4:=by
  have b3:Below w.heap.size w w3:=by rw [←hw3];exact bw.alloc (by omega) _
  exact b3.trans ⟨hb4.os,hb4.tape,hb4.output,hb4.size,fun k hk=>hb4.block k (by omega)⟩
 have r4c:=bkc2 r4
 have q4c:=bkc2 q4
 have hl4:w.heap.size < w4.heap.size:=by omega
 have hl5:w2.heap.size < w4.heap.size:=by omega
 have hl6:¬ w.heap.size=w2.heap.size:=by omega
 have hl7:¬ w2.heap.size=w.heap.size:=by omega
 have hl8:¬ w.heap.size=w4.heap.size:=by omega
 have hl9:¬ w2.heap.size=w4.heap.size:=by omega
 have HD:=hide hD
 have HL:=hide hL
 clear hout hb4 hw3 htk htk3 hr r1 bw b0 hD hL
 go_wp2_with fail
 obtain ⟨w5,hw5⟩:∃w5,(((w4.setCell ⟨w2.heap.size,0,none⟩ (.int .i64 0)).setCell ⟨w2.heap.size,1,none⟩ (.int .i64 0)).alloc (.cells #[.slice no nl nc,.slice bo bl bc] 68))=w5:=⟨_,rfl⟩
 rw [hw5]
 have z5:w5.heap.size=w4.heap.size+1:=by rw [←hw5];simp
 have o5:∀j,j≠w2.heap.size→j < w4.heap.size→w5.heap[j]?=w4.heap[j]?:=fun j hj hl=>by
  rw [←hw5]
  exact (Below.heap_alloc _ _ _ (by simp;omega)).trans ((Below.heap_setCell _ _ _ _ hj).trans (Below.heap_setCell _ _ _ _ hj))
 have bw5:Below w.heap.size w w5:=by
  rw [←hw5]
  exact ((bw4.setCell (p:=⟨w2.heap.size,0,none⟩) (by simp;omega) _).setCell (p:=⟨w2.heap.size,1,none⟩) (by simp;omega) _).alloc (by simp;omega) _
 have hD5:RepD w5 (fun k=>w3.heap.size≤k∧k < w5.heap.size) (.slice no nl nc) ds:=(unhide HD).later (fun j hj hl=>o5 j (by have:w3.heap.size≤j:=hj;omega) hl) (fun k hk hl=>⟨hk,by omega⟩)
 have hL5:RepL w5 (fun k=>w3.heap.size≤k∧k < w5.heap.size) (.slice bo bl bc) sx:=(unhide HL).later (fun j hj hl=>o5 j (by have:w3.heap.size≤j:=hj;omega) hl) (fun k hk hl=>⟨hk,by omega⟩)
 refine (checkNames_any w5 (fun k=>w3.heap.size≤k∧k < w5.heap.size) (fun k hk=>hk.2) ds sx _ _ hD5 hL5 had has hsz).mono ?_
 rintro e w6 ⟨he,hb6⟩
 rw [unhide HNF,hn0] at he
 subst he
 have hz6:=hb6.size
 have r6:=(hb6.block _ (by omega)).trans ((o5 _ (by omega) (by omega)).trans r4)
 have t6:w6.heap[w4.heap.size]?=some (.cells #[.slice no nl nc,.slice bo bl bc] 68 (0,0)):=(hb6.block _ (by omega)).trans (by rw [←hw5];simpa using heap_alloc_new ((w4.setCell ⟨w2.heap.size,0,none⟩ (.int .i64 0)).setCell ⟨w2.heap.size,1,none⟩ (.int .i64 0)) (.cells #[.slice no nl nc,.slice bo bl bc] 68))
 have bw6:Below w.heap.size w w6:=bw5.trans ⟨hb6.os,hb6.tape,hb6.output,hb6.size,fun k hk=>hb6.block k (by omega)⟩
 have HD:=hide (hD5.later (w':=w6) (Q':=fun k=>w3.heap.size≤k∧k < w5.heap.size) (fun j hj hl=>hb6.block j hl) (fun k hk _=>hk))
 have HL:=hide (hL5.later (w':=w6) (Q':=fun k=>w3.heap.size≤k∧k < w5.heap.size) (fun j hj hl=>hb6.block j hl) (fun k hk _=>hk))
 have hl10:w.heap.size < w6.heap.size:=by omega
 have hl11:¬ w.heap.size=w6.heap.size:=by omega
 have hl12:w4.heap.size < w6.heap.size:=by omega
 have hl13:¬ w4.heap.size=w6.heap.size:=by omega
 have t6c:=bkc2 t6
 clear hD5 hL5 o5 hb6 hw5 r4c q4c r4 q4 HNF
 go_wp2_with fail
 obtain ⟨w7,hw7⟩:∃w7,w6.alloc (.cells #[.int .i64 0,.int .i64 nf.2] 105)=w7:=⟨_,rfl⟩
 rw [hw7]
 have z7:w7.heap.size=w6.heap.size+1:=by rw [←hw7];simp
 have o7:∀j,j < w6.heap.size→w7.heap[j]?=w6.heap[j]?:=fun j hl=>by rw [←hw7];exact Below.heap_alloc w6 _ j hl
 have bw7:Below w.heap.size w w7:=by rw [←hw7];exact bw6.alloc (by omega) _
 have hD7:RepD w7 (fun k=>k < w7.heap.size) (.slice no nl nc) ds:=(unhide HD).later (fun j hj hl=>o7 j hl) (fun k hk hl=>by show k < w7.heap.size;omega)
 have hL7:RepL w7 (fun k=>k < w7.heap.size) (.slice bo bl bc) sx:=(unhide HL).later (fun j hj hl=>o7 j hl) (fun k hk hl=>by show k < w7.heap.size;omega)
 refine (checkFlow_any w7 (fun k=>k < w7.heap.size) (fun k hk=>hk) ds sx _ _ hD7 hL7 has.2 hdn (by omega)).mono ?_
 rintro e w8 ⟨he,hb8⟩
 rw [unhide HFF] at he
 subst he
 have hz8:=hb8.size
 have r8:=(hb8.block _ (by omega)).trans ((o7 _ (by omega)).trans r6)
 have bw8:Below w.heap.size w w8:=bw7.trans ⟨hb8.os,hb8.tape,hb8.output,hb8.size,fun k hk=>hb8.block k (by omega)⟩
 have hl14:w.heap.size < w8.heap.size:=by omega
 have hl15:¬ w.heap.size=w8.heap.size:=by omega
 obtain ⟨⟨c0,c1⟩,f0,f1⟩:=bkc2 r8
 clear hD7 hL7 o7 hb8 hw7 t6c t6 r6 HD HL HFF
 go_wp2
 go_region
 all_goals go_wp2
 refine bodyPost_ret (v:=.tuple #[noTree,.int .i64 ff.1,.int .i64 ff.2]) (by simp [results,Tryz.results34,go_sem,noTree,c0,c1,hl14]) rfl ⟨?_,rfl⟩
 exact (((bw8.setCell (p:=⟨w.heap.size,0,none⟩) (Nat.le_refl _) _).setCell (p:=⟨w.heap.size,1,none⟩) (Nat.le_refl _) _).alloc (by simp;omega) _).drew
end Go.Proofs.YthmmgiaobakilaaGreat
