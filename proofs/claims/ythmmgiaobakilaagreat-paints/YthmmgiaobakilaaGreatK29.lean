import Derived.Test.YthmmgiaobakilaaGreatK10
import Derived.Test.YthmmgiaobakilaaGreatK28
set_option maxRecDepth 100000
namespace Go.Proofs.YthmmgiaobakilaaGreat
open Go.RowKit Go.Shelf
def noTree:Value:=.agg #[.slice none 0 0,.slice none 0 0]
set_option maxHeartbeats 4000000 in
theorem read_long (s:ByteArray) (h:300 < s.size) (_h2:s.size≤maxLen) (w:World):Calls Tryz.prog 34 #[.string s] w fun e w'=>Below w.heap.size w w'∧e = .returned (.tuple #[noTree,.int .i64 7,.int .i64 0]):=by
 have hm:(maxLen:Int)≤9223372036854775807:=by unfold maxLen;decide
 go_enter Tryz.func34,Tryz.ntmps34
 go_wp2
 refine bodyPost_ret (v:=.tuple #[noTree,.int .i64 7,.int .i64 0]) (by simp [results,Tryz.results34,go_sem,noTree]) rfl ⟨?_,rfl⟩
 exact (Below.refl _ w).alloc (Nat.le_refl _) _
set_option maxHeartbeats 8000000 in
theorem read_tok (s:ByteArray) (h:s.size≤300) (p:Nat) (hx:lex s s.size 0 []=(none,p)) (w:World):Calls Tryz.prog 34 #[.string s] w fun e w'=>Below w.heap.size w w'∧e = .returned (.tuple #[noTree,.int .i64 8,.int .i64 p]):=by
 go_enter Tryz.func34,Tryz.ntmps34
 go_wp2_with fail
 obtain ⟨w1,hw1⟩:∃w1,w.alloc (.cells #[.slice none 0 0,.slice none 0 0] 68)=w1:=⟨_,rfl⟩
 rw [hw1]
 refine (scanT s h w1).mono ?_
 rintro e w2 ⟨hb,ho⟩
 rw [hx] at ho
 have ho':e = .returned (.tuple #[.slice none 0 0,.agg #[.int .i64 8,.int .i64 p]]):=ho
 subst ho'
 have z1:w1.heap.size=w.heap.size+1:=by rw [←hw1];simp
 have hz:=hb.size
 have r1:w2.heap[w.heap.size]?=some (.cells #[.slice none 0 0,.slice none 0 0] 68 (0,0)):=(hb.block _ (by omega)).trans (by rw [←hw1];exact heap_alloc_new w _)
 have r1c:=bkc2 r1
 have b0:Below w.heap.size w w1:=by rw [←hw1];exact (Below.refl _ w).alloc (Nat.le_refl _) _
 have bw:Below w.heap.size w w2:=b0.trans ⟨hb.os,hb.tape,hb.output,hb.size,fun k hk=>hb.block k (by omega)⟩
 have hl1:w.heap.size < w2.heap.size:=by omega
 have hl2:¬ w.heap.size=w2.heap.size:=by omega
 have hl3:¬ w2.heap.size=w.heap.size:=by omega
 clear hx ho hb hw1
 go_wp2
 go_region
 all_goals go_wp2
 obtain ⟨⟨c0,c1⟩,f0,f1⟩:=r1c
 refine bodyPost_ret (v:=.tuple #[noTree,.int .i64 8,.int .i64 p]) (by simp [results,Tryz.results34,go_sem,noTree,c0,c1,hl1]) rfl ⟨?_,rfl⟩
 exact (((bw.setCell (p:=⟨w.heap.size,0,none⟩) (Nat.le_refl _) _).setCell (p:=⟨w.heap.size,1,none⟩) (Nat.le_refl _) _).alloc (by simp;omega) _).drew
set_option maxHeartbeats 16000000 in
theorem read_bad (s:ByteArray) (h:s.size≤300) (l:List Tok) (p:Nat) (hx:lex s s.size 0 []=(some l,p)) (n x:Nat) (hn:n≤1000) (hr:pSource n (l++[overTok p])=some (.error x)) (hfew:(l++[overTok p]).length≤1000) (w:World):Calls Tryz.prog 34 #[.string s] w fun e w'=>Below w.heap.size w w'∧e = .returned (.tuple #[noTree,.int .i64 9,.int .i64 (tkAt (l++[overTok p]) x).place]):=by
 have hW:=lex_tokW h hx
 go_enter Tryz.func34,Tryz.ntmps34
 go_wp2_with fail
 obtain ⟨w1,hw1⟩:∃w1,w.alloc (.cells #[.slice none 0 0,.slice none 0 0] 68)=w1:=⟨_,rfl⟩
 rw [hw1]
 refine (scanT s h w1).mono ?_
 rintro e w2 ⟨hb,ho⟩
 rw [hx] at ho
 obtain ⟨hp,g,c,hg,hc,rfl,htk⟩:p=s.size∧∃g c,(w1.heap.size≤g∧g < w2.heap.size)∧((l++[overTok p]).length≤c∧c≤maxLen)∧e = .returned (.tuple #[.slice (some ⟨g,0,none⟩) (l++[overTok p]).length c,.agg #[.int .i64 0,.int .i64 0]])∧PToks w2 g (l++[overTok p]):=ho
 obtain ⟨T,hTe⟩:∃T,l++[overTok p]=T:=⟨_,rfl⟩
 rw [hTe] at hr hfew hc htk hW ⊢
 have z1:w1.heap.size=w.heap.size+1:=by rw [←hw1];simp
 have hz:=hb.size
 have r1:w2.heap[w.heap.size]?=some (.cells #[.slice none 0 0,.slice none 0 0] 68 (0,0)):=(hb.block _ (by omega)).trans (by rw [←hw1];exact heap_alloc_new w _)
 have b0:Below w.heap.size w w1:=by rw [←hw1];exact (Below.refl _ w).alloc (Nat.le_refl _) _
 have bw:Below w.heap.size w w2:=b0.trans ⟨hb.os,hb.tape,hb.output,hb.size,fun k hk=>hb.block k (by omega)⟩
 have hl1:w.heap.size < w2.heap.size:=by omega
 have HTE:=hide hTe
 clear hx hb hw1 hTe hp
 go_wp2_with fail
 obtain ⟨w3,hw3⟩:∃w3,w2.alloc (.cells #[.int .i64 0,.int .i64 0] 105)=w3:=⟨_,rfl⟩
 rw [hw3]
 have z3:w3.heap.size=w2.heap.size+1:=by rw [←hw3];simp
 have htk3:PToks w3 g T:=by
  have hg3:w3.heap[g]?=w2.heap[g]?:=by rw [←hw3];exact Below.heap_alloc w2 _ g hg.2
  have f:∀o,w3.cell? ⟨g,o,none⟩=w2.cell? ⟨g,o,none⟩:=fun o=>World.cell?_of_block hg3
  intro j hj
  have:=htk j hj
  rw [f,f,f,f,f]
  exact this
 refine (parse_any w3 g c T hW htk3 (by omega) hfew hc n hn _ hr).mono ?_
 rintro e w4 ⟨hb4,no,nl,nc,bo,bl,bc,f,pl,rfl,hout⟩
 have hfp:f=9∧pl=(tkAt T x).place:=by
  rcases hout with ⟨ds,sx,j,hq,_⟩ | ⟨y,hq,h1,h2⟩
  ·cases hq
  ·cases hq;exact ⟨h1,h2⟩
 obtain ⟨rfl,rfl⟩:=hfp
 have hz4:=hb4.size
 have r4:w4.heap[w.heap.size]?=some (.cells #[.slice none 0 0,.slice none 0 0] 68 (0,0)):=(hb4.block _ (by omega)).trans (by rw [←hw3];exact (Below.heap_alloc w2 _ _ (by omega)).trans r1)
 have q4:w4.heap[w2.heap.size]?=some (.cells #[.int .i64 0,.int .i64 0] 105 (0,0)):=(hb4.block _ (by omega)).trans (by rw [←hw3];exact heap_alloc_new w2 _)
 have bw4:Below w.heap.size w w4:=by
  have b3:Below w.heap.size w w3:=by rw [←hw3];exact bw.alloc (by omega) _
  exact b3.trans ⟨hb4.os,hb4.tape,hb4.output,hb4.size,fun k hk=>hb4.block k (by omega)⟩
 have r4c:=bkc2 r4
 have q4c:=bkc2 q4
 have hl4:w.heap.size < w4.heap.size:=by omega
 have hl5:w2.heap.size < w4.heap.size:=by omega
 have hl6:¬ w.heap.size=w2.heap.size:=by omega
 have hl7:¬ w2.heap.size=w.heap.size:=by omega
 have hl8:¬ w.heap.size=w4.heap.size:=by omega
 have hl9:¬ w2.heap.size=w4.heap.size:=by omega
 clear hout hb4 hw3 htk htk3 hr r1 bw b0
 go_wp2
 go_region
 all_goals go_wp2
 obtain ⟨⟨c0,c1⟩,f0,f1⟩:=r4c
 obtain ⟨⟨d0,d1⟩,k0,k1⟩:=q4c
 refine bodyPost_ret (v:=.tuple #[noTree,.int .i64 9,.int .i64 (tkAt T x).place]) (by simp [results,Tryz.results34,go_sem,noTree,c0,c1,hl4]) rfl ⟨?_,by rw [unhide HTE]⟩
 exact ((((bw4.setCell (p:=⟨w2.heap.size,0,none⟩) (by simp;omega) _).setCell (p:=⟨w2.heap.size,1,none⟩) (by simp;omega) _).setCell (p:=⟨w.heap.size,0,none⟩) (Nat.le_refl _) _).setCell (p:=⟨w.heap.size,1,none⟩) (Nat.le_refl _) _).alloc (by simp;omega) _ |>.drew
end Go.Proofs.YthmmgiaobakilaaGreat
