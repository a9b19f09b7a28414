import Derived.Test.YthmmgiaobakilaaGreatK05
import Derived.Deep.RegionWith
set_option maxRecDepth 100000
namespace Go.Proofs.YthmmgiaobakilaaGreat
open Go.RowKit Go.Deep
set_option maxHeartbeats 8000000 in
theorem pfactor_leaf (w:World) (pb tb cap i:Nat) (T:List Tok) (f pl:Int) (hT:TokW T) (h:PsAt w pb tb cap T i f pl) (hk:(tkAt T i).kind=2) :
  Calls Tryz.prog 149 #[.pointer (some ⟨pb,0,none⟩)] w (EOut w pb tb cap T f pl (.ok (leafE (tkAt T i),i+1))):=by
 have hp:=h.plt
 have hlow:=h.low
 have k3:kP (tkAt T i)=3:=kP_num _ hk
 have hi1:i+1 < T.length:=next_lt hT.last h.lt (by rw [hk];decide)
 go_enter Tryz.func149,Tryz.ntmps149
 go_wp2_with fail
 refine (next_any _ pb tb cap i T f pl (h.alloc _)).mono ?_
 rintro e w1 ⟨rfl,hb1⟩
 have h1:=(h.alloc _).below hb1 (Nat.le_refl _)
 have k1:=(Kept.alloc pb w _).trans (Kept.below (pb:=pb) hb1)
 have q1:w1.heap[w.heap.size]?=some (.cells #[.int .i64 0,.int .i64 0,.string ⟨#[]⟩,.int .i32 0,.int .i32 0,.slice none 0 0] 119 (0,0)):=(hb1.block _ (by simp)).trans (heap_alloc_new w _)
 have lt1:w.heap.size < w1.heap.size:=(Array.getElem?_eq_some_iff.1 q1).1
 clear h hb1
 unfold tokP tkV
 rw [k3]
 go_wp2_with fail
 refine (take_any _ pb tb cap i T f pl (h1.alloc _) hi1).mono ?_
 rintro e w2 ⟨rfl,h2,k2⟩
 have q2:=(k2.2 _ (by simp;omega) (by omega)).trans ((Below.heap_alloc w1 _ _ lt1).trans q1)
 have K2:=hide ((k1.trans (Kept.alloc pb w1 _)).trans k2)
 obtain ⟨⟨d0,d1,d2,d3,d4,d5⟩,z0,z1,z2,z3,z4,z5⟩:=blk6 q2
 clear h1 k1 k2 q1 q2
 unfold tokP tkV
 go_wp2
 refine bodyPost_ret (v:=exV (tkAt T i) (.slice none 0 0)) (by simp [results,Tryz.results149,go_sem,exV,k3,d0,d1,d2,d3,d4,d5]) rfl ⟨(unhide K2).put6 (Nat.le_refl _),_,_,_,_,_,none,0,0,rfl,h2.put6 (by omega) (by omega),⟨0,0,tkAt T i,.nil,.nil,_,rfl,rfl,.inl ⟨rfl,none,0,rfl⟩⟩⟩
theorem eres_put6 {w4:World} {pb tb cap b B B':Nat} {T:List Tok} {f pl:Int} {v:Value} {r:Except Nat (Ex×Nat)} {k p n s:Int} {wd:ByteArray} {sv:Value} (h:ERes w4 (fun g=>B≤g) pb tb cap T f pl v r) (h1:b≠pb) (h2:b≠tb) (hb:b < B) (hB:B'≤B) :
  ERes (put6 w4 b k p wd n s sv) (fun g=>B'≤g) pb tb cap T f pl v r:=by
 cases r with
 | error x=>exact PsAt.put6 h h1 h2
 | ok xj=>
  obtain ⟨t,j⟩:=xj
  exact ⟨h.1.put6 h1 h2,h.2.later (fun k hk _=>put6_other (by have:B≤k:=hk;omega)) (fun k hk _=>by have:B≤k:=hk;show B'≤k;omega)⟩
set_option maxHeartbeats 8000000 in
theorem pfactor_bracket {X:PE} (hX:ParsesE 130 X) (w:World) (pb tb cap i:Nat) (T:List Tok) (f pl:Int) (r:Except Nat (Ex×Nat)) (hT:TokW T) (h:PsAt w pb tb cap T i f pl) (hi:isT T i sPO=true)
  (hr:(andThen (X T (i+1)) fun e j=>andThen (pNeed T sPC j) fun _ j=>got e j)=some r) :
  Calls Tryz.prog 149 #[.pointer (some ⟨pb,0,none⟩)] w (EOut w pb tb cap T f pl r):=by
 have hk:(tkAt T i).kind≠2∧(tkAt T i).kind≠1:=by
  have:=isT_leaf hi
  simp at this
  exact this
 have e_num:(kP (tkAt T i)==3)=false:=by rw [nu_is hT];simp [hk.1]
 have e_nm:nmB T i=false:=by rw [nm_is hT];simp [hk.2]
 have e_po:sgB T i 40=true:=by rw [←rune_PO,sg_is hT i mem_sg.1];exact hi
 have hp:=h.plt
 have hlow:=h.low
 go_enter Tryz.func149,Tryz.ntmps149
 go_wp2_with fail
 refine (next_any _ pb tb cap i T f pl (h.alloc _)).mono ?_
 rintro e w0 ⟨rfl,hb0⟩
 have h0:=(h.alloc _).below hb0 (Nat.le_refl _)
 have k0:=(Kept.alloc pb w _).trans (Kept.below (pb:=pb) hb0)
 have q0:ebk w0 w.heap.size 0 0 ⟨#[]⟩ 0 0 (.slice none 0 0):=(hb0.block _ (by simp)).trans (heap_alloc_new w _)
 have lt0:w.heap.size < w0.heap.size:=(Array.getElem?_eq_some_iff.1 q0).1
 clear h hb0
 obtain ⟨w1,hw1⟩:∃w1,w0.alloc (.cells #[.int .i64 (kP (tkAt T i)),.int .i64 (tkAt T i).place,.string (wP (tkAt T i)),.int .i32 (nP (tkAt T i)),.int .i32 (sP (tkAt T i))] 116)=w1:=⟨_,rfl⟩
 have h1:PsAt w1 pb tb cap T i f pl:=by rw [←hw1];exact h0.alloc _
 have k1:Kept pb w w1:=by rw [←hw1];exact k0.trans (Kept.alloc pb w0 _)
 have q1:ebk w1 w.heap.size 0 0 ⟨#[]⟩ 0 0 (.slice none 0 0):=by rw [←hw1];exact (Below.heap_alloc w0 _ _ lt0).trans q0
 have s1:w1.heap[w0.heap.size]?=some (.cells #[.int .i64 (kP (tkAt T i)),.int .i64 (tkAt T i).place,.string (wP (tkAt T i)),.int .i32 (nP (tkAt T i)),.int .i32 (sP (tkAt T i))] 116 (0,0)):=by rw [←hw1];exact heap_alloc_new w0 _
 have lt1:w0.heap.size < w1.heap.size:=(Array.getElem?_eq_some_iff.1 s1).1
 obtain ⟨g10,g11,g12,g13,g14⟩:=blk5 s1
 clear h0 k0 q0
 unfold tokP tkV
 go_wp2_with fail
 clear hw1
 refine (isName_any _ (kP (tkAt T i)) (tkAt T i).place (nP (tkAt T i)) (sP (tkAt T i)) (wP (tkAt T i))).mono ?_
 rintro e w2 ⟨rfl,B2⟩
 have es:((kP (tkAt T i)==2) && !kwsP.any (fun t=>(wP (tkAt T i)).toList==t.toList))=false:=e_nm
 rw [es]
 clear es
 have h2:=h1.below B2 (Nat.le_refl _)
 have k2:=k1.trans (Kept.below (pb:=pb) B2)
 have q2:ebk w2 w.heap.size 0 0 ⟨#[]⟩ 0 0 (.slice none 0 0):=(B2.block _ (by omega)).trans q1
 have s2:=(B2.block _ (by omega)).trans s1
 have lt2:w0.heap.size < w2.heap.size:=(Array.getElem?_eq_some_iff.1 s2).1
 obtain ⟨g20,g21,g22,g23,g24⟩:=blk5 s2
 clear h1 k1 q1 s1 B2 g10 g11 g12 g13 g14
 go_wp2_with fail
 refine (isSign_any _ (kP (tkAt T i)) (tkAt T i).place (nP (tkAt T i)) (sP (tkAt T i)) (wP (tkAt T i)) w2.heap.size 0 1 [40] (runes_one w2 40) (by simp)).mono ?_
 rintro e w3 ⟨rfl,hb3⟩
 have B3:Below w2.heap.size w2 w3:=((Below.refl _ w2).alloc (Nat.le_refl _) _).trans (hb3.mono (by simp))
 have es:((kP (tkAt T i)==4)&&[(40:Int)].any (fun t=>sP (tkAt T i)==t))=true:=by
  rw [List.any_cons,List.any_nil,Bool.or_false]
  exact e_po
 rw [es]
 clear es hb3
 have h3:=h2.below B3 (Nat.le_refl _)
 have k3:=k2.trans (Kept.below (pb:=pb) B3)
 have q3:ebk w3 w.heap.size 0 0 ⟨#[]⟩ 0 0 (.slice none 0 0):=(B3.block _ (by omega)).trans q2
 have s3:=(B3.block _ (by omega)).trans s2
 have lt3:w0.heap.size < w3.heap.size:=(Array.getElem?_eq_some_iff.1 s3).1
 obtain ⟨g30,g31,g32,g33,g34⟩:=blk5 s3
 clear h2 k2 q2 s2 B3 g20 g21 g22 g23 g24
 go_wp2_with fail
 refine (bracket_any hX w3 pb tb cap i T f pl r hT h3 hi hr).mono ?_
 rintro e w4 ⟨k4,a0,a1,a2,a3,a4,ao,len,c,rfl,h4⟩
 have q4:ebk w4 w.heap.size 0 0 ⟨#[]⟩ 0 0 (.slice none 0 0):=(k4.2 _ (by omega) (by omega)).trans q3
 have K:=hide (k3.trans k4)
 have ltz:=k4.1
 obtain ⟨⟨y0,y1,y2,y3,y4,y5⟩,u0,u1,u2,u3,u4,u5⟩:=blk6 q4
 clear k3 k4 q3 q4 h3 s3
 unfold exW
 go_wp2
 refine bodyPost_ret (v:=exW a0 a1 a2 a3 a4 (.slice ao len c)) (by simp [results,Tryz.results149,go_sem,exW,y0,y1,y2,y3,y4,y5]) rfl ⟨(unhide K).put6 (Nat.le_refl _),a0,a1,a2,a3,a4,ao,len,c,rfl,eres_put6 h4 (by omega) (by omega) (by omega) (by omega)⟩
set_option maxHeartbeats 8000000 in
theorem pfactor_peek {Q:PE} (hC:∀(w:World) (pb tb cap i:Nat) (T:List Tok) (f pl:Int) (r:Except Nat (Ex×Nat)),TokW T→PsAt w pb tb cap T i f pl→isT T i sPEEK=true→Q T i=some r→Calls Tryz.prog 151 #[.pointer (some ⟨pb,0,none⟩),.int .i32 91,.int .i32 93,.int .i64 2] w (EOut w pb tb cap T f pl r)) (w:World) (pb tb cap i:Nat) (T:List Tok) (f pl:Int) (r:Except Nat (Ex×Nat)) (hT:TokW T) (h:PsAt w pb tb cap T i f pl) (hi:isT T i sPEEK=true) (hr:Q T i=some r) :
  Calls Tryz.prog 149 #[.pointer (some ⟨pb,0,none⟩)] w (EOut w pb tb cap T f pl r):=by
 have hk:(tkAt T i).kind≠2∧(tkAt T i).kind≠1:=by
  have:=isT_leaf hi
  simp at this
  exact this
 have e_num:(kP (tkAt T i)==3)=false:=by rw [nu_is hT];simp [hk.1]
 have e_nm:nmB T i=false:=by rw [nm_is hT];simp [hk.2]
 have no:∀s:ByteArray,sPEEK.data≠s.data→isT T i s=false:=fun s hs=>by
  cases h0:isT T i s
  ·rfl
  ·exact absurd (congrArg (fun x=>x.data) ((isT_text hi).symm.trans (isT_text h0))) hs
 have e_po:sgB T i 40=false:=by rw [←rune_PO,sg_is hT i mem_sg.1];exact no _ (by decide)
 have e_ng:sgB T i 45=false:=by rw [←rune_NEG,sg_is hT i mem_sg.2.2.2.2.2.2.2.2.2.2];exact no _ (by decide)
 have hp:=h.plt
 have hlow:=h.low
 go_enter Tryz.func149,Tryz.ntmps149
 go_wp2_with fail
 refine (next_any _ pb tb cap i T f pl (h.alloc _)).mono ?_
 rintro e w0 ⟨rfl,hb0⟩
 have h0:=(h.alloc _).below hb0 (Nat.le_refl _)
 have k0:=(Kept.alloc pb w _).trans (Kept.below (pb:=pb) hb0)
 have q0:ebk w0 w.heap.size 0 0 ⟨#[]⟩ 0 0 (.slice none 0 0):=(hb0.block _ (by simp)).trans (heap_alloc_new w _)
 have lt0:w.heap.size < w0.heap.size:=(Array.getElem?_eq_some_iff.1 q0).1
 clear h hb0
 obtain ⟨w1,hw1⟩:∃w1,w0.alloc (.cells #[.int .i64 (kP (tkAt T i)),.int .i64 (tkAt T i).place,.string (wP (tkAt T i)),.int .i32 (nP (tkAt T i)),.int .i32 (sP (tkAt T i))] 116)=w1:=⟨_,rfl⟩
 have h1:PsAt w1 pb tb cap T i f pl:=by rw [←hw1];exact h0.alloc _
 have k1:Kept pb w w1:=by rw [←hw1];exact k0.trans (Kept.alloc pb w0 _)
 have q1:ebk w1 w.heap.size 0 0 ⟨#[]⟩ 0 0 (.slice none 0 0):=by rw [←hw1];exact (Below.heap_alloc w0 _ _ lt0).trans q0
 have s1:w1.heap[w0.heap.size]?=some (.cells #[.int .i64 (kP (tkAt T i)),.int .i64 (tkAt T i).place,.string (wP (tkAt T i)),.int .i32 (nP (tkAt T i)),.int .i32 (sP (tkAt T i))] 116 (0,0)):=by rw [←hw1];exact heap_alloc_new w0 _
 have lt1:w0.heap.size < w1.heap.size:=(Array.getElem?_eq_some_iff.1 s1).1
 obtain ⟨g10,g11,g12,g13,g14⟩:=blk5 s1
 clear h0 k0 q0
 unfold tokP tkV
 go_wp2_with fail
 clear hw1
 refine (isName_any _ (kP (tkAt T i)) (tkAt T i).place (nP (tkAt T i)) (sP (tkAt T i)) (wP (tkAt T i))).mono ?_
 rintro e w2 ⟨rfl,B2⟩
 have es:((kP (tkAt T i)==2) && !kwsP.any (fun t=>(wP (tkAt T i)).toList==t.toList))=false:=e_nm
 rw [es]
 clear es
 have h2:=h1.below B2 (Nat.le_refl _)
 have k2:=k1.trans (Kept.below (pb:=pb) B2)
 have q2:ebk w2 w.heap.size 0 0 ⟨#[]⟩ 0 0 (.slice none 0 0):=(B2.block _ (by omega)).trans q1
 have s2:=(B2.block _ (by omega)).trans s1
 have lt2:w0.heap.size < w2.heap.size:=(Array.getElem?_eq_some_iff.1 s2).1
 obtain ⟨g20,g21,g22,g23,g24⟩:=blk5 s2
 clear h1 k1 q1 s1 B2 g10 g11 g12 g13 g14
 go_wp2_with fail
 refine (isSign_any _ (kP (tkAt T i)) (tkAt T i).place (nP (tkAt T i)) (sP (tkAt T i)) (wP (tkAt T i)) w2.heap.size 0 1 [40] (runes_one w2 40) (by simp)).mono ?_
 rintro e w3 ⟨rfl,hb3⟩
 have B3:Below w2.heap.size w2 w3:=((Below.refl _ w2).alloc (Nat.le_refl _) _).trans (hb3.mono (by simp))
 have es:((kP (tkAt T i)==4)&&[(40:Int)].any (fun t=>sP (tkAt T i)==t))=false:=by
  rw [List.any_cons,List.any_nil,Bool.or_false]
  exact e_po
 rw [es]
 clear es hb3
 have h3:=h2.below B3 (Nat.le_refl _)
 have k3:=k2.trans (Kept.below (pb:=pb) B3)
 have q3:ebk w3 w.heap.size 0 0 ⟨#[]⟩ 0 0 (.slice none 0 0):=(B3.block _ (by omega)).trans q2
 have s3:=(B3.block _ (by omega)).trans s2
 have lt3:w0.heap.size < w3.heap.size:=(Array.getElem?_eq_some_iff.1 s3).1
 obtain ⟨g30,g31,g32,g33,g34⟩:=blk5 s3
 clear h2 k2 q2 s2 B3 g20 g21 g22 g23 g24
 go_wp2_with fail
 refine (isSign_any _ (kP (tkAt T i)) (tkAt T i).place (nP (tkAt T i)) (sP (tkAt T i)) (wP (tkAt T i)) w3.heap.size 0 1 [45] (runes_one w3 45) (by simp)).mono ?_
 rintro e w4 ⟨rfl,hb4⟩
 have B4:Below w3.heap.size w3 w4:=((Below.refl _ w3).alloc (Nat.le_refl _) _).trans (hb4.mono (by simp))
 have es:((kP (tkAt T i)==4)&&[(45:Int)].any (fun t=>sP (tkAt T i)==t))=false:=by
  rw [List.any_cons,List.any_nil,Bool.or_false]
  exact e_ng
 rw [es]
 clear es hb4
 have h4:=h3.below B4 (Nat.le_refl _)
 have k4:=k3.trans (Kept.below (pb:=pb) B4)
 have q4:ebk w4 w.heap.size 0 0 ⟨#[]⟩ 0 0 (.slice none 0 0):=(B4.block _ (by omega)).trans q3
 have s4:=(B4.block _ (by omega)).trans s3
 have lt4:w0.heap.size < w4.heap.size:=(Array.getElem?_eq_some_iff.1 s4).1
 obtain ⟨g40,g41,g42,g43,g44⟩:=blk5 s4
 clear h3 k3 q3 s3 B4 g30 g31 g32 g33 g34
 go_wp2_with fail
 refine (isWord_any _ (kP (tkAt T i)) (tkAt T i).place (nP (tkAt T i)) (sP (tkAt T i)) (wP (tkAt T i)) w4.heap.size 0 2 [sPEEK,sSPY] (strs_new w4 [sPEEK,sSPY]) (by simp)).mono ?_
 rintro e w5 ⟨rfl,hb5⟩
 have B5:Below w4.heap.size w4 w5:=((Below.refl _ w4).alloc (Nat.le_refl _) _).trans (hb5.mono (by simp))
 have es:((kP (tkAt T i)==2)&&[sPEEK,sSPY].any (fun t=>(wP (tkAt T i)).toList==t.toList))=true:=by rw [wd_is hT i (by intro s hs;simp only [List.mem_cons,List.not_mem_nil,or_false] at hs;rcases hs with rfl | rfl <;> (unfold memB;simp only [ByteArray.toList_eq];decide))];simp [List.any_cons,hi]
 rw [es]
 clear es hb5
 have h5:=h4.below B5 (Nat.le_refl _)
 have k5:=k4.trans (Kept.below (pb:=pb) B5)
 have q5:ebk w5 w.heap.size 0 0 ⟨#[]⟩ 0 0 (.slice none 0 0):=(B5.block _ (by omega)).trans q4
 have s5:=(B5.block _ (by omega)).trans s4
 have lt5:w0.heap.size < w5.heap.size:=(Array.getElem?_eq_some_iff.1 s5).1
 obtain ⟨g50,g51,g52,g53,g54⟩:=blk5 s5
 clear h4 k4 q4 s4 B5 g40 g41 g42 g43 g44
 go_wp2_with fail
 refine (hC w5 pb tb cap i T f pl r hT h5 hi hr).mono ?_
 rintro e w6 ⟨k6,a0,a1,a2,a3,a4,ao,len,c,rfl,h6⟩
 have q6:ebk w6 w.heap.size 0 0 ⟨#[]⟩ 0 0 (.slice none 0 0):=(k6.2 _ (by omega) (by omega)).trans q5
 have K:=hide (k5.trans k6)
 have ltz:=k6.1
 obtain ⟨⟨y0,y1,y2,y3,y4,y5⟩,u0,u1,u2,u3,u4,u5⟩:=blk6 q6
 clear k5 k6 q5 q6 h5 s5
 unfold exW
 go_wp2
 refine bodyPost_ret (v:=exW a0 a1 a2 a3 a4 (.slice ao len c)) (by simp [results,Tryz.results149,go_sem,exW,y0,y1,y2,y3,y4,y5]) rfl ⟨(unhide K).put6 (Nat.le_refl _),a0,a1,a2,a3,a4,ao,len,c,rfl,eres_put6 h6 (by omega) (by omega) (by omega) (by omega)⟩
set_option maxHeartbeats 8000000 in
theorem pfactor_spy {Q:PE} (hC:∀(w:World) (pb tb cap i:Nat) (T:List Tok) (f pl:Int) (r:Except Nat (Ex×Nat)),TokW T→PsAt w pb tb cap T i f pl→isT T i sSPY=true→Q T i=some r→Calls Tryz.prog 151 #[.pointer (some ⟨pb,0,none⟩),.int .i32 91,.int .i32 93,.int .i64 2] w (EOut w pb tb cap T f pl r)) (w:World) (pb tb cap i:Nat) (T:List Tok) (f pl:Int) (r:Except Nat (Ex×Nat)) (hT:TokW T) (h:PsAt w pb tb cap T i f pl) (hi:isT T i sSPY=true) (hr:Q T i=some r) :
  Calls Tryz.prog 149 #[.pointer (some ⟨pb,0,none⟩)] w (EOut w pb tb cap T f pl r):=by
 have hk:(tkAt T i).kind≠2∧(tkAt T i).kind≠1:=by
  have:=isT_leaf hi
  simp at this
  exact this
 have e_num:(kP (tkAt T i)==3)=false:=by rw [nu_is hT];simp [hk.1]
 have e_nm:nmB T i=false:=by rw [nm_is hT];simp [hk.2]
 have no:∀s:ByteArray,sSPY.data≠s.data→isT T i s=false:=fun s hs=>by
  cases h0:isT T i s
  ·rfl
  ·exact absurd (congrArg (fun x=>x.data) ((isT_text hi).symm.trans (isT_text h0))) hs
 have e_po:sgB T i 40=false:=by rw [←rune_PO,sg_is hT i mem_sg.1];exact no _ (by decide)
 have e_ng:sgB T i 45=false:=by rw [←rune_NEG,sg_is hT i mem_sg.2.2.2.2.2.2.2.2.2.2];exact no _ (by decide)
 have hp:=h.plt
 have hlow:=h.low
 go_enter Tryz.func149,Tryz.ntmps149
 go_wp2_with fail
 refine (next_any _ pb tb cap i T f pl (h.alloc _)).mono ?_
 rintro e w0 ⟨rfl,hb0⟩
 have h0:=(h.alloc _).below hb0 (Nat.le_refl _)
 have k0:=(Kept.alloc pb w _).trans (Kept.below (pb:=pb) hb0)
 have q0:ebk w0 w.heap.size 0 0 ⟨#[]⟩ 0 0 (.slice none 0 0):=(hb0.block _ (by simp)).trans (heap_alloc_new w _)
 have lt0:w.heap.size < w0.heap.size:=(Array.getElem?_eq_some_iff.1 q0).1
 clear h hb0
 obtain ⟨w1,hw1⟩:∃w1,w0.alloc (.cells #[.int .i64 (kP (tkAt T i)),.int .i64 (tkAt T i).place,.string (wP (tkAt T i)),.int .i32 (nP (tkAt T i)),.int .i32 (sP (tkAt T i))] 116)=w1:=⟨_,rfl⟩
 have h1:PsAt w1 pb tb cap T i f pl:=by rw [←hw1];exact h0.alloc _
 have k1:Kept pb w w1:=by rw [←hw1];exact k0.trans (Kept.alloc pb w0 _)
 have q1:ebk w1 w.heap.size 0 0 ⟨#[]⟩ 0 0 (.slice none 0 0):=by rw [←hw1];exact (Below.heap_alloc w0 _ _ lt0).trans q0
 have s1:w1.heap[w0.heap.size]?=some (.cells #[.int .i64 (kP (tkAt T i)),.int .i64 (tkAt T i).place,.string (wP (tkAt T i)),.int .i32 (nP (tkAt T i)),.int .i32 (sP (tkAt T i))] 116 (0,0)):=by rw [←hw1];exact heap_alloc_new w0 _
 have lt1:w0.heap.size < w1.heap.size:=(Array.getElem?_eq_some_iff.1 s1).1
 obtain ⟨g10,g11,g12,g13,g14⟩:=blk5 s1
 clear h0 k0 q0
 unfold tokP tkV
 go_wp2_with fail
 clear hw1
 refine (isName_any _ (kP (tkAt T i)) (tkAt T i).place (nP (tkAt T i)) (sP (tkAt T i)) (wP (tkAt T i))).mono ?_
 rintro e w2 ⟨rfl,B2⟩
 have es:((kP (tkAt T i)==2) && !kwsP.any (fun t=>(wP (tkAt T i)).toList==t.toList))=false:=e_nm
 rw [es]
 clear es
 have h2:=h1.below B2 (Nat.le_refl _)
 have k2:=k1.trans (Kept.below (pb:=pb) B2)
 have q2:ebk w2 w.heap.size 0 0 ⟨#[]⟩ 0 0 (.slice none 0 0):=(B2.block _ (by omega)).trans q1
 have s2:=(B2.block _ (by omega)).trans s1
 have lt2:w0.heap.size < w2.heap.size:=(Array.getElem?_eq_some_iff.1 s2).1
 obtain ⟨g20,g21,g22,g23,g24⟩:=blk5 s2
 clear h1 k1 q1 s1 B2 g10 g11 g12 g13 g14
 go_wp2_with fail
 refine (isSign_any _ (kP (tkAt T i)) (tkAt T i).place (nP (tkAt T i)) (sP (tkAt T i)) (wP (tkAt T i)) w2.heap.size 0 1 [40] (runes_one w2 40) (by simp)).mono ?_
 rintro e w3 ⟨rfl,hb3⟩
 have B3:Below w2.heap.size w2 w3:=((Below.refl _ w2).alloc (Nat.le_refl _) _).trans (hb3.mono (by simp))
 have es:((kP (tkAt T i)==4)&&[(40:Int)].any (fun t=>sP (tkAt T i)==t))=false:=by
  rw [List.any_cons,List.any_nil,Bool.or_false]
  exact e_po
 rw [es]
 clear es hb3
 have h3:=h2.below B3 (Nat.le_refl _)
 have k3:=k2.trans (Kept.below (pb:=pb) B3)
 have q3:ebk w3 w.heap.size 0 0 ⟨#[]⟩ 0 0 (.slice none 0 0):=(B3.block _ (by omega)).trans q2
 have s3:=(B3.block _ (by omega)).trans s2
 have lt3:w0.heap.size < w3.heap.size:=(Array.getElem?_eq_some_iff.1 s3).1
 obtain ⟨g30,g31,g32,g33,g34⟩:=blk5 s3
 clear h2 k2 q2 s2 B3 g20 g21 g22 g23 g24
 go_wp2_with fail
 refine (isSign_any _ (kP (tkAt T i)) (tkAt T i).place (nP (tkAt T i)) (sP (tkAt T i)) (wP (tkAt T i)) w3.heap.size 0 1 [45] (runes_one w3 45) (by simp)).mono ?_
 rintro e w4 ⟨rfl,hb4⟩
 have B4:Below w3.heap.size w3 w4:=((Below.refl _ w3).alloc (Nat.le_refl _) _).trans (hb4.mono (by simp))
 have es:((kP (tkAt T i)==4)&&[(45:Int)].any (fun t=>sP (tkAt T i)==t))=false:=by
  rw [List.any_cons,List.any_nil,Bool.or_false]
  exact e_ng
 rw [es]
 clear es hb4
 have h4:=h3.below B4 (Nat.le_refl _)
 have k4:=k3.trans (Kept.below (pb:=pb) B4)
 have q4:ebk w4 w.heap.size 0 0 ⟨#[]⟩ 0 0 (.slice none 0 0):=(B4.block _ (by omega)).trans q3
 have s4:=(B4.block _ (by omega)).trans s3
 have lt4:w0.heap.size < w4.heap.size:=(Array.getElem?_eq_some_iff.1 s4).1
 obtain ⟨g40,g41,g42,g43,g44⟩:=blk5 s4
 clear h3 k3 q3 s3 B4 g30 g31 g32 g33 g34
 go_wp2_with fail
 refine (isWord_any _ (kP (tkAt T i)) (tkAt T i).place (nP (tkAt T i)) (sP (tkAt T i)) (wP (tkAt T i)) w4.heap.size 0 2 [sPEEK,sSPY] (strs_new w4 [sPEEK,sSPY]) (by simp)).mono ?_
 rintro e w5 ⟨rfl,hb5⟩
 have B5:Below w4.heap.size w4 w5:=((Below.refl _ w4).alloc (Nat.le_refl _) _).trans (hb5.mono (by simp))
 have es:((kP (tkAt T i)==2)&&[sPEEK,sSPY].any (fun t=>(wP (tkAt T i)).toList==t.toList))=true:=by rw [wd_is hT i (by intro s hs;simp only [List.mem_cons,List.not_mem_nil,or_false] at hs;rcases hs with rfl | rfl <;> (unfold memB;simp only [ByteArray.toList_eq];decide))];simp [List.any_cons,hi]
 rw [es]
 clear es hb5
 have h5:=h4.below B5 (Nat.le_refl _)
 have k5:=k4.trans (Kept.below (pb:=pb) B5)
 have q5:ebk w5 w.heap.size 0 0 ⟨#[]⟩ 0 0 (.slice none 0 0):=(B5.block _ (by omega)).trans q4
 have s5:=(B5.block _ (by omega)).trans s4
 have lt5:w0.heap.size < w5.heap.size:=(Array.getElem?_eq_some_iff.1 s5).1
 obtain ⟨g50,g51,g52,g53,g54⟩:=blk5 s5
 clear h4 k4 q4 s4 B5 g40 g41 g42 g43 g44
 go_wp2_with fail
 refine (hC w5 pb tb cap i T f pl r hT h5 hi hr).mono ?_
 rintro e w6 ⟨k6,a0,a1,a2,a3,a4,ao,len,c,rfl,h6⟩
 have q6:ebk w6 w.heap.size 0 0 ⟨#[]⟩ 0 0 (.slice none 0 0):=(k6.2 _ (by omega) (by omega)).trans q5
 have K:=hide (k5.trans k6)
 have ltz:=k6.1
 obtain ⟨⟨y0,y1,y2,y3,y4,y5⟩,u0,u1,u2,u3,u4,u5⟩:=blk6 q6
 clear k5 k6 q5 q6 h5 s5
 unfold exW
 go_wp2
 refine bodyPost_ret (v:=exW a0 a1 a2 a3 a4 (.slice ao len c)) (by simp [results,Tryz.results149,go_sem,exW,y0,y1,y2,y3,y4,y5]) rfl ⟨(unhide K).put6 (Nat.le_refl _),a0,a1,a2,a3,a4,ao,len,c,rfl,eres_put6 h6 (by omega) (by omega) (by omega) (by omega)⟩
set_option maxHeartbeats 8000000 in
theorem pfactor_sel {Q:PE} (hC:∀(w:World) (pb tb cap i:Nat) (T:List Tok) (f pl:Int) (r:Except Nat (Ex×Nat)),TokW T→PsAt w pb tb cap T i f pl→isT T i sSEL=true→Q T i=some r→Calls Tryz.prog 151 #[.pointer (some ⟨pb,0,none⟩),.int .i32 40,.int .i32 41,.int .i64 3] w (EOut w pb tb cap T f pl r)) (w:World) (pb tb cap i:Nat) (T:List Tok) (f pl:Int) (r:Except Nat (Ex×Nat)) (hT:TokW T) (h:PsAt w pb tb cap T i f pl) (hi:isT T i sSEL=true) (hr:Q T i=some r) :
  Calls Tryz.prog 149 #[.pointer (some ⟨pb,0,none⟩)] w (EOut w pb tb cap T f pl r):=by
 have hk:(tkAt T i).kind≠2∧(tkAt T i).kind≠1:=by
  have:=isT_leaf hi
  simp at this
  exact this
 have e_num:(kP (tkAt T i)==3)=false:=by rw [nu_is hT];simp [hk.1]
 have e_nm:nmB T i=false:=by rw [nm_is hT];simp [hk.2]
 have no:∀s:ByteArray,sSEL.data≠s.data→isT T i s=false:=fun s hs=>by
  cases h0:isT T i s
  ·rfl
  ·exact absurd (congrArg (fun x=>x.data) ((isT_text hi).symm.trans (isT_text h0))) hs
 have e_po:sgB T i 40=false:=by rw [←rune_PO,sg_is hT i mem_sg.1];exact no _ (by decide)
 have e_ng:sgB T i 45=false:=by rw [←rune_NEG,sg_is hT i mem_sg.2.2.2.2.2.2.2.2.2.2];exact no _ (by decide)
 have hp:=h.plt
 have hlow:=h.low
 go_enter Tryz.func149,Tryz.ntmps149
 go_wp2_with fail
 refine (next_any _ pb tb cap i T f pl (h.alloc _)).mono ?_
 rintro e w0 ⟨rfl,hb0⟩
 have h0:=(h.alloc _).below hb0 (Nat.le_refl _)
 have k0:=(Kept.alloc pb w _).trans (Kept.below (pb:=pb) hb0)
 have q0:ebk w0 w.heap.size 0 0 ⟨#[]⟩ 0 0 (.slice none 0 0):=(hb0.block _ (by simp)).trans (heap_alloc_new w _)
 have lt0:w.heap.size < w0.heap.size:=(Array.getElem?_eq_some_iff.1 q0).1
 clear h hb0
 obtain ⟨w1,hw1⟩:∃w1,w0.alloc (.cells #[.int .i64 (kP (tkAt T i)),.int .i64 (tkAt T i).place,.string (wP (tkAt T i)),.int .i32 (nP (tkAt T i)),.int .i32 (sP (tkAt T i))] 116)=w1:=⟨_,rfl⟩
 have h1:PsAt w1 pb tb cap T i f pl:=by rw [←hw1];exact h0.alloc _
 have k1:Kept pb w w1:=by rw [←hw1];exact k0.trans (Kept.alloc pb w0 _)
 have q1:ebk w1 w.heap.size 0 0 ⟨#[]⟩ 0 0 (.slice none 0 0):=by rw [←hw1];exact (Below.heap_alloc w0 _ _ lt0).trans q0
 have s1:w1.heap[w0.heap.size]?=some (.cells #[.int .i64 (kP (tkAt T i)),.int .i64 (tkAt T i).place,.string (wP (tkAt T i)),.int .i32 (nP (tkAt T i)),.int .i32 (sP (tkAt T i))] 116 (0,0)):=by rw [←hw1];exact heap_alloc_new w0 _
 have lt1:w0.heap.size < w1.heap.size:=(Array.getElem?_eq_some_iff.1 s1).1
 obtain ⟨g10,g11,g12,g13,g14⟩:=blk5 s1
 clear h0 k0 q0
 unfold tokP tkV
 go_wp2_with fail
 clear hw1
 refine (isName_any _ (kP (tkAt T i)) (tkAt T i).place (nP (tkAt T i)) (sP (tkAt T i)) (wP (tkAt T i))).mono ?_
 rintro e w2 ⟨rfl,B2⟩
 have es:((kP (tkAt T i)==2) && !kwsP.any (fun t=>(wP (tkAt T i)).toList==t.toList))=false:=e_nm
 rw [es]
 clear es
 have h2:=h1.below B2 (Nat.le_refl _)
 have k2:=k1.trans (Kept.below (pb:=pb) B2)
 have q2:ebk w2 w.heap.size 0 0 ⟨#[]⟩ 0 0 (.slice none 0 0):=(B2.block _ (by omega)).trans q1
 have s2:=(B2.block _ (by omega)).trans s1
 have lt2:w0.heap.size < w2.heap.size:=(Array.getElem?_eq_some_iff.1 s2).1
 obtain ⟨g20,g21,g22,g23,g24⟩:=blk5 s2
 clear h1 k1 q1 s1 B2 g10 g11 g12 g13 g14
 go_wp2_with fail
 refine (isSign_any _ (kP (tkAt T i)) (tkAt T i).place (nP (tkAt T i)) (sP (tkAt T i)) (wP (tkAt T i)) w2.heap.size 0 1 [40] (runes_one w2 40) (by simp)).mono ?_
 rintro e w3 ⟨rfl,hb3⟩
 have B3:Below w2.heap.size w2 w3:=((Below.refl _ w2).alloc (Nat.le_refl _) _).trans (hb3.mono (by simp))
 have es:((kP (tkAt T i)==4)&&[(40:Int)].any (fun t=>sP (tkAt T i)==t))=false:=by
  rw [List.any_cons,List.any_nil,Bool.or_false]
  exact e_po
 rw [es]
 clear es hb3
 have h3:=h2.below B3 (Nat.le_refl _)
 have k3:=k2.trans (Kept.below (pb:=pb) B3)
 have q3:ebk w3 w.heap.size 0 0 ⟨#[]⟩ 0 0 (.slice none 0 0):=(B3.block _ (by omega)).trans q2
 have s3:=(B3.block _ (by omega)).trans s2
 have lt3:w0.heap.size < w3.heap.size:=(Array.getElem?_eq_some_iff.1 s3).1
 obtain ⟨g30,g31,g32,g33,g34⟩:=blk5 s3
 clear h2 k2 q2 s2 B3 g20 g21 g22 g23 g24
 go_wp2_with fail
 refine (isSign_any _ (kP (tkAt T i)) (tkAt T i).place (nP (tkAt T i)) (sP (tkAt T i)) (wP (tkAt T i)) w3.heap.size 0 1 [45] (runes_one w3 45) (by simp)).mono ?_
 rintro e w4 ⟨rfl,hb4⟩
 have B4:Below w3.heap.size w3 w4:=((Below.refl _ w3).alloc (Nat.le_refl _) _).trans (hb4.mono (by simp))
 have es:((kP (tkAt T i)==4)&&[(45:Int)].any (fun t=>sP (tkAt T i)==t))=false:=by
  rw [List.any_cons,List.any_nil,Bool.or_false]
  exact e_ng
 rw [es]
 clear es hb4
 have h4:=h3.below B4 (Nat.le_refl _)
 have k4:=k3.trans (Kept.below (pb:=pb) B4)
 have q4:ebk w4 w.heap.size 0 0 ⟨#[]⟩ 0 0 (.slice none 0 0):=(B4.block _ (by omega)).trans q3
 have s4:=(B4.block _ (by omega)).trans s3
 have lt4:w0.heap.size < w4.heap.size:=(Array.getElem?_eq_some_iff.1 s4).1
 obtain ⟨g40,g41,g42,g43,g44⟩:=blk5 s4
 clear h3 k3 q3 s3 B4 g30 g31 g32 g33 g34
 go_wp2_with fail
 refine (isWord_any _ (kP (tkAt T i)) (tkAt T i).place (nP (tkAt T i)) (sP (tkAt T i)) (wP (tkAt T i)) w4.heap.size 0 2 [sPEEK,sSPY] (strs_new w4 [sPEEK,sSPY]) (by simp)).mono ?_
 rintro e w5 ⟨rfl,hb5⟩
 have B5:Below w4.heap.size w4 w5:=((Below.refl _ w4).alloc (Nat.le_refl _) _).trans (hb5.mono (by simp))
 have es:((kP (tkAt T i)==2)&&[sPEEK,sSPY].any (fun t=>(wP (tkAt T i)).toList==t.toList))=false:=by rw [wd_is hT i (by intro s hs;simp only [List.mem_cons,List.not_mem_nil,or_false] at hs;rcases hs with rfl | rfl <;> (unfold memB;simp only [ByteArray.toList_eq];decide)),List.any_eq_false];intro s hs;simp only [List.mem_cons,List.not_mem_nil,or_false] at hs;rcases hs with rfl | rfl;(all_goals (first | (rw [no sPEEK (by decide)];simp) | (rw [no sSPY (by decide)];simp) | (rw [no sSEL (by decide)];simp)))
 rw [es]
 clear es hb5
 have h5:=h4.below B5 (Nat.le_refl _)
 have k5:=k4.trans (Kept.below (pb:=pb) B5)
 have q5:ebk w5 w.heap.size 0 0 ⟨#[]⟩ 0 0 (.slice none 0 0):=(B5.block _ (by omega)).trans q4
 have s5:=(B5.block _ (by omega)).trans s4
 have lt5:w0.heap.size < w5.heap.size:=(Array.getElem?_eq_some_iff.1 s5).1
 obtain ⟨g50,g51,g52,g53,g54⟩:=blk5 s5
 clear h4 k4 q4 s4 B5 g40 g41 g42 g43 g44
 go_wp2_with fail
 refine (isWord_any _ (kP (tkAt T i)) (tkAt T i).place (nP (tkAt T i)) (sP (tkAt T i)) (wP (tkAt T i)) w5.heap.size 0 1 [sSEL] (strs_new w5 [sSEL]) (by simp)).mono ?_
 rintro e w6 ⟨rfl,hb6⟩
 have B6:Below w5.heap.size w5 w6:=((Below.refl _ w5).alloc (Nat.le_refl _) _).trans (hb6.mono (by simp))
 have es:((kP (tkAt T i)==2)&&[sSEL].any (fun t=>(wP (tkAt T i)).toList==t.toList))=true:=by rw [wd_is hT i (by intro s hs;simp only [List.mem_cons,List.not_mem_nil,or_false] at hs;rcases hs with rfl <;> (unfold memB;simp only [ByteArray.toList_eq];decide))];simp [List.any_cons,hi]
 rw [es]
 clear es hb6
 have h6:=h5.below B6 (Nat.le_refl _)
 have k6:=k5.trans (Kept.below (pb:=pb) B6)
 have q6:ebk w6 w.heap.size 0 0 ⟨#[]⟩ 0 0 (.slice none 0 0):=(B6.block _ (by omega)).trans q5
 have s6:=(B6.block _ (by omega)).trans s5
 have lt6:w0.heap.size < w6.heap.size:=(Array.getElem?_eq_some_iff.1 s6).1
 obtain ⟨g60,g61,g62,g63,g64⟩:=blk5 s6
 clear h5 k5 q5 s5 B6 g50 g51 g52 g53 g54
 go_wp2_with fail
 refine (hC w6 pb tb cap i T f pl r hT h6 hi hr).mono ?_
 rintro e w7 ⟨k7,a0,a1,a2,a3,a4,ao,len,c,rfl,h7⟩
 have q7:ebk w7 w.heap.size 0 0 ⟨#[]⟩ 0 0 (.slice none 0 0):=(k7.2 _ (by omega) (by omega)).trans q6
 have K:=hide (k6.trans k7)
 have ltz:=k7.1
 obtain ⟨⟨y0,y1,y2,y3,y4,y5⟩,u0,u1,u2,u3,u4,u5⟩:=blk6 q7
 clear k6 k7 q6 q7 h6 s6
 unfold exW
 go_wp2
 refine bodyPost_ret (v:=exW a0 a1 a2 a3 a4 (.slice ao len c)) (by simp [results,Tryz.results149,go_sem,exW,y0,y1,y2,y3,y4,y5]) rfl ⟨(unhide K).put6 (Nat.le_refl _),a0,a1,a2,a3,a4,ao,len,c,rfl,eres_put6 h7 (by omega) (by omega) (by omega) (by omega)⟩
set_option maxHeartbeats 8000000 in
theorem pfactor_min {Q:PE} (hC:∀(w:World) (pb tb cap i:Nat) (T:List Tok) (f pl:Int) (r:Except Nat (Ex×Nat)),TokW T→PsAt w pb tb cap T i f pl→isT T i sMIN=true→Q T i=some r→Calls Tryz.prog 151 #[.pointer (some ⟨pb,0,none⟩),.int .i32 40,.int .i32 41,.int .i64 2] w (EOut w pb tb cap T f pl r)) (w:World) (pb tb cap i:Nat) (T:List Tok) (f pl:Int) (r:Except Nat (Ex×Nat)) (hT:TokW T) (h:PsAt w pb tb cap T i f pl) (hi:isT T i sMIN=true) (hr:Q T i=some r) :
  Calls Tryz.prog 149 #[.pointer (some ⟨pb,0,none⟩)] w (EOut w pb tb cap T f pl r):=by
 have hk:(tkAt T i).kind≠2∧(tkAt T i).kind≠1:=by
  have:=isT_leaf hi
  simp at this
  exact this
 have e_num:(kP (tkAt T i)==3)=false:=by rw [nu_is hT];simp [hk.1]
 have e_nm:nmB T i=false:=by rw [nm_is hT];simp [hk.2]
 have no:∀s:ByteArray,sMIN.data≠s.data→isT T i s=false:=fun s hs=>by
  cases h0:isT T i s
  ·rfl
  ·exact absurd (congrArg (fun x=>x.data) ((isT_text hi).symm.trans (isT_text h0))) hs
 have e_po:sgB T i 40=false:=by rw [←rune_PO,sg_is hT i mem_sg.1];exact no _ (by decide)
 have e_ng:sgB T i 45=false:=by rw [←rune_NEG,sg_is hT i mem_sg.2.2.2.2.2.2.2.2.2.2];exact no _ (by decide)
 have hp:=h.plt
 have hlow:=h.low
 go_enter Tryz.func149,Tryz.ntmps149
 go_wp2_with fail
 refine (next_any _ pb tb cap i T f pl (h.alloc _)).mono ?_
 rintro e w0 ⟨rfl,hb0⟩
 have h0:=(h.alloc _).below hb0 (Nat.le_refl _)
 have k0:=(Kept.alloc pb w _).trans (Kept.below (pb:=pb) hb0)
 have q0:ebk w0 w.heap.size 0 0 ⟨#[]⟩ 0 0 (.slice none 0 0):=(hb0.block _ (by simp)).trans (heap_alloc_new w _)
 have lt0:w.heap.size < w0.heap.size:=(Array.getElem?_eq_some_iff.1 q0).1
 clear h hb0
 obtain ⟨w1,hw1⟩:∃w1,w0.alloc (.cells #[.int .i64 (kP (tkAt T i)),.int .i64 (tkAt T i).place,.string (wP (tkAt T i)),.int .i32 (nP (tkAt T i)),.int .i32 (sP (tkAt T i))] 116)=w1:=⟨_,rfl⟩
 have h1:PsAt w1 pb tb cap T i f pl:=by rw [←hw1];exact h0.alloc _
 have k1:Kept pb w w1:=by rw [←hw1];exact k0.trans (Kept.alloc pb w0 _)
 have q1:ebk w1 w.heap.size 0 0 ⟨#[]⟩ 0 0 (.slice none 0 0):=by rw [←hw1];exact (Below.heap_alloc w0 _ _ lt0).trans q0
 have s1:w1.heap[w0.heap.size]?=some (.cells #[.int .i64 (kP (tkAt T i)),.int .i64 (tkAt T i).place,.string (wP (tkAt T i)),.int .i32 (nP (tkAt T i)),.int .i32 (sP (tkAt T i))] 116 (0,0)):=by rw [←hw1];exact heap_alloc_new w0 _
 have lt1:w0.heap.size < w1.heap.size:=(Array.getElem?_eq_some_iff.1 s1).1
 obtain ⟨g10,g11,g12,g13,g14⟩:=blk5 s1
 clear h0 k0 q0
 unfold tokP tkV
 go_wp2_with fail
 clear hw1
 refine (isName_any _ (kP (tkAt T i)) (tkAt T i).place (nP (tkAt T i)) (sP (tkAt T i)) (wP (tkAt T i))).mono ?_
 rintro e w2 ⟨rfl,B2⟩
 have es:((kP (tkAt T i)==2) && !kwsP.any (fun t=>(wP (tkAt T i)).toList==t.toList))=false:=e_nm
 rw [es]
 clear es
 have h2:=h1.below B2 (Nat.le_refl _)
 have k2:=k1.trans (Kept.below (pb:=pb) B2)
 have q2:ebk w2 w.heap.size 0 0 ⟨#[]⟩ 0 0 (.slice none 0 0):=(B2.block _ (by omega)).trans q1
 have s2:=(B2.block _ (by omega)).trans s1
 have lt2:w0.heap.size < w2.heap.size:=(Array.getElem?_eq_some_iff.1 s2).1
 obtain ⟨g20,g21,g22,g23,g24⟩:=blk5 s2
 clear h1 k1 q1 s1 B2 g10 g11 g12 g13 g14
 go_wp2_with fail
 refine (isSign_any _ (kP (tkAt T i)) (tkAt T i).place (nP (tkAt T i)) (sP (tkAt T i)) (wP (tkAt T i)) w2.heap.size 0 1 [40] (runes_one w2 40) (by simp)).mono ?_
 rintro e w3 ⟨rfl,hb3⟩
 have B3:Below w2.heap.size w2 w3:=((Below.refl _ w2).alloc (Nat.le_refl _) _).trans (hb3.mono (by simp))
 have es:((kP (tkAt T i)==4)&&[(40:Int)].any (fun t=>sP (tkAt T i)==t))=false:=by
  rw [List.any_cons,List.any_nil,Bool.or_false]
  exact e_po
 rw [es]
 clear es hb3
 have h3:=h2.below B3 (Nat.le_refl _)
 have k3:=k2.trans (Kept.below (pb:=pb) B3)
 have q3:ebk w3 w.heap.size 0 0 ⟨#[]⟩ 0 0 (.slice none 0 0):=(B3.block _ (by omega)).trans q2
 have s3:=(B3.block _ (by omega)).trans s2
 have lt3:w0.heap.size < w3.heap.size:=(Array.getElem?_eq_some_iff.1 s3).1
 obtain ⟨g30,g31,g32,g33,g34⟩:=blk5 s3
 clear h2 k2 q2 s2 B3 g20 g21 g22 g23 g24
 go_wp2_with fail
 refine (isSign_any _ (kP (tkAt T i)) (tkAt T i).place (nP (tkAt T i)) (sP (tkAt T i)) (wP (tkAt T i)) w3.heap.size 0 1 [45] (runes_one w3 45) (by simp)).mono ?_
 rintro e w4 ⟨rfl,hb4⟩
 have B4:Below w3.heap.size w3 w4:=((Below.refl _ w3).alloc (Nat.le_refl _) _).trans (hb4.mono (by simp))
 have es:((kP (tkAt T i)==4)&&[(45:Int)].any (fun t=>sP (tkAt T i)==t))=false:=by
  rw [List.any_cons,List.any_nil,Bool.or_false]
  exact e_ng
 rw [es]
 clear es hb4
 have h4:=h3.below B4 (Nat.le_refl _)
 have k4:=k3.trans (Kept.below (pb:=pb) B4)
 have q4:ebk w4 w.heap.size 0 0 ⟨#[]⟩ 0 0 (.slice none 0 0):=(B4.block _ (by omega)).trans q3
 have s4:=(B4.block _ (by omega)).trans s3
 have lt4:w0.heap.size < w4.heap.size:=(Array.getElem?_eq_some_iff.1 s4).1
 obtain ⟨g40,g41,g42,g43,g44⟩:=blk5 s4
 clear h3 k3 q3 s3 B4 g30 g31 g32 g33 g34
 go_wp2_with fail
 refine (isWord_any _ (kP (tkAt T i)) (tkAt T i).place (nP (tkAt T i)) (sP (tkAt T i)) (wP (tkAt T i)) w4.heap.size 0 2 [sPEEK,sSPY] (strs_new w4 [sPEEK,sSPY]) (by simp)).mono ?_
 rintro e w5 ⟨rfl,hb5⟩
 have B5:Below w4.heap.size w4 w5:=((Below.refl _ w4).alloc (Nat.le_refl _) _).trans (hb5.mono (by simp))
 have es:((kP (tkAt T i)==2)&&[sPEEK,sSPY].any (fun t=>(wP (tkAt T i)).toList==t.toList))=false:=by rw [wd_is hT i (by intro s hs;simp only [List.mem_cons,List.not_mem_nil,or_false] at hs;rcases hs with rfl | rfl <;> (unfold memB;simp only [ByteArray.toList_eq];decide)),List.any_eq_false];intro s hs;simp only [List.mem_cons,List.not_mem_nil,or_false] at hs;rcases hs with rfl | rfl;(all_goals (first | (rw [no sPEEK (by decide)];simp) | (rw [no sSPY (by decide)];simp) | (rw [no sSEL (by decide)];simp)))
 rw [es]
 clear es hb5
 have h5:=h4.below B5 (Nat.le_refl _)
 have k5:=k4.trans (Kept.below (pb:=pb) B5)
 have q5:ebk w5 w.heap.size 0 0 ⟨#[]⟩ 0 0 (.slice none 0 0):=(B5.block _ (by omega)).trans q4
 have s5:=(B5.block _ (by omega)).trans s4
 have lt5:w0.heap.size < w5.heap.size:=(Array.getElem?_eq_some_iff.1 s5).1
 obtain ⟨g50,g51,g52,g53,g54⟩:=blk5 s5
 clear h4 k4 q4 s4 B5 g40 g41 g42 g43 g44
 go_wp2_with fail
 refine (isWord_any _ (kP (tkAt T i)) (tkAt T i).place (nP (tkAt T i)) (sP (tkAt T i)) (wP (tkAt T i)) w5.heap.size 0 1 [sSEL] (strs_new w5 [sSEL]) (by simp)).mono ?_
 rintro e w6 ⟨rfl,hb6⟩
 have B6:Below w5.heap.size w5 w6:=((Below.refl _ w5).alloc (Nat.le_refl _) _).trans (hb6.mono (by simp))
 have es:((kP (tkAt T i)==2)&&[sSEL].any (fun t=>(wP (tkAt T i)).toList==t.toList))=false:=by rw [wd_is hT i (by intro s hs;simp only [List.mem_cons,List.not_mem_nil,or_false] at hs;rcases hs with rfl <;> (unfold memB;simp only [ByteArray.toList_eq];decide)),List.any_eq_false];intro s hs;simp only [List.mem_cons,List.not_mem_nil,or_false] at hs;rcases hs with rfl;(all_goals (first | (rw [no sPEEK (by decide)];simp) | (rw [no sSPY (by decide)];simp) | (rw [no sSEL (by decide)];simp)))
 rw [es]
 clear es hb6
 have h6:=h5.below B6 (Nat.le_refl _)
 have k6:=k5.trans (Kept.below (pb:=pb) B6)
 have q6:ebk w6 w.heap.size 0 0 ⟨#[]⟩ 0 0 (.slice none 0 0):=(B6.block _ (by omega)).trans q5
 have s6:=(B6.block _ (by omega)).trans s5
 have lt6:w0.heap.size < w6.heap.size:=(Array.getElem?_eq_some_iff.1 s6).1
 obtain ⟨g60,g61,g62,g63,g64⟩:=blk5 s6
 clear h5 k5 q5 s5 B6 g50 g51 g52 g53 g54
 go_wp2_with fail
 refine (isWord_any _ (kP (tkAt T i)) (tkAt T i).place (nP (tkAt T i)) (sP (tkAt T i)) (wP (tkAt T i)) w6.heap.size 0 2 [sMIN,sMAX] (strs_new w6 [sMIN,sMAX]) (by simp)).mono ?_
 rintro e w7 ⟨rfl,hb7⟩
 have B7:Below w6.heap.size w6 w7:=((Below.refl _ w6).alloc (Nat.le_refl _) _).trans (hb7.mono (by simp))
 have es:((kP (tkAt T i)==2)&&[sMIN,sMAX].any (fun t=>(wP (tkAt T i)).toList==t.toList))=true:=by rw [wd_is hT i (by intro s hs;simp only [List.mem_cons,List.not_mem_nil,or_false] at hs;rcases hs with rfl | rfl <;> (unfold memB;simp only [ByteArray.toList_eq];decide))];simp [List.any_cons,hi]
 rw [es]
 clear es hb7
 have h7:=h6.below B7 (Nat.le_refl _)
 have k7:=k6.trans (Kept.below (pb:=pb) B7)
 have q7:ebk w7 w.heap.size 0 0 ⟨#[]⟩ 0 0 (.slice none 0 0):=(B7.block _ (by omega)).trans q6
 have s7:=(B7.block _ (by omega)).trans s6
 have lt7:w0.heap.size < w7.heap.size:=(Array.getElem?_eq_some_iff.1 s7).1
 obtain ⟨g70,g71,g72,g73,g74⟩:=blk5 s7
 clear h6 k6 q6 s6 B7 g60 g61 g62 g63 g64
 go_wp2_with fail
 refine (hC w7 pb tb cap i T f pl r hT h7 hi hr).mono ?_
 rintro e w8 ⟨k8,a0,a1,a2,a3,a4,ao,len,c,rfl,h8⟩
 have q8:ebk w8 w.heap.size 0 0 ⟨#[]⟩ 0 0 (.slice none 0 0):=(k8.2 _ (by omega) (by omega)).trans q7
 have K:=hide (k7.trans k8)
 have ltz:=k8.1
 obtain ⟨⟨y0,y1,y2,y3,y4,y5⟩,u0,u1,u2,u3,u4,u5⟩:=blk6 q8
 clear k7 k8 q7 q8 h7 s7
 unfold exW
 go_wp2
 refine bodyPost_ret (v:=exW a0 a1 a2 a3 a4 (.slice ao len c)) (by simp [results,Tryz.results149,go_sem,exW,y0,y1,y2,y3,y4,y5]) rfl ⟨(unhide K).put6 (Nat.le_refl _),a0,a1,a2,a3,a4,ao,len,c,rfl,eres_put6 h8 (by omega) (by omega) (by omega) (by omega)⟩
set_option maxHeartbeats 8000000 in
theorem pfactor_max {Q:PE} (hC:∀(w:World) (pb tb cap i:Nat) (T:List Tok) (f pl:Int) (r:Except Nat (Ex×Nat)),TokW T→PsAt w pb tb cap T i f pl→isT T i sMAX=true→Q T i=some r→Calls Tryz.prog 151 #[.pointer (some ⟨pb,0,none⟩),.int .i32 40,.int .i32 41,.int .i64 2] w (EOut w pb tb cap T f pl r)) (w:World) (pb tb cap i:Nat) (T:List Tok) (f pl:Int) (r:Except Nat (Ex×Nat)) (hT:TokW T) (h:PsAt w pb tb cap T i f pl) (hi:isT T i sMAX=true) (hr:Q T i=some r) :
  Calls Tryz.prog 149 #[.pointer (some ⟨pb,0,none⟩)] w (EOut w pb tb cap T f pl r):=by
 have hk:(tkAt T i).kind≠2∧(tkAt T i).kind≠1:=by
  have:=isT_leaf hi
  simp at this
  exact this
 have e_num:(kP (tkAt T i)==3)=false:=by rw [nu_is hT];simp [hk.1]
 have e_nm:nmB T i=false:=by rw [nm_is hT];simp [hk.2]
 have no:∀s:ByteArray,sMAX.data≠s.data→isT T i s=false:=fun s hs=>by
  cases h0:isT T i s
  ·rfl
  ·exact absurd (congrArg (fun x=>x.data) ((isT_text hi).symm.trans (isT_text h0))) hs
 have e_po:sgB T i 40=false:=by rw [←rune_PO,sg_is hT i mem_sg.1];exact no _ (by decide)
 have e_ng:sgB T i 45=false:=by rw [←rune_NEG,sg_is hT i mem_sg.2.2.2.2.2.2.2.2.2.2];exact no _ (by decide)
 have hp:=h.plt
 have hlow:=h.low
 go_enter Tryz.func149,Tryz.ntmps149
 go_wp2_with fail
 refine (next_any _ pb tb cap i T f pl (h.alloc _)).mono ?_
 rintro e w0 ⟨rfl,hb0⟩
 have h0:=(h.alloc _).below hb0 (Nat.le_refl _)
 have k0:=(Kept.alloc pb w _).trans (Kept.below (pb:=pb) hb0)
 have q0:ebk w0 w.heap.size 0 0 ⟨#[]⟩ 0 0 (.slice none 0 0):=(hb0.block _ (by simp)).trans (heap_alloc_new w _)
 have lt0:w.heap.size < w0.heap.size:=(Array.getElem?_eq_some_iff.1 q0).1
 clear h hb0
 obtain ⟨w1,hw1⟩:∃w1,w0.alloc (.cells #[.int .i64 (kP (tkAt T i)),.int .i64 (tkAt T i).place,.string (wP (tkAt T i)),.int .i32 (nP (tkAt T i)),.int .i32 (sP (tkAt T i))] 116)=w1:=⟨_,rfl⟩
 have h1:PsAt w1 pb tb cap T i f pl:=by rw [←hw1];exact h0.alloc _
 have k1:Kept pb w w1:=by rw [←hw1];exact k0.trans (Kept.alloc pb w0 _)
 have q1:ebk w1 w.heap.size 0 0 ⟨#[]⟩ 0 0 (.slice none 0 0):=by rw [←hw1];exact (Below.heap_alloc w0 _ _ lt0).trans q0
 have s1:w1.heap[w0.heap.size]?=some (.cells #[.int .i64 (kP (tkAt T i)),.int .i64 (tkAt T i).place,.string (wP (tkAt T i)),.int .i32 (nP (tkAt T i)),.int .i32 (sP (tkAt T i))] 116 (0,0)):=by rw [←hw1];exact heap_alloc_new w0 _
 have lt1:w0.heap.size < w1.heap.size:=(Array.getElem?_eq_some_iff.1 s1).1
 obtain ⟨g10,g11,g12,g13,g14⟩:=blk5 s1
 clear h0 k0 q0
 unfold tokP tkV
 go_wp2_with fail
 clear hw1
 refine (isName_any _ (kP (tkAt T i)) (tkAt T i).place (nP (tkAt T i)) (sP (tkAt T i)) (wP (tkAt T i))).mono ?_
 rintro e w2 ⟨rfl,B2⟩
 have es:((kP (tkAt T i)==2) && !kwsP.any (fun t=>(wP (tkAt T i)).toList==t.toList))=false:=e_nm
 rw [es]
 clear es
 have h2:=h1.below B2 (Nat.le_refl _)
 have k2:=k1.trans (Kept.below (pb:=pb) B2)
 have q2:ebk w2 w.heap.size 0 0 ⟨#[]⟩ 0 0 (.slice none 0 0):=(B2.block _ (by omega)).trans q1
 have s2:=(B2.block _ (by omega)).trans s1
 have lt2:w0.heap.size < w2.heap.size:=(Array.getElem?_eq_some_iff.1 s2).1
 obtain ⟨g20,g21,g22,g23,g24⟩:=blk5 s2
 clear h1 k1 q1 s1 B2 g10 g11 g12 g13 g14
 go_wp2_with fail
 refine (isSign_any _ (kP (tkAt T i)) (tkAt T i).place (nP (tkAt T i)) (sP (tkAt T i)) (wP (tkAt T i)) w2.heap.size 0 1 [40] (runes_one w2 40) (by simp)).mono ?_
 rintro e w3 ⟨rfl,hb3⟩
 have B3:Below w2.heap.size w2 w3:=((Below.refl _ w2).alloc (Nat.le_refl _) _).trans (hb3.mono (by simp))
 have es:((kP (tkAt T i)==4)&&[(40:Int)].any (fun t=>sP (tkAt T i)==t))=false:=by
  rw [List.any_cons,List.any_nil,Bool.or_false]
  exact e_po
 rw [es]
 clear es hb3
 have h3:=h2.below B3 (Nat.le_refl _)
 have k3:=k2.trans (Kept.below (pb:=pb) B3)
 have q3:ebk w3 w.heap.size 0 0 ⟨#[]⟩ 0 0 (.slice none 0 0):=(B3.block _ (by omega)).trans q2
 have s3:=(B3.block _ (by omega)).trans s2
 have lt3:w0.heap.size < w3.heap.size:=(Array.getElem?_eq_some_iff.1 s3).1
 obtain ⟨g30,g31,g32,g33,g34⟩:=blk5 s3
 clear h2 k2 q2 s2 B3 g20 g21 g22 g23 g24
 go_wp2_with fail
 refine (isSign_any _ (kP (tkAt T i)) (tkAt T i).place (nP (tkAt T i)) (sP (tkAt T i)) (wP (tkAt T i)) w3.heap.size 0 1 [45] (runes_one w3 45) (by simp)).mono ?_
 rintro e w4 ⟨rfl,hb4⟩
 have B4:Below w3.heap.size w3 w4:=((Below.refl _ w3).alloc (Nat.le_refl _) _).trans (hb4.mono (by simp))
 have es:((kP (tkAt T i)==4)&&[(45:Int)].any (fun t=>sP (tkAt T i)==t))=false:=by
  rw [List.any_cons,List.any_nil,Bool.or_false]
  exact e_ng
 rw [es]
 clear es hb4
 have h4:=h3.below B4 (Nat.le_refl _)
 have k4:=k3.trans (Kept.below (pb:=pb) B4)
 have q4:ebk w4 w.heap.size 0 0 ⟨#[]⟩ 0 0 (.slice none 0 0):=(B4.block _ (by omega)).trans q3
 have s4:=(B4.block _ (by omega)).trans s3
 have lt4:w0.heap.size < w4.heap.size:=(Array.getElem?_eq_some_iff.1 s4).1
 obtain ⟨g40,g41,g42,g43,g44⟩:=blk5 s4
 clear h3 k3 q3 s3 B4 g30 g31 g32 g33 g34
 go_wp2_with fail
 refine (isWord_any _ (kP (tkAt T i)) (tkAt T i).place (nP (tkAt T i)) (sP (tkAt T i)) (wP (tkAt T i)) w4.heap.size 0 2 [sPEEK,sSPY] (strs_new w4 [sPEEK,sSPY]) (by simp)).mono ?_
 rintro e w5 ⟨rfl,hb5⟩
 have B5:Below w4.heap.size w4 w5:=((Below.refl _ w4).alloc (Nat.le_refl _) _).trans (hb5.mono (by simp))
 have es:((kP (tkAt T i)==2)&&[sPEEK,sSPY].any (fun t=>(wP (tkAt T i)).toList==t.toList))=false:=by rw [wd_is hT i (by intro s hs;simp only [List.mem_cons,List.not_mem_nil,or_false] at hs;rcases hs with rfl | rfl <;> (unfold memB;simp only [ByteArray.toList_eq];decide)),List.any_eq_false];intro s hs;simp only [List.mem_cons,List.not_mem_nil,or_false] at hs;rcases hs with rfl | rfl;(all_goals (first | (rw [no sPEEK (by decide)];simp) | (rw [no sSPY (by decide)];simp) | (rw [no sSEL (by decide)];simp)))
 rw [es]
 clear es hb5
 have h5:=h4.below B5 (Nat.le_refl _)
 have k5:=k4.trans (Kept.below (pb:=pb) B5)
 have q5:ebk w5 w.heap.size 0 0 ⟨#[]⟩ 0 0 (.slice none 0 0):=(B5.block _ (by omega)).trans q4
 have s5:=(B5.block _ (by omega)).trans s4
 have lt5:w0.heap.size < w5.heap.size:=(Array.getElem?_eq_some_iff.1 s5).1
 obtain ⟨g50,g51,g52,g53,g54⟩:=blk5 s5
 clear h4 k4 q4 s4 B5 g40 g41 g42 g43 g44
 go_wp2_with fail
 refine (isWord_any _ (kP (tkAt T i)) (tkAt T i).place (nP (tkAt T i)) (sP (tkAt T i)) (wP (tkAt T i)) w5.heap.size 0 1 [sSEL] (strs_new w5 [sSEL]) (by simp)).mono ?_
 rintro e w6 ⟨rfl,hb6⟩
 have B6:Below w5.heap.size w5 w6:=((Below.refl _ w5).alloc (Nat.le_refl _) _).trans (hb6.mono (by simp))
 have es:((kP (tkAt T i)==2)&&[sSEL].any (fun t=>(wP (tkAt T i)).toList==t.toList))=false:=by rw [wd_is hT i (by intro s hs;simp only [List.mem_cons,List.not_mem_nil,or_false] at hs;rcases hs with rfl <;> (unfold memB;simp only [ByteArray.toList_eq];decide)),List.any_eq_false];intro s hs;simp only [List.mem_cons,List.not_mem_nil,or_false] at hs;rcases hs with rfl;(all_goals (first | (rw [no sPEEK (by decide)];simp) | (rw [no sSPY (by decide)];simp) | (rw [no sSEL (by decide)];simp)))
 rw [es]
 clear es hb6
 have h6:=h5.below B6 (Nat.le_refl _)
 have k6:=k5.trans (Kept.below (pb:=pb) B6)
 have q6:ebk w6 w.heap.size 0 0 ⟨#[]⟩ 0 0 (.slice none 0 0):=(B6.block _ (by omega)).trans q5
 have s6:=(B6.block _ (by omega)).trans s5
 have lt6:w0.heap.size < w6.heap.size:=(Array.getElem?_eq_some_iff.1 s6).1
 obtain ⟨g60,g61,g62,g63,g64⟩:=blk5 s6
 clear h5 k5 q5 s5 B6 g50 g51 g52 g53 g54
 go_wp2_with fail
 refine (isWord_any _ (kP (tkAt T i)) (tkAt T i).place (nP (tkAt T i)) (sP (tkAt T i)) (wP (tkAt T i)) w6.heap.size 0 2 [sMIN,sMAX] (strs_new w6 [sMIN,sMAX]) (by simp)).mono ?_
 rintro e w7 ⟨rfl,hb7⟩
 have B7:Below w6.heap.size w6 w7:=((Below.refl _ w6).alloc (Nat.le_refl _) _).trans (hb7.mono (by simp))
 have es:((kP (tkAt T i)==2)&&[sMIN,sMAX].any (fun t=>(wP (tkAt T i)).toList==t.toList))=true:=by rw [wd_is hT i (by intro s hs;simp only [List.mem_cons,List.not_mem_nil,or_false] at hs;rcases hs with rfl | rfl <;> (unfold memB;simp only [ByteArray.toList_eq];decide))];simp [List.any_cons,hi]
 rw [es]
 clear es hb7
 have h7:=h6.below B7 (Nat.le_refl _)
 have k7:=k6.trans (Kept.below (pb:=pb) B7)
 have q7:ebk w7 w.heap.size 0 0 ⟨#[]⟩ 0 0 (.slice none 0 0):=(B7.block _ (by omega)).trans q6
 have s7:=(B7.block _ (by omega)).trans s6
 have lt7:w0.heap.size < w7.heap.size:=(Array.getElem?_eq_some_iff.1 s7).1
 obtain ⟨g70,g71,g72,g73,g74⟩:=blk5 s7
 clear h6 k6 q6 s6 B7 g60 g61 g62 g63 g64
 go_wp2_with fail
 refine (hC w7 pb tb cap i T f pl r hT h7 hi hr).mono ?_
 rintro e w8 ⟨k8,a0,a1,a2,a3,a4,ao,len,c,rfl,h8⟩
 have q8:ebk w8 w.heap.size 0 0 ⟨#[]⟩ 0 0 (.slice none 0 0):=(k8.2 _ (by omega) (by omega)).trans q7
 have K:=hide (k7.trans k8)
 have ltz:=k8.1
 obtain ⟨⟨y0,y1,y2,y3,y4,y5⟩,u0,u1,u2,u3,u4,u5⟩:=blk6 q8
 clear k7 k8 q7 q8 h7 s7
 unfold exW
 go_wp2
 refine bodyPost_ret (v:=exW a0 a1 a2 a3 a4 (.slice ao len c)) (by simp [results,Tryz.results149,go_sem,exW,y0,y1,y2,y3,y4,y5]) rfl ⟨(unhide K).put6 (Nat.le_refl _),a0,a1,a2,a3,a4,ao,len,c,rfl,eres_put6 h8 (by omega) (by omega) (by omega) (by omega)⟩
set_option maxHeartbeats 8000000 in
theorem pfactor_name (w:World) (pb tb cap i:Nat) (T:List Tok) (f pl:Int) (hT:TokW T) (h:PsAt w pb tb cap T i f pl) (hk:(tkAt T i).kind=1) :
  Calls Tryz.prog 149 #[.pointer (some ⟨pb,0,none⟩)] w (EOut w pb tb cap T f pl (.ok (leafE (tkAt T i),i+1))):=by
 have e_num:(kP (tkAt T i)==3)=false:=by rw [nu_is hT];simp [hk]
 have e_nm:nmB T i=true:=by rw [nm_is hT];simp [hk]
 have hi1:i+1 < T.length:=next_lt hT.last h.lt (by rw [hk];decide)
 have hp:=h.plt
 have hlow:=h.low
 go_enter Tryz.func149,Tryz.ntmps149
 go_wp2_with fail
 refine (next_any _ pb tb cap i T f pl (h.alloc _)).mono ?_
 rintro e w0 ⟨rfl,hb0⟩
 have h0:=(h.alloc _).below hb0 (Nat.le_refl _)
 have k0:=(Kept.alloc pb w _).trans (Kept.below (pb:=pb) hb0)
 have q0:ebk w0 w.heap.size 0 0 ⟨#[]⟩ 0 0 (.slice none 0 0):=(hb0.block _ (by simp)).trans (heap_alloc_new w _)
 have lt0:w.heap.size < w0.heap.size:=(Array.getElem?_eq_some_iff.1 q0).1
 clear h hb0
 obtain ⟨w1,hw1⟩:∃w1,w0.alloc (.cells #[.int .i64 (kP (tkAt T i)),.int .i64 (tkAt T i).place,.string (wP (tkAt T i)),.int .i32 (nP (tkAt T i)),.int .i32 (sP (tkAt T i))] 116)=w1:=⟨_,rfl⟩
 have h1:PsAt w1 pb tb cap T i f pl:=by rw [←hw1];exact h0.alloc _
 have k1:Kept pb w w1:=by rw [←hw1];exact k0.trans (Kept.alloc pb w0 _)
 have q1:ebk w1 w.heap.size 0 0 ⟨#[]⟩ 0 0 (.slice none 0 0):=by rw [←hw1];exact (Below.heap_alloc w0 _ _ lt0).trans q0
 have s1:w1.heap[w0.heap.size]?=some (.cells #[.int .i64 (kP (tkAt T i)),.int .i64 (tkAt T i).place,.string (wP (tkAt T i)),.int .i32 (nP (tkAt T i)),.int .i32 (sP (tkAt T i))] 116 (0,0)):=by rw [←hw1];exact heap_alloc_new w0 _
 have lt1:w0.heap.size < w1.heap.size:=(Array.getElem?_eq_some_iff.1 s1).1
 obtain ⟨g10,g11,g12,g13,g14⟩:=blk5 s1
 clear h0 k0 q0
 unfold tokP tkV
 go_wp2_with fail
 clear hw1
 refine (isName_any _ (kP (tkAt T i)) (tkAt T i).place (nP (tkAt T i)) (sP (tkAt T i)) (wP (tkAt T i))).mono ?_
 rintro e w2 ⟨rfl,B2⟩
 have es:((kP (tkAt T i)==2) && !kwsP.any (fun t=>(wP (tkAt T i)).toList==t.toList))=true:=e_nm
 rw [es]
 clear es
 have h2:=h1.below B2 (Nat.le_refl _)
 have k2:=k1.trans (Kept.below (pb:=pb) B2)
 have q2:ebk w2 w.heap.size 0 0 ⟨#[]⟩ 0 0 (.slice none 0 0):=(B2.block _ (by omega)).trans q1
 have s2:=(B2.block _ (by omega)).trans s1
 have lt2:w0.heap.size < w2.heap.size:=(Array.getElem?_eq_some_iff.1 s2).1
 obtain ⟨g20,g21,g22,g23,g24⟩:=blk5 s2
 clear h1 k1 q1 s1 B2 g10 g11 g12 g13 g14
 go_wp2_with fail
 refine (take_any _ pb tb cap i T f pl h2 hi1).mono ?_
 rintro e w3 ⟨rfl,h3,k3⟩
 have q3:ebk w3 w.heap.size 0 0 ⟨#[]⟩ 0 0 (.slice none 0 0):=(k3.2 _ (by omega) (by omega)).trans q2
 have K:=hide (k2.trans k3)
 obtain ⟨⟨d0,d1,d2,d3,d4,d5⟩,z0,z1,z2,z3,z4,z5⟩:=blk6 q3
 clear h2 k2 k3 q2 q3 s2
 unfold tokP tkV
 go_wp2
 refine bodyPost_ret (v:=exV (tkAt T i) (.slice none 0 0)) (by simp [results,Tryz.results149,go_sem,exV,d0,d1,d2,d3,d4,d5]) rfl ⟨(unhide K).put6 (Nat.le_refl _),_,_,_,_,_,none,0,0,rfl,h3.put6 (by omega) (by omega),⟨0,0,tkAt T i,.nil,.nil,_,rfl,rfl,.inl ⟨rfl,none,0,rfl⟩⟩⟩
set_option maxHeartbeats 8000000 in
theorem pfactor_bad (w:World) (pb tb cap i:Nat) (T:List Tok) (f pl:Int) (hT:TokW T) (h:PsAt w pb tb cap T i f pl) (hk2:(tkAt T i).kind≠2) (hk1:(tkAt T i).kind≠1) (no:∀s∈[sPO,sNEG,sPEEK,sSPY,sSEL,sMIN,sMAX],isT T i s=false) :
  Calls Tryz.prog 149 #[.pointer (some ⟨pb,0,none⟩)] w (EOut w pb tb cap T f pl (.error i)):=by
 have e_num:(kP (tkAt T i)==3)=false:=by rw [nu_is hT];simp [hk2]
 have e_nm:nmB T i=false:=by rw [nm_is hT];simp [hk1]
 have e_po:sgB T i 40=false:=by rw [←rune_PO,sg_is hT i mem_sg.1];exact no _ (by simp)
 have e_ng:sgB T i 45=false:=by rw [←rune_NEG,sg_is hT i mem_sg.2.2.2.2.2.2.2.2.2.2];exact no _ (by simp)
 have hp:=h.plt
 have hlow:=h.low
 go_enter Tryz.func149,Tryz.ntmps149
 go_wp2_with fail
 refine (next_any _ pb tb cap i T f pl (h.alloc _)).mono ?_
 rintro e w0 ⟨rfl,hb0⟩
 have h0:=(h.alloc _).below hb0 (Nat.le_refl _)
 have k0:=(Kept.alloc pb w _).trans (Kept.below (pb:=pb) hb0)
 have q0:ebk w0 w.heap.size 0 0 ⟨#[]⟩ 0 0 (.slice none 0 0):=(hb0.block _ (by simp)).trans (heap_alloc_new w _)
 have lt0:w.heap.size < w0.heap.size:=(Array.getElem?_eq_some_iff.1 q0).1
 clear h hb0
 obtain ⟨w1,hw1⟩:∃w1,w0.alloc (.cells #[.int .i64 (kP (tkAt T i)),.int .i64 (tkAt T i).place,.string (wP (tkAt T i)),.int .i32 (nP (tkAt T i)),.int .i32 (sP (tkAt T i))] 116)=w1:=⟨_,rfl⟩
 have h1:PsAt w1 pb tb cap T i f pl:=by rw [←hw1];exact h0.alloc _
 have k1:Kept pb w w1:=by rw [←hw1];exact k0.trans (Kept.alloc pb w0 _)
 have q1:ebk w1 w.heap.size 0 0 ⟨#[]⟩ 0 0 (.slice none 0 0):=by rw [←hw1];exact (Below.heap_alloc w0 _ _ lt0).trans q0
 have s1:w1.heap[w0.heap.size]?=some (.cells #[.int .i64 (kP (tkAt T i)),.int .i64 (tkAt T i).place,.string (wP (tkAt T i)),.int .i32 (nP (tkAt T i)),.int .i32 (sP (tkAt T i))] 116 (0,0)):=by rw [←hw1];exact heap_alloc_new w0 _
 have lt1:w0.heap.size < w1.heap.size:=(Array.getElem?_eq_some_iff.1 s1).1
 obtain ⟨g10,g11,g12,g13,g14⟩:=blk5 s1
 clear h0 k0 q0
 unfold tokP tkV
 go_wp2_with fail
 clear hw1
 refine (isName_any _ (kP (tkAt T i)) (tkAt T i).place (nP (tkAt T i)) (sP (tkAt T i)) (wP (tkAt T i))).mono ?_
 rintro e w2 ⟨rfl,B2⟩
 have es:((kP (tkAt T i)==2) && !kwsP.any (fun t=>(wP (tkAt T i)).toList==t.toList))=false:=e_nm
 rw [es]
 clear es
 have h2:=h1.below B2 (Nat.le_refl _)
 have k2:=k1.trans (Kept.below (pb:=pb) B2)
 have q2:ebk w2 w.heap.size 0 0 ⟨#[]⟩ 0 0 (.slice none 0 0):=(B2.block _ (by omega)).trans q1
 have s2:=(B2.block _ (by omega)).trans s1
 have lt2:w0.heap.size < w2.heap.size:=(Array.getElem?_eq_some_iff.1 s2).1
 obtain ⟨g20,g21,g22,g23,g24⟩:=blk5 s2
 clear h1 k1 q1 s1 B2 g10 g11 g12 g13 g14
 go_wp2_with fail
 refine (isSign_any _ (kP (tkAt T i)) (tkAt T i).place (nP (tkAt T i)) (sP (tkAt T i)) (wP (tkAt T i)) w2.heap.size 0 1 [40] (runes_one w2 40) (by simp)).mono ?_
 rintro e w3 ⟨rfl,hb3⟩
 have B3:Below w2.heap.size w2 w3:=((Below.refl _ w2).alloc (Nat.le_refl _) _).trans (hb3.mono (by simp))
 have es:((kP (tkAt T i)==4)&&[(40:Int)].any (fun t=>sP (tkAt T i)==t))=false:=by
  rw [List.any_cons,List.any_nil,Bool.or_false]
  exact e_po
 rw [es]
 clear es hb3
 have h3:=h2.below B3 (Nat.le_refl _)
 have k3:=k2.trans (Kept.below (pb:=pb) B3)
 have q3:ebk w3 w.heap.size 0 0 ⟨#[]⟩ 0 0 (.slice none 0 0):=(B3.block _ (by omega)).trans q2
 have s3:=(B3.block _ (by omega)).trans s2
 have lt3:w0.heap.size < w3.heap.size:=(Array.getElem?_eq_some_iff.1 s3).1
 obtain ⟨g30,g31,g32,g33,g34⟩:=blk5 s3
 clear h2 k2 q2 s2 B3 g20 g21 g22 g23 g24
 go_wp2_with fail
 refine (isSign_any _ (kP (tkAt T i)) (tkAt T i).place (nP (tkAt T i)) (sP (tkAt T i)) (wP (tkAt T i)) w3.heap.size 0 1 [45] (runes_one w3 45) (by simp)).mono ?_
 rintro e w4 ⟨rfl,hb4⟩
 have B4:Below w3.heap.size w3 w4:=((Below.refl _ w3).alloc (Nat.le_refl _) _).trans (hb4.mono (by simp))
 have es:((kP (tkAt T i)==4)&&[(45:Int)].any (fun t=>sP (tkAt T i)==t))=false:=by
  rw [List.any_cons,List.any_nil,Bool.or_false]
  exact e_ng
 rw [es]
 clear es hb4
 have h4:=h3.below B4 (Nat.le_refl _)
 have k4:=k3.trans (Kept.below (pb:=pb) B4)
 have q4:ebk w4 w.heap.size 0 0 ⟨#[]⟩ 0 0 (.slice none 0 0):=(B4.block _ (by omega)).trans q3
 have s4:=(B4.block _ (by omega)).trans s3
 have lt4:w0.heap.size < w4.heap.size:=(Array.getElem?_eq_some_iff.1 s4).1
 obtain ⟨g40,g41,g42,g43,g44⟩:=blk5 s4
 clear h3 k3 q3 s3 B4 g30 g31 g32 g33 g34
 go_wp2_with fail
 refine (isWord_any _ (kP (tkAt T i)) (tkAt T i).place (nP (tkAt T i)) (sP (tkAt T i)) (wP (tkAt T i)) w4.heap.size 0 2 [sPEEK,sSPY] (strs_new w4 [sPEEK,sSPY]) (by simp)).mono ?_
 rintro e w5 ⟨rfl,hb5⟩
 have B5:Below w4.heap.size w4 w5:=((Below.refl _ w4).alloc (Nat.le_refl _) _).trans (hb5.mono (by simp))
 have es:((kP (tkAt T i)==2)&&[sPEEK,sSPY].any (fun t=>(wP (tkAt T i)).toList==t.toList))=false:=by rw [wd_is hT i (by intro s hs;simp only [List.mem_cons,List.not_mem_nil,or_false] at hs;rcases hs with rfl | rfl <;> (unfold memB;simp only [ByteArray.toList_eq];decide)),List.any_eq_false];intro s hs;simp only [List.mem_cons,List.not_mem_nil,or_false] at hs;rcases hs with rfl | rfl <;> simp [no]
 rw [es]
 clear es hb5
 have h5:=h4.below B5 (Nat.le_refl _)
 have k5:=k4.trans (Kept.below (pb:=pb) B5)
 have q5:ebk w5 w.heap.size 0 0 ⟨#[]⟩ 0 0 (.slice none 0 0):=(B5.block _ (by omega)).trans q4
 have s5:=(B5.block _ (by omega)).trans s4
 have lt5:w0.heap.size < w5.heap.size:=(Array.getElem?_eq_some_iff.1 s5).1
 obtain ⟨g50,g51,g52,g53,g54⟩:=blk5 s5
 clear h4 k4 q4 s4 B5 g40 g41 g42 g43 g44
 go_wp2_with fail
 refine (isWord_any _ (kP (tkAt T i)) (tkAt T i).place (nP (tkAt T i)) (sP (tkAt T i)) (wP (tkAt T i)) w5.heap.size 0 1 [sSEL] (strs_new w5 [sSEL]) (by simp)).mono ?_
 rintro e w6 ⟨rfl,hb6⟩
 have B6:Below w5.heap.size w5 w6:=((Below.refl _ w5).alloc (Nat.le_refl _) _).trans (hb6.mono (by simp))
 have es:((kP (tkAt T i)==2)&&[sSEL].any (fun t=>(wP (tkAt T i)).toList==t.toList))=false:=by rw [wd_is hT i (by intro s hs;simp only [List.mem_cons,List.not_mem_nil,or_false] at hs;rcases hs with rfl <;> (unfold memB;simp only [ByteArray.toList_eq];decide)),List.any_eq_false];intro s hs;simp only [List.mem_cons,List.not_mem_nil,or_false] at hs;rcases hs with rfl <;> simp [no]
 rw [es]
 clear es hb6
 have h6:=h5.below B6 (Nat.le_refl _)
 have k6:=k5.trans (Kept.below (pb:=pb) B6)
 have q6:ebk w6 w.heap.size 0 0 ⟨#[]⟩ 0 0 (.slice none 0 0):=(B6.block _ (by omega)).trans q5
 have s6:=(B6.block _ (by omega)).trans s5
 have lt6:w0.heap.size < w6.heap.size:=(Array.getElem?_eq_some_iff.1 s6).1
 obtain ⟨g60,g61,g62,g63,g64⟩:=blk5 s6
 clear h5 k5 q5 s5 B6 g50 g51 g52 g53 g54
 go_wp2_with fail
 refine (isWord_any _ (kP (tkAt T i)) (tkAt T i).place (nP (tkAt T i)) (sP (tkAt T i)) (wP (tkAt T i)) w6.heap.size 0 2 [sMIN,sMAX] (strs_new w6 [sMIN,sMAX]) (by simp)).mono ?_
 rintro e w7 ⟨rfl,hb7⟩
 have B7:Below w6.heap.size w6 w7:=((Below.refl _ w6).alloc (Nat.le_refl _) _).trans (hb7.mono (by simp))
 have es:((kP (tkAt T i)==2)&&[sMIN,sMAX].any (fun t=>(wP (tkAt T i)).toList==t.toList))=false:=by rw [wd_is hT i (by intro s hs;simp only [List.mem_cons,List.not_mem_nil,or_false] at hs;rcases hs with rfl | rfl <;> (unfold memB;simp only [ByteArray.toList_eq];decide)),List.any_eq_false];intro s hs;simp only [List.mem_cons,List.not_mem_nil,or_false] at hs;rcases hs with rfl | rfl <;> simp [no]
 rw [es]
 clear es hb7
 have h7:=h6.below B7 (Nat.le_refl _)
 have k7:=k6.trans (Kept.below (pb:=pb) B7)
 have q7:ebk w7 w.heap.size 0 0 ⟨#[]⟩ 0 0 (.slice none 0 0):=(B7.block _ (by omega)).trans q6
 have s7:=(B7.block _ (by omega)).trans s6
 have lt7:w0.heap.size < w7.heap.size:=(Array.getElem?_eq_some_iff.1 s7).1
 obtain ⟨g70,g71,g72,g73,g74⟩:=blk5 s7
 clear h6 k6 q6 s6 B7 g60 g61 g62 g63 g64
 go_wp2_with fail
 refine (pfail_any _ pb tb cap i T f pl h7).mono ?_
 rintro e w8 ⟨rfl,h8,k8⟩
 have q8:ebk w8 w.heap.size 0 0 ⟨#[]⟩ 0 0 (.slice none 0 0):=(k8.2 _ (by omega) (by omega)).trans q7
 have K:=hide (k7.trans k8)
 obtain ⟨⟨d0,d1,d2,d3,d4,d5⟩,z0,z1,z2,z3,z4,z5⟩:=blk6 q8
 clear h7 k7 k8 q7 q8 s7
 go_wp2
 refine bodyPost_ret (v:=exW 0 0 ⟨#[]⟩ 0 0 (.slice none 0 0)) (by simp [results,Tryz.results149,go_sem,exW,d0,d1,d2,d3,d4,d5]) rfl ⟨(unhide K).put6 (Nat.le_refl _),_,_,_,_,_,none,0,0,rfl,h8.put6 (by omega) (by omega)⟩
theorem cells6 {w:World} {g:Nat} {ty:TypeId} {c0 c1 c2 c3 c4 c5:Value} (h:w.heap[g]?=some (.cells #[c0,c1,c2,c3,c4,c5] ty (0,0))) (k:Nat):w.cell? ⟨g,k,none⟩ = #[c0,c1,c2,c3,c4,c5][k]?:=by
 simp only [World.cell?]
 rw [h]
 simp
theorem neg_step {T:List Tok} {pb tb cap rb B B':Nat} {f pl:Int} {r r2:Except Nat (Ex×Nat)} {w6:World} {t:Tok} {c0 c1 c3 c4:Int} {c2:ByteArray} {cs:Value}
  (h6:ERes w6 (fun g=>B≤g) pb tb cap T f pl (exW c0 c1 c2 c3 c4 cs) r2) (hr:andThen (some r2) (fun e j=>got (node1 t e) j)=some r) (hb:rb < B) (hB:B'≤B) (hBs:B≤w6.heap.size) (hep:rb≠pb) (het:rb≠tb) :
  ERes ((put6 w6 rb (kP t) t.place (wP t) (nP t) (sP t) (.slice (some ⟨w6.heap.size,0,none⟩) 1 1)).alloc (.cells #[.int .i64 c0,.int .i64 c1,.string c2,.int .i32 c3,.int .i32 c4,cs] 119)) (fun g=>B'≤g) pb tb cap T f pl (exW (kP t) t.place (wP t) (nP t) (sP t) (.slice (some ⟨w6.heap.size,0,none⟩) 1 1)) r:=by
 generalize hW:((put6 w6 rb (kP t) t.place (wP t) (nP t) (sP t) (.slice (some ⟨w6.heap.size,0,none⟩) 1 1)).alloc (.cells #[.int .i64 c0,.int .i64 c1,.string c2,.int .i32 c3,.int .i32 c4,cs] 119))=W
 have stay:Stay (fun g=>B≤g) w6 W:=fun k hk hl=>by
  have:B≤k:=hk
  rw [←hW]
  exact (Below.heap_alloc _ _ k (by rw [put6_size];exact hl)).trans (put6_other (by omega))
 have new:W.heap[w6.heap.size]?=some (.cells #[.int .i64 c0,.int .i64 c1,.string c2,.int .i32 c3,.int .i32 c4,cs] 119 (0,0)):=by
  have:=heap_alloc_new (put6 w6 rb (kP t) t.place (wP t) (nP t) (sP t) (.slice (some ⟨w6.heap.size,0,none⟩) 1 1)) (.cells #[.int .i64 c0,.int .i64 c1,.string c2,.int .i32 c3,.int .i32 c4,cs] 119)
  rw [put6_size] at this
  rw [←hW]
  exact this
 have ps:∀ {i:Nat} {f pl:Int},PsAt w6 pb tb cap T i f pl→PsAt W pb tb cap T i f pl:=fun h=>by rw [←hW];exact (h.put6 hep het).alloc _
 cases r2 with
 | error x=>cases hr;exact ps h6
 | ok xj=>
  obtain ⟨x,j⟩:=xj
  cases hr
  refine ⟨ps h6.1,?_⟩
  obtain ⟨_,_,tx,kx,rx,svx,rfl,evx,hkx⟩:=h6.2
  obtain ⟨rfl,rfl,rfl,rfl,rfl,rfl⟩:=exW_inj evx
  refine ⟨0,0,t,_,.nil,.slice (some ⟨w6.heap.size,0,none⟩) 1 1,rfl,rfl,.inr ⟨(fun h=>by (cases h)),w6.heap.size,1,rfl,(by show B'≤_;omega),?_⟩⟩
  have cell:=cells6 new
  refine ⟨⟨cs,⟨by rw [cell];rfl,by rw [cell];rfl,by rw [cell];rfl,by rw [cell];rfl,by rw [cell];rfl,by rw [cell];rfl⟩,?_⟩,trivial⟩
  exact hkx.later stay (fun k h _=>by have:B≤k:=h;show B'≤k;omega)
set_option maxHeartbeats 8000000 in
theorem pfactor_neg {F:PE} (hF:ParsesE 149 F) (w:World) (pb tb cap i:Nat) (T:List Tok) (f pl:Int) (r:Except Nat (Ex×Nat)) (hT:TokW T) (h:PsAt w pb tb cap T i f pl) (hi:isT T i sNEG=true) (hr:(andThen (F T (i+1)) fun e j=>got (node1 (tkAt T i) e) j)=some r) :
  Calls Tryz.prog 149 #[.pointer (some ⟨pb,0,none⟩)] w (EOut w pb tb cap T f pl r):=by
 have hk:(tkAt T i).kind≠2∧(tkAt T i).kind≠1:=by
  have:=isT_leaf hi
  simp at this
  exact this
 have e_num:(kP (tkAt T i)==3)=false:=by rw [nu_is hT];simp [hk.1]
 have e_nm:nmB T i=false:=by rw [nm_is hT];simp [hk.2]
 have no:∀s:ByteArray,sNEG.data≠s.data→isT T i s=false:=fun s hs=>by
  cases h0:isT T i s
  ·rfl
  ·exact absurd (congrArg (fun x=>x.data) ((isT_text hi).symm.trans (isT_text h0))) hs
 have e_po:sgB T i 40=false:=by rw [←rune_PO,sg_is hT i mem_sg.1];exact no _ (by decide)
 have e_ng:sgB T i 45=true:=by rw [←rune_NEG,sg_is hT i mem_sg.2.2.2.2.2.2.2.2.2.2];exact hi
 have hi1:=isT_next hT.last h.lt hi
 cases hx:F T (i+1) with
 | none=>rw [hx] at hr;cases hr
 | some r2=>
 rw [hx] at hr
 have HX:=hide hx
 have HR:=hide hr
 clear hx hr
 have hp:=h.plt
 have hlow:=h.low
 go_enter Tryz.func149,Tryz.ntmps149
 go_wp2_with fail
 refine (next_any _ pb tb cap i T f pl (h.alloc _)).mono ?_
 rintro e w0 ⟨rfl,hb0⟩
 have h0:=(h.alloc _).below hb0 (Nat.le_refl _)
 have k0:=(Kept.alloc pb w _).trans (Kept.below (pb:=pb) hb0)
 have q0:ebk w0 w.heap.size 0 0 ⟨#[]⟩ 0 0 (.slice none 0 0):=(hb0.block _ (by simp)).trans (heap_alloc_new w _)
 have lt0:w.heap.size < w0.heap.size:=(Array.getElem?_eq_some_iff.1 q0).1
 clear h hb0
 obtain ⟨w1,hw1⟩:∃w1,w0.alloc (.cells #[.int .i64 (kP (tkAt T i)),.int .i64 (tkAt T i).place,.string (wP (tkAt T i)),.int .i32 (nP (tkAt T i)),.int .i32 (sP (tkAt T i))] 116)=w1:=⟨_,rfl⟩
 have h1:PsAt w1 pb tb cap T i f pl:=by rw [←hw1];exact h0.alloc _
 have k1:Kept pb w w1:=by rw [←hw1];exact k0.trans (Kept.alloc pb w0 _)
 have q1:ebk w1 w.heap.size 0 0 ⟨#[]⟩ 0 0 (.slice none 0 0):=by rw [←hw1];exact (Below.heap_alloc w0 _ _ lt0).trans q0
 have s1:w1.heap[w0.heap.size]?=some (.cells #[.int .i64 (kP (tkAt T i)),.int .i64 (tkAt T i).place,.string (wP (tkAt T i)),.int .i32 (nP (tkAt T i)),.int .i32 (sP (tkAt T i))] 116 (0,0)):=by rw [←hw1];exact heap_alloc_new w0 _
 have lt1:w0.heap.size < w1.heap.size:=(Array.getElem?_eq_some_iff.1 s1).1
 obtain ⟨g10,g11,g12,g13,g14⟩:=blk5 s1
 clear h0 k0 q0
 unfold tokP tkV
 go_wp2_with fail
 clear hw1
 refine (isName_any _ (kP (tkAt T i)) (tkAt T i).place (nP (tkAt T i)) (sP (tkAt T i)) (wP (tkAt T i))).mono ?_
 rintro e w2 ⟨rfl,B2⟩
 have es:((kP (tkAt T i)==2) && !kwsP.any (fun t=>(wP (tkAt T i)).toList==t.toList))=false:=e_nm
 rw [es]
 clear es
 have h2:=h1.below B2 (Nat.le_refl _)
 have k2:=k1.trans (Kept.below (pb:=pb) B2)
 have q2:ebk w2 w.heap.size 0 0 ⟨#[]⟩ 0 0 (.slice none 0 0):=(B2.block _ (by omega)).trans q1
 have s2:=(B2.block _ (by omega)).trans s1
 have lt2:w0.heap.size < w2.heap.size:=(Array.getElem?_eq_some_iff.1 s2).1
 obtain ⟨g20,g21,g22,g23,g24⟩:=blk5 s2
 clear h1 k1 q1 s1 B2 g10 g11 g12 g13 g14
 go_wp2_with fail
 refine (isSign_any _ (kP (tkAt T i)) (tkAt T i).place (nP (tkAt T i)) (sP (tkAt T i)) (wP (tkAt T i)) w2.heap.size 0 1 [40] (runes_one w2 40) (by simp)).mono ?_
 rintro e w3 ⟨rfl,hb3⟩
 have B3:Below w2.heap.size w2 w3:=((Below.refl _ w2).alloc (Nat.le_refl _) _).trans (hb3.mono (by simp))
 have es:((kP (tkAt T i)==4)&&[(40:Int)].any (fun t=>sP (tkAt T i)==t))=false:=by
  rw [List.any_cons,List.any_nil,Bool.or_false]
  exact e_po
 rw [es]
 clear es hb3
 have h3:=h2.below B3 (Nat.le_refl _)
 have k3:=k2.trans (Kept.below (pb:=pb) B3)
 have q3:ebk w3 w.heap.size 0 0 ⟨#[]⟩ 0 0 (.slice none 0 0):=(B3.block _ (by omega)).trans q2
 have s3:=(B3.block _ (by omega)).trans s2
 have lt3:w0.heap.size < w3.heap.size:=(Array.getElem?_eq_some_iff.1 s3).1
 obtain ⟨g30,g31,g32,g33,g34⟩:=blk5 s3
 clear h2 k2 q2 s2 B3 g20 g21 g22 g23 g24
 go_wp2_with fail
 refine (isSign_any _ (kP (tkAt T i)) (tkAt T i).place (nP (tkAt T i)) (sP (tkAt T i)) (wP (tkAt T i)) w3.heap.size 0 1 [45] (runes_one w3 45) (by simp)).mono ?_
 rintro e w4 ⟨rfl,hb4⟩
 have B4:Below w3.heap.size w3 w4:=((Below.refl _ w3).alloc (Nat.le_refl _) _).trans (hb4.mono (by simp))
 have es:((kP (tkAt T i)==4)&&[(45:Int)].any (fun t=>sP (tkAt T i)==t))=true:=by
  rw [List.any_cons,List.any_nil,Bool.or_false]
  exact e_ng
 rw [es]
 clear es hb4
 have h4:=h3.below B4 (Nat.le_refl _)
 have k4:=k3.trans (Kept.below (pb:=pb) B4)
 have q4:ebk w4 w.heap.size 0 0 ⟨#[]⟩ 0 0 (.slice none 0 0):=(B4.block _ (by omega)).trans q3
 have s4:=(B4.block _ (by omega)).trans s3
 have lt4:w0.heap.size < w4.heap.size:=(Array.getElem?_eq_some_iff.1 s4).1
 obtain ⟨g40,g41,g42,g43,g44⟩:=blk5 s4
 clear h3 k3 q3 s3 B4 g30 g31 g32 g33 g34
 go_wp2_with fail
 refine (take_any _ pb tb cap i T f pl h4 hi1).mono ?_
 rintro e w5 ⟨rfl,h5,k5⟩
 have q5:ebk w5 w.heap.size 0 0 ⟨#[]⟩ 0 0 (.slice none 0 0):=(k5.2 _ (by omega) (by omega)).trans q4
 have K5:=k4.trans k5
 have l5:=k5.1
 clear h4 k4 k5 q4 s4 g40 g41 g42 g43 g44
 obtain ⟨w6,hw6⟩:∃w6,w5.alloc (.cells #[.int .i64 (kP (tkAt T i)),.int .i64 (tkAt T i).place,.string (wP (tkAt T i)),.int .i32 (nP (tkAt T i)),.int .i32 (sP (tkAt T i))] 116)=w6:=⟨_,rfl⟩
 have s6:w6.heap[w5.heap.size]?=some (.cells #[.int .i64 (kP (tkAt T i)),.int .i64 (tkAt T i).place,.string (wP (tkAt T i)),.int .i32 (nP (tkAt T i)),.int .i32 (sP (tkAt T i))] 116 (0,0)):=by rw [←hw6];exact heap_alloc_new w5 _
 have h6:PsAt w6.drew pb tb cap T (i+1) f pl:=by rw [←hw6];exact (h5.alloc _).later (fun _ _=>rfl)
 have q6:ebk w6 w.heap.size 0 0 ⟨#[]⟩ 0 0 (.slice none 0 0):=by rw [←hw6];exact (Below.heap_alloc w5 _ _ (by omega)).trans q5
 have K6:Kept pb w w6:=by rw [←hw6];exact K5.trans (Kept.alloc pb w5 _)
 have l6:w5.heap.size < w6.heap.size:=(Array.getElem?_eq_some_iff.1 s6).1
 clear h5 q5 K5
 obtain ⟨x0,x1,x2,x3,x4⟩:=blk5 s6
 unfold tokP tkV
 go_wp2_with fail
 clear hw6
 go_region_with (go_at_call_of 149 (Value.pointer (some ⟨pb,0,none⟩));refine (hF _ pb tb cap (i+1) T f pl r2 hT ?_ (unhide HX)).mono ?_;exact h6;rintro e w7 ⟨k7,c0,c1,c2,c3,c4,co,cl,cc,rfl,h7⟩;have q7:ebk w7 w.heap.size 0 0 ⟨#[]⟩ 0 0 (.slice none 0 0):=(k7.2 _ (by show _ < w6.heap.size;omega) (by omega)).trans q6;have s7:=(k7.2 _ (by show _ < w6.heap.size;omega) (by omega)).trans s6;obtain ⟨⟨v0,v1,v2,v3,v4,v5⟩,u0,u1,u2,u3,u4,u5⟩:=blk6 q7;obtain ⟨n0,n1,n2,n3,n4⟩:=blk5 s7;have l7:w.heap.size < w7.heap.size:=(Array.getElem?_eq_some_iff.1 q7).1;have m7:w.heap.size≠w7.heap.size:=(by omega);have l8:w5.heap.size < w7.heap.size:=(Array.getElem?_eq_some_iff.1 s7).1;have m8:w5.heap.size≠w7.heap.size:=(by omega);unfold exW)
 all_goals have sz7:w6.heap.size≤w7.heap.size:=k7.1
 all_goals go_wp2
 all_goals refine bodyPost_ret (v:=exW (kP (tkAt T i)) (tkAt T i).place (wP (tkAt T i)) (nP (tkAt T i)) (sP (tkAt T i)) (.slice (some ⟨w7.heap.size,0,none⟩) 1 1)) (by simp [results,Tryz.results149,go_sem,exW,l7,v0,v1,v2,v3,v4,v5]) rfl ⟨((K6.trans k7.undrew).put6 (Nat.le_refl _)).trans (Kept.alloc _ _ _),_,_,_,_,_,_,_,_,rfl,neg_step (B:=w6.heap.size) h7 (unhide HR) (by omega) (by omega) sz7 (by omega) (by omega)⟩
end Go.Proofs.YthmmgiaobakilaaGreat
