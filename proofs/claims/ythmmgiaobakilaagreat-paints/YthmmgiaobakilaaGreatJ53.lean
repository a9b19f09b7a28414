import Derived.Test.YthmmgiaobakilaaGreatJ52
set_option maxRecDepth 100000
namespace Go.Proofs.YthmmgiaobakilaaGreat
open Go.RowKit Go.Deep
theorem below_al (w:World)(o:Obj):Below w.heap.size w (w.alloc o):=(Below.refl _ w).alloc (Nat.le_refl _)o
def rOp:Option PSt→List Int | none=>[] | some S=>S.opn
def rHi:Option PSt→List Int | none=>[] | some S=>S.hid
def rSt:Option PSt→Int | none=>0 | some S=>S.steps
def rTt:Option PSt→Int | none=>0 | some S=>S.touched
def rTr:Option PSt→List (Int×Int) | none=>[] | some S=>S.trace
theorem PntRes.shape{w:World}{E P:Int}{r:Option PSt}{e:Ending}{w':World}(h:PntRes w E P r e w'):∃ao c bo d to f,e = .returned (.tuple #[.agg #[.slice ao (rOp r).length c,.slice bo (rHi r).length d,.int .i64 (rSt r),.int .i64 (rTt r),.slice to (rTr r).length f],.int .i64 E,.int .i64 P])∧IntsAt w'.heap.size w' ao (rOp r)∧IntsAt w'.heap.size w' bo (rHi r)∧TchAt w'.heap.size w' to (rTr r)∧Below w.heap.size w w':=by
 cases r with
 | none=>exact⟨none,0,none,0,none,0,h.2,.inl rfl,.inl rfl,.inl rfl,h.1⟩
 | some S=>
  obtain⟨hb,ob,hb',rv,he,ho,hh,hr,_⟩:=h
  have i1:IntsAt w'.heap.size w' (some⟨ob,0,none⟩)S.opn:=by
   refine .inr⟨ob,0,rfl,(Array.getElem?_eq_some_iff.1 ho).1,fun j hj=>?_⟩
   rw [Nat.zero_add];exact (pic_cell ho hj).1
  have i2:IntsAt w'.heap.size w' (some⟨hb',0,none⟩)S.hid:=by
   refine .inr⟨hb',0,rfl,(Array.getElem?_eq_some_iff.1 hh).1,fun j hj=>?_⟩
   rw [Nat.zero_add];exact (pic_cell hh hj).1
  obtain⟨to,f,rfl,i3,_⟩:=tchs_own hr rfl
  exact⟨_,_,_,_,to,f,he,i1,i2,i3,hb⟩
theorem RefRes.shape{w:World}{E P:Int}{r:Option PSt}{e:Ending}{w':World}(h:RefRes w E P r e w'):∃ao c bo d to f,e = .returned (.tuple #[.agg #[.slice ao (rOp r).length c,.slice bo (rHi r).length d,.int .i64 (rSt r),.int .i64 (rTt r),.slice to (rTr r).length f],.int .i64 E,.int .i64 P])∧IntsAt w'.heap.size w' ao (rOp r)∧IntsAt w'.heap.size w' bo (rHi r)∧TchAt w'.heap.size w' to (rTr r)∧(rOp r).length≤maxLen∧(rHi r).length≤maxLen∧(rTr r).length≤maxLen∧Below w.heap.size w w':=by
 cases r with
 | none=>exact⟨none,0,none,0,none,0,h.2,.inl rfl,.inl rfl,.inl rfl,Nat.zero_le _,Nat.zero_le _,Nat.zero_le _,h.1⟩
 | some S=>
  obtain⟨hb,ov,hv,rv,he,ho,hh,hr⟩:=h
  obtain⟨ao,c,rfl,i1,l1⟩:=ints_own ho rfl
  obtain⟨bo,d,rfl,i2,l2⟩:=ints_own hh rfl
  obtain⟨to,f,rfl,i3,l3⟩:=tchs_own hr rfl
  exact⟨ao,c,bo,d,to,f,he,i1,i2,i3,l1,l2,l3,hb⟩
set_option maxHeartbeats 2000000 in
theorem paints_one (w:World)(sw sh:Int)(so sd:Option Addr)(c1 c2:Nat)(xs ys:List Int)(src:ByteArray)(hx:IntsAt w.heap.size w so xs)(hy:IntsAt w.heap.size w sd ys)(lx:xs.length≤maxLen)(ly:ys.length≤maxLen)(ls:src.size≤maxLen) :
  Calls Tryz.prog 5 #[scV sw sh so sd c1 c2 xs ys src]w fun e w'=>e = .returned (.bool true)∧Below w.heap.size w w':=by
 unfold scV
 obtain⟨w1,hw1⟩:∃w1,w.alloc (.cells #[.int .i64 sw,.int .i64 sh,.slice so xs.length c1,.slice sd ys.length c2,.string src] 24)=w1:=⟨_,rfl⟩
 have z1:w1.heap.size=w.heap.size+1:=by rw [←hw1];simp
 have b1:Below w.heap.size w w1:=by rw [←hw1];exact below_al _ _
 have s1:Sz w1 w.heap.size (.int .i64 sw)(.int .i64 sh)(.slice so xs.length c1)(.slice sd ys.length c2)(.string src):=by rw [←hw1];exact Sz.new _ _ _ _ _ _
 have PP:=hide (paint_any w1 sw sh so sd c1 c2 xs ys src ((hx.later b1 (Nat.le_refl _)).mono (by omega))((hy.later b1 (Nat.le_refl _)).mono (by omega))lx ly ls)
 have RP:=hide (fun w2 (b2:Below w.heap.size w w2)=>refpaint_any w2 sw sh so sd c1 c2 xs ys src ((hx.later b2 (Nat.le_refl _)).mono b2.size)((hy.later b2 (Nat.le_refl _)).mono b2.size)lx ly)
 unfold scV at PP RP
 obtain⟨⟨x0,x1,x2,x3,x4⟩,_⟩:=bk5 s1
 have B1:=hide b1
 have SS1:=hide s1
 have Z1:=hide z1
 clear b1 s1 z1 hx hy lx ly ls
 go_enter Tryz.func5,Tryz.ntmps5
 go_wp2_with fail
 clear hw1 x0 x1 x2 x3 x4
 refine (unhide PP).mono ?_
 rintro e w2⟨E,P,r,hA,hR⟩
 obtain⟨ao,c,bo,d,to,f,rfl,i1,i2,i3,b2⟩:=hR.shape
 have z1:=unhide Z1
 have e2:=b2.size
 obtain⟨w3,hw3⟩:∃w3,w2.alloc (.cells #[.slice ao (rOp r).length c,.slice bo (rHi r).length d,.int .i64 (rSt r),.int .i64 (rTt r),.slice to (rTr r).length f] 36)=w3:=⟨_,rfl⟩
 have z3:w3.heap.size=w2.heap.size+1:=by rw [←hw3];simp
 have b3:Below w2.heap.size w2 w3:=by rw [←hw3];exact below_al _ _
 have r3:=Rz.new w2 (.slice ao (rOp r).length c)(.slice bo (rHi r).length d)(.int .i64 (rSt r))(.int .i64 (rTt r))(.slice to (rTr r).length f)
 rw [hw3]at r3
 have s3:=((unhide SS1).later b2 (by omega)).later b3 (by omega)
 have B3:=hide (((unhide B1).trans (b2.mono (by omega))).trans (b3.mono (by omega)))
 obtain⟨⟨x0,x1,x2,x3,x4⟩,_⟩:=bk5 s3
 have I3:Hid (IntsAt w3.heap.size w3 ao (rOp r)∧IntsAt w3.heap.size w3 bo (rHi r)∧TchAt w3.heap.size w3 to (rTr r)):=⟨(i1.later b3 (Nat.le_refl _)).mono (by omega),(i2.later b3 (Nat.le_refl _)).mono (by omega),(i3.later b3 (Nat.le_refl _)).mono (by omega)⟩
 have R3:=hide r3
 have Z3:Hid (w3.heap.size=w2.heap.size+1∧w.heap.size < w2.heap.size):=⟨z3,by omega⟩
 have HA:=hide hA
 clear PP hA hR i1 i2 i3 b2 z1 e2 z3 b3 r3 s3 B1 SS1 Z1
 go_wp2_with fail
 clear hw3 x0 x1 x2 x3 x4
 refine (unhide RP w3 (unhide B3)).mono ?_
 rintro e w4⟨E',P',r',hA',hR'⟩
 obtain⟨rfl,rfl,rfl⟩:=ans_unique (unhide HA)hA'
 obtain⟨ao',c',bo',d',to',f',rfl,i1',i2',i3',l1,l2,l3,b4⟩:=hR'.shape
 have z3:=unhide Z3
 have e4:=b4.size
 obtain⟨w5,hw5⟩:∃w5,w4.alloc (.cells #[.slice ao' (rOp r').length c',.slice bo' (rHi r').length d',.int .i64 (rSt r'),.int .i64 (rTt r'),.slice to' (rTr r').length f'] 36)=w5:=⟨_,rfl⟩
 have z5:w5.heap.size=w4.heap.size+1:=by rw [←hw5];simp
 have b5:Below w4.heap.size w4 w5:=by rw [←hw5];exact below_al _ _
 have r5:=Rz.new w4 (.slice ao' (rOp r').length c')(.slice bo' (rHi r').length d')(.int .i64 (rSt r'))(.int .i64 (rTt r'))(.slice to' (rTr r').length f')
 rw [hw5]at r5
 have q5:=((unhide R3).later b4 (by omega)).later b5 (by omega)
 have B5:=hide (((unhide B3).trans (b4.mono (by omega))).trans (b5.mono (by omega)))
 have b35:Below w3.heap.size w3 w5:=b4.trans (b5.mono e4)
 obtain⟨j1,j2,j3⟩:=unhide I3
 have SR:=hide (same_result ao bo to ao' bo' to' c d f c' d' f' (rOp r')(rHi r')(rSt r')(rTt r')(rTr r')w5 ((j1.later b35 (Nat.le_refl _)).mono (by omega))((j2.later b35 (Nat.le_refl _)).mono (by omega))((j3.later b35 (Nat.le_refl _)).mono (by omega))((i1'.later b5 (Nat.le_refl _)).mono (by omega))((i2'.later b5 (Nat.le_refl _)).mono (by omega))((i3'.later b5 (Nat.le_refl _)).mono (by omega))l1 l2 l3)
 obtain⟨⟨x0,x1,x2,x3,x4⟩,_⟩:=bk5 r5
 obtain⟨⟨y0,y1,y2,y3,y4⟩,_⟩:=bk5 q5
 have Z5:Hid (w.heap.size≤w5.heap.size):=by show _≤_;omega
 clear RP HA hA' hR' i1' i2' i3' l1 l2 l3 b4 z3 e4 z5 b5 r5 q5 B3 b35 j1 j2 j3 I3 R3 Z3
 go_wp2_with fail
 clear hw5 x0 x1 x2 x3 x4 y0 y1 y2 y3 y4
 refine (unhide SR).mono ?_
 rintro e w6⟨rfl,b6⟩
 have B6:=hide ((unhide B5).trans (b6.mono (unhide Z5)))
 clear SR b6 B5 Z5
 go_wp2
 go_ret
 exact⟨rfl,unhide B6⟩
def exSrc:ByteArray:=⟨#[111,117,116,32,112,101,101,107,91,120,44,32,121,93,59,32,104,105,100,101,32,115,112,121,91,49,32,45,32,120,44,32,121,93,59]⟩
theorem ints_two{w:World}{b:Nat}{x y:Int}(h:w.heap[b]?=some (.cells #[.int .i64 x,.int .i64 y] 3 (0,0))):IntsAt (b+1)w (some⟨b,0,none⟩) [x,y]:=by
 refine .inr⟨b,0,rfl,by omega,fun j hj=>?_⟩
 have hj':j=0∨j=1:=by simp at hj;omega
 rcases hj' with rfl | rfl
 ·exact (bkp2 h).1.1
 ·exact (bkp2 h).1.2
set_option maxHeartbeats 2000000 in
theorem first_any (w:World):Calls Tryz.prog 6 #[]w fun e w'=>∃so sd,e = .returned (scV 2 1 so sd 2 2 [10,20] [30,40]exSrc)∧IntsAt w'.heap.size w' so [10,20]∧IntsAt w'.heap.size w' sd [30,40]∧Below w.heap.size w w':=by
 obtain⟨w1,hw1⟩:∃w1,w.alloc (.cells #[.int .i64 2,.int .i64 1,.slice (some⟨w.heap.size+1,0,none⟩) 2 2,.slice (some⟨w.heap.size+1+1,0,none⟩) 2 2,.string exSrc] 24)=w1:=⟨_,rfl⟩
 have z1:w1.heap.size=w.heap.size+1:=by rw [←hw1];simp
 have b1:Below w.heap.size w w1:=by rw [←hw1];exact below_al _ _
 have s1:Sz w1 w.heap.size (.int .i64 2)(.int .i64 1)(.slice (some⟨w.heap.size+1,0,none⟩) 2 2)(.slice (some⟨w.heap.size+1+1,0,none⟩) 2 2)(.string exSrc):=by rw [←hw1];exact Sz.new _ _ _ _ _ _
 obtain⟨w2,hw2⟩:∃w2,w1.alloc (.cells #[.int .i64 10,.int .i64 20] 3)=w2:=⟨_,rfl⟩
 have z2:w2.heap.size=w1.heap.size+1:=by rw [←hw2];simp
 have b2:Below w1.heap.size w1 w2:=by rw [←hw2];exact below_al _ _
 have i2:IntsAt (w1.heap.size+1)w2 (some⟨w1.heap.size,0,none⟩) [10,20]:=by rw [←hw2];exact ints_two (heap_alloc_new w1 _)
 obtain⟨w3,hw3⟩:∃w3,w2.alloc (.cells #[.int .i64 30,.int .i64 40] 3)=w3:=⟨_,rfl⟩
 have z3:w3.heap.size=w2.heap.size+1:=by rw [←hw3];simp
 have b3:Below w2.heap.size w2 w3:=by rw [←hw3];exact below_al _ _
 have i3:IntsAt (w2.heap.size+1)w3 (some⟨w2.heap.size,0,none⟩) [30,40]:=by rw [←hw3];exact ints_two (heap_alloc_new w2 _)
 have s3:=(s1.later b2 (by omega)).later b3 (by omega)
 obtain⟨⟨x0,x1,x2,x3,x4⟩,_⟩:=bk5 s3
 have F:Hid (IntsAt w3.heap.size w3 (some⟨w.heap.size+1,0,none⟩) [10,20]∧IntsAt w3.heap.size w3 (some⟨w.heap.size+1+1,0,none⟩) [30,40]∧Below w.heap.size w w3):=by
  rw [←z1,←z2]
  exact⟨(i2.later b3 (by omega)).mono (by omega),i3.mono (by omega),(b1.trans (b2.mono (by omega))).trans (b3.mono (by omega))⟩
 have HW:Hid (((w.alloc (.cells #[.int .i64 2,.int .i64 1,.slice (some⟨w.heap.size+1,0,none⟩) 2 2,.slice (some⟨w.heap.size+1+1,0,none⟩) 2 2,.string exSrc] 24)).alloc (.cells #[.int .i64 10,.int .i64 20] 3)).alloc (.cells #[.int .i64 30,.int .i64 40] 3)=w3):=by show _=_;rw [hw1,hw2,hw3]
 clear z1 b1 s1 z2 b2 i2 z3 b3 i3 s3 hw1 hw2 hw3
 go_enter Tryz.func6,Tryz.ntmps6
 go_wp2
 have HW':=unhide HW
 unfold exSrc at HW'
 rw [HW']
 unfold exSrc at x4
 refine bodyPost_ret (v:=scV 2 1 (some⟨w.heap.size+1,0,none⟩)(some⟨w.heap.size+1+1,0,none⟩) 2 2 [10,20] [30,40]exSrc)(by simp [results,Tryz.results6,go_sem,x0,x1,x2,x3,x4,scV,exSrc])rfl⟨_,_,rfl,(unhide F).1,(unhide F).2.1,(unhide F).2.2⟩
set_option maxHeartbeats 2000000 in
theorem paints_walk (w:World)(sw sh:Int)(so sd:Option Addr)(c1 c2:Nat)(xs ys:List Int)(src:ByteArray)(hx:IntsAt w.heap.size w so xs)(hy:IntsAt w.heap.size w sd ys)(lx:xs.length≤maxLen)(ly:ys.length≤maxLen)(ls:src.size≤maxLen) :
  Calls Tryz.prog 3 #[scV sw sh so sd c1 c2 xs ys src]w fun e w'=>e = .returned (.bool true)∧Below w.heap.size w w':=by
 unfold scV
 obtain⟨w1,hw1⟩:∃w1,w.alloc (.cells #[.int .i64 sw,.int .i64 sh,.slice so xs.length c1,.slice sd ys.length c2,.string src] 24)=w1:=⟨_,rfl⟩
 have z1:w1.heap.size=w.heap.size+1:=by rw [←hw1];simp
 have b1:Below w.heap.size w w1:=by rw [←hw1];exact below_al _ _
 have s1:Sz w1 w.heap.size (.int .i64 sw)(.int .i64 sh)(.slice so xs.length c1)(.slice sd ys.length c2)(.string src):=by rw [←hw1];exact Sz.new _ _ _ _ _ _
 have PP:=hide (fun w2 (b2:Below w.heap.size w w2)=>paints_one w2 sw sh so sd c1 c2 xs ys src ((hx.later b2 (Nat.le_refl _)).mono b2.size)((hy.later b2 (Nat.le_refl _)).mono b2.size)lx ly ls)
 unfold scV at PP
 have B1:=hide b1
 have SS1:=hide s1
 have Z1:=hide z1
 clear b1 s1 z1 hx hy lx ly ls
 go_enter Tryz.func3,Tryz.ntmps3
 go_wp2_with fail
 clear hw1
 refine (first_any w1).mono ?_
 rintro e w2⟨so',sd',rfl,i1,i2,b2⟩
 go_wp2_with fail
 have hm:(2:Nat)≤maxLen:=by unfold maxLen;decide
 refine (paints_one w2 2 1 so' sd' 2 2 [10,20] [30,40]exSrc i1 i2 hm hm (by unfold maxLen;decide)).mono ?_
 rintro e w3⟨rfl,b3⟩
 have z1:=unhide Z1
 have e2:=b2.size
 have e3:=b3.size
 have s3:=((unhide SS1).later b2 (by omega)).later b3 (by omega)
 have B3:=hide (((unhide B1).trans (b2.mono (by omega))).trans (b3.mono (by omega)))
 obtain⟨⟨x0,x1,x2,x3,x4⟩,_⟩:=bk5 s3
 have Z3:Hid (w.heap.size≤w3.heap.size):=by show _≤_;omega
 clear i1 i2 b2 b3 z1 e2 e3 s3 B1 SS1 Z1 hm
 go_wp2_with fail
 clear x0 x1 x2 x3 x4
 refine (unhide PP w3 (unhide B3)).mono ?_
 rintro e w4⟨rfl,b4⟩
 have B4:=hide ((unhide B3).trans (b4.mono (unhide Z3)))
 clear PP b4 B3 Z3
 go_wp2
 go_ret
 exact⟨rfl,unhide B4⟩
end Go.Proofs.YthmmgiaobakilaaGreat
