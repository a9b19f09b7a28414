import Derived.Test.YthmmgiaobakilaaGreatK08
set_option maxRecDepth 100000
namespace Go.Proofs.YthmmgiaobakilaaGreat
open Go.RowKit Go.Deep
theorem st_exit {S:PS} {T:List Tok} {pb tb cap:Nat} {f pl:Int} {fin:Except Nat (List Sx×Nat)} {k i':Nat} {f' pl':Int} {w0 wr wz:World} {so:Option Addr} {sl sc:Nat} {cs:List Value} {cur:Except Nat (List Sx×Nat)}
  (K:Kept pb w0 wr) (own:wr.ownsRow w0.heap.size 113 1 (.slice so sl sc) cs.length cs)
  (hst:StAt wr pb tb cap T f pl cur) (hex:∀acc j,cur = .ok (acc,j)→StsC wr (fun g=>w0.heap.size≤g∧slB so sl sc≠some g) cs acc) (hpa:seqR cur (fun acc j=>pStL S T k acc j)=some fin)
  (hd:(∃acc,cur = .ok (acc,i')∧f'=f∧pl'=pl)∨(∃x,i'=T.length-1∧cur = .error x∧f'=badF f∧pl'=badP f pl (tkAt T x).place)) (hns:startsT T i'=false) (B:Below wr.heap.size wr wz) :
  LOut w0 pb tb cap T f pl (mapR rowS fin) (.returned (.slice so sl sc)) wz:=by
 refine ⟨K.trans (Kept.below B),so,sl,sc,rfl,?_⟩
 have hst2:=hst.later (fun k hk=>B.block k hk)
 rcases hd with ⟨acc,rfl,_,_⟩ | ⟨x,_,rfl,_,_⟩
 ·cases k with
  | zero=>cases hpa
  | succ k=>
   have hpa:pStL S T (k+1) acc i'=some fin:=hpa
   rw [pStL,hns,if_neg (by simp)] at hpa
   cases hpa
   refine ⟨hst2,?_⟩
   have ex:=hex acc i' rfl
   have ex2:StsC wz (fun g=>w0.heap.size≤g) cs acc:=StsC.later (fun k hk hl=>B.block k hl) (fun k hk _=>hk.1) acc cs ex
   have own2:=rowP_same own (w':=wz) (fun k hk=>B.block k (own.lt k hk).2)
   have ll:=ex2.len
   have hls:=StsC.lenS acc cs ex2
   by_cases hz:cs.length=0
   ·have:acc=[]:=List.length_eq_zero_iff.1 (by omega)
    subst this
    refine .inl ⟨rfl,?_⟩
    rcases own.2 with ⟨e,_⟩ | ⟨g,c,_,e,_⟩
    ·rw [e];exact ⟨_,_,rfl⟩
    ·rw [e,hz];exact ⟨_,_,rfl⟩
   ·obtain ⟨g,c,e,hg,hg2⟩:=own2.form (by omega)
    refine .inr ⟨?_,g,c,by rw [e,hls,ll],hg,?_⟩
    ·intro e0
     rw [e0] at hls
     have:lenS .nil=0:=rfl
     omega
    ·rw [e] at own2
     refine StsC.rep cs (fun k hk=>?_) acc cs 0 rfl ex2
     exact (own2.cellAt k (by omega)).trans (List.getElem?_eq_getElem hk)
 ·cases hpa
  exact hst2
set_option maxHeartbeats 32000000 in
theorem pstatements_any {PA PC PL PO PH:PS} (hA:ParsesS 113 121 (fun T i=>(tkAt T i).kind=1) PA) (hC:ParsesS 114 124 (fun T i=>isT T i sIF=true) PC)
  (hL:ParsesS 115 127 (fun T i=>isT T i sFOR=true) PL) (hO:ParsesS 116 130 (fun T i=>i+1 < T.length) PO) (hH:ParsesS 116 130 (fun T i=>i+1 < T.length) PH)
  (n:Nat) (hn:n≤100000):ParsesL 88 (pSts (S5 PA PC PL PO PH) n):=by
 intro w pb tb cap i T f pl r hT h hr
 have hp:=h.plt
 have hlow:=h.low
 unfold pSts at hr
 obtain ⟨fin,hfin,hre⟩:=args_open (r1:=.ok ((),i)) (P:=fun j=>pStL (S5 PA PC PL PO PH) T n [] j) (g:=rowS) hr
 subst hre
 have hfin:pStL (S5 PA PC PL PO PH) T n [] i=some fin:=hfin
 obtain ⟨i0,hi0,hz0,hz1,hz2⟩:=info_parts infoStm
 have inv0:StInv (S5 PA PC PL PO PH) T pb tb cap f pl fin n w n (.slice none 0 0) w:=⟨[],none,0,0,rfl,by simp,Kept.refl _ _,World.ownsRow_nil _ _ _ _,.ok ([],i),h,(by intro acc j e;cases e;rfl),hfin⟩
 clear h hr hfin
 go_enter Tryz.func88,Tryz.ntmps88
 go_wp2
 go_loopg [3] n (fun k v wr=>StInv (S5 PA PC PL PO PH) T pb tb cap f pl fin n w k v wr)
 case atStart=>exact inv0
 case round=>
 clear inv0
 obtain ⟨cs,so,sl,sc,rfl,hcl,kw,own,cur,hst,hex,hpa⟩:=hrel
 obtain ⟨i',f',pl',hps,hdead⟩:∃i' f' pl',PsAt wr pb tb cap T i' f' pl'∧((∃acc,cur = .ok (acc,i')∧f'=f∧pl'=pl)∨(∃x,i'=T.length-1∧cur = .error x∧f'=badF f∧pl'=badP f pl (tkAt T x).place)):=by
  cases cur with
  | error x=>exact ⟨_,_,_,hst,.inr ⟨x,rfl,rfl,rfl,rfl⟩⟩
  | ok p=>exact ⟨p.2,f,pl,hst,.inl ⟨p.1,rfl,rfl,rfl⟩⟩
 go_wp2_with fail
 refine (next_any wr pb tb cap i' T f' pl' hps).mono ?_
 rintro e w2 ⟨rfl,hb2⟩
 obtain ⟨w3,hw3⟩:∃w3,w2.alloc (.cells #[.int .i64 (kP (tkAt T i')),.int .i64 (tkAt T i').place,.string (wP (tkAt T i')),.int .i32 (nP (tkAt T i')),.int .i32 (sP (tkAt T i'))] 116)=w3:=⟨_,rfl⟩
 have s3:w3.heap[w2.heap.size]?=some (.cells #[.int .i64 (kP (tkAt T i')),.int .i64 (tkAt T i').place,.string (wP (tkAt T i')),.int .i32 (nP (tkAt T i')),.int .i32 (sP (tkAt T i'))] 116 (0,0)):=by rw [←hw3];exact heap_alloc_new w2 _
 have B3w:Below wr.heap.size wr w3:=by rw [←hw3];exact hb2.alloc hb2.size _
 have lt3:w2.heap.size < w3.heap.size:=(Array.getElem?_eq_some_iff.1 s3).1
 obtain ⟨⟨g30,g31,g32,g33,g34⟩,_⟩:=bk5 s3
 clear hb2
 unfold tokP tkV
 go_wp2_with fail
 clear hw3
 refine (isName_any _ (kP (tkAt T i')) (tkAt T i').place (nP (tkAt T i')) (sP (tkAt T i')) (wP (tkAt T i'))).mono ?_
 rintro e w4 ⟨rfl,B4⟩
 have es:((kP (tkAt T i')==2) && !kwsP.any (fun t=>(wP (tkAt T i')).toList==t.toList))=nmB T i':=rfl
 rw [es]
 clear es
 have s4:=(B4.block _ (by omega)).trans s3
 have lt4:w2.heap.size < w4.heap.size:=(Array.getElem?_eq_some_iff.1 s4).1
 have B4w:=B3w.trans (B4.mono B3w.size)
 obtain ⟨⟨g40,g41,g42,g43,g44⟩,_⟩:=bk5 s4
 clear s3 B4 B3w g30 g31 g32 g33 g34
 cases hnm:nmB T i'
 rotate_left
 ·have hk1:(tkAt T i').kind=1:=by rw [nm_is hT] at hnm;simpa using hnm
  obtain ⟨acc,hcur⟩:∃acc,cur = .ok (acc,i')∧f'=f∧pl'=pl:=by
   rcases hdead with hd | ⟨x,rfl,_⟩
   ·exact hd
   ·exfalso
    rw [over_kind hT] at hk1;exact absurd hk1 (by decide)
  obtain ⟨rfl,rfl,rfl⟩:=hcur
  have hstart:startsT T i'=true:=by unfold startsT;rw [hk1];rfl
  cases gk with
  | zero=>cases hpa
  | succ gk=>
  have hpa:pStL (S5 PA PC PL PO PH) T (gk+1) acc i'=some fin:=hpa
  rw [pStL,if_pos hstart] at hpa
  have hS5:(S5 PA PC PL PO PH) T i'=PA T i':=by unfold S5;rw [hk1];rfl
  cases hS:(S5 PA PC PL PO PH) T i' with
  | none=>rw [hS] at hpa;cases hpa
  | some r2=>
  have hPr:PA T i'=some r2:=hS5.symm.trans hS
  have hnx:i'+1 < T.length:=kind_next hT hps.lt hk1 (by decide)
  have stp:=fun (w5 wn:World) (u:Value) (g cap':Nat) (k5:Kept pb w4 w5) (h5:SRes w5 (fun g=>w4.heap.size≤g) pb tb cap T f' pl' (.iface 121 u) r2) hown hgrow hat=>
   st_step (S:=(S5 PA PC PL PO PH)) (n:=n) (k:=gk) (i:=i') (w0:=w) (wc:=w4) (w5:=w5) (w6:=wn) (so:=so) (sl:=sl) (sc:=sc) (g:=g) (cap':=cap') (cs:=cs) (u:=u) (ty:=121) (U:=.cells #[.iface 121 u] 113) (acc:=acc) (r2:=r2) (fin:=fin)
    hp hcl (kw.trans (Kept.below B4w)) (rowP_same own (fun k hk=>B4w.block k (own.lt k hk).2)) (StsC.later (fun k hk hl=>B4w.block k hl) (fun k hk _=>hk) acc cs (hex acc i' rfl)) hS hpa k5 h5 hown hgrow hat
  have own4:=rowP_same own (w':=w4) (fun k hk=>B4w.block k (own.lt k hk).2)
  have STP:=hide stp
  have hps4:=hps.below B4w (Nat.le_refl _)
  have szw:=kw.1
  have sza:=B4w.size
  have HPr:=hide hPr
  clear stp hPr hS hS5 hpa hex own kw hst hdead B4w s4 hps g40 g41 g42 g43 g44
  go_wp2_with fail
  refine (hA w4 pb tb cap i' T f' pl' r2 hT hps4 hk1 (unhide HPr)).mono ?_
  rintro e w5 ⟨k5,u,rfl,h5⟩
  have own5:=rowP_same own4 (w':=w5) (fun k hk=>k5.2 k (own4.lt k hk).2 (by have:=(own4.lt k hk).1;omega))
  have sz5:=k5.1
  have STP5:=hide (fun wn g cap'=>unhide STP w5 wn u g cap' k5 h5)
  clear STP h5 k5 own4
  go_wp2_with (at_builtin;refine wpList_append_lies _ rfl _ _ 66 rfl w.heap.size 113 i0 .nilIface 1 16 Tryz.underlying66 hi0 hz0 hz1 hz2 rfl (by decide) (.slice so sl sc) cs.length cs rfl (own5.alloc _) ⟨w5.heap.size,0,none⟩ 1 1 [.iface 121 u] rfl rfl (World.news_of_block (heap_alloc_new w5 _)) (by simp [Value.oneCell']) (by decide) (by unfold maxLen;omega) (by omega) (by simp;omega) (w5.heap.size+1) (by simp) ?_;intro g cap' wn hown hgrow hat hlt6)
  have fin6:=unhide STP5 wn g cap' hown hgrow hat
  clear STP5 hown hgrow own5
  go_wp2
  go_roundg gk
  case rel=>exact fin6
  case measure=>omega
 have hk1:¬ (tkAt T i').kind=1:=by rw [nm_is hT] at hnm;simpa using hnm
 go_wp2_with fail
 refine (isWord_any _ (kP (tkAt T i')) (tkAt T i').place (nP (tkAt T i')) (sP (tkAt T i')) (wP (tkAt T i')) w4.heap.size 0 1 [sIF] (strs_new w4 [sIF]) (by simp)).mono ?_
 rintro e w6 ⟨rfl,hb6⟩
 have B6:Below w4.heap.size w4 w6:=((Below.refl _ w4).alloc (Nat.le_refl _) _).trans (hb6.mono (by simp))
 have es:((kP (tkAt T i')==2)&&[sIF].any (fun t=>(wP (tkAt T i')).toList==t.toList))=[sIF].any (isT T i'):=wd_is hT i' (fun s hs=>kw_ok s (by simp only [List.mem_cons,List.not_mem_nil,or_false] at hs ⊢;exact .inl hs))
 rw [es]
 clear es hb6
 have s6:=(B6.block _ (by omega)).trans s4
 have lt6:w2.heap.size < w6.heap.size:=(Array.getElem?_eq_some_iff.1 s6).1
 have B6w:=B4w.trans (B6.mono B4w.size)
 obtain ⟨⟨g60,g61,g62,g63,g64⟩,_⟩:=bk5 s6
 clear s4 B6 B4w g40 g41 g42 g43 g44
 cases hif:isT T i' sIF
 rotate_left
 ·have hany:[sIF].any (isT T i')=true:=by simp [hif]
  rw [hany]
  obtain ⟨acc,hcur⟩:∃acc,cur = .ok (acc,i')∧f'=f∧pl'=pl:=by
   rcases hdead with hd | ⟨x,rfl,_⟩
   ·exact hd
   ·exfalso
    rw [over_is hT.last] at hif;cases hif
  obtain ⟨rfl,rfl,rfl⟩:=hcur
  have hstart:startsT T i'=true:=by unfold startsT;rw [hif];simp
  cases gk with
  | zero=>cases hpa
  | succ gk=>
  have hpa:pStL (S5 PA PC PL PO PH) T (gk+1) acc i'=some fin:=hpa
  rw [pStL,if_pos hstart] at hpa
  have hS5:(S5 PA PC PL PO PH) T i'=PC T i':=by unfold S5;rw [if_neg (by simpa using hk1),if_pos hif]
  cases hS:(S5 PA PC PL PO PH) T i' with
  | none=>rw [hS] at hpa;cases hpa
  | some r2=>
  have hPr:PC T i'=some r2:=hS5.symm.trans hS
  have hnx:i'+1 < T.length:=isT_next hT.last hps.lt hif
  have stp:=fun (w5 wn:World) (u:Value) (g cap':Nat) (k5:Kept pb w6 w5) (h5:SRes w5 (fun g=>w6.heap.size≤g) pb tb cap T f' pl' (.iface 124 u) r2) hown hgrow hat=>
   st_step (S:=(S5 PA PC PL PO PH)) (n:=n) (k:=gk) (i:=i') (w0:=w) (wc:=w6) (w5:=w5) (w6:=wn) (so:=so) (sl:=sl) (sc:=sc) (g:=g) (cap':=cap') (cs:=cs) (u:=u) (ty:=124) (U:=.cells #[.iface 124 u] 113) (acc:=acc) (r2:=r2) (fin:=fin)
    hp hcl (kw.trans (Kept.below B6w)) (rowP_same own (fun k hk=>B6w.block k (own.lt k hk).2)) (StsC.later (fun k hk hl=>B6w.block k hl) (fun k hk _=>hk) acc cs (hex acc i' rfl)) hS hpa k5 h5 hown hgrow hat
  have own6:=rowP_same own (w':=w6) (fun k hk=>B6w.block k (own.lt k hk).2)
  have STP:=hide stp
  have hps6:=hps.below B6w (Nat.le_refl _)
  have szw:=kw.1
  have sza:=B6w.size
  have HPr:=hide hPr
  clear stp hPr hS hS5 hpa hex own kw hst hdead B6w s6 hps g60 g61 g62 g63 g64
  go_wp2_with fail
  refine (hC w6 pb tb cap i' T f' pl' r2 hT hps6 hif (unhide HPr)).mono ?_
  rintro e w5 ⟨k5,u,rfl,h5⟩
  have own5:=rowP_same own6 (w':=w5) (fun k hk=>k5.2 k (own6.lt k hk).2 (by have:=(own6.lt k hk).1;omega))
  have sz5:=k5.1
  have STP5:=hide (fun wn g cap'=>unhide STP w5 wn u g cap' k5 h5)
  clear STP h5 k5 own6
  go_wp2_with (at_builtin;refine wpList_append_lies _ rfl _ _ 66 rfl w.heap.size 113 i0 .nilIface 1 16 Tryz.underlying66 hi0 hz0 hz1 hz2 rfl (by decide) (.slice so sl sc) cs.length cs rfl (own5.alloc _) ⟨w5.heap.size,0,none⟩ 1 1 [.iface 124 u] rfl rfl (World.news_of_block (heap_alloc_new w5 _)) (by simp [Value.oneCell']) (by decide) (by unfold maxLen;omega) (by omega) (by simp;omega) (w5.heap.size+1) (by simp) ?_;intro g cap' wn hown hgrow hat hlt6)
  have fin6:=unhide STP5 wn g cap' hown hgrow hat
  clear STP5 hown hgrow own5
  go_wp2
  go_roundg gk
  case rel=>exact fin6
  case measure=>omega
 have hany:[sIF].any (isT T i')=false:=by simp [hif]
 rw [hany]
 clear hany
 go_wp2_with fail
 refine (isWord_any _ (kP (tkAt T i')) (tkAt T i').place (nP (tkAt T i')) (sP (tkAt T i')) (wP (tkAt T i')) w6.heap.size 0 1 [sFOR] (strs_new w6 [sFOR]) (by simp)).mono ?_
 rintro e w7 ⟨rfl,hb7⟩
 have B7:Below w6.heap.size w6 w7:=((Below.refl _ w6).alloc (Nat.le_refl _) _).trans (hb7.mono (by simp))
 have es:((kP (tkAt T i')==2)&&[sFOR].any (fun t=>(wP (tkAt T i')).toList==t.toList))=[sFOR].any (isT T i'):=wd_is hT i' (fun s hs=>kw_ok s (by simp only [List.mem_cons,List.not_mem_nil,or_false] at hs ⊢;exact .inr (.inl hs)))
 rw [es]
 clear es hb7
 have s7:=(B7.block _ (by omega)).trans s6
 have lt7:w2.heap.size < w7.heap.size:=(Array.getElem?_eq_some_iff.1 s7).1
 have B7w:=B6w.trans (B7.mono B6w.size)
 obtain ⟨⟨g70,g71,g72,g73,g74⟩,_⟩:=bk5 s7
 clear s6 B7 B6w g60 g61 g62 g63 g64
 cases hfo:isT T i' sFOR
 rotate_left
 ·have hany:[sFOR].any (isT T i')=true:=by simp [hfo]
  rw [hany]
  obtain ⟨acc,hcur⟩:∃acc,cur = .ok (acc,i')∧f'=f∧pl'=pl:=by
   rcases hdead with hd | ⟨x,rfl,_⟩
   ·exact hd
   ·exfalso
    rw [over_is hT.last] at hfo;cases hfo
  obtain ⟨rfl,rfl,rfl⟩:=hcur
  have hstart:startsT T i'=true:=by unfold startsT;rw [hfo];simp
  cases gk with
  | zero=>cases hpa
  | succ gk=>
  have hpa:pStL (S5 PA PC PL PO PH) T (gk+1) acc i'=some fin:=hpa
  rw [pStL,if_pos hstart] at hpa
  have hS5:(S5 PA PC PL PO PH) T i'=PL T i':=by unfold S5;rw [if_neg (by simpa using hk1),if_neg (by simp [hif]),if_pos hfo]
  cases hS:(S5 PA PC PL PO PH) T i' with
  | none=>rw [hS] at hpa;cases hpa
  | some r2=>
  have hPr:PL T i'=some r2:=hS5.symm.trans hS
  have hnx:i'+1 < T.length:=isT_next hT.last hps.lt hfo
  have stp:=fun (w5 wn:World) (u:Value) (g cap':Nat) (k5:Kept pb w7 w5) (h5:SRes w5 (fun g=>w7.heap.size≤g) pb tb cap T f' pl' (.iface 127 u) r2) hown hgrow hat=>
   st_step (S:=(S5 PA PC PL PO PH)) (n:=n) (k:=gk) (i:=i') (w0:=w) (wc:=w7) (w5:=w5) (w6:=wn) (so:=so) (sl:=sl) (sc:=sc) (g:=g) (cap':=cap') (cs:=cs) (u:=u) (ty:=127) (U:=.cells #[.iface 127 u] 113) (acc:=acc) (r2:=r2) (fin:=fin)
    hp hcl (kw.trans (Kept.below B7w)) (rowP_same own (fun k hk=>B7w.block k (own.lt k hk).2)) (StsC.later (fun k hk hl=>B7w.block k hl) (fun k hk _=>hk) acc cs (hex acc i' rfl)) hS hpa k5 h5 hown hgrow hat
  have own7:=rowP_same own (w':=w7) (fun k hk=>B7w.block k (own.lt k hk).2)
  have STP:=hide stp
  have hps7:=hps.below B7w (Nat.le_refl _)
  have szw:=kw.1
  have sza:=B7w.size
  have HPr:=hide hPr
  clear stp hPr hS hS5 hpa hex own kw hst hdead B7w s7 hps g70 g71 g72 g73 g74
  go_wp2_with fail
  refine (hL w7 pb tb cap i' T f' pl' r2 hT hps7 hfo (unhide HPr)).mono ?_
  rintro e w5 ⟨k5,u,rfl,h5⟩
  have own5:=rowP_same own7 (w':=w5) (fun k hk=>k5.2 k (own7.lt k hk).2 (by have:=(own7.lt k hk).1;omega))
  have sz5:=k5.1
  have STP5:=hide (fun wn g cap'=>unhide STP w5 wn u g cap' k5 h5)
  clear STP h5 k5 own7
  go_wp2_with (at_builtin;refine wpList_append_lies _ rfl _ _ 66 rfl w.heap.size 113 i0 .nilIface 1 16 Tryz.underlying66 hi0 hz0 hz1 hz2 rfl (by decide) (.slice so sl sc) cs.length cs rfl (own5.alloc _) ⟨w5.heap.size,0,none⟩ 1 1 [.iface 127 u] rfl rfl (World.news_of_block (heap_alloc_new w5 _)) (by simp [Value.oneCell']) (by decide) (by unfold maxLen;omega) (by omega) (by simp;omega) (w5.heap.size+1) (by simp) ?_;intro g cap' wn hown hgrow hat hlt6)
  have fin6:=unhide STP5 wn g cap' hown hgrow hat
  clear STP5 hown hgrow own5
  go_wp2
  go_roundg gk
  case rel=>exact fin6
  case measure=>omega
 have hany:[sFOR].any (isT T i')=false:=by simp [hfo]
 rw [hany]
 clear hany
 go_wp2_with fail
 refine (isWord_any _ (kP (tkAt T i')) (tkAt T i').place (nP (tkAt T i')) (sP (tkAt T i')) (wP (tkAt T i')) w7.heap.size 0 2 [sOUT,sHIDE] (strs_new w7 [sOUT,sHIDE]) (by simp)).mono ?_
 rintro e w8 ⟨rfl,hb8⟩
 have B8:Below w7.heap.size w7 w8:=((Below.refl _ w7).alloc (Nat.le_refl _) _).trans (hb8.mono (by simp))
 have es:((kP (tkAt T i')==2)&&[sOUT,sHIDE].any (fun t=>(wP (tkAt T i')).toList==t.toList))=[sOUT,sHIDE].any (isT T i'):=wd_is hT i' (fun s hs=>kw_ok s (by simp only [List.mem_cons,List.not_mem_nil,or_false] at hs ⊢;rcases hs with rfl | rfl <;> simp))
 rw [es]
 clear es hb8
 have s8:=(B8.block _ (by omega)).trans s7
 have lt8:w2.heap.size < w8.heap.size:=(Array.getElem?_eq_some_iff.1 s8).1
 have B8w:=B7w.trans (B8.mono B7w.size)
 obtain ⟨⟨g80,g81,g82,g83,g84⟩,_⟩:=bk5 s8
 clear s7 B8 B7w g70 g71 g72 g73 g74
 cases hou:isT T i' sOUT
 rotate_left
 ·have hany:[sOUT,sHIDE].any (isT T i')=true:=by simp [hou]
  rw [hany]
  obtain ⟨acc,hcur⟩:∃acc,cur = .ok (acc,i')∧f'=f∧pl'=pl:=by
   rcases hdead with hd | ⟨x,rfl,_⟩
   ·exact hd
   ·exfalso
    rw [over_is hT.last] at hou;cases hou
  obtain ⟨rfl,rfl,rfl⟩:=hcur
  have hstart:startsT T i'=true:=by unfold startsT;rw [hou];simp
  cases gk with
  | zero=>cases hpa
  | succ gk=>
  have hpa:pStL (S5 PA PC PL PO PH) T (gk+1) acc i'=some fin:=hpa
  rw [pStL,if_pos hstart] at hpa
  have hS5:(S5 PA PC PL PO PH) T i'=PO T i':=by unfold S5;rw [if_neg (by simpa using hk1),if_neg (by simp [hif]),if_neg (by simp [hfo]),if_pos hou]
  cases hS:(S5 PA PC PL PO PH) T i' with
  | none=>rw [hS] at hpa;cases hpa
  | some r2=>
  have hPr:PO T i'=some r2:=hS5.symm.trans hS
  have hnx:i'+1 < T.length:=isT_next hT.last hps.lt hou
  have stp:=fun (w5 wn:World) (u:Value) (g cap':Nat) (k5:Kept pb w8 w5) (h5:SRes w5 (fun g=>w8.heap.size≤g) pb tb cap T f' pl' (.iface 130 u) r2) hown hgrow hat=>
   st_step (S:=(S5 PA PC PL PO PH)) (n:=n) (k:=gk) (i:=i') (w0:=w) (wc:=w8) (w5:=w5) (w6:=wn) (so:=so) (sl:=sl) (sc:=sc) (g:=g) (cap':=cap') (cs:=cs) (u:=u) (ty:=130) (U:=.cells #[.iface 130 u] 113) (acc:=acc) (r2:=r2) (fin:=fin)
    hp hcl (kw.trans (Kept.below B8w)) (rowP_same own (fun k hk=>B8w.block k (own.lt k hk).2)) (StsC.later (fun k hk hl=>B8w.block k hl) (fun k hk _=>hk) acc cs (hex acc i' rfl)) hS hpa k5 h5 hown hgrow hat
  have own8:=rowP_same own (w':=w8) (fun k hk=>B8w.block k (own.lt k hk).2)
  have STP:=hide stp
  have hps8:=hps.below B8w (Nat.le_refl _)
  have szw:=kw.1
  have sza:=B8w.size
  have HPr:=hide hPr
  clear stp hPr hS hS5 hpa hex own kw hst hdead B8w s8 hps g80 g81 g82 g83 g84
  go_wp2_with fail
  refine (hO w8 pb tb cap i' T f' pl' r2 hT hps8 hnx (unhide HPr)).mono ?_
  rintro e w5 ⟨k5,u,rfl,h5⟩
  have own5:=rowP_same own8 (w':=w5) (fun k hk=>k5.2 k (own8.lt k hk).2 (by have:=(own8.lt k hk).1;omega))
  have sz5:=k5.1
  have STP5:=hide (fun wn g cap'=>unhide STP w5 wn u g cap' k5 h5)
  clear STP h5 k5 own8
  go_wp2_with (at_builtin;refine wpList_append_lies _ rfl _ _ 66 rfl w.heap.size 113 i0 .nilIface 1 16 Tryz.underlying66 hi0 hz0 hz1 hz2 rfl (by decide) (.slice so sl sc) cs.length cs rfl (own5.alloc _) ⟨w5.heap.size,0,none⟩ 1 1 [.iface 130 u] rfl rfl (World.news_of_block (heap_alloc_new w5 _)) (by simp [Value.oneCell']) (by decide) (by unfold maxLen;omega) (by omega) (by simp;omega) (w5.heap.size+1) (by simp) ?_;intro g cap' wn hown hgrow hat hlt6)
  have fin6:=unhide STP5 wn g cap' hown hgrow hat
  clear STP5 hown hgrow own5
  go_wp2
  go_roundg gk
  case rel=>exact fin6
  case measure=>omega
 cases hhi:isT T i' sHIDE
 rotate_left
 ·have hany:[sOUT,sHIDE].any (isT T i')=true:=by simp [hou,hhi]
  rw [hany]
  obtain ⟨acc,hcur⟩:∃acc,cur = .ok (acc,i')∧f'=f∧pl'=pl:=by
   rcases hdead with hd | ⟨x,rfl,_⟩
   ·exact hd
   ·exfalso
    rw [over_is hT.last] at hhi;cases hhi
  obtain ⟨rfl,rfl,rfl⟩:=hcur
  have hstart:startsT T i'=true:=by unfold startsT;rw [hhi];simp
  cases gk with
  | zero=>cases hpa
  | succ gk=>
  have hpa:pStL (S5 PA PC PL PO PH) T (gk+1) acc i'=some fin:=hpa
  rw [pStL,if_pos hstart] at hpa
  have hS5:(S5 PA PC PL PO PH) T i'=PH T i':=by unfold S5;rw [if_neg (by simpa using hk1),if_neg (by simp [hif]),if_neg (by simp [hfo]),if_neg (by simp [hou]),if_pos hhi]
  cases hS:(S5 PA PC PL PO PH) T i' with
  | none=>rw [hS] at hpa;cases hpa
  | some r2=>
  have hPr:PH T i'=some r2:=hS5.symm.trans hS
  have hnx:i'+1 < T.length:=isT_next hT.last hps.lt hhi
  have stp:=fun (w5 wn:World) (u:Value) (g cap':Nat) (k5:Kept pb w8 w5) (h5:SRes w5 (fun g=>w8.heap.size≤g) pb tb cap T f' pl' (.iface 130 u) r2) hown hgrow hat=>
   st_step (S:=(S5 PA PC PL PO PH)) (n:=n) (k:=gk) (i:=i') (w0:=w) (wc:=w8) (w5:=w5) (w6:=wn) (so:=so) (sl:=sl) (sc:=sc) (g:=g) (cap':=cap') (cs:=cs) (u:=u) (ty:=130) (U:=.cells #[.iface 130 u] 113) (acc:=acc) (r2:=r2) (fin:=fin)
    hp hcl (kw.trans (Kept.below B8w)) (rowP_same own (fun k hk=>B8w.block k (own.lt k hk).2)) (StsC.later (fun k hk hl=>B8w.block k hl) (fun k hk _=>hk) acc cs (hex acc i' rfl)) hS hpa k5 h5 hown hgrow hat
  have own8:=rowP_same own (w':=w8) (fun k hk=>B8w.block k (own.lt k hk).2)
  have STP:=hide stp
  have hps8:=hps.below B8w (Nat.le_refl _)
  have szw:=kw.1
  have sza:=B8w.size
  have HPr:=hide hPr
  clear stp hPr hS hS5 hpa hex own kw hst hdead B8w s8 hps g80 g81 g82 g83 g84
  go_wp2_with fail
  refine (hH w8 pb tb cap i' T f' pl' r2 hT hps8 hnx (unhide HPr)).mono ?_
  rintro e w5 ⟨k5,u,rfl,h5⟩
  have own5:=rowP_same own8 (w':=w5) (fun k hk=>k5.2 k (own8.lt k hk).2 (by have:=(own8.lt k hk).1;omega))
  have sz5:=k5.1
  have STP5:=hide (fun wn g cap'=>unhide STP w5 wn u g cap' k5 h5)
  clear STP h5 k5 own8
  go_wp2_with (at_builtin;refine wpList_append_lies _ rfl _ _ 66 rfl w.heap.size 113 i0 .nilIface 1 16 Tryz.underlying66 hi0 hz0 hz1 hz2 rfl (by decide) (.slice so sl sc) cs.length cs rfl (own5.alloc _) ⟨w5.heap.size,0,none⟩ 1 1 [.iface 130 u] rfl rfl (World.news_of_block (heap_alloc_new w5 _)) (by simp [Value.oneCell']) (by decide) (by unfold maxLen;omega) (by omega) (by simp;omega) (w5.heap.size+1) (by simp) ?_;intro g cap' wn hown hgrow hat hlt6)
  have fin6:=unhide STP5 wn g cap' hown hgrow hat
  clear STP5 hown hgrow own5
  go_wp2
  go_roundg gk
  case rel=>exact fin6
  case measure=>omega
 have hany:[sOUT,sHIDE].any (isT T i')=false:=by simp [hou,hhi]
 rw [hany]
 have hns:startsT T i'=false:=by unfold startsT;rw [hif,hfo,hou,hhi];simp [hk1]
 have fin9:=hide (st_exit kw own hst hex hpa hdead hns B8w)
 clear hany hns hst hex hpa hdead kw own hps
 go_wp2
 go_ret
 exact unhide fin9
theorem noS_parses (fn:Nat) (ty:TypeId) (C:List Tok→Nat→Prop):ParsesS fn ty C noS:=fun _ _ _ _ _ _ _ _ _ _ _ _ h=>by cases h
theorem end_statements (w:World) (pb tb cap:Nat) (T:List Tok) (f pl:Int) (hT:TokW T) (h:PsAt w pb tb cap T (T.length-1) f pl) :
  Calls Tryz.prog 88 #[.pointer (some ⟨pb,0,none⟩)] w (LOut w pb tb cap T f pl (.ok (.nil,T.length-1))):=by
 refine pstatements_any (noS_parses _ _ _) (noS_parses _ _ _) (noS_parses _ _ _) (noS_parses _ _ _) (noS_parses _ _ _) 1 (by decide) w pb tb cap _ T f pl _ hT h ?_
 unfold pSts
 rw [pStL,over_starts hT.last,if_neg (by simp)]
 rfl
theorem statements_seq {α:Type} {P:PS} (hP:ParsesL 88 P) {T:List Tok} (hT:TokW T) (w:World) (pb tb cap:Nat) (f pl:Int) {r1:Except Nat (α×Nat)} {r:Except Nat (Sx×Nat)} (h:StAt w pb tb cap T f pl r1) (hr:seqR r1 (fun _ j=>P T j)=some r) :
  Calls Tryz.prog 88 #[.pointer (some ⟨pb,0,none⟩)] w (LOut w pb tb cap T f pl r):=by
 cases r1 with
 | error x=>
  cases hr
  refine (end_statements w pb tb cap T _ _ hT h).mono ?_
  rintro e w' ⟨hk,ao,len,c,he,hs⟩
  exact ⟨hk,ao,len,c,he,hs.1⟩
 | ok xj=>
  obtain ⟨x,j⟩:=xj
  exact hP w pb tb cap j T f pl r hT h hr
def pBlk (P:PS):PS:=fun T i=>andThen (pNeed T sCO i) fun _ j=>andThen (P T j) fun s j=>andThen (pNeed T sCC j) fun _ j=>got s j
set_option maxHeartbeats 8000000 in
theorem pblock_any {P:PS} (hP:ParsesL 88 P):ParsesL 131 (pBlk P):=by
 intro w pb tb cap i T f pl r hT h hr
 have hp:=h.plt
 have hlow:=h.low
 obtain ⟨r1,e1⟩:=need_some T sCO i
 unfold pBlk at hr
 rw [e1] at hr
 obtain ⟨rX,r2,hX2,hst2,hv2,hr2⟩:=seq_split (show seqR r1 (fun _ j=>andThen (P T j) fun s j=>andThen (pNeed T sCC j) fun _ j=>got s j)=some r from hr)
 obtain ⟨rS,r3,hS3,hst3,hv3,hr3⟩:=seq_split (show seqR r2 (fun ab j=>andThen (pNeed T sCC j) fun _ j=>got ab.2 j)=some r from hr2)
 have HR:=hide (seq_got (g:=fun (ab:(Unit×Sx)×Unit)=>ab.1.2) hr3)
 have E1:=hide e1
 have HX2:=hide hX2
 have HST2:=hide hst2
 have HV2:=hide hv2
 have HS3:=hide hS3
 have HST3:=hide hst3
 have HV3:=hide hv3
 clear hr hr2 hr3 e1 hX2 hst2 hv2 hS3 hst3 hv3
 go_enter Tryz.func131,Tryz.ntmps131
 go_wp2_with fail
 refine (takeSign_any hT _ pb tb cap i f pl 123 sCO mem_sg.2.2.2.2.2.2.2.2.1 rune_CO h (unhide E1)).mono ?_
 rintro e w1 hu
 obtain ⟨rfl,k1,h1⟩:=hu.st
 clear hu h
 go_wp2_with fail
 refine (statements_seq hP hT _ pb tb cap f pl h1 (unhide HX2)).mono ?_
 rintro e w2 ⟨k2,ao,al,ac,rfl,h2⟩
 go_wp2_with fail
 refine (sign_seq hT _ pb tb cap f pl 125 sCC mem_sg.2.2.2.2.2.2.2.2.2.1 rune_CC (unhide HST2 _ _ _ _ _ _ _ h2.st) (unhide HS3)).mono ?_
 rintro e w3 ⟨rfl,k3,h3⟩
 have fin:LOut w pb tb cap T f pl r (.returned (.slice ao al ac)) w3:=by
  refine ⟨(k1.trans k2).trans k3,ao,al,ac,rfl,?_⟩
  have st:=StAt.mapR (unhide HST3 _ _ _ _ _ _ _ h3) (fun (ab:(Unit×Sx)×Unit)=>ab.1.2)
  have hr4:=unhide HR
  subst hr4
  cases r3 with
  | error y=>exact st
  | ok q=>
   obtain ⟨⟨⟨u,s⟩,u2⟩,j⟩:=q
   obtain ⟨j0,e2,_⟩:=unhide HV3 _ _ rfl
   obtain ⟨j1,_,eX⟩:=unhide HV2 _ _ e2
   rw [eX] at h2
   have l1:=k1.1
   refine ⟨st,h2.2.later (fun k hk hl=>?_) (fun k hk _=>?_)⟩
   ·have hk:w1.heap.size≤k:=hk
    exact k3.2 k hl (by omega)
   ·have hk:w1.heap.size≤k:=hk
    show w.heap.size≤k
    omega
 clear h1 h2 h3 k1 k2 k3
 go_wp2
 go_ret
 exact fin
theorem end_block (w:World) (pb tb cap:Nat) (T:List Tok) (f pl:Int) (hT:TokW T) (h:PsAt w pb tb cap T (T.length-1) f pl) :
  Calls Tryz.prog 131 #[.pointer (some ⟨pb,0,none⟩)] w (LOut w pb tb cap T f pl (.error (T.length-1))):=by
 refine pblock_any (P:=noS) (fun _ _ _ _ _ _ _ _ _ _ _ h=>by cases h) w pb tb cap _ T f pl _ hT h ?_
 unfold pBlk pNeed
 rw [over_is hT.last,if_neg (by simp)]
 rfl
theorem st_badL {w w':World} {Q:Nat→Prop} {pb tb cap:Nat} {T:List Tok} {f pl:Int} {x y:Nat} {v:Value} (h:LRes w Q pb tb cap T (badF f) (badP f pl (tkAt T x).place) v (.error y)) (e:w'=w):LRes w' Q pb tb cap T f pl v (.error x):=by
 subst e
 exact st_bad (α:=Sx) (β:=Sx) (LRes.st h)
theorem block_seq {α:Type} {B:PS} (hB:ParsesL 131 B) {T:List Tok} (hT:TokW T) (w:World) (pb tb cap:Nat) (f pl:Int) {r1:Except Nat (α×Nat)} {r:Except Nat (Sx×Nat)} (h:StAt w pb tb cap T f pl r1) (hr:seqR r1 (fun _ j=>B T j)=some r) :
  Calls Tryz.prog 131 #[.pointer (some ⟨pb,0,none⟩)] w (LOut w pb tb cap T f pl r):=by
 cases r1 with
 | error x=>
  cases hr
  refine (end_block w pb tb cap T _ _ hT h).mono ?_
  rintro e w' ⟨hk,ao,len,c,he,hs⟩
  exact ⟨hk,ao,len,c,he,st_badL hs rfl⟩
 | ok xj=>
  obtain ⟨x,j⟩:=xj
  exact hB w pb tb cap j T f pl r hT h hr
theorem items_acc {S:PS} {T:List Tok} (hbad:∀i,startsT T i=false→S T i=bad i∨S T i=none):∀(n:Nat) (acc:List Sx) (i:Nat) (r:Except Nat (Sx×Nat)),pItems S T n i=some r →
  ∃r':Except Nat (List Sx×Nat),(andThen (pStL S T n acc i) fun l j=>andThen (pNeed T sCC j) fun _ j=>got l j)=some r'∧((∃x,r = .error x∧r' = .error x)∨∃l' j,r = .ok (rowS l',j)∧r' = .ok (acc++l',j)):=by
 intro n
 induction n with
 | zero=>intro acc i r h;cases h
 | succ n ih=>
  intro acc i r h
  rw [pItems] at h
  cases hc:isT T i sCC
  ·rw [hc,if_neg (by simp)] at h
   cases hs:startsT T i
   ·rcases hbad i hs with hb | hb
    rotate_left
    ·rw [hb] at h;cases h
    rw [hb] at h
    cases h
    refine ⟨.error i,?_,.inl ⟨i,rfl,rfl⟩⟩
    rw [pStL,hs,if_neg (by simp)]
    show andThen (pNeed T sCC i) _=_
    unfold pNeed
    rw [hc,if_neg (by simp)]
    rfl
   ·cases hS:S T i with
    | none=>rw [hS] at h;cases h
    | some q=>
     rw [hS] at h
     cases q with
     | error x=>
      cases h
      refine ⟨.error x,?_,.inl ⟨x,rfl,rfl⟩⟩
      rw [pStL,hs,if_pos rfl,hS]
      rfl
     | ok q=>
      obtain ⟨s,j⟩:=q
      have h:andThen (pItems S T n j) (fun r k=>got (besideS s r) k)=some r:=h
      cases hr:pItems S T n j with
      | none=>rw [hr] at h;cases h
      | some q=>
       rw [hr] at h
       obtain ⟨r',e1,e2⟩:=ih (acc++[s]) j q hr
       have e3:(andThen (pStL S T (n+1) acc i) fun l j=>andThen (pNeed T sCC j) fun _ j=>got l j)=some r':=by
        rw [pStL,hs,if_pos rfl,hS]
        exact e1
       refine ⟨r',e3,?_⟩
       rcases e2 with ⟨x,rfl,rfl⟩ | ⟨l',j',rfl,rfl⟩
       ·cases h;exact .inl ⟨x,rfl,rfl⟩
       ·cases h;exact .inr ⟨s::l',j',rfl,by simp⟩
  ·rw [hc,if_pos rfl] at h
   cases h
   have hs:startsT T i=false:=by
    unfold startsT
    have ek:=isT_leaf hc
    have e1:((tkAt T i).kind==1)=false:=by
     cases h1:((tkAt T i).kind==1)
     ·rfl
     ·rw [h1] at ek;simp at ek
    have no:∀s:ByteArray,sCC.data≠s.data→isT T i s=false:=fun s hs=>by
     cases h0:isT T i s
     ·rfl
     ·exact absurd (congrArg (fun x=>x.data) ((isT_text hc).symm.trans (isT_text h0))) hs
    rw [e1,no sIF (by decide),no sFOR (by decide),no sOUT (by decide),no sHIDE (by decide)]
    rfl
   refine ⟨.ok (acc,i+1),?_,.inr ⟨[],i+1,rfl,by simp⟩⟩
   rw [pStL,hs,if_neg (by simp)]
   show andThen (pNeed T sCC i) _=_
   unfold pNeed
   rw [hc,if_pos rfl]
   rfl
theorem items_are {S:PS} {T:List Tok} (hbad:∀i,startsT T i=false→S T i=bad i∨S T i=none) {n i:Nat} {r:Except Nat (Sx×Nat)} (h:pItems S T n i=some r):(andThen (pSts S n T i) fun s j=>andThen (pNeed T sCC j) fun _ j=>got s j)=some r:=by
 obtain ⟨r',e1,e2⟩:=items_acc hbad n [] i r h
 unfold pSts
 rw [then_assoc]
 cases hp:pStL S T n [] i with
 | none=>rw [hp] at e1;cases e1
 | some q=>
  rw [hp] at e1
  cases q with
  | error x=>cases e1;rcases e2 with ⟨y,rfl,e⟩ | ⟨l',j,_,e⟩ <;> cases e;rfl
  | ok q=>
   obtain ⟨l,j⟩:=q
   have e1:andThen (pNeed T sCC j) (fun _ j=>got l j)=some r':=e1
   show andThen (pNeed T sCC j) (fun _ j=>got (rowS l) j)=some r
   obtain ⟨rn,en⟩:=need_some T sCC j
   rw [en] at e1 ⊢
   cases rn with
   | error x=>cases e1;rcases e2 with ⟨y,rfl,e⟩ | ⟨l',j,_,e⟩ <;> cases e;rfl
   | ok q=>
    cases e1
    rcases e2 with ⟨y,rfl,e⟩ | ⟨l',j,rfl,e⟩
    ·cases e
    ·cases e;rfl
theorem S5_bad {PA PC PL PO PH:PS} {T:List Tok} (i:Nat) (h:startsT T i=false):S5 PA PC PL PO PH T i=bad i:=by
 unfold startsT at h
 simp only [Bool.or_eq_false_iff] at h
 unfold S5
 rw [h.1.1.1.1,h.1.1.1.2,h.1.1.2,h.1.2,h.2]
 rfl
theorem tokR_form (r:Except Nat (Tok×Nat)):∃k p wd n s,tokR r=tkV k p wd n s:=by
 cases r with
 | error x=>exact ⟨_,_,_,_,_,rfl⟩
 | ok q=>exact ⟨_,_,_,_,_,rfl⟩
theorem tkV_inj {k p n s k' p' n' s':Int} {wd wd':ByteArray} (h:tkV k p wd n s=tkV k' p' wd' n' s'):k=k'∧p=p'∧wd=wd'∧n=n'∧s=s':=by
 unfold tkV at h
 simpa using h
set_option maxHeartbeats 16000000 in
theorem ploop_any {B:PS} (hB:ParsesL 131 B):ParsesS 115 127 (fun T i=>isT T i sFOR=true) (pFor B):=by
 intro w pb tb cap i T f pl r hT h hfo hr
 have hp:=h.plt
 have hlow:=h.low
 have hi1:=isT_next hT.last h.lt hfo
 unfold pFor at hr
 obtain ⟨rN,r1,hN,hst1,hv1,hr1⟩:=seq_split (r1:=.ok ((),i+1)) (show seqR (.ok ((),i+1)) (fun _ j=>andThen (pKind T 1 j) fun n j=>andThen (pKind T 2 j) fun a j=>andThen (pNeed T sDT j) fun _ j=>andThen (pKind T 2 j) fun b j=>andThen (B T j) fun s j=>got (.node 0 0 ⟨2,n,a,b,.nil⟩ s .nil:Sx) j)=some r from hr)
 obtain ⟨rA,r2,hA,hst2,hv2,hr2⟩:=seq_split (show seqR r1 (fun ab j=>andThen (pKind T 2 j) fun a j=>andThen (pNeed T sDT j) fun _ j=>andThen (pKind T 2 j) fun b j=>andThen (B T j) fun s j=>got (.node 0 0 ⟨2,ab.2,a,b,.nil⟩ s .nil:Sx) j)=some r from hr1)
 obtain ⟨rD,r3,hD,hst3,hv3,hr3⟩:=seq_split (show seqR r2 (fun ab j=>andThen (pNeed T sDT j) fun _ j=>andThen (pKind T 2 j) fun b j=>andThen (B T j) fun s j=>got (.node 0 0 ⟨2,ab.1.2,ab.2,b,.nil⟩ s .nil:Sx) j)=some r from hr2)
 obtain ⟨rB,r4,hBk,hst4,hv4,hr4⟩:=seq_split (show seqR r3 (fun ab j=>andThen (pKind T 2 j) fun b j=>andThen (B T j) fun s j=>got (.node 0 0 ⟨2,ab.1.1.2,ab.1.2,b,.nil⟩ s .nil:Sx) j)=some r from hr3)
 obtain ⟨rS,r5,hS,hst5,hv5,hr5⟩:=seq_split (show seqR r4 (fun ab j=>andThen (B T j) fun s j=>got (.node 0 0 ⟨2,ab.1.1.1.2,ab.1.1.2,ab.2,.nil⟩ s .nil:Sx) j)=some r from hr4)
 have HR:=hide (seq_got (g:=fun (ab:(((((Unit×Tok)×Tok)×Unit)×Tok)×Sx))=>(.node 0 0 ⟨2,ab.1.1.1.1.2,ab.1.1.1.2,ab.1.2,.nil⟩ ab.2 .nil:Sx)) hr5)
 have HN:=hide hN
 have HA:=hide hA
 have HD:=hide hD
 have HBk:=hide hBk
 have HS:=hide hS
 have HST1:=hide hst1
 have HST2:=hide hst2
 have HST3:=hide hst3
 have HST4:=hide hst4
 have HST5:=hide hst5
 have HV:=hide (And.intro hv1 (And.intro hv2 (And.intro hv3 (And.intro hv4 hv5))))
 clear hr hr1 hr2 hr3 hr4 hr5 hN hA hD hBk hS hst1 hst2 hst3 hst4 hst5 hv1 hv2 hv3 hv4 hv5 hfo
 go_enter Tryz.func115,Tryz.ntmps115
 go_wp2_with fail
 refine (take_any _ pb tb cap i T f pl (h.alloc _) hi1).mono ?_
 rintro e w1 ⟨rfl,h1,k1⟩
 have q1:w1.heap[w.heap.size]?=some (.cells #[.int .i64 0,.int .i64 0,.string ⟨#[]⟩,.int .i32 0,.int .i32 0,.int .i64 0,.int .i64 0,.string ⟨#[]⟩,.int .i32 0,.int .i32 0,.int .i64 0,.int .i64 0,.string ⟨#[]⟩,.int .i32 0,.int .i32 0,.slice none 0 0] 127 (0,0)):=(k1.2 _ (by simp) (by omega)).trans (heap_alloc_new w _)
 have K1:=(Kept.alloc pb w _).trans k1
 have lt1:w.heap.size < w1.heap.size:=(Array.getElem?_eq_some_iff.1 q1).1
 clear h k1
 unfold tokP tkV
 go_wp2_with fail
 refine (name_seq hT _ pb tb cap f pl (r1:=.ok ((),i+1)) (show StAt _ pb tb cap T f pl (.ok ((),i+1)) from h1) (unhide HN)).mono ?_
 rintro e w2 ⟨rfl,k2,h2⟩
 have q2:=(k2.2 _ lt1 (by omega)).trans q1
 have K2:=K1.trans k2
 have lt2:=k2.1
 obtain ⟨n0,n1,n2,n3,n4,hn⟩:=tokR_form rN
 rw [hn]
 have En:=hide hn
 clear h1 q1 K1 k2 hn
 unfold tkV
 go_wp2_with fail
 obtain ⟨w3,hw3⟩:∃w3,w2.alloc (.cells #[.int .i64 n0,.int .i64 n1,.string n2,.int .i32 n3,.int .i32 n4,.int .i64 0,.int .i64 0,.string ⟨#[]⟩,.int .i32 0,.int .i32 0,.int .i64 0,.int .i64 0,.string ⟨#[]⟩,.int .i32 0,.int .i32 0,.slice none 0 0] 127)=w3:=⟨_,rfl⟩
 rw [hw3]
 have u3:w3.heap[w2.heap.size]?=some (.cells #[.int .i64 n0,.int .i64 n1,.string n2,.int .i32 n3,.int .i32 n4,.int .i64 0,.int .i64 0,.string ⟨#[]⟩,.int .i32 0,.int .i32 0,.int .i64 0,.int .i64 0,.string ⟨#[]⟩,.int .i32 0,.int .i32 0,.slice none 0 0] 127 (0,0)):=by rw [←hw3];exact heap_alloc_new w2 _
 have q3:w3.heap[w.heap.size]?=some (.cells #[.int .i64 0,.int .i64 0,.string ⟨#[]⟩,.int .i32 0,.int .i32 0,.int .i64 0,.int .i64 0,.string ⟨#[]⟩,.int .i32 0,.int .i32 0,.int .i64 0,.int .i64 0,.string ⟨#[]⟩,.int .i32 0,.int .i32 0,.slice none 0 0] 127 (0,0)):=by rw [←hw3];exact (Below.heap_alloc w2 _ _ (by omega)).trans q2
 have h3:StAt w3 pb tb cap T f pl r1:=by rw [←hw3];exact StAt.alloc (unhide HST1 _ _ _ _ _ _ _ h2) _
 have K3:Kept pb w w3:=by rw [←hw3];exact K2.trans (Kept.alloc pb w2 _)
 have lt3:w2.heap.size < w3.heap.size:=(Array.getElem?_eq_some_iff.1 u3).1
 clear h2 q2 K2 hw3
 refine (number_seq hT _ pb tb cap f pl h3 (unhide HA)).mono ?_
 rintro e w4 ⟨rfl,k4,h4⟩
 have u4:=(k4.2 _ lt3 (by omega)).trans u3
 have q4:=(k4.2 _ (by omega) (by omega)).trans q3
 have K4:=K3.trans k4
 have lt4:=k4.1
 obtain ⟨a0,a1,a2,a3,a4,ha⟩:=tokR_form rA
 rw [ha]
 have Ea:=hide ha
 clear h3 q3 u3 K3 k4 ha
 obtain ⟨⟨u4c0,u4c1,u4c2,u4c3,u4c4,u4c5,u4c6,u4c7,u4c8,u4c9,u4c10,u4c11,u4c12,u4c13,u4c14,u4c15⟩,u4z0,u4z1,u4z2,u4z3,u4z4,u4z5,u4z6,u4z7,u4z8,u4z9,u4z10,u4z11,u4z12,u4z13,u4z14,u4z15⟩:=bk16 u4
 unfold tkV
 go_wp2_with fail
 obtain ⟨w5,hw5⟩:∃w5,((((w4.setCell ⟨w2.heap.size,5,none⟩ (.int .i64 a0)).setCell ⟨w2.heap.size,6,none⟩ (.int .i64 a1)).setCell ⟨w2.heap.size,7,none⟩ (.string a2)).setCell ⟨w2.heap.size,8,none⟩ (.int .i32 a3)).setCell ⟨w2.heap.size,9,none⟩ (.int .i32 a4)=w5:=⟨_,rfl⟩
 rw [hw5]
 have o5:∀k,k≠w2.heap.size→w5.heap[k]?=w4.heap[k]?:=fun k hk=>by
  rw [←hw5]
  iterate 5 (refine (Below.heap_setCell _ _ _ _ hk).trans ?_)
  rfl
 have z5:w5.heap.size=w4.heap.size:=by rw [←hw5];simp
 have sm5:Same w4 w5:=by
  rw [←hw5]
  iterate 5 (refine Same.set ?_ _ _)
  exact Same.refl _
 have u5:w5.heap[w2.heap.size]?=some (.cells #[.int .i64 n0,.int .i64 n1,.string n2,.int .i32 n3,.int .i32 n4,.int .i64 a0,.int .i64 a1,.string a2,.int .i32 a3,.int .i32 a4,.int .i64 0,.int .i64 0,.string ⟨#[]⟩,.int .i32 0,.int .i32 0,.slice none 0 0] 127 (0,0)):=by rw [←hw5];exact (heap_setCell_same _ w2.heap.size 9 _ _ _ (heap_setCell_same _ w2.heap.size 8 _ _ _ (heap_setCell_same _ w2.heap.size 7 _ _ _ (heap_setCell_same _ w2.heap.size 6 _ _ _ (heap_setCell_same _ w2.heap.size 5 _ _ _ u4)))))
 have q5:=(o5 _ (by omega)).trans q4
 have h5:StAt w5 pb tb cap T f pl r2:=StAt.two (unhide HST2 _ _ _ _ _ _ _ h4) (fun k hk=>o5 k (by omega))
 have K5:Kept pb w w5:=⟨by have:=K4.1;omega,fun k hk hn=>(o5 k (by omega)).trans (K4.2 k hk hn),K4.same.trans sm5⟩
 clear hw5 u4c0 u4c1 u4c2 u4c3 u4c4 u4c5 u4c6 u4c7 u4c8 u4c9 u4c10 u4c11 u4c12 u4c13 u4c14 u4c15 u4z0 u4z1 u4z2 u4z3 u4z4 u4z5 u4z6 u4z7 u4z8 u4z9 u4z10 u4z11 u4z12 u4z13 u4z14 u4z15 u4 q4 h4 K4 o5
 refine (sign_seq hT _ pb tb cap f pl 8230 sDT mem_sg.2.2.2.2.2.2.2.1 rune_DT h5 (unhide HD)).mono ?_
 rintro e w6 ⟨rfl,k6,h6⟩
 have u6:=(k6.2 _ (by omega) (by omega)).trans u5
 have q6:=(k6.2 _ (by omega) (by omega)).trans q5
 have K6:=K5.trans k6
 have lt6:=k6.1
 clear h5 q5 u5 K5 k6
 go_wp2_with fail
 refine (number_seq hT _ pb tb cap f pl (unhide HST3 _ _ _ _ _ _ _ h6) (unhide HBk)).mono ?_
 rintro e w7 ⟨rfl,k7,h7⟩
 have u7:=(k7.2 _ (by omega) (by omega)).trans u6
 have q7:=(k7.2 _ (by omega) (by omega)).trans q6
 have K7:=K6.trans k7
 have lt7:=k7.1
 obtain ⟨b0,b1,b2,b3,b4,hb⟩:=tokR_form rB
 rw [hb]
 have Eb:=hide hb
 clear h6 q6 u6 K6 k7 hb
 obtain ⟨⟨u7c0,u7c1,u7c2,u7c3,u7c4,u7c5,u7c6,u7c7,u7c8,u7c9,u7c10,u7c11,u7c12,u7c13,u7c14,u7c15⟩,u7z0,u7z1,u7z2,u7z3,u7z4,u7z5,u7z6,u7z7,u7z8,u7z9,u7z10,u7z11,u7z12,u7z13,u7z14,u7z15⟩:=bk16 u7
 unfold tkV
 go_wp2_with fail
 obtain ⟨w8,hw8⟩:∃w8,((((w7.setCell ⟨w2.heap.size,10,none⟩ (.int .i64 b0)).setCell ⟨w2.heap.size,11,none⟩ (.int .i64 b1)).setCell ⟨w2.heap.size,12,none⟩ (.string b2)).setCell ⟨w2.heap.size,13,none⟩ (.int .i32 b3)).setCell ⟨w2.heap.size,14,none⟩ (.int .i32 b4)=w8:=⟨_,rfl⟩
 rw [hw8]
 have o8:∀k,k≠w2.heap.size→w8.heap[k]?=w7.heap[k]?:=fun k hk=>by
  rw [←hw8]
  iterate 5 (refine (Below.heap_setCell _ _ _ _ hk).trans ?_)
  rfl
 have z8:w8.heap.size=w7.heap.size:=by rw [←hw8];simp
 have sm8:Same w7 w8:=by
  rw [←hw8]
  iterate 5 (refine Same.set ?_ _ _)
  exact Same.refl _
 have u8:w8.heap[w2.heap.size]?=some (.cells #[.int .i64 n0,.int .i64 n1,.string n2,.int .i32 n3,.int .i32 n4,.int .i64 a0,.int .i64 a1,.string a2,.int .i32 a3,.int .i32 a4,.int .i64 b0,.int .i64 b1,.string b2,.int .i32 b3,.int .i32 b4,.slice none 0 0] 127 (0,0)):=by rw [←hw8];exact (heap_setCell_same _ w2.heap.size 14 _ _ _ (heap_setCell_same _ w2.heap.size 13 _ _ _ (heap_setCell_same _ w2.heap.size 12 _ _ _ (heap_setCell_same _ w2.heap.size 11 _ _ _ (heap_setCell_same _ w2.heap.size 10 _ _ _ u7)))))
 have q8:=(o8 _ (by omega)).trans q7
 have h8:StAt w8 pb tb cap T f pl r4:=StAt.two (unhide HST4 _ _ _ _ _ _ _ h7) (fun k hk=>o8 k (by omega))
 have K8:Kept pb w w8:=⟨by have:=K7.1;omega,fun k hk hn=>(o8 k (by omega)).trans (K7.2 k hk hn),K7.same.trans sm8⟩
 clear hw8 u7c0 u7c1 u7c2 u7c3 u7c4 u7c5 u7c6 u7c7 u7c8 u7c9 u7c10 u7c11 u7c12 u7c13 u7c14 u7c15 u7z0 u7z1 u7z2 u7z3 u7z4 u7z5 u7z6 u7z7 u7z8 u7z9 u7z10 u7z11 u7z12 u7z13 u7z14 u7z15 u7 q7 h7 K7 o8
 refine (block_seq hB hT _ pb tb cap f pl h8 (unhide HS)).mono ?_
 rintro e w9 ⟨k9,ao,al,ac,rfl,h9⟩
 have u9:=(k9.2 _ (by omega) (by omega)).trans u8
 have q9:=(k9.2 _ (by omega) (by omega)).trans q8
 have K9:=K8.trans k9
 have lt9:=k9.1
 clear h8 q8 u8 K8 k9
 obtain ⟨⟨u9c0,u9c1,u9c2,u9c3,u9c4,u9c5,u9c6,u9c7,u9c8,u9c9,u9c10,u9c11,u9c12,u9c13,u9c14,u9c15⟩,u9z0,u9z1,u9z2,u9z3,u9z4,u9z5,u9z6,u9z7,u9z8,u9z9,u9z10,u9z11,u9z12,u9z13,u9z14,u9z15⟩:=bk16 u9
 obtain ⟨⟨q9c0,q9c1,q9c2,q9c3,q9c4,q9c5,q9c6,q9c7,q9c8,q9c9,q9c10,q9c11,q9c12,q9c13,q9c14,q9c15⟩,q9z0,q9z1,q9z2,q9z3,q9z4,q9z5,q9z6,q9z7,q9z8,q9z9,q9z10,q9z11,q9z12,q9z13,q9z14,q9z15⟩:=bk16 q9
 have fin:∀W:World,Same w9 W→w9.heap.size≤W.heap.size→(∀k,k≠w.heap.size→k≠w2.heap.size→W.heap[k]?=w9.heap[k]?)→SOut 127 w pb tb cap T f pl r (.returned (.agg #[.int .i64 n0,.int .i64 n1,.string n2,.int .i32 n3,.int .i32 n4,.int .i64 a0,.int .i64 a1,.string a2,.int .i32 a3,.int .i32 a4,.int .i64 b0,.int .i64 b1,.string b2,.int .i32 b3,.int .i32 b4,.slice ao al ac])) W:=by
  intro W hsame hs hW
  refine ⟨⟨by have:=K9.1;omega,fun k hk hn=>(hW k (by omega) (by omega)).trans (K9.2 k hk hn),K9.same.trans hsame⟩,_,rfl,?_⟩
  have st:=StAt.mapR (StAt.two (unhide HST5 _ _ _ _ _ _ _ h9.st) (fun k hk=>hW k (by omega) (by omega))) (fun (ab:(((((Unit×Tok)×Tok)×Unit)×Tok)×Sx))=>(.node 0 0 ⟨2,ab.1.1.1.1.2,ab.1.1.1.2,ab.1.2,.nil⟩ ab.2 .nil:Sx))
  have hr4:=unhide HR
  subst hr4
  cases r5 with
  | error y=>exact st
  | ok q=>
   obtain ⟨⟨⟨⟨⟨⟨u,tn⟩,ta⟩,u2⟩,tb'⟩,s⟩,j⟩:=q
   obtain ⟨hv1,hv2,hv3,hv4,hv5⟩:=unhide HV
   obtain ⟨j5,e5,eS⟩:=hv5 _ _ rfl
   obtain ⟨j4,e4,eB⟩:=hv4 _ _ e5
   obtain ⟨j3,e3,eD⟩:=hv3 _ _ e4
   obtain ⟨j2,e2,eA⟩:=hv2 _ _ e3
   obtain ⟨j1,e1,eN⟩:=hv1 _ _ e2
   have En:=unhide En
   have Ea:=unhide Ea
   have Eb:=unhide Eb
   rw [eN] at En
   rw [eA] at Ea
   rw [eB] at Eb
   obtain ⟨rfl,rfl,rfl,rfl,rfl⟩:=tkV_inj En
   obtain ⟨rfl,rfl,rfl,rfl,rfl⟩:=tkV_inj Ea
   obtain ⟨rfl,rfl,rfl,rfl,rfl⟩:=tkV_inj Eb
   rw [eS] at h9
   refine ⟨st,.inr (.inr (.inl ⟨rfl,_,rfl,h9.2.later (fun k hk hl=>?_) (fun k hk _=>?_)⟩))⟩
   ·have hk:w8.heap.size≤k:=hk
    exact hW k (by omega) (by omega)
   ·have hk:w8.heap.size≤k:=hk
    show w.heap.size≤k
    omega
 have nx1:w.heap.size≠w2.heap.size:=by omega
 clear h9 K9 HR En Ea Eb u9 q9
 go_wp2
 refine bodyPost_ret (v:=.agg #[.int .i64 n0,.int .i64 n1,.string n2,.int .i32 n3,.int .i32 n4,.int .i64 a0,.int .i64 a1,.string a2,.int .i32 a3,.int .i32 a4,.int .i64 b0,.int .i64 b1,.string b2,.int .i32 b3,.int .i32 b4,.slice ao al ac]) (by simp [results,Tryz.results115,go_sem,q9c0,q9c1,q9c2,q9c3,q9c4,q9c5,q9c6,q9c7,q9c8,q9c9,q9c10,q9c11,q9c12,q9c13,q9c14,q9c15]) rfl ?_
 refine fin _ ?_ (by simp) (fun k hk hk2=>?_)
 ·iterate 17 (refine Same.set ?_ _ _)
  exact Same.refl _
 iterate 16 (refine (Below.heap_setCell _ _ _ _ hk).trans ?_)
 exact Below.heap_setCell _ _ _ _ hk2
theorem pElse_no {B:PS} {T:List Tok} {i j:Nat} {e:Ex} {s:Sx} (h:isT T j sELSE=false):pElse B T i e s j=got (.node 0 0 ⟨1,tkAt T i,noTok,noTok,e⟩ (.node 0 0 ⟨5,noTok,noTok,noTok,.nil⟩ s .nil) .nil) j:=by
 unfold pElse
 rw [h]
 rfl
set_option maxHeartbeats 16000000 in
theorem pchoice_any {X:PE} {B:PS} (hX:ParsesE 130 X) (hB:ParsesL 131 B):ParsesS 114 124 (fun T i=>isT T i sIF=true) (pIf X B):=by
 intro w pb tb cap i T f pl r hT h hif hr
 have hp:=h.plt
 have hlow:=h.low
 have hi1:=isT_next hT.last h.lt hif
 unfold pIf at hr
 obtain ⟨rX,r1,hX1,hst1,hv1,hr1⟩:=seq_split (r1:=.ok ((),i+1)) (show seqR (.ok ((),i+1)) (fun _ j=>andThen (X T j) fun e j=>andThen (B T j) fun s j=>pElse B T i e s j)=some r from hr)
 obtain ⟨rT,r2,hT2,hst2,hv2,hr2⟩:=seq_split (show seqR r1 (fun ab j=>andThen (B T j) fun s j=>pElse B T i ab.2 s j)=some r from hr1)
 have HR2:=hide (show seqR r2 (fun ab j=>pElse B T i ab.1.2 ab.2 j)=some r from hr2)
 have HX1:=hide hX1
 have HT2:=hide hT2
 have HST1:=hide hst1
 have HST2:=hide hst2
 have HV:=hide (And.intro hv1 hv2)
 clear hr hr1 hr2 hX1 hT2 hst1 hst2 hv1 hv2 hif
 go_enter Tryz.func114,Tryz.ntmps114
 go_wp2_with fail
 refine (take_any _ pb tb cap i T f pl (h.alloc _) hi1).mono ?_
 rintro e w1 ⟨rfl,h1,k1⟩
 have q1:w1.heap[w.heap.size]?=some (.cells #[.int .i64 0,.int .i64 0,.string ⟨#[]⟩,.int .i32 0,.int .i32 0,.int .i64 0,.int .i64 0,.string ⟨#[]⟩,.int .i32 0,.int .i32 0,.slice none 0 0,.slice none 0 0,.slice none 0 0] 124 (0,0)):=(k1.2 _ (by simp) (by omega)).trans (heap_alloc_new w _)
 have K1:=(Kept.alloc pb w _).trans k1
 have lt1:w.heap.size < w1.heap.size:=(Array.getElem?_eq_some_iff.1 q1).1
 clear h k1
 unfold tokP tkV
 go_wp2_with fail
 obtain ⟨w2,hw2⟩:∃w2,w1.alloc (.cells #[.int .i64 (kP (tkAt T i)),.int .i64 (tkAt T i).place,.string (wP (tkAt T i)),.int .i32 (nP (tkAt T i)),.int .i32 (sP (tkAt T i)),.int .i64 0,.int .i64 0,.string ⟨#[]⟩,.int .i32 0,.int .i32 0,.slice none 0 0,.slice none 0 0,.slice none 0 0] 124)=w2:=⟨_,rfl⟩
 rw [hw2]
 have u2:w2.heap[w1.heap.size]?=some (.cells #[.int .i64 (kP (tkAt T i)),.int .i64 (tkAt T i).place,.string (wP (tkAt T i)),.int .i32 (nP (tkAt T i)),.int .i32 (sP (tkAt T i)),.int .i64 0,.int .i64 0,.string ⟨#[]⟩,.int .i32 0,.int .i32 0,.slice none 0 0,.slice none 0 0,.slice none 0 0] 124 (0,0)):=by rw [←hw2];exact heap_alloc_new w1 _
 have q2:w2.heap[w.heap.size]?=some (.cells #[.int .i64 0,.int .i64 0,.string ⟨#[]⟩,.int .i32 0,.int .i32 0,.int .i64 0,.int .i64 0,.string ⟨#[]⟩,.int .i32 0,.int .i32 0,.slice none 0 0,.slice none 0 0,.slice none 0 0] 124 (0,0)):=by rw [←hw2];exact (Below.heap_alloc w1 _ _ lt1).trans q1
 have h2:StAt w2 pb tb cap T f pl (.ok ((),i+1)):=by rw [←hw2];exact h1.alloc _
 have K2:Kept pb w w2:=by rw [←hw2];exact K1.trans (Kept.alloc pb w1 _)
 have lt2:w1.heap.size < w2.heap.size:=(Array.getElem?_eq_some_iff.1 u2).1
 clear h1 q1 K1 hw2
 refine (expr_seq hX hT _ pb tb cap f pl h2 (unhide HX1)).mono ?_
 rintro e w3 ⟨k3,a0,a1,a2,a3,a4,ao,al,ac,rfl,h3⟩
 have u3:=(k3.2 _ lt2 (by omega)).trans u2
 have q3:=(k3.2 _ (by omega) (by omega)).trans q2
 have K3:=K2.trans k3
 have lt3:=k3.1
 clear h2 q2 u2 K2 k3
 obtain ⟨⟨u3c0,u3c1,u3c2,u3c3,u3c4,u3c5,u3c6,u3c7,u3c8,u3c9,u3c10,u3c11,u3c12⟩,u3z0,u3z1,u3z2,u3z3,u3z4,u3z5,u3z6,u3z7,u3z8,u3z9,u3z10,u3z11,u3z12⟩:=bk13 u3
 unfold exW
 go_wp2_with fail
 obtain ⟨w4,hw4⟩:∃w4,(((((w3.setCell ⟨w1.heap.size,5,none⟩ (.int .i64 a0)).setCell ⟨w1.heap.size,6,none⟩ (.int .i64 a1)).setCell ⟨w1.heap.size,7,none⟩ (.string a2)).setCell ⟨w1.heap.size,8,none⟩ (.int .i32 a3)).setCell ⟨w1.heap.size,9,none⟩ (.int .i32 a4)).setCell ⟨w1.heap.size,10,none⟩ (.slice ao al ac)=w4:=⟨_,rfl⟩
 rw [hw4]
 have o4:∀k,k≠w1.heap.size→w4.heap[k]?=w3.heap[k]?:=fun k hk=>by
  rw [←hw4]
  iterate 6 (refine (Below.heap_setCell _ _ _ _ hk).trans ?_)
  rfl
 have z4:w4.heap.size=w3.heap.size:=by rw [←hw4];simp
 have sm4:Same w3 w4:=by
  rw [←hw4]
  iterate 6 (refine Same.set ?_ _ _)
  exact Same.refl _
 have u4:w4.heap[w1.heap.size]?=some (.cells #[.int .i64 (kP (tkAt T i)),.int .i64 (tkAt T i).place,.string (wP (tkAt T i)),.int .i32 (nP (tkAt T i)),.int .i32 (sP (tkAt T i)),.int .i64 a0,.int .i64 a1,.string a2,.int .i32 a3,.int .i32 a4,.slice ao al ac,.slice none 0 0,.slice none 0 0] 124 (0,0)):=by rw [←hw4];exact (heap_setCell_same _ w1.heap.size 10 _ _ _ (heap_setCell_same _ w1.heap.size 9 _ _ _ (heap_setCell_same _ w1.heap.size 8 _ _ _ (heap_setCell_same _ w1.heap.size 7 _ _ _ (heap_setCell_same _ w1.heap.size 6 _ _ _ (heap_setCell_same _ w1.heap.size 5 _ _ _ u3))))))
 have q4:=(o4 _ (by omega)).trans q3
 have h4:StAt w4 pb tb cap T f pl r1:=StAt.two (unhide HST1 _ _ _ _ _ _ _ (ERes.st h3)) (fun k hk=>o4 k (by omega))
 have K4:Kept pb w w4:=⟨by have:=K3.1;omega,fun k hk hn=>(o4 k (by omega)).trans (K3.2 k hk hn),K3.same.trans sm4⟩
 have O4:=hide o4
 clear hw4 u3c0 u3c1 u3c2 u3c3 u3c4 u3c5 u3c6 u3c7 u3c8 u3c9 u3c10 u3c11 u3c12 u3z0 u3z1 u3z2 u3z3 u3z4 u3z5 u3z6 u3z7 u3z8 u3z9 u3z10 u3z11 u3z12 u3 q3 K3 o4
 refine (block_seq hB hT _ pb tb cap f pl h4 (unhide HT2)).mono ?_
 rintro e w5 ⟨k5,to,tl,tc,rfl,h5⟩
 have u5:=(k5.2 _ (by omega) (by omega)).trans u4
 have q5:=(k5.2 _ (by omega) (by omega)).trans q4
 have K5:=K4.trans k5
 have lt5:=k5.1
 clear h4 q4 u4 K4
 obtain ⟨⟨u5c0,u5c1,u5c2,u5c3,u5c4,u5c5,u5c6,u5c7,u5c8,u5c9,u5c10,u5c11,u5c12⟩,u5z0,u5z1,u5z2,u5z3,u5z4,u5z5,u5z6,u5z7,u5z8,u5z9,u5z10,u5z11,u5z12⟩:=bk13 u5
 go_wp2_with fail
 obtain ⟨w6,hw6⟩:∃w6,w5.setCell ⟨w1.heap.size,11,none⟩ (.slice to tl tc)=w6:=⟨_,rfl⟩
 rw [hw6]
 have o6:∀k,k≠w1.heap.size→w6.heap[k]?=w5.heap[k]?:=fun k hk=>by
  rw [←hw6]
  iterate 1 (refine (Below.heap_setCell _ _ _ _ hk).trans ?_)
  rfl
 have z6:w6.heap.size=w5.heap.size:=by rw [←hw6];simp
 have sm6:Same w5 w6:=by
  rw [←hw6]
  iterate 1 (refine Same.set ?_ _ _)
  exact Same.refl _
 have u6:w6.heap[w1.heap.size]?=some (.cells #[.int .i64 (kP (tkAt T i)),.int .i64 (tkAt T i).place,.string (wP (tkAt T i)),.int .i32 (nP (tkAt T i)),.int .i32 (sP (tkAt T i)),.int .i64 a0,.int .i64 a1,.string a2,.int .i32 a3,.int .i32 a4,.slice ao al ac,.slice to tl tc,.slice none 0 0] 124 (0,0)):=by rw [←hw6];exact (heap_setCell_same _ w1.heap.size 11 _ _ _ u5)
 have q6:=(o6 _ (by omega)).trans q5
 have h6:StAt w6 pb tb cap T f pl r2:=StAt.two (unhide HST2 _ _ _ _ _ _ _ h5.st) (fun k hk=>o6 k (by omega))
 have K6:Kept pb w w6:=⟨by have:=K5.1;omega,fun k hk hn=>(o6 k (by omega)).trans (K5.2 k hk hn),K5.same.trans sm6⟩
 have rep6:∀W:World,(∀k,k≠w.heap.size→k≠w1.heap.size→k≠pb→k < w6.heap.size→W.heap[k]?=w6.heap[k]?)→∀e s j u,r2 = .ok (((u,e),s),j)→(∃x k sv,HeadE e x k∧exV x sv=exW a0 a1 a2 a3 a4 (.slice ao al ac)∧RepK W (fun g=>w.heap.size≤g) sv k)∧RepL W (fun g=>w.heap.size≤g) (.slice to tl tc) s:=by
  intro W hW e s j u er
  obtain ⟨hv1,hv2⟩:=unhide HV
  obtain ⟨j2,e1,eT⟩:=hv2 _ _ er
  obtain ⟨j1,_,eX⟩:=hv1 _ _ e1
  rw [eT] at h5
  rw [eX] at h3
  constructor
  ·obtain ⟨b,o,t,k,rr,sv,he,hv,hk⟩:=h3.2
   refine ⟨t,k,sv,⟨b,o,rr,he⟩,hv.symm,hk.later (fun k hk hl=>?_) (fun k hk _=>?_)⟩
   ·have hk:w2.heap.size≤k:=hk
    exact (hW k (by omega) (by omega) (by omega) (by omega)).trans ((o6 k (by omega)).trans ((k5.2 k (by omega) (by omega)).trans (unhide O4 k (by omega))))
   ·have hk:w2.heap.size≤k:=hk
    show w.heap.size≤k
    omega
  ·refine h5.2.later (fun k hk hl=>?_) (fun k hk _=>?_)
   ·have hk:w4.heap.size≤k:=hk
    exact (hW k (by omega) (by omega) (by omega) (by omega)).trans (o6 k (by omega))
   ·have hk:w4.heap.size≤k:=hk
    show w.heap.size≤k
    omega
 have REP6:=hide rep6
 clear hw6 u5c0 u5c1 u5c2 u5c3 u5c4 u5c5 u5c6 u5c7 u5c8 u5c9 u5c10 u5c11 u5c12 u5z0 u5z1 u5z2 u5z3 u5z4 u5z5 u5z6 u5z7 u5z8 u5z9 u5z10 u5z11 u5z12 u5 q5 K5 o6 k5 h3 h5 rep6 O4
 obtain ⟨i',f',pl',hps,hdead⟩:∃i' f' pl',PsAt w6 pb tb cap T i' f' pl'∧((∃a,r2 = .ok (a,i')∧f'=f∧pl'=pl)∨(∃x,i'=T.length-1∧r2 = .error x∧f'=badF f∧pl'=badP f pl (tkAt T x).place)):=by
  cases r2 with
  | error x=>exact ⟨_,_,_,h6,.inr ⟨x,rfl,rfl,rfl,rfl⟩⟩
  | ok p=>exact ⟨p.2,f,pl,h6,.inl ⟨p.1,rfl,rfl,rfl⟩⟩
 refine (next_any w6 pb tb cap i' T f' pl' hps).mono ?_
 rintro e w7 ⟨rfl,hb7⟩
 unfold tokP tkV
 go_wp2_with fail
 refine (isWord_any _ (kP (tkAt T i')) (tkAt T i').place (nP (tkAt T i')) (sP (tkAt T i')) (wP (tkAt T i')) w7.heap.size 0 1 [sELSE] (strs_new w7 [sELSE]) (by simp)).mono ?_
 rintro e w8 ⟨rfl,hb8⟩
 have B8:Below w6.heap.size w6 w8:=(hb7.alloc hb7.size _).trans (hb8.mono (by have:=hb7.size;simp;omega))
 have es:((kP (tkAt T i')==2)&&[sELSE].any (fun t=>(wP (tkAt T i')).toList==t.toList))=[sELSE].any (isT T i'):=wd_is hT i' (fun s hs=>kw_ok s (by simp only [List.mem_cons,List.not_mem_nil,or_false] at hs;subst hs;simp))
 have es2:[sELSE].any (isT T i')=isT T i' sELSE:=by simp
 rw [es,es2]
 have u8:=(B8.block _ (by omega)).trans u6
 have q8:=(B8.block _ (by omega)).trans q6
 have K8:=K6.trans (Kept.below B8)
 have hps8:=hps.below B8 (Nat.le_refl _)
 have h8:=StAt.later h6 (fun k hk=>B8.block k hk)
 have sz8:=B8.size
 clear es es2 hb7 hb8 q6 u6 K6 hps h6
 cases hel:isT T i' sELSE
 ·skip
  have fin:∀W:World,Same w8 W→w8.heap.size≤W.heap.size→(∀k,k≠w.heap.size→k≠w1.heap.size→W.heap[k]?=w8.heap[k]?)→SOut 124 w pb tb cap T f pl r (.returned (.agg #[.int .i64 (kP (tkAt T i)),.int .i64 (tkAt T i).place,.string (wP (tkAt T i)),.int .i32 (nP (tkAt T i)),.int .i32 (sP (tkAt T i)),.int .i64 a0,.int .i64 a1,.string a2,.int .i32 a3,.int .i32 a4,.slice ao al ac,.slice to tl tc,.slice none 0 0])) W:=by
   intro W hsame hs hW
   refine ⟨⟨by have:=K8.1;omega,fun k hk hn=>(hW k (by omega) (by omega)).trans (K8.2 k hk hn),K8.same.trans hsame⟩,_,rfl,?_⟩
   have hr:=unhide HR2
   rcases hdead with ⟨a,rfl,rfl,rfl⟩ | ⟨x,rfl,rfl,rfl,rfl⟩
   ·obtain ⟨⟨u,e⟩,s⟩:=a
    have hr:pElse B T i e s i'=some r:=hr
    rw [pElse_no hel] at hr
    cases hr
    obtain ⟨⟨x,k,sv,h1,h2,h3⟩,h4⟩:=unhide REP6 W (fun k a b c d=>(hW k a b).trans (B8.block k d)) e s i' u rfl
    obtain ⟨rfl,rfl,rfl,rfl,rfl,rfl⟩:=exW_inj h2.symm
    refine ⟨StAt.two (r:=.ok (((u,e),s),i')) h8 (fun k hk=>hW k (by omega) (by omega)),.inr (.inl ⟨rfl,x,k,_,_,_,h1,rfl,h3,h4,.inl ⟨rfl,_,_,rfl⟩⟩)⟩
   ·cases hr
    exact StAt.two (r:=.error x) (α:=Sx) h8 (fun k hk=>hW k (by omega) (by omega))
  have HD8:=hide hdead
  obtain ⟨⟨u8c0,u8c1,u8c2,u8c3,u8c4,u8c5,u8c6,u8c7,u8c8,u8c9,u8c10,u8c11,u8c12⟩,u8z0,u8z1,u8z2,u8z3,u8z4,u8z5,u8z6,u8z7,u8z8,u8z9,u8z10,u8z11,u8z12⟩:=bk13 u8
  obtain ⟨⟨q8c0,q8c1,q8c2,q8c3,q8c4,q8c5,q8c6,q8c7,q8c8,q8c9,q8c10,q8c11,q8c12⟩,q8z0,q8z1,q8z2,q8z3,q8z4,q8z5,q8z6,q8z7,q8z8,q8z9,q8z10,q8z11,q8z12⟩:=bk13 q8
  have nx1:w.heap.size≠w1.heap.size:=by omega
  clear hps8 h8 hdead B8
  clear K8 u8 q8 HR2 REP6 HV
  go_wp2
  refine bodyPost_ret (v:=.agg #[.int .i64 (kP (tkAt T i)),.int .i64 (tkAt T i).place,.string (wP (tkAt T i)),.int .i32 (nP (tkAt T i)),.int .i32 (sP (tkAt T i)),.int .i64 a0,.int .i64 a1,.string a2,.int .i32 a3,.int .i32 a4,.slice ao al ac,.slice to tl tc,.slice none 0 0]) (by simp [results,Tryz.results114,go_sem,q8c0,q8c1,q8c2,q8c3,q8c4,q8c5,q8c6,q8c7,q8c8,q8c9,q8c10,q8c11,q8c12]) rfl ?_
  refine fin _ ?_ (by simp) (fun k hk hk2=>?_)
  ·iterate 13 (refine Same.set ?_ _ _)
   exact Same.refl _
  iterate 13 (refine (Below.heap_setCell _ _ _ _ hk).trans ?_)
  rfl
 ·skip
  obtain ⟨a,hcur⟩:∃a,r2 = .ok (a,i')∧f'=f∧pl'=pl:=by
   rcases hdead with hd | ⟨x,rfl,_⟩
   ·exact hd
   ·rw [over_is hT.last] at hel;cases hel
  obtain ⟨e2',rfl,rfl⟩:=hcur
  subst e2'
  obtain ⟨⟨u,e⟩,s⟩:=a
  have hi2:=isT_next hT.last hps8.lt hel
  have hr:=unhide HR2
  have hr:pElse B T i e s i'=some r:=hr
  unfold pElse at hr
  rw [hel,if_pos rfl] at hr
  obtain ⟨rE,r3,hE,hst3,hv3,hr3⟩:=seq_split (r1:=.ok ((),i'+1)) (show seqR (.ok ((),i'+1)) (fun _ j=>andThen (B T j) fun u k=>got (.node 0 0 ⟨1,tkAt T i,noTok,noTok,e⟩ (.node 0 0 ⟨5,noTok,noTok,noTok,.nil⟩ s u) .nil:Sx) k)=some r from hr)
  have HR3:=hide (seq_got (g:=fun (ab:Unit×Sx)=>(.node 0 0 ⟨1,tkAt T i,noTok,noTok,e⟩ (.node 0 0 ⟨5,noTok,noTok,noTok,.nil⟩ s ab.2) .nil:Sx)) hr3)
  have HE:=hide hE
  have HST3:=hide hst3
  have HV3:=hide hv3
  clear hr hr3 hE hst3 hv3 hdead HR2 h8
  go_wp2_with fail
  refine (take_any w8 pb tb cap i' T f' pl' hps8 hi2).mono ?_
  rintro e9 w9 ⟨rfl,h9,k9⟩
  have u9:=(k9.2 _ (by omega) (by omega)).trans u8
  have q9:=(k9.2 _ (by omega) (by omega)).trans q8
  have K9:=K8.trans k9
  have lt9:=k9.1
  have REP9:∀W:World,(∀k,k≠w.heap.size→k≠w1.heap.size→k≠pb→k < w9.heap.size→W.heap[k]?=w9.heap[k]?)→_:=fun W hW=>unhide REP6 W (fun k a b c d=>(hW k a b c (by omega)).trans ((k9.2 k (by omega) c).trans (B8.block k d)))
  have REP9:=hide REP9
  clear hps8 u8 q8 K8 k9 B8 REP6
  unfold tokP tkV
  go_wp2_with fail
  refine (block_seq hB hT _ pb tb cap f' pl' (r1:=.ok ((),i'+1)) (show StAt _ pb tb cap T f' pl' (.ok ((),i'+1)) from h9) (unhide HE)).mono ?_
  rintro e10 w10 ⟨k10,bo,bl,bc,rfl,h10⟩
  have u10:=(k10.2 _ (by omega) (by omega)).trans u9
  have q10:=(k10.2 _ (by omega) (by omega)).trans q9
  have K10:=K9.trans k10
  have lt10:=k10.1
  clear h9 u9 q9 K9
  have fin:∀W:World,Same w10 W→w10.heap.size≤W.heap.size→(∀k,k≠w.heap.size→k≠w1.heap.size→W.heap[k]?=w10.heap[k]?)→SOut 124 w pb tb cap T f' pl' r (.returned (.agg #[.int .i64 (kP (tkAt T i)),.int .i64 (tkAt T i).place,.string (wP (tkAt T i)),.int .i32 (nP (tkAt T i)),.int .i32 (sP (tkAt T i)),.int .i64 a0,.int .i64 a1,.string a2,.int .i32 a3,.int .i32 a4,.slice ao al ac,.slice to tl tc,.slice bo bl bc])) W:=by
   intro W hsame hs hW
   refine ⟨⟨by have:=K10.1;omega,fun k hk hn=>(hW k (by omega) (by omega)).trans (K10.2 k hk hn),K10.same.trans hsame⟩,_,rfl,?_⟩
   have st:=StAt.mapR (StAt.two (unhide HST3 _ _ _ _ _ _ _ h10.st) (fun k hk=>hW k (by omega) (by omega))) (fun (ab:Unit×Sx)=>(.node 0 0 ⟨1,tkAt T i,noTok,noTok,e⟩ (.node 0 0 ⟨5,noTok,noTok,noTok,.nil⟩ s ab.2) .nil:Sx))
   have hr4:=unhide HR3
   subst hr4
   cases r3 with
   | error y=>exact st
   | ok q=>
    obtain ⟨⟨u2,s2⟩,j⟩:=q
    obtain ⟨j3,_,eE⟩:=unhide HV3 _ _ rfl
    rw [eE] at h10
    obtain ⟨⟨x,k,sv,h1,h2,h3⟩,h4⟩:=unhide REP9 W (fun k a b c d=>(hW k a b).trans (k10.2 k d c)) e s i' u rfl
    obtain ⟨rfl,rfl,rfl,rfl,rfl,rfl⟩:=exW_inj h2.symm
    refine ⟨st,.inr (.inl ⟨rfl,x,k,_,_,_,h1,rfl,h3,h4,h10.2.later (fun k hk hl=>?_) (fun k hk _=>?_)⟩)⟩
    ·have hk:w9.heap.size≤k:=hk
     exact hW k (by omega) (by omega)
    ·have hk:w9.heap.size≤k:=hk
     show w.heap.size≤k
     omega
  obtain ⟨⟨u10c0,u10c1,u10c2,u10c3,u10c4,u10c5,u10c6,u10c7,u10c8,u10c9,u10c10,u10c11,u10c12⟩,u10z0,u10z1,u10z2,u10z3,u10z4,u10z5,u10z6,u10z7,u10z8,u10z9,u10z10,u10z11,u10z12⟩:=bk13 u10
  obtain ⟨⟨q10c0,q10c1,q10c2,q10c3,q10c4,q10c5,q10c6,q10c7,q10c8,q10c9,q10c10,q10c11,q10c12⟩,q10z0,q10z1,q10z2,q10z3,q10z4,q10z5,q10z6,q10z7,q10z8,q10z9,q10z10,q10z11,q10z12⟩:=bk13 q10
  have nx1:w.heap.size≠w1.heap.size:=by omega
  clear h10 k10
  clear K10 u10 q10 HR3 REP9 HV HV3
  go_wp2
  refine bodyPost_ret (v:=.agg #[.int .i64 (kP (tkAt T i)),.int .i64 (tkAt T i).place,.string (wP (tkAt T i)),.int .i32 (nP (tkAt T i)),.int .i32 (sP (tkAt T i)),.int .i64 a0,.int .i64 a1,.string a2,.int .i32 a3,.int .i32 a4,.slice ao al ac,.slice to tl tc,.slice bo bl bc]) (by simp [results,Tryz.results114,go_sem,q10c0,q10c1,q10c2,q10c3,q10c4,q10c5,q10c6,q10c7,q10c8,q10c9,q10c10,q10c11,q10c12]) rfl ?_
  refine fin _ ?_ (by simp) (fun k hk hk2=>?_)
  ·iterate 14 (refine Same.set ?_ _ _)
   exact Same.refl _
  iterate 13 (refine (Below.heap_setCell _ _ _ _ hk).trans ?_)
  exact Below.heap_setCell _ _ _ _ hk2
theorem call_all (X:PE) (hX:ParsesE 130 X):CallOK (pTwo X sBO sBC) 91 93 2∧CallOK (pTwo X sPO sPC) 40 41 2∧CallOK (pThree X sPO sPC) 40 41 3:=
 ⟨pcall_any hX sBO sBC 91 93 mem_sg.2.2.1 rune_BO mem_sg.2.2.2.1 rune_BC 2 (by decide) (by decide) (fun T i=>pTwo_args X sBO sBC T i),
  pcall_any hX sPO sPC 40 41 mem_sg.1 rune_PO mem_sg.2.1 rune_PC 2 (by decide) (by decide) (fun T i=>pTwo_args X sPO sPC T i),
  pcall_any hX sPO sPC 40 41 mem_sg.1 rune_PO mem_sg.2.1 rune_PC 3 (by decide) (by decide) (fun T i=>pThree_args X sPO sPC T i)⟩
theorem pXF_any (n:Nat):ParsesE 130 (pXF n).1∧ParsesE 149 (pXF n).2:=pXF_parses (fun X hX _=>call_all X hX) n
theorem pSB_bad (n:Nat) {T:List Tok} (i:Nat) (h:startsT T i=false):(pSB n).1 T i=bad i∨(pSB n).1 T i=none:=by
 cases n with
 | zero=>exact .inr rfl
 | succ n=>
  rw [pSB]
  split
  ·exact .inr rfl
  ·exact .inl (by rw [←S5_is];exact S5_bad i h)
theorem noS_sts (m:Nat) (hm:m≤100000):ParsesL 88 (pSts noS m):=by
 intro w pb tb cap i T f pl r hT h hr
 refine pstatements_any (noS_parses _ _ _) (noS_parses _ _ _) (noS_parses _ _ _) (noS_parses _ _ _) (noS_parses _ _ _) m hm w pb tb cap i T f pl r hT h ?_
 cases m with
 | zero=>cases hr
 | succ m=>
  unfold pSts at hr ⊢
  rw [pStL] at hr ⊢
  split at hr
  ·cases hr
  ·rename_i hs;rw [if_neg hs];exact hr
theorem pSB_any (n:Nat) (hn:n≤100000):ParsesL 131 (pSB n).2∧(∀m,m≤100000→ParsesL 88 (pSts (pSB n).1 m)):=by
 induction n with
 | zero=>exact ⟨fun _ _ _ _ _ _ _ _ _ _ _ h=>by (cases h),fun m hm=>noS_sts m hm⟩
 | succ n ih=>
  have ih:=ih (by omega)
  rw [pSB]
  split
  ·exact ⟨fun _ _ _ _ _ _ _ _ _ _ _ h=>by (cases h),fun m hm=>noS_sts m hm⟩
  constructor
  ·intro w pb tb cap i T f pl r hT h hr
   dsimp only at hr
   unfold pBlock at hr
   split at hr
   ·cases hr
   ·refine pblock_any (ih.2 (n-1) (by omega)) w pb tb cap i T f pl r hT h ?_
    unfold pBlk
    obtain ⟨r1,e1⟩:=need_some T sCO i
    rw [e1] at hr ⊢
    cases r1 with
    | error x=>exact hr
    | ok q=>obtain ⟨_,j⟩:=q;exact items_are (fun i hi=>pSB_bad n i hi) hr
  ·intro m hm
   dsimp only
   rw [←S5_is]
   have hX:=(pXF_any n).1
   exact pstatements_any (passign_any hX) (pchoice_any hX ih.1) (ploop_any ih.1) (pput_any hX 3 (.inl rfl)) (pput_any hX 4 (.inr rfl)) m hm
end Go.Proofs.YthmmgiaobakilaaGreat
