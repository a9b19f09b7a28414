import Derived.Test.YthmmgiaobakilaaGreatJ08
set_option maxRecDepth 100000
set_option maxHeartbeats 8000000
set_option linter.all false
namespace Go.Proofs.YthmmgiaobakilaaGreat
open Go.RowKit Go.Deep
variable {B P S:PS} {Q:Nat->Prop} {T:List aH} {cap i pb tb:Nat} {cs:List Value} {cur fin:Except Nat (List Sx×Nat)} {f pl:Int} {r:Except Nat (Sx×Nat)} {so:Option Addr} {v:Value}
theorem YI {k i':Nat} {f' pl':Int} {w0 wr wz:World} {sl sc:Nat}
  (K:aB pb w0 wr) (own:wr.ownsRow w0.heap.size 113 1 (.slice so sl sc) cs.length cs)
  (hst:cK wr pb tb cap T f pl cur) (hex:∀acc j,cur=.ok (acc,j)->pQ wr (λg=>w0.heap.size<=g/\Qw so sl sc≠some g) cs acc) (hpa:jF cur (λacc j=>oh S T k acc j)=some fin)
  (hd:(∃acc,cur=.ok (acc,i')/\f'=f/\pl'=pl)∨(∃x,i'=T.length-1/\cur=.error x/\f'=mo f/\pl'=nY f pl (ah T x).place)) (hns:dZ T i'=false) (B:Below wr.heap.size wr wz) :
  OE w0 pb tb cap T f pl (mapR Fp fin) (.returned (.slice so sl sc)) wz:=by
 refine⟨K.trans (aB.below B),so,sl,sc,rfl,?_⟩;have hst2:=hst.later (λk hk=>B.block k hk);rcases hd with⟨acc,rfl,_,_⟩|⟨x,_,rfl,_,_⟩
 .cases k with
  | zero=>cases hpa
  | succ k=>
   have hpa:oh S T (k+1) acc i'=some fin:=hpa;rw[oh,hns,ae (by simp)]at hpa
   cases hpa;refine⟨hst2,?_⟩;have ex:=hex acc i' rfl;have ex2:pQ wz (λg=>w0.heap.size<=g) cs acc:=pQ.later (λk hk hl=>B.block k hl) (λk hk _=>hk.1) acc cs ex;have own2:=bH own (w':=wz) (λk hk=>B.block k (own.lt k hk).2);have ll:=ex2.len;have hls:=pQ.lenS acc cs ex2;by_cases hz:cs.length=0
   .have:acc=[]:=xN.1 (by omega);subst this;refine .inl ⟨rfl,?_⟩;rcases own.2 with⟨e,_⟩|⟨g,c,_,e,_⟩
    .rw[e];exact⟨_,_,rfl⟩
    .rw[e,hz];exact⟨_,_,rfl⟩
   .obtain⟨g,c,e,hg,hg2⟩:=own2.form (by omega);refine .inr ⟨?_,g,c,by rw[e,hls,ll],hg,?_⟩
    .intro e0;rw[e0]at hls;have:lenS .nil=0:=rfl;omega
    .rw[e]at own2;refine pQ.rep cs (λk hk=>?_) acc cs 0 rfl ex2;exact(own2.cellAt k (by omega)).trans (aU hk)
 .cases hpa;exact hst2
theorem uG {PA PC PL PO PH:PS} (hA:tN 113 121 (λT i=>(ah T i).kind=1) PA) (hC:tN 114 124 (λT i=>bJ T i JG=true) PC)
  (hL:tN 115 127 (λT i=>bJ T i xZ=true) PL) (hO:tN 116 130 (λT i=>i+1<T.length) PO) (hH:tN 116 130 (λT i=>i+1<T.length) PH)
  (n:Nat) (hn:n<=100000):tT 88 (Fe (S5 PA PC PL PO PH) n):=by
 intro w pb tb cap i T f pl r hT h hr;have hp:=h.plt;have hlow:=h.low;unfold Fe at hr;obtain⟨fin,hfin,hre⟩:=KD (r1:=.ok ((),i)) (P:=λj=>oh (S5 PA PC PL PO PH) T n [] j) (g:=Fp) hr;subst hre;have hfin:oh (S5 PA PC PL PO PH) T n [] i=some fin:=hfin;obtain⟨i0,hi0,hz0,hz1,hz2⟩:=dG ZC;have inv0:Wh (S5 PA PC PL PO PH) T pb tb cap f pl fin n w n (.slice none 0 0) w:=⟨[],none,0,0,rfl,by simp,aB.refl _ _,fD _ _ _ _,.ok ([],i),h,(by intro acc j e;cases e;rfl),hfin⟩;clear h hr hfin;go_enter Tryz.func88,Tryz.ntmps88;go_wp2
 go_loopg [3] n (λk v wr=>Wh (S5 PA PC PL PO PH) T pb tb cap f pl fin n w k v wr)
 case atStart=>exact inv0
 case round=>
 clear inv0;obtain⟨cs,so,sl,sc,rfl,hcl,kw,own,cur,hst,hex,hpa⟩:=hrel;obtain⟨i',f',pl',hps,hdead⟩:∃i' f' pl',bg wr pb tb cap T i' f' pl'/\((∃acc,cur=.ok (acc,i')/\f'=f/\pl'=pl)∨(∃x,i'=T.length-1/\cur=.error x/\f'=mo f/\pl'=nY f pl (ah T x).place)):=by
  cases cur with
  | error x=>exact⟨_,_,_,hst,.inr ⟨x,rfl,rfl,rfl,rfl⟩⟩
  | ok p=>exact⟨p.2,f,pl,hst,.inl ⟨p.1,rfl,rfl,rfl⟩⟩
 go_wp2_with fail;refine(dM wr pb tb cap i' T f' pl' hps).mono ?_;rintro e w2 ⟨rfl,hb2⟩;obtain⟨w3,hw3⟩:∃w3,w2.alloc (.cells #[.int .i64 (kP (ah T i')),.int .i64 (ah T i').place,.string (wP (ah T i')),.int .i32 (nP (ah T i')),.int .i32 (sP (ah T i'))] 116)=w3:=⟨_,rfl⟩;have s3:w3.heap[w2.heap.size]?=some (.cells #[.int .i64 (kP (ah T i')),.int .i64 (ah T i').place,.string (wP (ah T i')),.int .i32 (nP (ah T i')),.int .i32 (sP (ah T i'))] 116 (0,0)):=by rw[<-hw3];exact aA w2 _
 have B3w:Below wr.heap.size wr w3:=by rw[<-hw3];exact hb2.alloc hb2.size _
 have lt3:w2.heap.size<w3.heap.size:=(az.1 s3).1;obtain⟨⟨g30,g31,g32,g33,g34⟩,_⟩:=kE s3;clear hb2;unfold jC pE;go_wp2_with fail;clear hw3;refine(gG _ (kP (ah T i')) (ah T i').place (nP (ah T i')) (sP (ah T i')) (wP (ah T i'))).mono ?_;rintro e w4 ⟨rfl,B4⟩;have es:((kP (ah T i')==2) && !uS.any (λt=>(wP (ah T i')).toList==t.toList))=Ow T i':=rfl;rw[es];clear es;have s4:=(B4.block _ (by omega)).trans s3;have lt4:w2.heap.size<w4.heap.size:=(az.1 s4).1;have B4w:=B3w.trans (B4.mono B3w.size);obtain⟨⟨g40,g41,g42,g43,g44⟩,_⟩:=kE s4;clear s3 B4 B3w g30 g31 g32 g33 g34
 cases hnm:Ow T i'
 rotate_left
 .have hk1:(ah T i').kind=1:=by rw[wE hT]at hnm;simpa using hnm
  obtain⟨acc,hcur⟩:∃acc,cur=.ok (acc,i')/\f'=f/\pl'=pl:=by
   rcases hdead with hd|⟨x,rfl,_⟩
   .exact hd
   .exfalso;rw[yC hT]at hk1;exact absurd hk1 (by decide)
  obtain⟨rfl,rfl,rfl⟩:=hcur;have hstart:dZ T i'=true:=by unfold dZ;rw[hk1];rfl
  cases gk with
  | zero=>cases hpa
  | succ gk=>
  have hpa:oh (S5 PA PC PL PO PH) T (gk+1) acc i'=some fin:=hpa;rw[oh,ag hstart]at hpa;have hS5:(S5 PA PC PL PO PH) T i'=PA T i':=by unfold S5;rw[hk1];rfl
  cases hS:(S5 PA PC PL PO PH) T i' with
  | none=>rw[hS]at hpa;cases hpa
  | some r2=>
  have hPr:PA T i'=some r2:=hS5.symm.trans hS;have hnx:i'+1<T.length:=Bd hT hps.lt hk1 (by decide);have stp:=λ(w5 wn:World) (u:Value) (g cap':Nat) (k5:aB pb w4 w5) (h5:Qv w5 (λg=>w4.heap.size<=g) pb tb cap T f' pl' (.iface 121 u) r2) hown hgrow hat=>
   CW (S:=(S5 PA PC PL PO PH)) (n:=n) (k:=gk) (i:=i') (w0:=w) (wc:=w4) (w5:=w5) (w6:=wn) (so:=so) (sl:=sl) (sc:=sc) (g:=g) (cap':=cap') (cs:=cs) (u:=u) (ty:=121) (U:=.cells #[.iface 121 u] 113) (acc:=acc) (r2:=r2) (fin:=fin)
    hp hcl (kw.trans (aB.below B4w)) (bH own (λk hk=>B4w.block k (own.lt k hk).2)) (pQ.later (λk hk hl=>B4w.block k hl) (λk hk _=>hk) acc cs (hex acc i' rfl)) hS hpa k5 h5 hown hgrow hat
  have own4:=bH own (w':=w4) (λk hk=>B4w.block k (own.lt k hk).2);have STP:=aj stp;have hps4:=hps.below B4w (af _);have szw:=kw.1;have sza:=B4w.size;have HPr:=aj hPr;clear stp hPr hS hS5 hpa hex own kw hst hdead B4w s4 hps g40 g41 g42 g43 g44;go_wp2_with fail;refine(hA w4 pb tb cap i' T f' pl' r2 hT hps4 hk1 (aa HPr)).mono ?_;rintro e w5 ⟨k5,u,rfl,h5⟩;have own5:=bH own4 (w':=w5) (λk hk=>k5.2 k (own4.lt k hk).2 (by have:=(own4.lt k hk).1;omega));have sz5:=k5.1;have STP5:=aj (λwn g cap'=>aa STP w5 wn u g cap' k5 h5);clear STP h5 k5 own4;go_wp2_with (at_builtin;refine wpList_append_lies _ rfl _ _ 66 rfl w.heap.size 113 i0 .nilIface 1 16 Tryz.underlying66 hi0 hz0 hz1 hz2 rfl (by decide) (.slice so sl sc) cs.length cs rfl (own5.alloc _) ⟨w5.heap.size,0,none⟩ 1 1 [.iface 121 u] rfl rfl (World.news_of_block (aA w5 _)) (by simp[Value.oneCell']) (by decide) (by unfold maxLen;omega) (by omega) (by simp;omega) (w5.heap.size+1) (by simp) ?_;intro g cap' wn hown hgrow hat hlt6);have fin6:=aa STP5 wn g cap' hown hgrow hat;clear STP5 hown hgrow own5;go_wp2
  go_roundg gk
  case rel=>exact fin6
  case measure=>omega
 have hk1:¬ (ah T i').kind=1:=by rw[wE hT]at hnm;simpa using hnm
 go_wp2_with fail;refine(dm _ (kP (ah T i')) (ah T i').place (nP (ah T i')) (sP (ah T i')) (wP (ah T i')) w4.heap.size 0 1 [JG] (fJ w4 [JG]) (by simp)).mono ?_;rintro e w6 ⟨rfl,hb6⟩;have B6:Below w4.heap.size w4 w6:=((ax _ w4).alloc (af _) _).trans (hb6.mono (by simp));have es:((kP (ah T i')==2)&&[JG].any (λt=>(wP (ah T i')).toList==t.toList))=[JG].any (bJ T i'):=rG hT i' (λs hs=>JX s (by simp only[aO,aQ,aR]at hs ⊢;exact .inl hs));rw[es];clear es hb6;have s6:=(B6.block _ (by omega)).trans s4;have lt6:w2.heap.size<w6.heap.size:=(az.1 s6).1;have B6w:=B4w.trans (B6.mono B4w.size);obtain⟨⟨g60,g61,g62,g63,g64⟩,_⟩:=kE s6;clear s4 B6 B4w g40 g41 g42 g43 g44
 cases hif:bJ T i' JG
 rotate_left
 .have hany:[JG].any (bJ T i')=true:=by simp[hif]
  rw[hany];obtain⟨acc,hcur⟩:∃acc,cur=.ok (acc,i')/\f'=f/\pl'=pl:=by
   rcases hdead with hd|⟨x,rfl,_⟩
   .exact hd
   .exfalso;rw[ku hT.last]at hif;cases hif
  obtain⟨rfl,rfl,rfl⟩:=hcur;have hstart:dZ T i'=true:=by unfold dZ;rw[hif];simp
  cases gk with
  | zero=>cases hpa
  | succ gk=>
  have hpa:oh (S5 PA PC PL PO PH) T (gk+1) acc i'=some fin:=hpa;rw[oh,ag hstart]at hpa;have hS5:(S5 PA PC PL PO PH) T i'=PC T i':=by unfold S5;rw[ae (by simpa using hk1),ag hif]
  cases hS:(S5 PA PC PL PO PH) T i' with
  | none=>rw[hS]at hpa;cases hpa
  | some r2=>
  have hPr:PC T i'=some r2:=hS5.symm.trans hS;have hnx:i'+1<T.length:=aD hT.last hps.lt hif;have stp:=λ(w5 wn:World) (u:Value) (g cap':Nat) (k5:aB pb w6 w5) (h5:Qv w5 (λg=>w6.heap.size<=g) pb tb cap T f' pl' (.iface 124 u) r2) hown hgrow hat=>
   CW (S:=(S5 PA PC PL PO PH)) (n:=n) (k:=gk) (i:=i') (w0:=w) (wc:=w6) (w5:=w5) (w6:=wn) (so:=so) (sl:=sl) (sc:=sc) (g:=g) (cap':=cap') (cs:=cs) (u:=u) (ty:=124) (U:=.cells #[.iface 124 u] 113) (acc:=acc) (r2:=r2) (fin:=fin)
    hp hcl (kw.trans (aB.below B6w)) (bH own (λk hk=>B6w.block k (own.lt k hk).2)) (pQ.later (λk hk hl=>B6w.block k hl) (λk hk _=>hk) acc cs (hex acc i' rfl)) hS hpa k5 h5 hown hgrow hat
  have own6:=bH own (w':=w6) (λk hk=>B6w.block k (own.lt k hk).2);have STP:=aj stp;have hps6:=hps.below B6w (af _);have szw:=kw.1;have sza:=B6w.size;have HPr:=aj hPr;clear stp hPr hS hS5 hpa hex own kw hst hdead B6w s6 hps g60 g61 g62 g63 g64;go_wp2_with fail;refine(hC w6 pb tb cap i' T f' pl' r2 hT hps6 hif (aa HPr)).mono ?_;rintro e w5 ⟨k5,u,rfl,h5⟩;have own5:=bH own6 (w':=w5) (λk hk=>k5.2 k (own6.lt k hk).2 (by have:=(own6.lt k hk).1;omega));have sz5:=k5.1;have STP5:=aj (λwn g cap'=>aa STP w5 wn u g cap' k5 h5);clear STP h5 k5 own6;go_wp2_with (at_builtin;refine wpList_append_lies _ rfl _ _ 66 rfl w.heap.size 113 i0 .nilIface 1 16 Tryz.underlying66 hi0 hz0 hz1 hz2 rfl (by decide) (.slice so sl sc) cs.length cs rfl (own5.alloc _) ⟨w5.heap.size,0,none⟩ 1 1 [.iface 124 u] rfl rfl (World.news_of_block (aA w5 _)) (by simp[Value.oneCell']) (by decide) (by unfold maxLen;omega) (by omega) (by simp;omega) (w5.heap.size+1) (by simp) ?_;intro g cap' wn hown hgrow hat hlt6);have fin6:=aa STP5 wn g cap' hown hgrow hat;clear STP5 hown hgrow own5;go_wp2
  go_roundg gk
  case rel=>exact fin6
  case measure=>omega
 have hany:[JG].any (bJ T i')=false:=by simp[hif]
 rw[hany];clear hany;go_wp2_with fail;refine(dm _ (kP (ah T i')) (ah T i').place (nP (ah T i')) (sP (ah T i')) (wP (ah T i')) w6.heap.size 0 1 [xZ] (fJ w6 [xZ]) (by simp)).mono ?_;rintro e w7 ⟨rfl,hb7⟩;have B7:Below w6.heap.size w6 w7:=((ax _ w6).alloc (af _) _).trans (hb7.mono (by simp));have es:((kP (ah T i')==2)&&[xZ].any (λt=>(wP (ah T i')).toList==t.toList))=[xZ].any (bJ T i'):=rG hT i' (λs hs=>JX s (by simp only[aO,aQ,aR]at hs ⊢;exact .inr (.inl hs)));rw[es];clear es hb7;have s7:=(B7.block _ (by omega)).trans s6;have lt7:w2.heap.size<w7.heap.size:=(az.1 s7).1;have B7w:=B6w.trans (B7.mono B6w.size);obtain⟨⟨g70,g71,g72,g73,g74⟩,_⟩:=kE s7;clear s6 B7 B6w g60 g61 g62 g63 g64
 cases hfo:bJ T i' xZ
 rotate_left
 .have hany:[xZ].any (bJ T i')=true:=by simp[hfo]
  rw[hany];obtain⟨acc,hcur⟩:∃acc,cur=.ok (acc,i')/\f'=f/\pl'=pl:=by
   rcases hdead with hd|⟨x,rfl,_⟩
   .exact hd
   .exfalso;rw[ku hT.last]at hfo;cases hfo
  obtain⟨rfl,rfl,rfl⟩:=hcur;have hstart:dZ T i'=true:=by unfold dZ;rw[hfo];simp
  cases gk with
  | zero=>cases hpa
  | succ gk=>
  have hpa:oh (S5 PA PC PL PO PH) T (gk+1) acc i'=some fin:=hpa;rw[oh,ag hstart]at hpa;have hS5:(S5 PA PC PL PO PH) T i'=PL T i':=by unfold S5;rw[ae (by simpa using hk1),ae (by simp[hif]),ag hfo]
  cases hS:(S5 PA PC PL PO PH) T i' with
  | none=>rw[hS]at hpa;cases hpa
  | some r2=>
  have hPr:PL T i'=some r2:=hS5.symm.trans hS;have hnx:i'+1<T.length:=aD hT.last hps.lt hfo;have stp:=λ(w5 wn:World) (u:Value) (g cap':Nat) (k5:aB pb w7 w5) (h5:Qv w5 (λg=>w7.heap.size<=g) pb tb cap T f' pl' (.iface 127 u) r2) hown hgrow hat=>
   CW (S:=(S5 PA PC PL PO PH)) (n:=n) (k:=gk) (i:=i') (w0:=w) (wc:=w7) (w5:=w5) (w6:=wn) (so:=so) (sl:=sl) (sc:=sc) (g:=g) (cap':=cap') (cs:=cs) (u:=u) (ty:=127) (U:=.cells #[.iface 127 u] 113) (acc:=acc) (r2:=r2) (fin:=fin)
    hp hcl (kw.trans (aB.below B7w)) (bH own (λk hk=>B7w.block k (own.lt k hk).2)) (pQ.later (λk hk hl=>B7w.block k hl) (λk hk _=>hk) acc cs (hex acc i' rfl)) hS hpa k5 h5 hown hgrow hat
  have own7:=bH own (w':=w7) (λk hk=>B7w.block k (own.lt k hk).2);have STP:=aj stp;have hps7:=hps.below B7w (af _);have szw:=kw.1;have sza:=B7w.size;have HPr:=aj hPr;clear stp hPr hS hS5 hpa hex own kw hst hdead B7w s7 hps g70 g71 g72 g73 g74;go_wp2_with fail;refine(hL w7 pb tb cap i' T f' pl' r2 hT hps7 hfo (aa HPr)).mono ?_;rintro e w5 ⟨k5,u,rfl,h5⟩;have own5:=bH own7 (w':=w5) (λk hk=>k5.2 k (own7.lt k hk).2 (by have:=(own7.lt k hk).1;omega));have sz5:=k5.1;have STP5:=aj (λwn g cap'=>aa STP w5 wn u g cap' k5 h5);clear STP h5 k5 own7;go_wp2_with (at_builtin;refine wpList_append_lies _ rfl _ _ 66 rfl w.heap.size 113 i0 .nilIface 1 16 Tryz.underlying66 hi0 hz0 hz1 hz2 rfl (by decide) (.slice so sl sc) cs.length cs rfl (own5.alloc _) ⟨w5.heap.size,0,none⟩ 1 1 [.iface 127 u] rfl rfl (World.news_of_block (aA w5 _)) (by simp[Value.oneCell']) (by decide) (by unfold maxLen;omega) (by omega) (by simp;omega) (w5.heap.size+1) (by simp) ?_;intro g cap' wn hown hgrow hat hlt6);have fin6:=aa STP5 wn g cap' hown hgrow hat;clear STP5 hown hgrow own5;go_wp2
  go_roundg gk
  case rel=>exact fin6
  case measure=>omega
 have hany:[xZ].any (bJ T i')=false:=by simp[hfo]
 rw[hany];clear hany;go_wp2_with fail;refine(dm _ (kP (ah T i')) (ah T i').place (nP (ah T i')) (sP (ah T i')) (wP (ah T i')) w7.heap.size 0 2 [lD,dY] (fJ w7 [lD,dY]) (by simp)).mono ?_;rintro e w8 ⟨rfl,hb8⟩;have B8:Below w7.heap.size w7 w8:=((ax _ w7).alloc (af _) _).trans (hb8.mono (by simp));have es:((kP (ah T i')==2)&&[lD,dY].any (λt=>(wP (ah T i')).toList==t.toList))=[lD,dY].any (bJ T i'):=rG hT i' (λs hs=>JX s (by simp only[aO,aQ,aR]at hs ⊢;rcases hs with rfl|rfl<;>simp));rw[es];clear es hb8;have s8:=(B8.block _ (by omega)).trans s7;have lt8:w2.heap.size<w8.heap.size:=(az.1 s8).1;have B8w:=B7w.trans (B8.mono B7w.size);obtain⟨⟨g80,g81,g82,g83,g84⟩,_⟩:=kE s8;clear s7 B8 B7w g70 g71 g72 g73 g74
 cases hou:bJ T i' lD
 rotate_left
 .have hany:[lD,dY].any (bJ T i')=true:=by simp[hou]
  rw[hany];obtain⟨acc,hcur⟩:∃acc,cur=.ok (acc,i')/\f'=f/\pl'=pl:=by
   rcases hdead with hd|⟨x,rfl,_⟩
   .exact hd
   .exfalso;rw[ku hT.last]at hou;cases hou
  obtain⟨rfl,rfl,rfl⟩:=hcur;have hstart:dZ T i'=true:=by unfold dZ;rw[hou];simp
  cases gk with
  | zero=>cases hpa
  | succ gk=>
  have hpa:oh (S5 PA PC PL PO PH) T (gk+1) acc i'=some fin:=hpa;rw[oh,ag hstart]at hpa;have hS5:(S5 PA PC PL PO PH) T i'=PO T i':=by unfold S5;rw[ae (by simpa using hk1),ae (by simp[hif]),ae (by simp[hfo]),ag hou]
  cases hS:(S5 PA PC PL PO PH) T i' with
  | none=>rw[hS]at hpa;cases hpa
  | some r2=>
  have hPr:PO T i'=some r2:=hS5.symm.trans hS;have hnx:i'+1<T.length:=aD hT.last hps.lt hou;have stp:=λ(w5 wn:World) (u:Value) (g cap':Nat) (k5:aB pb w8 w5) (h5:Qv w5 (λg=>w8.heap.size<=g) pb tb cap T f' pl' (.iface 130 u) r2) hown hgrow hat=>
   CW (S:=(S5 PA PC PL PO PH)) (n:=n) (k:=gk) (i:=i') (w0:=w) (wc:=w8) (w5:=w5) (w6:=wn) (so:=so) (sl:=sl) (sc:=sc) (g:=g) (cap':=cap') (cs:=cs) (u:=u) (ty:=130) (U:=.cells #[.iface 130 u] 113) (acc:=acc) (r2:=r2) (fin:=fin)
    hp hcl (kw.trans (aB.below B8w)) (bH own (λk hk=>B8w.block k (own.lt k hk).2)) (pQ.later (λk hk hl=>B8w.block k hl) (λk hk _=>hk) acc cs (hex acc i' rfl)) hS hpa k5 h5 hown hgrow hat
  have own8:=bH own (w':=w8) (λk hk=>B8w.block k (own.lt k hk).2);have STP:=aj stp;have hps8:=hps.below B8w (af _);have szw:=kw.1;have sza:=B8w.size;have HPr:=aj hPr;clear stp hPr hS hS5 hpa hex own kw hst hdead B8w s8 hps g80 g81 g82 g83 g84;go_wp2_with fail;refine(hO w8 pb tb cap i' T f' pl' r2 hT hps8 hnx (aa HPr)).mono ?_;rintro e w5 ⟨k5,u,rfl,h5⟩;have own5:=bH own8 (w':=w5) (λk hk=>k5.2 k (own8.lt k hk).2 (by have:=(own8.lt k hk).1;omega));have sz5:=k5.1;have STP5:=aj (λwn g cap'=>aa STP w5 wn u g cap' k5 h5);clear STP h5 k5 own8;go_wp2_with (at_builtin;refine wpList_append_lies _ rfl _ _ 66 rfl w.heap.size 113 i0 .nilIface 1 16 Tryz.underlying66 hi0 hz0 hz1 hz2 rfl (by decide) (.slice so sl sc) cs.length cs rfl (own5.alloc _) ⟨w5.heap.size,0,none⟩ 1 1 [.iface 130 u] rfl rfl (World.news_of_block (aA w5 _)) (by simp[Value.oneCell']) (by decide) (by unfold maxLen;omega) (by omega) (by simp;omega) (w5.heap.size+1) (by simp) ?_;intro g cap' wn hown hgrow hat hlt6);have fin6:=aa STP5 wn g cap' hown hgrow hat;clear STP5 hown hgrow own5;go_wp2
  go_roundg gk
  case rel=>exact fin6
  case measure=>omega
 cases hhi:bJ T i' dY
 rotate_left
 .have hany:[lD,dY].any (bJ T i')=true:=by simp[hou,hhi]
  rw[hany];obtain⟨acc,hcur⟩:∃acc,cur=.ok (acc,i')/\f'=f/\pl'=pl:=by
   rcases hdead with hd|⟨x,rfl,_⟩
   .exact hd
   .exfalso;rw[ku hT.last]at hhi;cases hhi
  obtain⟨rfl,rfl,rfl⟩:=hcur;have hstart:dZ T i'=true:=by unfold dZ;rw[hhi];simp
  cases gk with
  | zero=>cases hpa
  | succ gk=>
  have hpa:oh (S5 PA PC PL PO PH) T (gk+1) acc i'=some fin:=hpa;rw[oh,ag hstart]at hpa;have hS5:(S5 PA PC PL PO PH) T i'=PH T i':=by unfold S5;rw[ae (by simpa using hk1),ae (by simp[hif]),ae (by simp[hfo]),ae (by simp[hou]),ag hhi]
  cases hS:(S5 PA PC PL PO PH) T i' with
  | none=>rw[hS]at hpa;cases hpa
  | some r2=>
  have hPr:PH T i'=some r2:=hS5.symm.trans hS;have hnx:i'+1<T.length:=aD hT.last hps.lt hhi;have stp:=λ(w5 wn:World) (u:Value) (g cap':Nat) (k5:aB pb w8 w5) (h5:Qv w5 (λg=>w8.heap.size<=g) pb tb cap T f' pl' (.iface 130 u) r2) hown hgrow hat=>
   CW (S:=(S5 PA PC PL PO PH)) (n:=n) (k:=gk) (i:=i') (w0:=w) (wc:=w8) (w5:=w5) (w6:=wn) (so:=so) (sl:=sl) (sc:=sc) (g:=g) (cap':=cap') (cs:=cs) (u:=u) (ty:=130) (U:=.cells #[.iface 130 u] 113) (acc:=acc) (r2:=r2) (fin:=fin)
    hp hcl (kw.trans (aB.below B8w)) (bH own (λk hk=>B8w.block k (own.lt k hk).2)) (pQ.later (λk hk hl=>B8w.block k hl) (λk hk _=>hk) acc cs (hex acc i' rfl)) hS hpa k5 h5 hown hgrow hat
  have own8:=bH own (w':=w8) (λk hk=>B8w.block k (own.lt k hk).2);have STP:=aj stp;have hps8:=hps.below B8w (af _);have szw:=kw.1;have sza:=B8w.size;have HPr:=aj hPr;clear stp hPr hS hS5 hpa hex own kw hst hdead B8w s8 hps g80 g81 g82 g83 g84;go_wp2_with fail;refine(hH w8 pb tb cap i' T f' pl' r2 hT hps8 hnx (aa HPr)).mono ?_;rintro e w5 ⟨k5,u,rfl,h5⟩;have own5:=bH own8 (w':=w5) (λk hk=>k5.2 k (own8.lt k hk).2 (by have:=(own8.lt k hk).1;omega));have sz5:=k5.1;have STP5:=aj (λwn g cap'=>aa STP w5 wn u g cap' k5 h5);clear STP h5 k5 own8;go_wp2_with (at_builtin;refine wpList_append_lies _ rfl _ _ 66 rfl w.heap.size 113 i0 .nilIface 1 16 Tryz.underlying66 hi0 hz0 hz1 hz2 rfl (by decide) (.slice so sl sc) cs.length cs rfl (own5.alloc _) ⟨w5.heap.size,0,none⟩ 1 1 [.iface 130 u] rfl rfl (World.news_of_block (aA w5 _)) (by simp[Value.oneCell']) (by decide) (by unfold maxLen;omega) (by omega) (by simp;omega) (w5.heap.size+1) (by simp) ?_;intro g cap' wn hown hgrow hat hlt6);have fin6:=aa STP5 wn g cap' hown hgrow hat;clear STP5 hown hgrow own5;go_wp2
  go_roundg gk
  case rel=>exact fin6
  case measure=>omega
 have hany:[lD,dY].any (bJ T i')=false:=by simp[hou,hhi]
 rw[hany];have hns:dZ T i'=false:=by unfold dZ;rw[hif,hfo,hou,hhi];simp[hk1]
 have fin9:=aj (YI kw own hst hex hpa hdead hns B8w);clear hany hns hst hex hpa hdead kw own hps;go_wp2;go_ret;exact aa fin9
theorem lg (fn:Nat) (ty:TypeId) (C:List aH->Nat->Prop):tN fn ty C noS:=λ_ _ _ _ _ _ _ _ _ _ _ _ h=>by cases h
theorem Gm (w:World) (pb tb cap:Nat) (T:List aH) (f pl:Int) (hT:eQ T) (h:bg w pb tb cap T (T.length-1) f pl) :
  Calls Tryz.prog 88 #[.pointer (some ⟨pb,0,none⟩)] w (OE w pb tb cap T f pl (.ok (.nil,T.length-1))):=by
 refine uG (lg _ _ _) (lg _ _ _) (lg _ _ _) (lg _ _ _) (lg _ _ _) 1 (by decide) w pb tb cap _ T f pl _ hT h ?_;unfold Fe;rw[oh,Mi hT.last,ae (by simp)];rfl
theorem zQ {α:Type} (hP:tT 88 P) (hT:eQ T) (w:World) (pb tb cap:Nat) (f pl:Int) {r1:Except Nat (α×Nat)} (h:cK w pb tb cap T f pl r1) (hr:jF r1 (λ_ j=>P T j)=some r) :
  Calls Tryz.prog 88 #[.pointer (some ⟨pb,0,none⟩)] w (OE w pb tb cap T f pl r):=by
 cases r1 with
 | error x=>
  cases hr;refine(Gm w pb tb cap T _ _ hT h).mono ?_;rintro e w' ⟨hk,ao,len,c,he,hs⟩;exact⟨hk,ao,len,c,he,hs.1⟩
 | ok xj=>
  obtain⟨x,j⟩:=xj;exact hP w pb tb cap j T f pl r hT h hr
def ZX (P:PS):PS:=λT i=>andThen (aZ T Oz i) λ_ j=>andThen (P T j) λs j=>andThen (aZ T DF j) λ_ j=>kF s j
theorem G7 (hP:tT 88 P):tT 131 (ZX P):=by
 intro w pb tb cap i T f pl r hT h hr;have hp:=h.plt;have hlow:=h.low;obtain⟨r1,e1⟩:=dK T Oz i;unfold ZX at hr;rw[e1]at hr;obtain⟨rX,r2,hX2,hst2,hv2,hr2⟩:=gN (show jF r1 (λ_ j=>andThen (P T j) λs j=>andThen (aZ T DF j) λ_ j=>kF s j)=some r from hr);obtain⟨rS,r3,hS3,hst3,hv3,hr3⟩:=gN (show jF r2 (λab j=>andThen (aZ T DF j) λ_ j=>kF ab.2 j)=some r from hr2);have HR:=aj (Dk (g:=λ(ab:(Unit×Sx)×Unit)=>ab.1.2) hr3);have E1:=aj e1;have HX2:=aj hX2;have HST2:=aj hst2;have HV2:=aj hv2;have HS3:=aj hS3;have HST3:=aj hst3;have HV3:=aj hv3;clear hr hr2 hr3 e1 hX2 hst2 hv2 hS3 hst3 hv3;go_enter Tryz.func131,Tryz.ntmps131;go_wp2_with fail;refine(oW hT _ pb tb cap i f pl 123 Oz fH.2.2.2.2.2.2.2.2.1 ZE h (aa E1)).mono ?_;rintro e w1 hu;obtain⟨rfl,k1,h1⟩:=hu.st;clear hu h;go_wp2_with fail;refine(zQ hP hT _ pb tb cap f pl h1 (aa HX2)).mono ?_;rintro e w2 ⟨k2,ao,al,ac,rfl,h2⟩;go_wp2_with fail;refine(wD hT _ pb tb cap f pl 125 DF fH.2.2.2.2.2.2.2.2.2.1 ZG (aa HST2 _ _ _ _ _ _ _ h2.st) (aa HS3)).mono ?_;rintro e w3 ⟨rfl,k3,h3⟩;have fin:OE w pb tb cap T f pl r (.returned (.slice ao al ac)) w3:=by
  refine⟨(k1.trans k2).trans k3,ao,al,ac,rfl,?_⟩;have st:=cK.mapR (aa HST3 _ _ _ _ _ _ _ h3) (λ(ab:(Unit×Sx)×Unit)=>ab.1.2);have hr4:=aa HR;subst hr4
  cases r3 with
  | error y=>exact st
  | ok q=>
   obtain⟨⟨⟨u,s⟩,u2⟩,j⟩:=q;obtain⟨j0,e2,_⟩:=aa HV3 _ _ rfl;obtain⟨j1,_,eX⟩:=aa HV2 _ _ e2;rw[eX]at h2;have l1:=k1.1;refine⟨st,h2.2.later (λk hk hl=>?_) (λk hk _=>?_)⟩
   .have hk:w1.heap.size<=k:=hk;exact k3.2 k hl (by omega)
   .have hk:w1.heap.size<=k:=hk;show w.heap.size<=k;omega
 clear h1 h2 h3 k1 k2 k3;go_wp2;go_ret;exact fin
theorem Tc (w:World) (pb tb cap:Nat) (T:List aH) (f pl:Int) (hT:eQ T) (h:bg w pb tb cap T (T.length-1) f pl) :
  Calls Tryz.prog 131 #[.pointer (some ⟨pb,0,none⟩)] w (OE w pb tb cap T f pl (.error (T.length-1))):=by
 refine G7 (P:=noS) (λ_ _ _ _ _ _ _ _ _ _ _ h=>by cases h) w pb tb cap _ T f pl _ hT h ?_;unfold ZX aZ;rw[ku hT.last,ae (by simp)];rfl
theorem Qb3 {w w':World} {x y:Nat} (h:Ti w Q pb tb cap T (mo f) (nY f pl (ah T x).place) v (.error y)) (e:w'=w):Ti w' Q pb tb cap T f pl v (.error x):=by
 subst e;exact Xm (α:=Sx) (β:=Sx) (Ti.st h)
theorem DZ {α:Type} (hB:tT 131 B) (hT:eQ T) (w:World) (pb tb cap:Nat) (f pl:Int) {r1:Except Nat (α×Nat)} (h:cK w pb tb cap T f pl r1) (hr:jF r1 (λ_ j=>B T j)=some r) :
  Calls Tryz.prog 131 #[.pointer (some ⟨pb,0,none⟩)] w (OE w pb tb cap T f pl r):=by
 cases r1 with
 | error x=>
  cases hr;refine(Tc w pb tb cap T _ _ hT h).mono ?_;rintro e w' ⟨hk,ao,len,c,he,hs⟩;exact⟨hk,ao,len,c,he,Qb3 hs rfl⟩
 | ok xj=>
  obtain⟨x,j⟩:=xj;exact hB w pb tb cap j T f pl r hT h hr
theorem U8 (hbad:∀i,dZ T i=false->S T i=Lp i∨S T i=none):∀(n:Nat) (acc:List Sx) (i:Nat) (r:Except Nat (Sx×Nat)),kz S T n i=some r ->
  ∃r':Except Nat (List Sx×Nat),(andThen (oh S T n acc i) λl j=>andThen (aZ T DF j) λ_ j=>kF l j)=some r'/\((∃x,r=.error x/\r'=.error x)∨∃l' j,r=.ok (Fp l',j)/\r'=.ok (acc++l',j)):=by
 intro n
 induction n with
 | zero=>intro acc i r h;cases h
 | succ n ih=>
  intro acc i r h;rw[kz]at h
  cases hc:bJ T i DF
  .rw[hc,ae (by simp)]at h
   cases hs:dZ T i
   .rcases hbad i hs with hb|hb
    rotate_left
    .rw[hb]at h;cases h
    rw[hb]at h
    cases h;refine⟨.error i,?_,.inl ⟨i,rfl,rfl⟩⟩;rw[oh,hs,ae (by simp)];show andThen (aZ T DF i) _=_;unfold aZ;rw[hc,ae (by simp)];rfl
   .cases hS:S T i with
    | none=>rw[hS]at h;cases h
    | some q=>
     rw[hS]at h
     cases q with
     | error x=>
      cases h;refine⟨.error x,?_,.inl ⟨x,rfl,rfl⟩⟩;rw[oh,hs,ag rfl,hS];rfl
     | ok q=>
      obtain⟨s,j⟩:=q;have h:andThen (kz S T n j) (λr k=>kF (kV s r) k)=some r:=h
      cases hr:kz S T n j with
      | none=>rw[hr]at h;cases h
      | some q=>
       rw[hr]at h;obtain⟨r',e1,e2⟩:=ih (acc++[s]) j q hr;have e3:(andThen (oh S T (n+1) acc i) λl j=>andThen (aZ T DF j) λ_ j=>kF l j)=some r':=by
        rw[oh,hs,ag rfl,hS];exact e1
       refine⟨r',e3,?_⟩;rcases e2 with⟨x,rfl,rfl⟩|⟨l',j',rfl,rfl⟩
       .cases h;exact .inl ⟨x,rfl,rfl⟩
       .cases h;exact .inr ⟨s::l',j',rfl,by simp⟩
  .rw[hc,ag rfl]at h
   cases h;have hs:dZ T i=false:=by
    unfold dZ;have ek:=nW hc;have e1:((ah T i).kind==1)=false:=by
     cases h1:((ah T i).kind==1)
     .rfl
     .rw[h1]at ek;simp at ek
    have no:∀s:ByteArray,DF.data≠s.data->bJ T i s=false:=λs hs=>by
     cases h0:bJ T i s
     .rfl
     .exact absurd (dO (λx=>x.data) ((fC hc).symm.trans (fC h0))) hs
    rw[e1,no JG (by decide),no xZ (by decide),no lD (by decide),no dY (by decide)];rfl
   refine⟨.ok (acc,i+1),?_,.inr ⟨[],i+1,rfl,by simp⟩⟩;rw[oh,hs,ae (by simp)];show andThen (aZ T DF i) _=_;unfold aZ;rw[hc,ag rfl];rfl
theorem V9 (hbad:∀i,dZ T i=false->S T i=Lp i∨S T i=none) {n:Nat} (h:kz S T n i=some r):(andThen (Fe S n T i) λs j=>andThen (aZ T DF j) λ_ j=>kF s j)=some r:=by
 obtain⟨r',e1,e2⟩:=U8 hbad n [] i r h;unfold Fe;rw[vE]
 cases hp:oh S T n [] i with
 | none=>rw[hp]at e1;cases e1
 | some q=>
  rw[hp]at e1
  cases q with
  | error x=>cases e1;rcases e2 with⟨y,rfl,e⟩|⟨l',j,_,e⟩<;>cases e;rfl
  | ok q=>
   obtain⟨l,j⟩:=q;have e1:andThen (aZ T DF j) (λ_ j=>kF l j)=some r':=e1;show andThen (aZ T DF j) (λ_ j=>kF (Fp l) j)=some r;obtain⟨rn,en⟩:=dK T DF j;rw[en]at e1 ⊢
   cases rn with
   | error x=>cases e1;rcases e2 with⟨y,rfl,e⟩|⟨l',j,_,e⟩<;>cases e;rfl
   | ok q=>
    cases e1;rcases e2 with⟨y,rfl,e⟩|⟨l',j,rfl,e⟩
    .cases e
    .cases e;rfl
theorem Qi3 {PA PC PL PO PH:PS} (i:Nat) (h:dZ T i=false):S5 PA PC PL PO PH T i=Lp i:=by
 unfold dZ at h;simp only[Bool.or_eq_false_iff]at h;unfold S5;rw[h.1.1.1.1,h.1.1.1.2,h.1.1.2,h.1.2,h.2];rfl
theorem xH (r:Except Nat (aH×Nat)):∃k p wd n s,Qg8 r=pE k p wd n s:=by
 cases r with
 | error x=>exact⟨_,_,_,_,_,rfl⟩
 | ok q=>exact⟨_,_,_,_,_,rfl⟩
theorem Dn {k p n s k' p' n' s':Int} {wd wd':ByteArray} (h:pE k p wd n s=pE k' p' wd' n' s'):k=k'/\p=p'/\wd=wd'/\n=n'/\s=s':=by
 unfold pE at h;simpa using h
theorem UW (hB:tT 131 B):tN 115 127 (λT i=>bJ T i xZ=true) (BS B):=by
 intro w pb tb cap i T f pl r hT h hfo hr;have hp:=h.plt;have hlow:=h.low;have hi1:=aD hT.last h.lt hfo;unfold BS at hr;obtain⟨rN,r1,hN,hst1,hv1,hr1⟩:=gN (r1:=.ok ((),i+1)) (show jF (.ok ((),i+1)) (λ_ j=>andThen (ib T 1 j) λn j=>andThen (ib T 2 j) λa j=>andThen (aZ T M3 j) λ_ j=>andThen (ib T 2 j) λb j=>andThen (B T j) λs j=>kF (.node 0 0 ⟨2,n,a,b,.nil⟩ s .nil:Sx) j)=some r from hr);obtain⟨rA,r2,hA,hst2,hv2,hr2⟩:=gN (show jF r1 (λab j=>andThen (ib T 2 j) λa j=>andThen (aZ T M3 j) λ_ j=>andThen (ib T 2 j) λb j=>andThen (B T j) λs j=>kF (.node 0 0 ⟨2,ab.2,a,b,.nil⟩ s .nil:Sx) j)=some r from hr1);obtain⟨rD,r3,hD,hst3,hv3,hr3⟩:=gN (show jF r2 (λab j=>andThen (aZ T M3 j) λ_ j=>andThen (ib T 2 j) λb j=>andThen (B T j) λs j=>kF (.node 0 0 ⟨2,ab.1.2,ab.2,b,.nil⟩ s .nil:Sx) j)=some r from hr2);obtain⟨rB,r4,hBk,hst4,hv4,hr4⟩:=gN (show jF r3 (λab j=>andThen (ib T 2 j) λb j=>andThen (B T j) λs j=>kF (.node 0 0 ⟨2,ab.1.1.2,ab.1.2,b,.nil⟩ s .nil:Sx) j)=some r from hr3);obtain⟨rS,r5,hS,hst5,hv5,hr5⟩:=gN (show jF r4 (λab j=>andThen (B T j) λs j=>kF (.node 0 0 ⟨2,ab.1.1.1.2,ab.1.1.2,ab.2,.nil⟩ s .nil:Sx) j)=some r from hr4);have HR:=aj (Dk (g:=λ(ab:(((((Unit×aH)×aH)×Unit)×aH)×Sx))=>(.node 0 0 ⟨2,ab.1.1.1.1.2,ab.1.1.1.2,ab.1.2,.nil⟩ ab.2 .nil:Sx)) hr5);have HN:=aj hN;have HA:=aj hA;have HD:=aj hD;have HBk:=aj hBk;have HS:=aj hS;have HST1:=aj hst1;have HST2:=aj hst2;have HST3:=aj hst3;have HST4:=aj hst4;have HST5:=aj hst5
 have HV:=aj (And.intro hv1 (And.intro hv2 (And.intro hv3 (And.intro hv4 hv5))));clear hr hr1 hr2 hr3 hr4 hr5 hN hA hD hBk hS hst1 hst2 hst3 hst4 hst5 hv1 hv2 hv3 hv4 hv5 hfo;go_enter Tryz.func115,Tryz.ntmps115;go_wp2_with fail;refine(jB _ pb tb cap i T f pl (h.alloc _) hi1).mono ?_;rintro e w1 ⟨rfl,h1,k1⟩;have q1:w1.heap[w.heap.size]?=some (.cells #[.int .i64 0,.int .i64 0,.string ⟨#[]⟩,.int .i32 0,.int .i32 0,.int .i64 0,.int .i64 0,.string ⟨#[]⟩,.int .i32 0,.int .i32 0,.int .i64 0,.int .i64 0,.string ⟨#[]⟩,.int .i32 0,.int .i32 0,.slice none 0 0] 127 (0,0)):=(k1.2 _ (by simp) (by omega)).trans (aA w _);have K1:=(aB.alloc pb w _).trans k1;have lt1:w.heap.size<w1.heap.size:=(az.1 q1).1;clear h k1;unfold jC pE;go_wp2_with fail;refine(Hl hT _ pb tb cap f pl (r1:=.ok ((),i+1)) (show cK _ pb tb cap T f pl (.ok ((),i+1)) from h1) (aa HN)).mono ?_;rintro e w2 ⟨rfl,k2,h2⟩;have q2:=(k2.2 _ lt1 (by omega)).trans q1;have K2:=K1.trans k2;have lt2:=k2.1;obtain⟨n0,n1,n2,n3,n4,hn⟩:=xH rN;rw[hn];have En:=aj hn;clear h1 q1 K1 k2 hn;unfold pE;go_wp2_with fail;obtain⟨w3,hw3⟩:∃w3,w2.alloc (.cells #[.int .i64 n0,.int .i64 n1,.string n2,.int .i32 n3,.int .i32 n4,.int .i64 0,.int .i64 0,.string ⟨#[]⟩,.int .i32 0,.int .i32 0,.int .i64 0,.int .i64 0,.string ⟨#[]⟩,.int .i32 0,.int .i32 0,.slice none 0 0] 127)=w3:=⟨_,rfl⟩;rw[hw3]
 have u3:w3.heap[w2.heap.size]?=some (.cells #[.int .i64 n0,.int .i64 n1,.string n2,.int .i32 n3,.int .i32 n4,.int .i64 0,.int .i64 0,.string ⟨#[]⟩,.int .i32 0,.int .i32 0,.int .i64 0,.int .i64 0,.string ⟨#[]⟩,.int .i32 0,.int .i32 0,.slice none 0 0] 127 (0,0)):=by rw[<-hw3];exact aA w2 _
 have q3:w3.heap[w.heap.size]?=some (.cells #[.int .i64 0,.int .i64 0,.string ⟨#[]⟩,.int .i32 0,.int .i32 0,.int .i64 0,.int .i64 0,.string ⟨#[]⟩,.int .i32 0,.int .i32 0,.int .i64 0,.int .i64 0,.string ⟨#[]⟩,.int .i32 0,.int .i32 0,.slice none 0 0] 127 (0,0)):=by rw[<-hw3];exact(av w2 _ _ (by omega)).trans q2
 have h3:cK w3 pb tb cap T f pl r1:=by rw[<-hw3];exact cK.alloc (aa HST1 _ _ _ _ _ _ _ h2) _
 have K3:aB pb w w3:=by rw[<-hw3];exact K2.trans (aB.alloc pb w2 _)
 have lt3:w2.heap.size<w3.heap.size:=(az.1 u3).1;clear h2 q2 K2 hw3;refine(IP hT _ pb tb cap f pl h3 (aa HA)).mono ?_;rintro e w4 ⟨rfl,k4,h4⟩;have u4:=(k4.2 _ lt3 (by omega)).trans u3;have q4:=(k4.2 _ (by omega) (by omega)).trans q3;have K4:=K3.trans k4;have lt4:=k4.1;obtain⟨a0,a1,a2,a3,a4,ha⟩:=xH rA;rw[ha];have Ea:=aj ha;clear h3 q3 u3 K3 k4 ha;obtain⟨⟨u4c0,u4c1,u4c2,u4c3,u4c4,u4c5,u4c6,u4c7,u4c8,u4c9,u4c10,u4c11,u4c12,u4c13,u4c14,u4c15⟩,u4z0,u4z1,u4z2,u4z3,u4z4,u4z5,u4z6,u4z7,u4z8,u4z9,u4z10,u4z11,u4z12,u4z13,u4z14,u4z15⟩:=zF u4;unfold pE;go_wp2_with fail;obtain⟨w5,hw5⟩:∃w5,((((w4.setCell ⟨w2.heap.size,5,none⟩ (.int .i64 a0)).setCell ⟨w2.heap.size,6,none⟩ (.int .i64 a1)).setCell ⟨w2.heap.size,7,none⟩ (.string a2)).setCell ⟨w2.heap.size,8,none⟩ (.int .i32 a3)).setCell ⟨w2.heap.size,9,none⟩ (.int .i32 a4)=w5:=⟨_,rfl⟩;rw[hw5];have o5:∀k,k≠w2.heap.size->w5.heap[k]?=w4.heap[k]?:=λk hk=>by
  rw[<-hw5]
  iterate 5 (refine(ay _ _ _ _ hk).trans ?_)
  rfl
 have z5:w5.heap.size=w4.heap.size:=by rw[<-hw5];simp
 have sm5:bY w4 w5:=by
  rw[<-hw5]
  iterate 5 (refine bY.set ?_ _ _)
  exact bY.refl _
 have u5:w5.heap[w2.heap.size]?=some (.cells #[.int .i64 n0,.int .i64 n1,.string n2,.int .i32 n3,.int .i32 n4,.int .i64 a0,.int .i64 a1,.string a2,.int .i32 a3,.int .i32 a4,.int .i64 0,.int .i64 0,.string ⟨#[]⟩,.int .i32 0,.int .i32 0,.slice none 0 0] 127 (0,0)):=by rw[<-hw5];exact(aM _ w2.heap.size 9 _ _ _ (aM _ w2.heap.size 8 _ _ _ (aM _ w2.heap.size 7 _ _ _ (aM _ w2.heap.size 6 _ _ _ (aM _ w2.heap.size 5 _ _ _ u4)))))
 have q5:=(o5 _ (by omega)).trans q4;have h5:cK w5 pb tb cap T f pl r2:=cK.two (aa HST2 _ _ _ _ _ _ _ h4) (λk hk=>o5 k (by omega));have K5:aB pb w w5:=⟨by have:=K4.1;omega,λk hk hn=>(o5 k (by omega)).trans (K4.2 k hk hn),K4.same.trans sm5⟩;clear hw5 u4c0 u4c1 u4c2 u4c3 u4c4 u4c5 u4c6 u4c7 u4c8 u4c9 u4c10 u4c11 u4c12 u4c13 u4c14 u4c15 u4z0 u4z1 u4z2 u4z3 u4z4 u4z5 u4z6 u4z7 u4z8 u4z9 u4z10 u4z11 u4z12 u4z13 u4z14 u4z15 u4 q4 h4 K4 o5;refine(wD hT _ pb tb cap f pl 8230 M3 fH.2.2.2.2.2.2.2.1 Qd0 h5 (aa HD)).mono ?_;rintro e w6 ⟨rfl,k6,h6⟩;have u6:=(k6.2 _ (by omega) (by omega)).trans u5;have q6:=(k6.2 _ (by omega) (by omega)).trans q5;have K6:=K5.trans k6;have lt6:=k6.1;clear h5 q5 u5 K5 k6;go_wp2_with fail;refine(IP hT _ pb tb cap f pl (aa HST3 _ _ _ _ _ _ _ h6) (aa HBk)).mono ?_;rintro e w7 ⟨rfl,k7,h7⟩;have u7:=(k7.2 _ (by omega) (by omega)).trans u6;have q7:=(k7.2 _ (by omega) (by omega)).trans q6;have K7:=K6.trans k7;have lt7:=k7.1;obtain⟨b0,b1,b2,b3,b4,hb⟩:=xH rB;rw[hb];have Eb:=aj hb;clear h6 q6 u6 K6 k7 hb;obtain⟨⟨u7c0,u7c1,u7c2,u7c3,u7c4,u7c5,u7c6,u7c7,u7c8,u7c9,u7c10,u7c11,u7c12,u7c13,u7c14,u7c15⟩,u7z0,u7z1,u7z2,u7z3,u7z4,u7z5,u7z6,u7z7,u7z8,u7z9,u7z10,u7z11,u7z12,u7z13,u7z14,u7z15⟩:=zF u7;unfold pE;go_wp2_with fail
 obtain⟨w8,hw8⟩:∃w8,((((w7.setCell ⟨w2.heap.size,10,none⟩ (.int .i64 b0)).setCell ⟨w2.heap.size,11,none⟩ (.int .i64 b1)).setCell ⟨w2.heap.size,12,none⟩ (.string b2)).setCell ⟨w2.heap.size,13,none⟩ (.int .i32 b3)).setCell ⟨w2.heap.size,14,none⟩ (.int .i32 b4)=w8:=⟨_,rfl⟩;rw[hw8];have o8:∀k,k≠w2.heap.size->w8.heap[k]?=w7.heap[k]?:=λk hk=>by
  rw[<-hw8]
  iterate 5 (refine(ay _ _ _ _ hk).trans ?_)
  rfl
 have z8:w8.heap.size=w7.heap.size:=by rw[<-hw8];simp
 have sm8:bY w7 w8:=by
  rw[<-hw8]
  iterate 5 (refine bY.set ?_ _ _)
  exact bY.refl _
 have u8:w8.heap[w2.heap.size]?=some (.cells #[.int .i64 n0,.int .i64 n1,.string n2,.int .i32 n3,.int .i32 n4,.int .i64 a0,.int .i64 a1,.string a2,.int .i32 a3,.int .i32 a4,.int .i64 b0,.int .i64 b1,.string b2,.int .i32 b3,.int .i32 b4,.slice none 0 0] 127 (0,0)):=by rw[<-hw8];exact(aM _ w2.heap.size 14 _ _ _ (aM _ w2.heap.size 13 _ _ _ (aM _ w2.heap.size 12 _ _ _ (aM _ w2.heap.size 11 _ _ _ (aM _ w2.heap.size 10 _ _ _ u7)))))
 have q8:=(o8 _ (by omega)).trans q7;have h8:cK w8 pb tb cap T f pl r4:=cK.two (aa HST4 _ _ _ _ _ _ _ h7) (λk hk=>o8 k (by omega));have K8:aB pb w w8:=⟨by have:=K7.1;omega,λk hk hn=>(o8 k (by omega)).trans (K7.2 k hk hn),K7.same.trans sm8⟩;clear hw8 u7c0 u7c1 u7c2 u7c3 u7c4 u7c5 u7c6 u7c7 u7c8 u7c9 u7c10 u7c11 u7c12 u7c13 u7c14 u7c15 u7z0 u7z1 u7z2 u7z3 u7z4 u7z5 u7z6 u7z7 u7z8 u7z9 u7z10 u7z11 u7z12 u7z13 u7z14 u7z15 u7 q7 h7 K7 o8;refine(DZ hB hT _ pb tb cap f pl h8 (aa HS)).mono ?_;rintro e w9 ⟨k9,ao,al,ac,rfl,h9⟩;have u9:=(k9.2 _ (by omega) (by omega)).trans u8;have q9:=(k9.2 _ (by omega) (by omega)).trans q8;have K9:=K8.trans k9;have lt9:=k9.1;clear h8 q8 u8 K8 k9;obtain⟨⟨u9c0,u9c1,u9c2,u9c3,u9c4,u9c5,u9c6,u9c7,u9c8,u9c9,u9c10,u9c11,u9c12,u9c13,u9c14,u9c15⟩,u9z0,u9z1,u9z2,u9z3,u9z4,u9z5,u9z6,u9z7,u9z8,u9z9,u9z10,u9z11,u9z12,u9z13,u9z14,u9z15⟩:=zF u9;obtain⟨⟨q9c0,q9c1,q9c2,q9c3,q9c4,q9c5,q9c6,q9c7,q9c8,q9c9,q9c10,q9c11,q9c12,q9c13,q9c14,q9c15⟩,q9z0,q9z1,q9z2,q9z3,q9z4,q9z5,q9z6,q9z7,q9z8,q9z9,q9z10,q9z11,q9z12,q9z13,q9z14,q9z15⟩:=zF q9;have fin:∀W:World,bY w9 W->w9.heap.size<=W.heap.size->(∀k,k≠w.heap.size->k≠w2.heap.size->W.heap[k]?=w9.heap[k]?)->TS 127 w pb tb cap T f pl r (.returned (.agg #[.int .i64 n0,.int .i64 n1,.string n2,.int .i32 n3,.int .i32 n4,.int .i64 a0,.int .i64 a1,.string a2,.int .i32 a3,.int .i32 a4,.int .i64 b0,.int .i64 b1,.string b2,.int .i32 b3,.int .i32 b4,.slice ao al ac])) W:=by
  intro W hsame hs hW;refine⟨⟨by have:=K9.1;omega,λk hk hn=>(hW k (by omega) (by omega)).trans (K9.2 k hk hn),K9.same.trans hsame⟩,_,rfl,?_⟩;have st:=cK.mapR (cK.two (aa HST5 _ _ _ _ _ _ _ h9.st) (λk hk=>hW k (by omega) (by omega))) (λ(ab:(((((Unit×aH)×aH)×Unit)×aH)×Sx))=>(.node 0 0 ⟨2,ab.1.1.1.1.2,ab.1.1.1.2,ab.1.2,.nil⟩ ab.2 .nil:Sx));have hr4:=aa HR;subst hr4
  cases r5 with
  | error y=>exact st
  | ok q=>
   obtain⟨⟨⟨⟨⟨⟨u,tn⟩,ta⟩,u2⟩,tb'⟩,s⟩,j⟩:=q;obtain⟨hv1,hv2,hv3,hv4,hv5⟩:=aa HV;obtain⟨j5,e5,eS⟩:=hv5 _ _ rfl;obtain⟨j4,e4,eB⟩:=hv4 _ _ e5;obtain⟨j3,e3,eD⟩:=hv3 _ _ e4;obtain⟨j2,e2,eA⟩:=hv2 _ _ e3;obtain⟨j1,e1,eN⟩:=hv1 _ _ e2;have En:=aa En;have Ea:=aa Ea;have Eb:=aa Eb;rw[eN]at En;rw[eA]at Ea;rw[eB]at Eb;obtain⟨rfl,rfl,rfl,rfl,rfl⟩:=Dn En;obtain⟨rfl,rfl,rfl,rfl,rfl⟩:=Dn Ea;obtain⟨rfl,rfl,rfl,rfl,rfl⟩:=Dn Eb;rw[eS]at h9;refine⟨st,.inr (.inr (.inl ⟨rfl,_,rfl,h9.2.later (λk hk hl=>?_) (λk hk _=>?_)⟩))⟩
   .have hk:w8.heap.size<=k:=hk;exact hW k (by omega) (by omega)
   .have hk:w8.heap.size<=k:=hk;show w.heap.size<=k;omega
 have zH:w.heap.size≠w2.heap.size:=by omega
 clear h9 K9 HR En Ea Eb u9 q9;go_wp2;refine aL (v:=.agg #[.int .i64 n0,.int .i64 n1,.string n2,.int .i32 n3,.int .i32 n4,.int .i64 a0,.int .i64 a1,.string a2,.int .i32 a3,.int .i32 a4,.int .i64 b0,.int .i64 b1,.string b2,.int .i32 b3,.int .i32 b4,.slice ao al ac]) (by simp[results,Tryz.results115,go_sem,q9c0,q9c1,q9c2,q9c3,q9c4,q9c5,q9c6,q9c7,q9c8,q9c9,q9c10,q9c11,q9c12,q9c13,q9c14,q9c15]) rfl ?_;refine fin _ ?_ (by simp) (λk hk hk2=>?_)
 .iterate 17 (refine bY.set ?_ _ _)
  exact bY.refl _
 iterate 16 (refine(ay _ _ _ _ hk).trans ?_)
 exact ay _ _ _ _ hk2
theorem Ws {j:Nat} {e:Ex} {s:Sx} (h:bJ T j jS=false):uz B T i e s j=kF (.node 0 0 ⟨1,ah T i,bK,bK,e⟩ (.node 0 0 ⟨5,bK,bK,bK,.nil⟩ s .nil) .nil) j:=by
 unfold uz;rw[h];rfl
theorem NW {X:PE} (hX:gP 130 X) (hB:tT 131 B):tN 114 124 (λT i=>bJ T i JG=true) (Pj X B):=by
 intro w pb tb cap i T f pl r hT h hif hr;have hp:=h.plt;have hlow:=h.low;have hi1:=aD hT.last h.lt hif;unfold Pj at hr;obtain⟨rX,r1,hX1,hst1,hv1,hr1⟩:=gN (r1:=.ok ((),i+1)) (show jF (.ok ((),i+1)) (λ_ j=>andThen (X T j) λe j=>andThen (B T j) λs j=>uz B T i e s j)=some r from hr);obtain⟨rT,r2,hT2,hst2,hv2,hr2⟩:=gN (show jF r1 (λab j=>andThen (B T j) λs j=>uz B T i ab.2 s j)=some r from hr1);have HR2:=aj (show jF r2 (λab j=>uz B T i ab.1.2 ab.2 j)=some r from hr2);have HX1:=aj hX1;have HT2:=aj hT2;have HST1:=aj hst1;have HST2:=aj hst2;have HV:=aj (And.intro hv1 hv2);clear hr hr1 hr2 hX1 hT2 hst1 hst2 hv1 hv2 hif;go_enter Tryz.func114,Tryz.ntmps114;go_wp2_with fail;refine(jB _ pb tb cap i T f pl (h.alloc _) hi1).mono ?_;rintro e w1 ⟨rfl,h1,k1⟩;have q1:w1.heap[w.heap.size]?=some (.cells #[.int .i64 0,.int .i64 0,.string ⟨#[]⟩,.int .i32 0,.int .i32 0,.int .i64 0,.int .i64 0,.string ⟨#[]⟩,.int .i32 0,.int .i32 0,.slice none 0 0,.slice none 0 0,.slice none 0 0] 124 (0,0)):=(k1.2 _ (by simp) (by omega)).trans (aA w _);have K1:=(aB.alloc pb w _).trans k1;have lt1:w.heap.size<w1.heap.size:=(az.1 q1).1;clear h k1;unfold jC pE;go_wp2_with fail;obtain⟨w2,hw2⟩:∃w2,w1.alloc (.cells #[.int .i64 (kP (ah T i)),.int .i64 (ah T i).place,.string (wP (ah T i)),.int .i32 (nP (ah T i)),.int .i32 (sP (ah T i)),.int .i64 0,.int .i64 0,.string ⟨#[]⟩,.int .i32 0,.int .i32 0,.slice none 0 0,.slice none 0 0,.slice none 0 0] 124)=w2:=⟨_,rfl⟩;rw[hw2]
 have u2:w2.heap[w1.heap.size]?=some (.cells #[.int .i64 (kP (ah T i)),.int .i64 (ah T i).place,.string (wP (ah T i)),.int .i32 (nP (ah T i)),.int .i32 (sP (ah T i)),.int .i64 0,.int .i64 0,.string ⟨#[]⟩,.int .i32 0,.int .i32 0,.slice none 0 0,.slice none 0 0,.slice none 0 0] 124 (0,0)):=by rw[<-hw2];exact aA w1 _
 have q2:w2.heap[w.heap.size]?=some (.cells #[.int .i64 0,.int .i64 0,.string ⟨#[]⟩,.int .i32 0,.int .i32 0,.int .i64 0,.int .i64 0,.string ⟨#[]⟩,.int .i32 0,.int .i32 0,.slice none 0 0,.slice none 0 0,.slice none 0 0] 124 (0,0)):=by rw[<-hw2];exact(av w1 _ _ lt1).trans q1
 have h2:cK w2 pb tb cap T f pl (.ok ((),i+1)):=by rw[<-hw2];exact h1.alloc _
 have K2:aB pb w w2:=by rw[<-hw2];exact K1.trans (aB.alloc pb w1 _)
 have lt2:w1.heap.size<w2.heap.size:=(az.1 u2).1;clear h1 q1 K1 hw2;refine(Ad hX hT _ pb tb cap f pl h2 (aa HX1)).mono ?_;rintro e w3 ⟨k3,a0,a1,a2,a3,a4,ao,al,ac,rfl,h3⟩;have u3:=(k3.2 _ lt2 (by omega)).trans u2;have q3:=(k3.2 _ (by omega) (by omega)).trans q2;have K3:=K2.trans k3;have lt3:=k3.1;clear h2 q2 u2 K2 k3;obtain⟨⟨u3c0,u3c1,u3c2,u3c3,u3c4,u3c5,u3c6,u3c7,u3c8,u3c9,u3c10,u3c11,u3c12⟩,u3z0,u3z1,u3z2,u3z3,u3z4,u3z5,u3z6,u3z7,u3z8,u3z9,u3z10,u3z11,u3z12⟩:=qR u3;unfold nN;go_wp2_with fail;obtain⟨w4,hw4⟩:∃w4,(((((w3.setCell ⟨w1.heap.size,5,none⟩ (.int .i64 a0)).setCell ⟨w1.heap.size,6,none⟩ (.int .i64 a1)).setCell ⟨w1.heap.size,7,none⟩ (.string a2)).setCell ⟨w1.heap.size,8,none⟩ (.int .i32 a3)).setCell ⟨w1.heap.size,9,none⟩ (.int .i32 a4)).setCell ⟨w1.heap.size,10,none⟩ (.slice ao al ac)=w4:=⟨_,rfl⟩;rw[hw4];have o4:∀k,k≠w1.heap.size->w4.heap[k]?=w3.heap[k]?:=λk hk=>by
  rw[<-hw4]
  iterate 6 (refine(ay _ _ _ _ hk).trans ?_)
  rfl
 have z4:w4.heap.size=w3.heap.size:=by rw[<-hw4];simp
 have sm4:bY w3 w4:=by
  rw[<-hw4]
  iterate 6 (refine bY.set ?_ _ _)
  exact bY.refl _
 have u4:w4.heap[w1.heap.size]?=some (.cells #[.int .i64 (kP (ah T i)),.int .i64 (ah T i).place,.string (wP (ah T i)),.int .i32 (nP (ah T i)),.int .i32 (sP (ah T i)),.int .i64 a0,.int .i64 a1,.string a2,.int .i32 a3,.int .i32 a4,.slice ao al ac,.slice none 0 0,.slice none 0 0] 124 (0,0)):=by rw[<-hw4];exact(aM _ w1.heap.size 10 _ _ _ (aM _ w1.heap.size 9 _ _ _ (aM _ w1.heap.size 8 _ _ _ (aM _ w1.heap.size 7 _ _ _ (aM _ w1.heap.size 6 _ _ _ (aM _ w1.heap.size 5 _ _ _ u3))))))
 have q4:=(o4 _ (by omega)).trans q3;have h4:cK w4 pb tb cap T f pl r1:=cK.two (aa HST1 _ _ _ _ _ _ _ (zT.st h3)) (λk hk=>o4 k (by omega));have K4:aB pb w w4:=⟨by have:=K3.1;omega,λk hk hn=>(o4 k (by omega)).trans (K3.2 k hk hn),K3.same.trans sm4⟩;have O4:=aj o4;clear hw4 u3c0 u3c1 u3c2 u3c3 u3c4 u3c5 u3c6 u3c7 u3c8 u3c9 u3c10 u3c11 u3c12 u3z0 u3z1 u3z2 u3z3 u3z4 u3z5 u3z6 u3z7 u3z8 u3z9 u3z10 u3z11 u3z12 u3 q3 K3 o4;refine(DZ hB hT _ pb tb cap f pl h4 (aa HT2)).mono ?_;rintro e w5 ⟨k5,to,tl,tc,rfl,h5⟩;have u5:=(k5.2 _ (by omega) (by omega)).trans u4;have q5:=(k5.2 _ (by omega) (by omega)).trans q4;have K5:=K4.trans k5;have lt5:=k5.1;clear h4 q4 u4 K4;obtain⟨⟨u5c0,u5c1,u5c2,u5c3,u5c4,u5c5,u5c6,u5c7,u5c8,u5c9,u5c10,u5c11,u5c12⟩,u5z0,u5z1,u5z2,u5z3,u5z4,u5z5,u5z6,u5z7,u5z8,u5z9,u5z10,u5z11,u5z12⟩:=qR u5;go_wp2_with fail;obtain⟨w6,hw6⟩:∃w6,w5.setCell ⟨w1.heap.size,11,none⟩ (.slice to tl tc)=w6:=⟨_,rfl⟩;rw[hw6];have o6:∀k,k≠w1.heap.size->w6.heap[k]?=w5.heap[k]?:=λk hk=>by
  rw[<-hw6]
  iterate 1 (refine(ay _ _ _ _ hk).trans ?_)
  rfl
 have z6:w6.heap.size=w5.heap.size:=by rw[<-hw6];simp
 have sm6:bY w5 w6:=by
  rw[<-hw6]
  iterate 1 (refine bY.set ?_ _ _)
  exact bY.refl _
 have u6:w6.heap[w1.heap.size]?=some (.cells #[.int .i64 (kP (ah T i)),.int .i64 (ah T i).place,.string (wP (ah T i)),.int .i32 (nP (ah T i)),.int .i32 (sP (ah T i)),.int .i64 a0,.int .i64 a1,.string a2,.int .i32 a3,.int .i32 a4,.slice ao al ac,.slice to tl tc,.slice none 0 0] 124 (0,0)):=by rw[<-hw6];exact(aM _ w1.heap.size 11 _ _ _ u5)
 have q6:=(o6 _ (by omega)).trans q5;have h6:cK w6 pb tb cap T f pl r2:=cK.two (aa HST2 _ _ _ _ _ _ _ h5.st) (λk hk=>o6 k (by omega));have K6:aB pb w w6:=⟨by have:=K5.1;omega,λk hk hn=>(o6 k (by omega)).trans (K5.2 k hk hn),K5.same.trans sm6⟩;have rep6:∀W:World,(∀k,k≠w.heap.size->k≠w1.heap.size->k≠pb->k<w6.heap.size->W.heap[k]?=w6.heap[k]?)->∀e s j u,r2=.ok (((u,e),s),j)->(∃x k sv,QZ e x k/\qV x sv=nN a0 a1 a2 a3 a4 (.slice ao al ac)/\qA W (λg=>w.heap.size<=g) sv k)/\dh W (λg=>w.heap.size<=g) (.slice to tl tc) s:=by
  intro W hW e s j u er;obtain⟨hv1,hv2⟩:=aa HV;obtain⟨j2,e1,eT⟩:=hv2 _ _ er;obtain⟨j1,_,eX⟩:=hv1 _ _ e1;rw[eT]at h5;rw[eX]at h3;constructor
  .obtain⟨b,o,t,k,rr,sv,he,hv,hk⟩:=h3.2;refine⟨t,k,sv,⟨b,o,rr,he⟩,hv.symm,hk.later (λk hk hl=>?_) (λk hk _=>?_)⟩
   .have hk:w2.heap.size<=k:=hk;exact(hW k (by omega) (by omega) (by omega) (by omega)).trans ((o6 k (by omega)).trans ((k5.2 k (by omega) (by omega)).trans (aa O4 k (by omega))))
   .have hk:w2.heap.size<=k:=hk;show w.heap.size<=k;omega
  .refine h5.2.later (λk hk hl=>?_) (λk hk _=>?_)
   .have hk:w4.heap.size<=k:=hk;exact(hW k (by omega) (by omega) (by omega) (by omega)).trans (o6 k (by omega))
   .have hk:w4.heap.size<=k:=hk;show w.heap.size<=k;omega
 have REP6:=aj rep6;clear hw6 u5c0 u5c1 u5c2 u5c3 u5c4 u5c5 u5c6 u5c7 u5c8 u5c9 u5c10 u5c11 u5c12 u5z0 u5z1 u5z2 u5z3 u5z4 u5z5 u5z6 u5z7 u5z8 u5z9 u5z10 u5z11 u5z12 u5 q5 K5 o6 k5 h3 h5 rep6 O4;obtain⟨i',f',pl',hps,hdead⟩:∃i' f' pl',bg w6 pb tb cap T i' f' pl'/\((∃a,r2=.ok (a,i')/\f'=f/\pl'=pl)∨(∃x,i'=T.length-1/\r2=.error x/\f'=mo f/\pl'=nY f pl (ah T x).place)):=by
  cases r2 with
  | error x=>exact⟨_,_,_,h6,.inr ⟨x,rfl,rfl,rfl,rfl⟩⟩
  | ok p=>exact⟨p.2,f,pl,h6,.inl ⟨p.1,rfl,rfl,rfl⟩⟩
 refine(dM w6 pb tb cap i' T f' pl' hps).mono ?_;rintro e w7 ⟨rfl,hb7⟩;unfold jC pE;go_wp2_with fail;refine(dm _ (kP (ah T i')) (ah T i').place (nP (ah T i')) (sP (ah T i')) (wP (ah T i')) w7.heap.size 0 1 [jS] (fJ w7 [jS]) (by simp)).mono ?_;rintro e w8 ⟨rfl,hb8⟩;have B8:Below w6.heap.size w6 w8:=(hb7.alloc hb7.size _).trans (hb8.mono (by have:=hb7.size;simp;omega));have es:((kP (ah T i')==2)&&[jS].any (λt=>(wP (ah T i')).toList==t.toList))=[jS].any (bJ T i'):=rG hT i' (λs hs=>JX s (by simp only[aO,aQ,aR]at hs;subst hs;simp));have es2:[jS].any (bJ T i')=bJ T i' jS:=by simp
 rw[es,es2];have u8:=(B8.block _ (by omega)).trans u6;have q8:=(B8.block _ (by omega)).trans q6;have K8:=K6.trans (aB.below B8);have hps8:=hps.below B8 (af _);have h8:=cK.later h6 (λk hk=>B8.block k hk);have sz8:=B8.size;clear es es2 hb7 hb8 q6 u6 K6 hps h6
 cases hel:bJ T i' jS
 .skip
  have fin:∀W:World,bY w8 W->w8.heap.size<=W.heap.size->(∀k,k≠w.heap.size->k≠w1.heap.size->W.heap[k]?=w8.heap[k]?)->TS 124 w pb tb cap T f pl r (.returned (.agg #[.int .i64 (kP (ah T i)),.int .i64 (ah T i).place,.string (wP (ah T i)),.int .i32 (nP (ah T i)),.int .i32 (sP (ah T i)),.int .i64 a0,.int .i64 a1,.string a2,.int .i32 a3,.int .i32 a4,.slice ao al ac,.slice to tl tc,.slice none 0 0])) W:=by
   intro W hsame hs hW;refine⟨⟨by have:=K8.1;omega,λk hk hn=>(hW k (by omega) (by omega)).trans (K8.2 k hk hn),K8.same.trans hsame⟩,_,rfl,?_⟩;have hr:=aa HR2;rcases hdead with⟨a,rfl,rfl,rfl⟩|⟨x,rfl,rfl,rfl,rfl⟩
   .obtain⟨⟨u,e⟩,s⟩:=a;have hr:uz B T i e s i'=some r:=hr;rw[Ws hel]at hr
    cases hr;obtain⟨⟨x,k,sv,h1,h2,h3⟩,h4⟩:=aa REP6 W (λk a b c d=>(hW k a b).trans (B8.block k d)) e s i' u rfl;obtain⟨rfl,rfl,rfl,rfl,rfl,rfl⟩:=wO h2.symm;refine⟨cK.two (r:=.ok (((u,e),s),i')) h8 (λk hk=>hW k (by omega) (by omega)),.inr (.inl ⟨rfl,x,k,_,_,_,h1,rfl,h3,h4,.inl ⟨rfl,_,_,rfl⟩⟩)⟩
   .cases hr;exact cK.two (r:=.error x) (α:=Sx) h8 (λk hk=>hW k (by omega) (by omega))
  have HD8:=aj hdead;obtain⟨⟨u8c0,u8c1,u8c2,u8c3,u8c4,u8c5,u8c6,u8c7,u8c8,u8c9,u8c10,u8c11,u8c12⟩,u8z0,u8z1,u8z2,u8z3,u8z4,u8z5,u8z6,u8z7,u8z8,u8z9,u8z10,u8z11,u8z12⟩:=qR u8;obtain⟨⟨q8c0,q8c1,q8c2,q8c3,q8c4,q8c5,q8c6,q8c7,q8c8,q8c9,q8c10,q8c11,q8c12⟩,q8z0,q8z1,q8z2,q8z3,q8z4,q8z5,q8z6,q8z7,q8z8,q8z9,q8z10,q8z11,q8z12⟩:=qR q8;have zH:w.heap.size≠w1.heap.size:=by omega
  clear hps8 h8 hdead B8;clear K8 u8 q8 HR2 REP6 HV;go_wp2;refine aL (v:=.agg #[.int .i64 (kP (ah T i)),.int .i64 (ah T i).place,.string (wP (ah T i)),.int .i32 (nP (ah T i)),.int .i32 (sP (ah T i)),.int .i64 a0,.int .i64 a1,.string a2,.int .i32 a3,.int .i32 a4,.slice ao al ac,.slice to tl tc,.slice none 0 0]) (by simp[results,Tryz.results114,go_sem,q8c0,q8c1,q8c2,q8c3,q8c4,q8c5,q8c6,q8c7,q8c8,q8c9,q8c10,q8c11,q8c12]) rfl ?_;refine fin _ ?_ (by simp) (λk hk hk2=>?_)
  .iterate 13 (refine bY.set ?_ _ _)
   exact bY.refl _
  iterate 13 (refine(ay _ _ _ _ hk).trans ?_)
  rfl
 .skip
  obtain⟨a,hcur⟩:∃a,r2=.ok (a,i')/\f'=f/\pl'=pl:=by
   rcases hdead with hd|⟨x,rfl,_⟩
   .exact hd
   .rw[ku hT.last]at hel;cases hel
  obtain⟨e2',rfl,rfl⟩:=hcur;subst e2';obtain⟨⟨u,e⟩,s⟩:=a;have hi2:=aD hT.last hps8.lt hel;have hr:=aa HR2;have hr:uz B T i e s i'=some r:=hr;unfold uz at hr;rw[hel,ag rfl]at hr;obtain⟨rE,r3,hE,hst3,hv3,hr3⟩:=gN (r1:=.ok ((),i'+1)) (show jF (.ok ((),i'+1)) (λ_ j=>andThen (B T j) λu k=>kF (.node 0 0 ⟨1,ah T i,bK,bK,e⟩ (.node 0 0 ⟨5,bK,bK,bK,.nil⟩ s u) .nil:Sx) k)=some r from hr);have HR3:=aj (Dk (g:=λ(ab:Unit×Sx)=>(.node 0 0 ⟨1,ah T i,bK,bK,e⟩ (.node 0 0 ⟨5,bK,bK,bK,.nil⟩ s ab.2) .nil:Sx)) hr3);have HE:=aj hE;have HST3:=aj hst3;have HV3:=aj hv3;clear hr hr3 hE hst3 hv3 hdead HR2 h8;go_wp2_with fail;refine(jB w8 pb tb cap i' T f' pl' hps8 hi2).mono ?_;rintro e9 w9 ⟨rfl,h9,k9⟩;have u9:=(k9.2 _ (by omega) (by omega)).trans u8;have q9:=(k9.2 _ (by omega) (by omega)).trans q8;have K9:=K8.trans k9;have lt9:=k9.1;have REP9:∀W:World,(∀k,k≠w.heap.size->k≠w1.heap.size->k≠pb->k<w9.heap.size->W.heap[k]?=w9.heap[k]?)->_:=λW hW=>aa REP6 W (λk a b c d=>(hW k a b c (by omega)).trans ((k9.2 k (by omega) c).trans (B8.block k d)));have REP9:=aj REP9;clear hps8 u8 q8 K8 k9 B8 REP6;unfold jC pE;go_wp2_with fail;refine(DZ hB hT _ pb tb cap f' pl' (r1:=.ok ((),i'+1)) (show cK _ pb tb cap T f' pl' (.ok ((),i'+1)) from h9) (aa HE)).mono ?_;rintro e10 w10 ⟨k10,bo,bl,bc,rfl,h10⟩;have u10:=(k10.2 _ (by omega) (by omega)).trans u9;have q10:=(k10.2 _ (by omega) (by omega)).trans q9;have K10:=K9.trans k10;have lt10:=k10.1;clear h9 u9 q9 K9
  have fin:∀W:World,bY w10 W->w10.heap.size<=W.heap.size->(∀k,k≠w.heap.size->k≠w1.heap.size->W.heap[k]?=w10.heap[k]?)->TS 124 w pb tb cap T f' pl' r (.returned (.agg #[.int .i64 (kP (ah T i)),.int .i64 (ah T i).place,.string (wP (ah T i)),.int .i32 (nP (ah T i)),.int .i32 (sP (ah T i)),.int .i64 a0,.int .i64 a1,.string a2,.int .i32 a3,.int .i32 a4,.slice ao al ac,.slice to tl tc,.slice bo bl bc])) W:=by
   intro W hsame hs hW;refine⟨⟨by have:=K10.1;omega,λk hk hn=>(hW k (by omega) (by omega)).trans (K10.2 k hk hn),K10.same.trans hsame⟩,_,rfl,?_⟩;have st:=cK.mapR (cK.two (aa HST3 _ _ _ _ _ _ _ h10.st) (λk hk=>hW k (by omega) (by omega))) (λ(ab:Unit×Sx)=>(.node 0 0 ⟨1,ah T i,bK,bK,e⟩ (.node 0 0 ⟨5,bK,bK,bK,.nil⟩ s ab.2) .nil:Sx));have hr4:=aa HR3;subst hr4
   cases r3 with
   | error y=>exact st
   | ok q=>
    obtain⟨⟨u2,s2⟩,j⟩:=q;obtain⟨j3,_,eE⟩:=aa HV3 _ _ rfl;rw[eE]at h10;obtain⟨⟨x,k,sv,h1,h2,h3⟩,h4⟩:=aa REP9 W (λk a b c d=>(hW k a b).trans (k10.2 k d c)) e s i' u rfl;obtain⟨rfl,rfl,rfl,rfl,rfl,rfl⟩:=wO h2.symm;refine⟨st,.inr (.inl ⟨rfl,x,k,_,_,_,h1,rfl,h3,h4,h10.2.later (λk hk hl=>?_) (λk hk _=>?_)⟩)⟩
    .have hk:w9.heap.size<=k:=hk;exact hW k (by omega) (by omega)
    .have hk:w9.heap.size<=k:=hk;show w.heap.size<=k;omega
  obtain⟨⟨u10c0,u10c1,u10c2,u10c3,u10c4,u10c5,u10c6,u10c7,u10c8,u10c9,u10c10,u10c11,u10c12⟩,u10z0,u10z1,u10z2,u10z3,u10z4,u10z5,u10z6,u10z7,u10z8,u10z9,u10z10,u10z11,u10z12⟩:=qR u10;obtain⟨⟨q10c0,q10c1,q10c2,q10c3,q10c4,q10c5,q10c6,q10c7,q10c8,q10c9,q10c10,q10c11,q10c12⟩,q10z0,q10z1,q10z2,q10z3,q10z4,q10z5,q10z6,q10z7,q10z8,q10z9,q10z10,q10z11,q10z12⟩:=qR q10;have zH:w.heap.size≠w1.heap.size:=by omega
  clear h10 k10;clear K10 u10 q10 HR3 REP9 HV HV3;go_wp2;refine aL (v:=.agg #[.int .i64 (kP (ah T i)),.int .i64 (ah T i).place,.string (wP (ah T i)),.int .i32 (nP (ah T i)),.int .i32 (sP (ah T i)),.int .i64 a0,.int .i64 a1,.string a2,.int .i32 a3,.int .i32 a4,.slice ao al ac,.slice to tl tc,.slice bo bl bc]) (by simp[results,Tryz.results114,go_sem,q10c0,q10c1,q10c2,q10c3,q10c4,q10c5,q10c6,q10c7,q10c8,q10c9,q10c10,q10c11,q10c12]) rfl ?_;refine fin _ ?_ (by simp) (λk hk hk2=>?_)
  .iterate 14 (refine bY.set ?_ _ _)
   exact bY.refl _
  iterate 13 (refine(ay _ _ _ _ hk).trans ?_)
  exact ay _ _ _ _ hk2
theorem Yg (X:PE) (hX:gP 130 X):xk (oU X J2 D9) 91 93 2/\xk (oU X xS wF) 40 41 2/\xk (jN X xS wF) 40 41 3:=
 ⟨Ev hX J2 D9 91 93 fH.2.2.1 Qb4 fH.2.2.2.1 YJ 2 (by decide) (by decide) (λT i=>Jz X J2 D9 T i),
  Ev hX xS wF 40 41 fH.1 rW fH.2.1 KL 2 (by decide) (by decide) (λT i=>Jz X xS wF T i),
  Ev hX xS wF 40 41 fH.1 rW fH.2.1 KL 3 (by decide) (by decide) (λT i=>MZ X xS wF T i)⟩
theorem Zo (n:Nat):gP 130 (yG n).1/\gP 149 (yG n).2:=QM (λX hX _=>Yg X hX) n
theorem Rs (n:Nat) (i:Nat) (h:dZ T i=false):(zB n).1 T i=Lp i∨(zB n).1 T i=none:=by
 cases n with
 | zero=>exact .inr rfl
 | succ n=>
  rw[zB];split
  .exact .inr rfl
  .exact .inl (by rw[<-Qe2];exact Qi3 i h)
theorem Rp (m:Nat) (hm:m<=100000):tT 88 (Fe noS m):=by
 intro w pb tb cap i T f pl r hT h hr;refine uG (lg _ _ _) (lg _ _ _) (lg _ _ _) (lg _ _ _) (lg _ _ _) m hm w pb tb cap i T f pl r hT h ?_
 cases m with
 | zero=>cases hr
 | succ m=>
  unfold Fe at hr ⊢;rw[oh]at hr ⊢;split at hr
  .cases hr
  .rename_i hs;rw[ae hs];exact hr
theorem Qc8 (n:Nat) (hn:n<=100000):tT 131 (zB n).2/\(∀m,m<=100000->tT 88 (Fe (zB n).1 m)):=by
 induction n with
 | zero=>exact⟨λ_ _ _ _ _ _ _ _ _ _ _ h=>by(cases h),λm hm=>Rp m hm⟩
 | succ n ih=>
  have ih:=ih (by omega);rw[zB];split
  .exact⟨λ_ _ _ _ _ _ _ _ _ _ _ h=>by(cases h),λm hm=>Rp m hm⟩
  constructor
  .intro w pb tb cap i T f pl r hT h hr;dsimp only at hr;unfold r9 at hr;split at hr
   .cases hr
   .refine G7 (ih.2 (n-1) (by omega)) w pb tb cap i T f pl r hT h ?_;unfold ZX;obtain⟨r1,e1⟩:=dK T Oz i;rw[e1]at hr ⊢
    cases r1 with
    | error x=>exact hr
    | ok q=>obtain⟨_,j⟩:=q;exact V9 (λi hi=>Rs n i hi) hr
  .intro m hm;dsimp only;rw[<-Qe2];have hX:=(Zo n).1;exact uG (MR hX) (NW hX ih.1) (UW ih.1) (O7 hX 3 (.inl rfl)) (O7 hX 4 (.inr rfl)) m hm
end Go.Proofs.YthmmgiaobakilaaGreat
