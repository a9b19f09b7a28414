import Derived.Test.YthmmgiaobakilaaGreatK09
set_option maxRecDepth 100000
namespace Go.Proofs.YthmmgiaobakilaaGreat
open Go.RowKit Go.Deep
def decC (l:List (Tok×Bool)):List Value:=l.flatMap (fun d=>tokC d.1++[.bool d.2])
theorem decC_snoc (l:List (Tok×Bool)) (d:Tok×Bool):decC (l++[d])=decC l++(tokC d.1++[.bool d.2]):=by simp [decC]
theorem decC_len (l:List (Tok×Bool)):(decC l).length=l.length*6:=by
 induction l with
 | nil=>rfl
 | cons a l ih=>simp only [decC,List.flatMap_cons,List.length_append] at ih ⊢;rw [ih];simp [tokC];omega
def pNmL (T:List Tok) (hd:Bool):Nat→List (Tok×Bool)→Nat→PR (List (Tok×Bool))
 | 0,_,_=>none
 | n+1,acc,i=>if isT T i sCM then andThen (pKind T 1 (i+1)) fun t j=>pNmL T hd n (acc++[(t,hd)]) j else andThen (pNeed T sSC i) fun _ k=>got acc k
def pDcl (T:List Tok) (hd:Bool) (n i:Nat):PR (List (Tok×Bool)):=andThen (pKind T 1 i) fun t j=>pNmL T hd n [(t,hd)] j
theorem names_are (T:List Tok) (hd:Bool):∀(n i:Nat) (acc:List (Tok×Bool)) (r:Except Nat (List (Tok×Bool)×Nat)),pNames T hd n i=some r→(andThen (pKind T 1 i) fun t j=>pNmL T hd n (acc++[(t,hd)]) j)=some (mapR (fun l=>acc++l) r):=by
 intro n
 induction n with
 | zero=>intro i acc r h;cases h
 | succ n ih=>
  intro i acc r h
  rw [pNames] at h
  cases hk:pKind T 1 i with
  | none=>rw [hk] at h;cases h
  | some q=>
   rw [hk] at h
   cases q with
   | error x=>cases h;rfl
   | ok q=>
    obtain ⟨t,j⟩:=q
    have h:(if isT T j sCM then andThen (pNames T hd n (j+1)) fun l k=>got ((t,hd)::l) k else andThen (pNeed T sSC j) fun _ k=>got [(t,hd)] k)=some r:=h
    show pNmL T hd (n+1) (acc++[(t,hd)]) j=_
    rw [pNmL]
    cases hc:isT T j sCM
    ·rw [hc,if_neg (by simp)] at h
     rw [if_neg (by simp)]
     obtain ⟨r1,e1⟩:=need_some T sSC j
     rw [e1] at h ⊢
     cases r1 with
     | error x=>cases h;rfl
     | ok q=>cases h;rfl
    ·rw [hc,if_pos rfl] at h
     rw [if_pos rfl]
     cases hn:pNames T hd n (j+1) with
     | none=>rw [hn] at h;cases h
     | some q=>
      rw [hn] at h
      rw [ih (j+1) (acc++[(t,hd)]) q hn]
      cases q with
      | error x=>cases h;rfl
      | ok q=>cases h;simp [mapR]
def DRes (w':World) (pb tb cap:Nat) (T:List Tok) (f pl:Int) (cs:List Value):Except Nat (List (Tok×Bool)×Nat)→Prop
 | .ok (l,j)=>PsAt w' pb tb cap T j f pl∧cs=decC l
 | .error x=>PsAt w' pb tb cap T (T.length-1) (badF f) (badP f pl (tkAt T x).place)
theorem infoDec:(Tryz.prog.info? 160).map (fun i=>(i.zero,i.size,i.bytes))=some (some (.agg #[.int .i64 0,.int .i64 0,.string ⟨#[]⟩,.int .i32 0,.int .i32 0,.bool false]),6,48):=by kernel_rfl
def DcInv (T:List Tok) (hd:Bool) (pb tb cap:Nat) (f pl:Int) (fin:Except Nat (List (Tok×Bool)×Nat)) (n:Nat) (w0:World) (k:Nat) (v:Value) (w:World):Prop:=
 ∃cs so sl sc m,v = .slice so sl sc∧0 < m∧m+k=n+1∧Kept pb w0 w∧w.ownsRow w0.heap.size 160 6 (.slice so sl sc) m cs∧(∀u∈cs,u.oneCell'=true) ∧
  ∃cur:Except Nat (List (Tok×Bool)×Nat),StAt w pb tb cap T f pl cur∧(∀acc j,cur = .ok (acc,j)→cs=decC acc)∧seqR cur (fun acc j=>pNmL T hd k acc j)=some fin
set_option maxHeartbeats 16000000 in
theorem pdeclaration_any (w:World) (pb tb cap i:Nat) (T:List Tok) (f pl:Int) (r:Except Nat (List (Tok×Bool)×Nat)) (hT:TokW T) (h:PsAt w pb tb cap T i f pl) (hi1:i+1 < T.length) (n:Nat) (hn:n≤100000) (hr:pDcl T (isT T i sHIDDEN) n (i+1)=some r) :
  Calls Tryz.prog 87 #[.pointer (some ⟨pb,0,none⟩)] w fun e w'=>Kept pb w w'∧∃g len c cs,e = .returned (.slice (some ⟨g,0,none⟩) len c)∧0 < len∧len≤n+1∧w'.ownsRow w.heap.size 160 6 (.slice (some ⟨g,0,none⟩) len c) len cs∧(∀u∈cs,u.oneCell'=true)∧DRes w' pb tb cap T f pl cs r:=by
 have hp:=h.plt
 have hlow:=h.low
 unfold pDcl at hr
 obtain ⟨rN,r1,hN,hst1,hv1,hr1⟩:=seq_split (r1:=.ok ((),i+1)) (show seqR (.ok ((),i+1)) (fun _ j=>andThen (pKind T 1 j) fun t j=>pNmL T (isT T i sHIDDEN) n [(t,isT T i sHIDDEN)] j)=some r from hr)
 have HR1:=hide (show seqR r1 (fun ab j=>pNmL T (isT T i sHIDDEN) n [(ab.2,isT T i sHIDDEN)] j)=some r from hr1)
 have HN:=hide hN
 have HST1:=hide hst1
 have HV1:=hide hv1
 clear hr hr1 hN hst1 hv1
 obtain ⟨i0,hi0,hz0,hz1,hz2⟩:=info_parts infoDec
 go_enter Tryz.func87,Tryz.ntmps87
 go_wp2_with fail
 refine (take_any _ pb tb cap i T f pl h hi1).mono ?_
 rintro e w1 ⟨rfl,h1,k1⟩
 unfold tokP tkV
 go_wp2_with fail
 refine (isWord_any _ (kP (tkAt T i)) (tkAt T i).place (nP (tkAt T i)) (sP (tkAt T i)) (wP (tkAt T i)) w1.heap.size 0 1 [sHIDDEN] (strs_new w1 [sHIDDEN]) (by simp)).mono ?_
 rintro e w2 ⟨rfl,hb2⟩
 have es:((kP (tkAt T i)==2)&&[sHIDDEN].any (fun t=>(wP (tkAt T i)).toList==t.toList))=[sHIDDEN].any (isT T i):=wd_is hT i (fun s hs=>kw_ok s (by simp only [List.mem_cons,List.not_mem_nil,or_false] at hs;subst hs;simp))
 have es2:[sHIDDEN].any (isT T i)=isT T i sHIDDEN:=by simp
 rw [es,es2]
 obtain ⟨hd,hhd⟩:∃hd,isT T i sHIDDEN=hd:=⟨_,rfl⟩
 rw [hhd] at HR1 ⊢
 have B2:Below w1.heap.size w1 w2:=((Below.refl _ w1).alloc (Nat.le_refl _) _).trans (hb2.mono (by simp))
 have h2:=h1.below B2 (Nat.le_refl _)
 have K2:=k1.trans (Kept.below (pb:=pb) B2)
 clear h h1 k1 hb2 B2 es es2 hhd
 go_wp2_with fail
 refine (name_seq hT _ pb tb cap f pl (r1:=.ok ((),i+1)) (show StAt _ pb tb cap T f pl (.ok ((),i+1)) from h2) (unhide HN)).mono ?_
 rintro e w3 ⟨rfl,k3,h3⟩
 have K3:=K2.trans k3
 have lt3:=K3.1
 obtain ⟨n0,n1,n2,n3,n4,hnn⟩:=tokR_form rN
 rw [hnn]
 have inv0:DcInv T hd pb tb cap f pl r n w n (.slice (some ⟨w3.heap.size,0,none⟩) 1 1) (w3.alloc (.cells #[.int .i64 n0,.int .i64 n1,.string n2,.int .i32 n3,.int .i32 n4,.bool hd] 160)):=by
  refine ⟨[.int .i64 n0,.int .i64 n1,.string n2,.int .i32 n3,.int .i32 n4,.bool hd],_,_,_,1,rfl,by omega,by omega,K3.trans (Kept.alloc pb w3 _),⟨by simp,.inr ⟨_,_,_,rfl,lt3,heap_alloc_new w3 _,by omega,by unfold maxLen;omega,by simp,by simp⟩⟩,by simp [Value.oneCell'],mapR (fun ab=>[(ab.2,hd)]) r1,StAt.mapR (StAt.alloc (unhide HST1 _ _ _ _ _ _ _ h3) _) _,?_,?_⟩
  ·intro acc j e
   cases r1 with
   | error x=>cases e
   | ok q=>
    obtain ⟨⟨u,t⟩,j'⟩:=q
    cases e
    obtain ⟨j0,_,eN⟩:=unhide HV1 _ _ rfl
    rw [eN] at hnn
    obtain ⟨rfl,rfl,rfl,rfl,rfl⟩:=tkV_inj hnn
    rfl
  ·have:=unhide HR1
   cases r1 with
   | error x=>exact this
   | ok q=>exact this
 clear K2 k3 h2 h3 K3 hnn HR1 HN HST1 HV1
 unfold tkV
 go_wp2
 go_loopg [4] n (fun k v wr=>DcInv T hd pb tb cap f pl r n w k v wr)
 case atStart=>exact inv0
 case round=>
 clear inv0
 obtain ⟨cs,so,sl,sc,m,rfl,hm0,hcl,kw,own,hone,cur,hst,hex,hpa⟩:=hrel
 obtain ⟨i',f',pl',hps,hdead⟩:∃i' f' pl',PsAt wr pb tb cap T i' f' pl'∧((∃acc,cur = .ok (acc,i')∧f'=f∧pl'=pl)∨(∃x,i'=T.length-1∧cur = .error x∧f'=badF f∧pl'=badP f pl (tkAt T x).place)):=by
  cases cur with
  | error x=>exact ⟨_,_,_,hst,.inr ⟨x,rfl,rfl,rfl,rfl⟩⟩
  | ok p=>exact ⟨p.2,f,pl,hst,.inl ⟨p.1,rfl,rfl,rfl⟩⟩
 obtain ⟨g,c',e,hg,hg2⟩:=own.form hm0
 cases e
 go_wp2_with fail
 refine (next_any wr pb tb cap i' T f' pl' hps).mono ?_
 rintro e w4 ⟨rfl,hb4⟩
 unfold tokP tkV
 go_wp2_with fail
 refine (isSign_any _ (kP (tkAt T i')) (tkAt T i').place (nP (tkAt T i')) (sP (tkAt T i')) (wP (tkAt T i')) w4.heap.size 0 1 [44] (runes_one w4 44) (by simp)).mono ?_
 rintro e w5 ⟨rfl,hb5⟩
 have B5:Below wr.heap.size wr w5:=(hb4.alloc hb4.size _).trans (hb5.mono (by have:=hb4.size;simp;omega))
 have es:((kP (tkAt T i')==4)&&[(44:Int)].any (fun t=>sP (tkAt T i')==t))=isT T i' sCM:=by
  rw [List.any_cons,List.any_nil,Bool.or_false,←rune_CM]
  exact sg_is hT i' mem_sg.2.2.2.2.1
 rw [es]
 have hps5:=hps.below B5 (Nat.le_refl _)
 have hst5:=StAt.later hst (fun k hk=>B5.block k hk)
 have own5:=rowP_same own (w':=w5) (fun k hk=>B5.block k (own.lt k hk).2)
 have K5:=kw.trans (Kept.below (pb:=pb) B5)
 have sz5:=K5.1
 clear es hb4 hb5 hps hst own kw B5
 cases hc:isT T i' sCM
 ·obtain ⟨rS,hS,hfin⟩:∃rS:Except Nat (Unit×Nat),seqR cur (fun _ j=>pNeed T sSC j)=some rS∧(∀(w:World),StAt w pb tb cap T f pl rS→StAt w pb tb cap T f pl r)∧∀l j,r = .ok (l,j)→∃j0,cur = .ok (l,j0):=by
   rcases hdead with ⟨acc,rfl,rfl,rfl⟩ | ⟨x,rfl,rfl,rfl,rfl⟩
   ·cases gk with
    | zero=>cases hpa
    | succ gk=>
     have hpa:pNmL T hd (gk+1) acc i'=some r:=hpa
     rw [pNmL,hc,if_neg (by simp)] at hpa
     obtain ⟨rS,eS⟩:=need_some T sSC i'
     rw [eS] at hpa
     refine ⟨rS,eS,?_⟩
     cases rS with
     | error y=>cases hpa;exact ⟨fun _ h=>h,fun l j e=>(by cases e)⟩
     | ok q=>cases hpa;exact ⟨fun _ h=>h,fun l j e=>(by cases e;exact ⟨_,rfl⟩)⟩
   ·cases hpa
    exact ⟨.error x,rfl,fun _ h=>h,fun l j e=>(by cases e)⟩
  have HS:=hide hS
  have HF:=hide hfin
  clear hS hfin hpa hdead hps5
  go_wp2_with fail
  refine (sign_seq hT _ pb tb cap f pl 59 sSC mem_sg.2.2.2.2.2.1 rune_SC hst5 (unhide HS)).mono ?_
  rintro e w6 ⟨rfl,k6,h6⟩
  have own6:=rowP_same own5 (w':=w6) (fun k hk=>k6.2 k (own5.lt k hk).2 (by have:=(own5.lt k hk).1;omega))
  have K6:=K5.trans k6
  have R6:DRes w6 pb tb cap T f pl cs r:=by
   have st:=(unhide HF).1 _ h6
   cases r with
   | error x=>exact st
   | ok q=>
    obtain ⟨l,j⟩:=q
    obtain ⟨j0,ec⟩:=(unhide HF).2 l j rfl
    exact ⟨st,hex l j0 ec⟩
  clear h6 k6 K5 own5 HF hst5 hex
  go_wp2
  go_ret
  exact ⟨K6,g,sl,sc,cs,rfl,hm0,by omega,own6,hone,R6⟩
 ·obtain ⟨acc,ecur,ef,epl⟩:∃acc,cur = .ok (acc,i')∧f'=f∧pl'=pl:=by
   rcases hdead with hd | ⟨x,rfl,_⟩
   ·exact hd
   ·rw [over_is hT.last] at hc;cases hc
  subst ecur
  subst ef
  subst epl
  have hi2:=isT_next hT.last hps5.lt hc
  cases gk with
  | zero=>cases hpa
  | succ gk=>
  have hpa:pNmL T hd (gk+1) acc i'=some r:=hpa
  rw [pNmL,hc,if_pos rfl] at hpa
  obtain ⟨rM,r2,hM,hst2,hv2,hr2⟩:=seq_split (r1:=.ok ((),i'+1)) (show seqR (.ok ((),i'+1)) (fun _ j=>andThen (pKind T 1 j) fun t j=>pNmL T hd gk (acc++[(t,hd)]) j)=some r from hpa)
  have HR2:=hide (show seqR r2 (fun ab j=>pNmL T hd gk (acc++[(ab.2,hd)]) j)=some r from hr2)
  have HM:=hide hM
  have HST2:=hide hst2
  have HV2:=hide hv2
  have hcs:=hide (hex acc i' rfl)
  clear hpa hr2 hM hst2 hv2 hex hdead hst5
  go_wp2_with fail
  refine (take_any w5 pb tb cap i' T f' pl' hps5 hi2).mono ?_
  rintro e w6 ⟨rfl,h6,k6⟩
  have own6:=rowP_same own5 (w':=w6) (fun k hk=>k6.2 k (own5.lt k hk).2 (by have:=(own5.lt k hk).1;omega))
  have K6:=K5.trans k6
  clear hps5 own5 k6 K5
  unfold tokP tkV
  go_wp2_with fail
  refine (name_seq hT _ pb tb cap f' pl' (r1:=.ok ((),i'+1)) (show StAt _ pb tb cap T f' pl' (.ok ((),i'+1)) from h6) (unhide HM)).mono ?_
  rintro e w7 ⟨rfl,k7,h7⟩
  have own7:=rowP_same own6 (w':=w7) (fun k hk=>k7.2 k (own6.lt k hk).2 (by have:=(own6.lt k hk).1;omega))
  have K7:=K6.trans k7
  have sz7:=K7.1
  obtain ⟨t0,t1,t2,t3,t4,htt⟩:=tokR_form rM
  rw [htt]
  have HTT:=hide htt
  clear h6 own6 k7 K6 htt
  unfold tkV
  go_wp2_with (at_builtin;refine wpList_append_lies _ rfl _ _ 65 rfl w.heap.size 160 i0 (.agg #[.int .i64 0,.int .i64 0,.string ⟨#[]⟩,.int .i32 0,.int .i32 0,.bool false]) 6 48 Tryz.underlying65 hi0 hz0 hz1 hz2 rfl (by decide) (.slice (some ⟨g,0,none⟩) sl sc) sl cs rfl (own7.alloc _) ⟨w7.heap.size,0,none⟩ 1 1 [.int .i64 t0,.int .i64 t1,.string t2,.int .i32 t3,.int .i32 t4,.bool hd] rfl rfl (World.news_of_block (heap_alloc_new w7 _)) (by simp [Value.oneCell']) (by decide) (by unfold maxLen;omega) (by omega) (by simp;omega) (w7.heap.size+1) (by simp) ?_;intro g' cap' wn hown hgrow hat hltn)
  have inv1:DcInv T hd pb tb cap f' pl' r n w gk (.slice (some ⟨g',0,none⟩) (sl+1) cap') wn:=by
   have far:∀k,k < w7.heap.size→k < w.heap.size→wn.heap[k]?=w7.heap[k]?:=fun k hk hk2=>(hgrow.block k (by simp;omega) (fun e=>by have e:k=g:=(by simpa [Value.ownBlock] using e);omega)).trans (Below.heap_alloc w7 _ k hk)
   have szn:=hgrow.size
   simp at szn
   refine ⟨_,_,_,_,sl+1,rfl,by omega,by omega,⟨by omega,fun k hk hn=>(far k (by omega) hk).trans (K7.2 k hk hn),K7.same.trans (((Same.refl w7).alloc _).trans (Same.grown hgrow))⟩,hown,?_,mapR (fun ab=>acc++[(ab.2,hd)]) r2,StAt.mapR (StAt.two (unhide HST2 _ _ _ _ _ _ _ h7) (fun k hk=>far k (by omega) (by omega))) _,?_,?_⟩
   ·intro u hu
    rcases List.mem_append.1 hu with hu | hu
    ·exact hone u hu
    ·simp only [List.mem_cons,List.not_mem_nil,or_false] at hu
     rcases hu with rfl | rfl | rfl | rfl | rfl | rfl <;> rfl
   ·intro acc' j' e
    cases r2 with
    | error x=>cases e
    | ok q=>
     obtain ⟨⟨u,t⟩,j''⟩:=q
     cases e
     obtain ⟨j0,_,eM⟩:=unhide HV2 _ _ rfl
     have htt:=unhide HTT
     rw [eM] at htt
     obtain ⟨rfl,rfl,rfl,rfl,rfl⟩:=tkV_inj htt
     rw [decC_snoc,←unhide hcs]
     rfl
   ·have:=unhide HR2
    cases r2 with
    | error x=>exact this
    | ok q=>exact this
  clear hown hgrow own7 K7 h7 HR2 HM HST2 HV2 HTT hcs hone
  go_wp2
  go_roundg gk
  case rel=>exact inv1
  case measure=>omega
def pDcA (T:List Tok) (f:Nat):Nat→List (Tok×Bool)→Nat→PR (List (Tok×Bool))
 | 0,_,_=>none
 | n+1,acc,i=>if isT T i sOPEN||isT T i sHIDDEN then andThen (pDcl T (isT T i sHIDDEN) f (i+1)) fun l j=>pDcA T f n (acc++l) j else got acc i
theorem decls_are (T:List Tok) (f:Nat):∀(n i:Nat) (acc:List (Tok×Bool)) (r:Except Nat (List (Tok×Bool)×Nat)),pDecls T f n i=some r→pDcA T f n acc i=some (mapR (fun l=>acc++l) r):=by
 intro n
 induction n with
 | zero=>intro i acc r h;cases h
 | succ n ih=>
  intro i acc r h
  rw [pDecls] at h
  rw [pDcA]
  cases hc:(isT T i sOPEN||isT T i sHIDDEN)
  ·rw [hc,if_neg (by simp)] at h
   rw [if_neg (by simp)]
   cases h
   simp [mapR,got]
  ·rw [hc,if_pos rfl] at h
   rw [if_pos rfl]
   cases hn:pNames T (isT T i sHIDDEN) f (i+1) with
   | none=>rw [hn] at h;cases h
   | some q=>
    rw [hn] at h
    have e1:=names_are T (isT T i sHIDDEN) f (i+1) [] q hn
    have e2:mapR (fun l=>[]++l) q=q:=by cases q <;> rfl
    rw [e2] at e1
    have e3:pDcl T (isT T i sHIDDEN) f (i+1)=some q:=e1
    rw [e3]
    cases q with
    | error x=>cases h;rfl
    | ok q=>
     obtain ⟨l,j⟩:=q
     have h:andThen (pDecls T f n j) (fun m k=>got (l++m) k)=some r:=h
     cases hd:pDecls T f n j with
     | none=>rw [hd] at h;cases h
     | some q=>
      rw [hd] at h
      show pDcA T f n (acc++l) j=_
      rw [ih j (acc++l) q hd]
      cases q with
      | error x=>cases h;rfl
      | ok q=>cases h;simp [mapR]
def endB (T:List Tok) (s:Sx) (j:Nat):PR Sx:=if (tkAt T j).kind==4 then got s j else bad j
theorem addr_add0 (g j:Nat):Addr.add ⟨g,0,none⟩ j=⟨g,j,none⟩:=by
 by_cases h:j=0 <;> simp [Addr.add,h]
theorem body_acc {S:PS} {T:List Tok} (hbad:∀i,startsT T i=false→S T i=bad i∨S T i=none):∀(n:Nat) (acc:List Sx) (i:Nat) (r:Except Nat (Sx×Nat)),pBody S T n i=some r →
  ∃r':Except Nat (List Sx×Nat),(andThen (pStL S T n acc i) fun l j=>if (tkAt T j).kind==4 then got l j else bad j)=some r'∧((∃x,r = .error x∧r' = .error x)∨∃l' j,r = .ok (rowS l',j)∧r' = .ok (acc++l',j)):=by
 intro n
 induction n with
 | zero=>intro acc i r h;cases h
 | succ n ih=>
  intro acc i r h
  rw [pBody] at h
  cases hc:((tkAt T i).kind==4)
  ·rw [hc,if_neg (by simp)] at h
   cases hs:startsT T i
   ·rcases hbad i hs with hb | hb
    rotate_left
    ·rw [hb] at h;cases h
    rw [hb] at h
    cases h
    refine ⟨.error i,?_,.inl ⟨i,rfl,rfl⟩⟩
    rw [pStL,hs,if_neg (by simp)]
    show (if (tkAt T i).kind==4 then got acc i else bad i)=_
    rw [hc]
    rfl
   ·cases hS:S T i with
    | none=>rw [hS] at h;cases h
    | some q=>
     rw [hS] at h
     cases q with
     | error x=>
      cases h
      refine ⟨.error x,?_,.inl ⟨x,rfl,rfl⟩⟩
      rw [pStL,hs,if_pos rfl,hS]
      rfl
     | ok q=>
      obtain ⟨s,j⟩:=q
      have h:andThen (pBody S T n j) (fun r k=>got (besideS s r) k)=some r:=h
      cases hr:pBody S T n j with
      | none=>rw [hr] at h;cases h
      | some q=>
       rw [hr] at h
       obtain ⟨r',e1,e2⟩:=ih (acc++[s]) j q hr
       have e3:(andThen (pStL S T (n+1) acc i) fun l j=>if (tkAt T j).kind==4 then got l j else bad j)=some r':=by
        rw [pStL,hs,if_pos rfl,hS]
        exact e1
       refine ⟨r',e3,?_⟩
       rcases e2 with ⟨x,rfl,rfl⟩ | ⟨l',j',rfl,rfl⟩
       ·cases h;exact .inl ⟨x,rfl,rfl⟩
       ·cases h;exact .inr ⟨s::l',j',rfl,by simp⟩
  ·rw [hc,if_pos rfl] at h
   cases h
   have hk:(tkAt T i).kind=4:=by simpa using hc
   have hs:startsT T i=false:=by
    unfold startsT isT
    rw [hk]
    rfl
   refine ⟨.ok (acc,i),?_,.inr ⟨[],i,rfl,by simp⟩⟩
   rw [pStL,hs,if_neg (by simp)]
   show (if (tkAt T i).kind==4 then got acc i else bad i)=_
   rw [hc]
   rfl
theorem body_are {S:PS} {T:List Tok} (hbad:∀i,startsT T i=false→S T i=bad i∨S T i=none) {n i:Nat} {r:Except Nat (Sx×Nat)} (h:pBody S T n i=some r):(andThen (pSts S n T i) (endB T))=some r:=by
 obtain ⟨r',e1,e2⟩:=body_acc hbad n [] i r h
 unfold pSts
 rw [then_assoc]
 cases hp:pStL S T n [] i with
 | none=>rw [hp] at e1;cases e1
 | some q=>
  rw [hp] at e1
  cases q with
  | error x=>cases e1;rcases e2 with ⟨y,rfl,e⟩ | ⟨l',j,_,e⟩ <;> cases e;rfl
  | ok q=>
   obtain ⟨l,j⟩:=q
   have e1:(if (tkAt T j).kind==4 then got l j else bad j)=some r':=e1
   show endB T (rowS l) j=some r
   unfold endB
   cases hk:((tkAt T j).kind==4)
   ·rw [hk,if_neg (by simp)] at e1
    cases e1
    rcases e2 with ⟨y,rfl,e⟩ | ⟨l',j,_,e⟩
    ·cases e;rfl
    ·cases e
   ·rw [hk,if_pos rfl] at e1
    cases e1
    rcases e2 with ⟨y,rfl,e⟩ | ⟨l',j,rfl,e⟩
    ·cases e
    ·cases e;rfl
theorem source_are {n:Nat} {T:List Tok} {r:Except Nat ((List (Tok×Bool)×Sx)×Nat)} (h:pSource n T=some r):∃fin,pDcA T n (n-1) [] 0=some fin∧seqR fin (fun ds j=>andThen (pSts (pSB n).1 (n-1) T j) fun s j=>andThen (endB T s j) fun s j=>got (ds,s) j)=some r:=by
 unfold pSource at h
 cases hd:pDecls T n (n-1) 0 with
 | none=>rw [hd] at h;cases h
 | some q=>
  rw [hd] at h
  have e1:=decls_are T n (n-1) 0 [] q hd
  have e2:mapR (fun l=>[]++l) q=q:=by cases q <;> rfl
  rw [e2] at e1
  refine ⟨q,e1,?_⟩
  cases q with
  | error x=>exact h
  | ok q=>
   obtain ⟨ds,j⟩:=q
   have h:andThen (pBody (pSB n).1 T (n-1) j) (fun s k=>got (ds,s) k)=some r:=h
   show (andThen (pSts (pSB n).1 (n-1) T j) fun s j=>andThen (endB T s j) fun s j=>got (ds,s) j)=some r
   rw [←then_assoc]
   cases hb:pBody (pSB n).1 T (n-1) j with
   | none=>rw [hb] at h;cases h
   | some q=>
    rw [body_are (fun i hi=>pSB_bad n i hi) hb,←hb]
    exact h
def RepD (w:World) (Q:Nat→Prop) (sv:Value) (l:List (Tok×Bool)):Prop:=(l=[]∧∃ao c,sv = .slice ao 0 c)∨(l≠[]∧∃g c,sv = .slice (some ⟨g,0,none⟩) l.length c∧Q g∧∀k u,(decC l)[k]?=some u→w.cell? ⟨g,k,none⟩=some u)
theorem RepD.later {w w':World} {Q Q':Nat→Prop} (hk:Stay Q w w') (hB:∀k,Q k→k < w.heap.size→Q' k) {sv:Value} {l:List (Tok×Bool)} (h:RepD w Q sv l):RepD w' Q' sv l:=by
 rcases h with h | ⟨hn,g,c,e,hg,hc⟩
 ·exact .inl h
 ·have h0:0 < (decC l).length:=by rw [decC_len];have:=List.length_pos_iff.2 hn;omega
  have hlt:=World.block_lt_of_cell? _ _ (hc 0 _ (List.getElem?_eq_getElem h0))
  refine .inr ⟨hn,g,c,e,hB g hg hlt,fun k u hu=>?_⟩
  have:=hc k u hu
  simp only [World.cell?] at this ⊢
  rw [hk g hg hlt]
  exact this
def PcInv (T:List Tok) (pb tb cap n N:Nat) (fin:Except Nat (List (Tok×Bool)×Nat)) (w0:World) (k:Nat) (w:World):Prop:=
 ∃so sl sc m cs,w.heap[w0.heap.size]?=some (.cells #[.slice none 0 0,.slice none 0 0] 68 (0,0))∧w.heap[w0.heap.size+1]?=some (.cells #[.int .i64 0,.int .i64 0] 105 (0,0))∧w.heap[w0.heap.size+3]?=some (.cells #[.slice so sl sc,.slice none 0 0] 68 (0,0)) ∧
  w0.heap.size+4≤w.heap.size∧Same w0 w∧(∀j,j < w0.heap.size→w.heap[j]?=w0.heap[j]?)∧w.ownsRow (w0.heap.size+4) 160 6 (.slice so sl sc) m cs∧(∀u∈cs,u.oneCell'=true)∧m+k*(n+1)≤N*(n+1) ∧
  ∃cur:Except Nat (List (Tok×Bool)×Nat),StAt w pb tb cap T 0 0 cur∧(∀acc j,cur = .ok (acc,j)→cs=decC acc)∧seqR cur (fun acc j=>pDcA T n k acc j)=some fin
theorem pc_step {T:List Tok} {pb tb cap n N k:Nat} {fin:Except Nat (List (Tok×Bool)×Nat)} {w0 wc w4 w5:World} {so:Option Addr} {sl sc m g cap' len:Nat} {cs cs2:List Value} {acc:List (Tok×Bool)} {r2:Except Nat (List (Tok×Bool)×Nat)}
  (hpb:pb=w0.heap.size+2) (q1:wc.heap[w0.heap.size]?=some (.cells #[.slice none 0 0,.slice none 0 0] 68 (0,0))) (q2:wc.heap[w0.heap.size+1]?=some (.cells #[.int .i64 0,.int .i64 0] 105 (0,0))) (q3:wc.heap[w0.heap.size+3]?=some (.cells #[.slice so sl sc,.slice none 0 0] 68 (0,0)))
  (hsz:w0.heap.size+4≤wc.heap.size) (hsm:Same w0 wc) (hold:∀j,j < w0.heap.size→wc.heap[j]?=w0.heap[j]?) (own:wc.ownsRow (w0.heap.size+4) 160 6 (.slice so sl sc) m cs) (h1:∀u∈cs,u.oneCell'=true) (h2:∀u∈cs2,u.oneCell'=true) (hm:m+(k+1)*(n+1)≤N*(n+1)) (hlen:len≤n+1)
  (hcs:cs=decC acc) (hpa:andThen (some r2) (fun l j=>pDcA T n k (acc++l) j)=some fin)
  (k4:Kept pb wc w4) (h4:DRes w4 pb tb cap T 0 0 cs2 r2)
  (hown:w5.ownsRow (w0.heap.size+4) 160 6 (.slice (some ⟨g,0,none⟩) (m+len) cap') (m+len) (cs++cs2))
  (hgrow:w4.grownBy w5 (Value.slice so sl sc).ownBlock) :
  PcInv T pb tb cap n N fin w0 k (w5.setCell ⟨w0.heap.size+3,0,none⟩ (.slice (some ⟨g,0,none⟩) (m+len) cap')):=by
 have sz4:=k4.1
 have sz5:=hgrow.size
 have far:∀j,j < wc.heap.size→j < w0.heap.size+4→w5.heap[j]?=w4.heap[j]?:=fun j hj hj2=>hgrow.block j (by omega) (fun e=>by have:=(own.lt j e.symm).1;omega)
 have stay:∀j,j≠w0.heap.size+3→(w5.setCell ⟨w0.heap.size+3,0,none⟩ (.slice (some ⟨g,0,none⟩) (m+len) cap')).heap[j]?=w5.heap[j]?:=fun j hj=>Below.heap_setCell _ _ _ _ hj
 have all:∀j,j < w0.heap.size+4→j≠w0.heap.size+3→j≠pb→(w5.setCell ⟨w0.heap.size+3,0,none⟩ (.slice (some ⟨g,0,none⟩) (m+len) cap')).heap[j]?=wc.heap[j]?:=fun j h1 h2 h3=>(stay j h2).trans ((far j (by omega) h1).trans (k4.2 j (by omega) h3))
 refine ⟨some ⟨g,0,none⟩,m+len,cap',m+len,cs++cs2,(all _ (by omega) (by omega) (by omega)).trans q1,(all _ (by omega) (by omega) (by omega)).trans q2,?_,by simp;omega,(hsm.trans k4.same).trans ((Same.grown hgrow).set _ _),fun j hj=>(all j (by omega) (by omega) (by omega)).trans (hold j hj),rowP_same hown (fun j hj=>stay j (by have:=(hown.lt j hj).1;omega)),?_,?_,?_⟩
 ·exact heap_setCell_same _ (w0.heap.size+3) 0 _ _ _ ((far _ (by omega) (by omega)).trans ((k4.2 _ (by omega) (by omega)).trans q3))
 ·intro u hu
  rcases List.mem_append.1 hu with hu | hu
  ·exact h1 u hu
  ·exact h2 u hu
 ·rw [Nat.succ_mul] at hm
  omega
 ·have two:∀j,j≤pb→(w5.setCell ⟨w0.heap.size+3,0,none⟩ (.slice (some ⟨g,0,none⟩) (m+len) cap')).heap[j]?=w4.heap[j]?:=fun j hj=>(stay j (by omega)).trans (far j (by omega) (by omega))
  cases r2 with
  | error y=>cases hpa;exact ⟨.error y,StAt.two (r:=.error y) (α:=List (Tok×Bool)) h4 two,fun acc j e=>(by cases e),rfl⟩
  | ok q=>
   obtain ⟨l,j⟩:=q
   refine ⟨.ok (acc++l,j),StAt.two (r:=.ok (acc++l,j)) h4.1 two,?_,hpa⟩
   intro acc' j' e
   cases e
   rw [hcs,h4.2]
   simp [decC]
def PsOut (w:World) (T:List Tok) (r:Except Nat ((List (Tok×Bool)×Sx)×Nat)) (e:Ending) (w':World):Prop:=
 Below w.heap.size w w'∧∃no nl nc bo bl bc f pl,e = .returned (.tuple #[.agg #[.slice no nl nc,.slice bo bl bc],.agg #[.int .i64 f,.int .i64 pl]]) ∧
  ((∃ds s j,r = .ok ((ds,s),j)∧f=0∧pl=0∧RepD w' (fun g=>w.heap.size≤g) (.slice no nl nc) ds∧RepL w' (fun g=>w.heap.size≤g) (.slice bo bl bc) s)∨(∃x,r = .error x∧f=9∧pl=(tkAt T x).place))
set_option maxHeartbeats 16000000 in
theorem parse_any (w:World) (tb cap:Nat) (T:List Tok) (hT:TokW T) (htk:PToks w tb T) (htb:tb < w.heap.size) (hfew:T.length≤1000) (hroom:T.length≤cap∧cap≤maxLen) (n:Nat) (hn:n≤1000) (r:Except Nat ((List (Tok×Bool)×Sx)×Nat)) (hr:pSource n T=some r) :
  Calls Tryz.prog 58 #[.slice (some ⟨tb,0,none⟩) T.length cap] w (PsOut w T r):=by
 obtain ⟨fin,hfin,hr2⟩:=source_are hr
 have hlt:=hT.last.1
 obtain ⟨i0,hi0,hz0,hz1,hz2⟩:=info_parts infoDec
 have inv0:PcInv T (w.heap.size+2) tb cap n (n-1) fin w (n-1) ((((w.alloc (.cells #[.slice none 0 0,.slice none 0 0] 68)).alloc (.cells #[.int .i64 0,.int .i64 0] 105)).alloc (.cells #[.slice (some ⟨tb,0,none⟩) T.length cap,.int .i64 0,.int .i64 0] 150)).alloc (.cells #[.slice none 0 0,.slice none 0 0] 68)):=by
  have b1:∀(W:World) (o:Obj) (k:Nat),k < W.heap.size→(W.alloc o).heap[k]?=W.heap[k]?:=fun W o k hk=>Below.heap_alloc W o k hk
  refine ⟨none,0,0,0,[],?_,?_,?_,by simp,⟨rfl,rfl,rfl⟩,fun j hj=>?_,World.ownsRow_nil _ _ _ _,(by intro u hu;cases hu),by omega,.ok ([],0),?_,(by intro acc j e;cases e;rfl),hfin⟩
  ·rw [b1 _ _ _ (by simp;omega),b1 _ _ _ (by simp;omega),b1 _ _ _ (by simp)];exact heap_alloc_new w _
  ·rw [b1 _ _ _ (by simp),b1 _ _ _ (by simp)];exact (by simpa using heap_alloc_new (w.alloc (.cells #[.slice none 0 0,.slice none 0 0] 68)) (.cells #[.int .i64 0,.int .i64 0] 105))
  ·exact (by simpa using heap_alloc_new (((w.alloc (.cells #[.slice none 0 0,.slice none 0 0] 68)).alloc (.cells #[.int .i64 0,.int .i64 0] 105)).alloc (.cells #[.slice (some ⟨tb,0,none⟩) T.length cap,.int .i64 0,.int .i64 0] 150)) (.cells #[.slice none 0 0,.slice none 0 0] 68))
  ·rw [b1 _ _ _ (by simp;omega),b1 _ _ _ (by simp;omega),b1 _ _ _ (by simp;omega),b1 _ _ _ hj]
  ·refine ⟨?_,PToks.same htk ?_,by omega,hlt,hfew,hroom⟩
   ·rw [b1 _ _ _ (by simp)];exact (by simpa using heap_alloc_new ((w.alloc (.cells #[.slice none 0 0,.slice none 0 0] 68)).alloc (.cells #[.int .i64 0,.int .i64 0] 105)) (.cells #[.slice (some ⟨tb,0,none⟩) T.length cap,.int .i64 0,.int .i64 0] 150))
   ·rw [b1 _ _ _ (by simp;omega),b1 _ _ _ (by simp;omega),b1 _ _ _ (by simp;omega),b1 _ _ _ htb]
 have HR2:=hide hr2
 clear hr hr2 hfin htk
 go_enter Tryz.func58,Tryz.ntmps58
 go_wp2
 go_loopg [8] (n-1) (fun k _ wr=>PcInv T (w.heap.size+2) tb cap n (n-1) fin w k wr)
 case atStart=>exact inv0
 case round=>
 clear inv0
 obtain ⟨so,sl,sc,m,cs,q1,q2,q3,hsz,hsm,hold,own,hone,hm,cur,hst,hex,hpa⟩:=hrel
 obtain ⟨i',f',pl',hps,hdead⟩:∃i' f' pl',PsAt wr (w.heap.size+2) tb cap T i' f' pl'∧((∃acc,cur = .ok (acc,i')∧f'=0∧pl'=0)∨(∃x,i'=T.length-1∧cur = .error x∧f'=badF 0∧pl'=badP 0 0 (tkAt T x).place)):=by
  cases cur with
  | error x=>exact ⟨_,_,_,hst,.inr ⟨x,rfl,rfl,rfl,rfl⟩⟩
  | ok p=>exact ⟨p.2,0,0,hst,.inl ⟨p.1,rfl,rfl,rfl⟩⟩
 have hmN:m≤1001000:=by
  have:(n-1)*(n+1)≤1000*1001:=Nat.mul_le_mul (by omega) (by omega)
  omega
 go_wp2_with fail
 refine (next_any wr (w.heap.size+2) tb cap i' T f' pl' hps).mono ?_
 rintro e w2 ⟨rfl,hb2⟩
 unfold tokP tkV
 go_wp2_with fail
 refine (isWord_any _ (kP (tkAt T i')) (tkAt T i').place (nP (tkAt T i')) (sP (tkAt T i')) (wP (tkAt T i')) w2.heap.size 0 2 [sOPEN,sHIDDEN] (strs_new w2 [sOPEN,sHIDDEN]) (by simp)).mono ?_
 rintro e w3 ⟨rfl,hb3⟩
 have B3:Below wr.heap.size wr w3:=(hb2.alloc hb2.size _).trans (hb3.mono (by have:=hb2.size;simp;omega))
 have es:((kP (tkAt T i')==2)&&[sOPEN,sHIDDEN].any (fun t=>(wP (tkAt T i')).toList==t.toList))=[sOPEN,sHIDDEN].any (isT T i'):=wd_is hT i' (fun s hs=>kw_ok s (by simp only [List.mem_cons,List.not_mem_nil,or_false] at hs ⊢;rcases hs with rfl | rfl <;> simp))
 have es2:[sOPEN,sHIDDEN].any (isT T i')=(isT T i' sOPEN||isT T i' sHIDDEN):=by simp
 rw [es,es2]
 have sz3:=B3.size
 have p1:=(B3.block _ (by omega)).trans q1
 have p2:=(B3.block _ (by omega)).trans q2
 have p3:=(B3.block _ (by omega)).trans q3
 have sm3:=hsm.trans (Same.below B3)
 have hold3:∀j,j < w.heap.size→w3.heap[j]?=w.heap[j]?:=fun j hj=>(B3.block j (by omega)).trans (hold j hj)
 have own3:=rowP_same own (w':=w3) (fun k hk=>B3.block k (own.lt k hk).2)
 have hps3:=hps.below B3 (Nat.le_refl _)
 have hst3:=StAt.later hst (fun k hk=>B3.block k hk)
 clear es es2 hb2 hb3 q1 q2 q3 hold own hps hst B3
 cases hc:(isT T i' sOPEN||isT T i' sHIDDEN)
 ·obtain ⟨efin,hdone⟩:cur=fin∧(∀acc j,fin = .ok (acc,j)→cs=decC acc):=by
   have:cur=fin:=by
    rcases hdead with ⟨acc,rfl,rfl,rfl⟩ | ⟨x,rfl,rfl,rfl,rfl⟩
    ·cases gk with
     | zero=>cases hpa
     | succ gk=>
      have hpa:pDcA T n (gk+1) acc i'=some fin:=hpa
      rw [pDcA,hc,if_neg (by simp)] at hpa
      cases hpa
      rfl
    ·cases hpa
     rfl
   exact ⟨this,fun acc j e=>hex acc j (this.trans e)⟩
  subst efin
  obtain ⟨rS,r2,hS,hst2,hv2,hrr⟩:=seq_split (unhide HR2)
  have hrr:seqR r2 (fun ab j=>andThen (endB T ab.2 j) fun s j=>got (ab.1,s) j)=some r:=hrr
  have HS:=hide hS
  have HST2:=hide hst2
  have HV2:=hide hv2
  have HRR:=hide hrr
  have DN:=hide hdone
  clear hS hst2 hv2 hrr hpa hdead hdone HR2 hex hps3
  go_wp2_with fail
  refine (statements_seq ((pSB_any n (by omega)).2 (n-1) (by omega)) hT w3 (w.heap.size+2) tb cap 0 0 hst3 (unhide HS)).mono ?_
  rintro e w4 ⟨k4,bo,bl,bc,rfl,h4⟩
  have sz4:=k4.1
  have r1:=(k4.2 _ (by omega) (by omega)).trans p1
  have r2':=(k4.2 _ (by omega) (by omega)).trans p2
  have r3:=(k4.2 _ (by omega) (by omega)).trans p3
  have sm4:=sm3.trans k4.same
  have hold4:∀j,j < w.heap.size→w4.heap[j]?=w.heap[j]?:=fun j hj=>(k4.2 j (by omega) (by omega)).trans (hold3 j hj)
  have own4:=rowP_same own3 (w':=w4) (fun k hk=>k4.2 k (own3.lt k hk).2 (by have:=(own3.lt k hk).1;omega))
  obtain ⟨⟨x0,x1⟩,y0,y1⟩:=bk2 r3
  clear hst3 p1 p2 p3 hold3 own3 k4
  go_wp2_with fail
  obtain ⟨w5,hw5⟩:∃w5,w4.setCell ⟨w.heap.size+3,1,none⟩ (.slice bo bl bc)=w5:=⟨_,rfl⟩
  rw [hw5]
  have o5:∀k,k≠w.heap.size+3→w5.heap[k]?=w4.heap[k]?:=fun k hk=>by rw [←hw5];exact Below.heap_setCell _ _ _ _ hk
  have z5:w5.heap.size=w4.heap.size:=by rw [←hw5];simp
  have v3:w5.heap[w.heap.size+3]?=some (.cells #[.slice so sl sc,.slice bo bl bc] 68 (0,0)):=by rw [←hw5];exact heap_setCell_same _ (w.heap.size+3) 1 _ _ _ r3
  have v1:=(o5 _ (by omega)).trans r1
  have v2:=(o5 _ (by omega)).trans r2'
  have sm5:Same w w5:=by rw [←hw5];exact sm4.set _ _
  have hold5:∀j,j < w.heap.size→w5.heap[j]?=w.heap[j]?:=fun j hj=>(o5 j (by omega)).trans (hold4 j hj)
  have own5:=rowP_same own4 (w':=w5) (fun k hk=>o5 k (by have:=(own4.lt k hk).1;omega))
  have h5:StAt w5 (w.heap.size+2) tb cap T 0 0 r2:=StAt.two (unhide HST2 _ _ _ _ _ _ _ h4.st) (fun k hk=>o5 k (by omega))
  have L5:∀s j,rS = .ok (s,j)→RepL w5 (fun g=>w.heap.size+4≤g) (.slice bo bl bc) s:=fun s j e=>by
   rw [e] at h4
   exact h4.2.later (fun k hk hl=>o5 k (by have:w3.heap.size≤k:=hk;omega)) (fun k hk _=>by have:w3.heap.size≤k:=hk;show _≤k;omega)
  clear hw5 x0 x1 y0 y1 r1 r2' r3 hold4 own4 h4 o5
  obtain ⟨i5,f5,pl5,hps5,hd5⟩:∃i5 f5 pl5,PsAt w5 (w.heap.size+2) tb cap T i5 f5 pl5∧((∃acc,r2 = .ok (acc,i5)∧f5=0∧pl5=0)∨(∃x,i5=T.length-1∧r2 = .error x∧f5=badF 0∧pl5=badP 0 0 (tkAt T x).place)):=by
   cases r2 with
   | error x=>exact ⟨_,_,_,h5,.inr ⟨x,rfl,rfl,rfl,rfl⟩⟩
   | ok p=>exact ⟨p.2,0,0,h5,.inl ⟨p.1,rfl,rfl,rfl⟩⟩
  refine (next_any w5 (w.heap.size+2) tb cap i5 T f5 pl5 hps5).mono ?_
  rintro e w6 ⟨rfl,B6⟩
  have sz6:=B6.size
  have s1:=(B6.block _ (by omega)).trans v1
  have s2:=(B6.block _ (by omega)).trans v2
  have s3:=(B6.block _ (by omega)).trans v3
  have sm6:=sm5.trans (Same.below B6)
  have hold6:∀j,j < w.heap.size→w6.heap[j]?=w.heap[j]?:=fun j hj=>(B6.block j (by omega)).trans (hold5 j hj)
  have own6:=rowP_same own5 (w':=w6) (fun k hk=>B6.block k (own5.lt k hk).2)
  have hps6:=hps5.below B6 (Nat.le_refl _)
  have L6:∀s j,rS = .ok (s,j)→RepL w6 (fun g=>w.heap.size+4≤g) (.slice bo bl bc) s:=fun s j e=>(L5 s j e).later (fun k _ hl=>B6.block k hl) (fun k hk _=>hk)
  have fin6:∀(w7 W:World) (ff pp:Int),Same w6 w7→Same w7 W→w6.heap.size≤w7.heap.size→(∀k,k < w6.heap.size→k≠(w.heap.size+2)→w7.heap[k]?=w6.heap[k]?)→w7.heap.size≤W.heap.size→(∀k,k≠w.heap.size→k≠w.heap.size+1→W.heap[k]?=w7.heap[k]?) →
    ((∃ds s j,r = .ok ((ds,s),j)∧ff=0∧pp=0∧(∃jf,cur = .ok (ds,jf))∧∃j',rS = .ok (s,j'))∨(∃x,r = .error x∧ff=9∧pp=(tkAt T x).place))→PsOut w T r (.returned (.tuple #[.agg #[.slice so sl sc,.slice bo bl bc],.agg #[.int .i64 ff,.int .i64 pp]])) W:=by
   intro w7 W ff pp sm7 smW hs7 h7 hsW hW hcase
   have smA:=(sm6.trans sm7).trans smW
   refine ⟨⟨smA.os,smA.tape,smA.output,by omega,fun j hj=>(hW j (by omega) (by omega)).trans ((h7 j (by omega) (by omega)).trans (hold6 j hj))⟩,so,sl,sc,bo,bl,bc,ff,pp,rfl,?_⟩
   rcases hcase with ⟨ds,s,j,e1,e2,e3,⟨jf,e4⟩,j',e5⟩ | h
   ·refine .inl ⟨ds,s,j,e1,e2,e3,?_,?_⟩
    ·have ec:=unhide DN ds jf e4
     by_cases hz:m=0
     ·subst hz
      have hl:=own6.1
      rw [ec,decC_len] at hl
      have:ds=[]:=List.length_eq_zero_iff.1 (by omega)
      subst this
      refine .inl ⟨rfl,?_⟩
      rcases own6.2 with ⟨e,_⟩ | ⟨g,c,_,e,_⟩
      ·rw [e];exact ⟨_,_,rfl⟩
      ·rw [e];exact ⟨_,_,rfl⟩
     ·obtain ⟨g,c,e,hg,hg2⟩:=own6.form (by omega)
      have hl:=own6.1
      rw [ec,decC_len] at hl
      have hml:ds.length=m:=by omega
      refine .inr ⟨fun e0=>by rw [e0] at hml;simp at hml;omega,g,c,by rw [e,hml],by show _≤g;omega,fun k u hu=>?_⟩
      rw [←ec] at hu
      have hk:=(List.getElem?_eq_some_iff.1 hu).1
      have own7:=own6
      rw [e] at own7
      have hc:=(own7.cellAt k (by rw [←own7.1];exact hk)).trans hu
      have hb:W.heap[g]?=w6.heap[g]?:=(hW g (by omega) (by omega)).trans (h7 g hg2 (by omega))
      simp only [World.cell?] at hc ⊢
      rw [hb]
      exact hc
    ·exact (L6 s j' e5).later (fun k hk hl=>by have hk:w.heap.size+4≤k:=hk;exact (hW k (by omega) (by omega)).trans (h7 k hl (by omega))) (fun k hk _=>by have hk:w.heap.size+4≤k:=hk;show w.heap.size≤k;omega)
   ·exact .inr h
  have FIN:=hide fin6
  clear h5 v1 v2 v3 hold5 own5 hps5 L5 L6 B6 own6 hold6 fin6
  have tk:=tok_kind
  unfold tokP tkV
  cases hk4:((tkAt T i5).kind==4)
  ·have hk5:kP (tkAt T i5)≠5:=by
    have:=hT.kinds i5
    unfold kP
    rcases this with h | h | h | h | h
    ·rw [h];decide
    ·rw [h];decide
    ·rw [h];decide
    ·rw [h];decide
    ·rw [h] at hk4;cases hk4
   obtain ⟨acc,e2,rfl,rfl⟩:∃acc,r2 = .ok (acc,i5)∧f5=0∧pl5=0:=by
    rcases hd5 with h | ⟨x,rfl,_⟩
    ·exact h
    ·rw [over_kind hT] at hk4;cases hk4
   have er:r = .error i5:=by
    have:=unhide HRR
    rw [e2] at this
    have:andThen (endB T acc.2 i5) (fun s j=>got (acc.1,s) j)=some r:=this
    unfold endB at this
    rw [hk4,if_neg (by simp)] at this
    cases this
    rfl
   go_wp2_with fail
   refine (pfail_any w6 (w.heap.size+2) tb cap i5 T 0 0 hps6).mono ?_
   rintro e w7 ⟨rfl,h7,k7⟩
   have sz7:=k7.1
   have t1:=(k7.2 _ (by omega) (by omega)).trans s1
   have t2:=(k7.2 _ (by omega) (by omega)).trans s2
   have t3:=(k7.2 _ (by omega) (by omega)).trans s3
   have t4:=h7.blk
   have F7:=hide (fun W h=>unhide FIN w7 W (badF 0) (badP 0 0 (tkAt T i5).place) k7.same h k7.1 k7.2)
   have b9:badF 0=9:=rfl
   have bp:badP 0 0 (tkAt T i5).place=(tkAt T i5).place:=rfl
   obtain ⟨⟨a0,a1⟩,b0,b1⟩:=bk2 t1
   obtain ⟨⟨c0,c1⟩,d0,d1⟩:=bk2 t2
   obtain ⟨⟨g0,g1⟩,_⟩:=bk2 t3
   obtain ⟨⟨j0,j1,j2⟩,_⟩:=bk3 t4
   clear FIN s1 s2 s3 hps6 h7 k7 t1 t2 t3 t4 HRR HV2 HST2 HS DN
   go_wp2
   go_region
   go_wp2
   refine bodyPost_ret (v:=.tuple #[.agg #[.slice so sl sc,.slice bo bl bc],.agg #[.int .i64 9,.int .i64 (tkAt T i5).place]]) (by simp [results,Tryz.results58,go_sem,a0,a1,c0,c1]) rfl ?_
   refine unhide F7 _ (((((Same.refl _).set _ _).set _ _).set _ _).set _ _).drew (by simp) (fun k hk hk2=>?_) (.inr ⟨i5,er,rfl,rfl⟩)
   exact (Below.heap_setCell _ _ _ _ hk2).trans ((Below.heap_setCell _ _ _ _ hk2).trans ((Below.heap_setCell _ _ _ _ hk).trans (Below.heap_setCell _ _ _ _ hk)))
  ·have hk5:kP (tkAt T i5)=5:=kP_over _ (by simpa using hk4)
   have hk6:(kP (tkAt T i5) != 5)=false:=by rw [hk5];rfl
   have F7:=hide (fun W h=>unhide FIN w6 W f5 pl5 (Same.refl _) h (Nat.le_refl _) (fun _ _ _=>rfl))
   have hcase:((∃ds s j,r = .ok ((ds,s),j)∧f5=0∧pl5=0∧(∃jf,cur = .ok (ds,jf))∧∃j',rS = .ok (s,j'))∨(∃x,r = .error x∧f5=9∧pl5=(tkAt T x).place)):=by
    rcases hd5 with ⟨acc,e2,rfl,rfl⟩ | ⟨x,_,e2,rfl,rfl⟩
    ·obtain ⟨ds,s⟩:=acc
     have h9:=unhide HRR
     rw [e2] at h9
     have h9:andThen (endB T s i5) (fun s j=>got (ds,s) j)=some r:=h9
     unfold endB at h9
     rw [hk4,if_pos rfl] at h9
     cases h9
     obtain ⟨j0,ec,eS⟩:=unhide HV2 _ _ e2
     exact .inl ⟨ds,s,i5,rfl,rfl,rfl,⟨j0,ec⟩,i5,eS⟩
    ·have h9:=unhide HRR
     rw [e2] at h9
     cases h9
     exact .inr ⟨x,rfl,rfl,rfl⟩
   have HC:=hide hcase
   have t4:=hps6.blk
   obtain ⟨⟨a0,a1⟩,b0,b1⟩:=bk2 s1
   obtain ⟨⟨c0,c1⟩,d0,d1⟩:=bk2 s2
   obtain ⟨⟨g0,g1⟩,_⟩:=bk2 s3
   obtain ⟨⟨j0,j1,j2⟩,_⟩:=bk3 t4
   clear FIN s1 s2 s3 hps6 t4 HRR HV2 HST2 HS DN hcase hd5 hk6
   go_wp2
   go_region
   go_wp2
   refine bodyPost_ret (v:=.tuple #[.agg #[.slice so sl sc,.slice bo bl bc],.agg #[.int .i64 f5,.int .i64 pl5]]) (by simp [results,Tryz.results58,go_sem,a0,a1,c0,c1]) rfl ?_
   refine unhide F7 _ (((((Same.refl _).set _ _).set _ _).set _ _).set _ _).drew (by simp) (fun k hk hk2=>?_) (unhide HC)
   exact (Below.heap_setCell _ _ _ _ hk2).trans ((Below.heap_setCell _ _ _ _ hk2).trans ((Below.heap_setCell _ _ _ _ hk).trans (Below.heap_setCell _ _ _ _ hk)))
 ·obtain ⟨acc,ecur,ef,epl⟩:∃acc,cur = .ok (acc,i')∧f'=0∧pl'=0:=by
   rcases hdead with h | ⟨x,rfl,_⟩
   ·exact h
   ·rw [over_is hT.last,over_is hT.last] at hc;cases hc
  subst ecur
  subst ef
  subst epl
  have hi1:i'+1 < T.length:=by
   cases h1:isT T i' sOPEN
   ·rw [h1,Bool.false_or] at hc;exact isT_next hT.last hps3.lt hc
   ·exact isT_next hT.last hps3.lt h1
  cases gk with
  | zero=>cases hpa
  | succ gk=>
  have hpa:pDcA T n (gk+1) acc i'=some fin:=hpa
  rw [pDcA,hc,if_pos rfl] at hpa
  cases hD:pDcl T (isT T i' sHIDDEN) n (i'+1) with
  | none=>rw [hD] at hpa;cases hpa
  | some r2=>
  rw [hD] at hpa
  have stp:=fun (w4 w5:World) (g cap' len:Nat) (cs2:List Value) (k4:Kept (w.heap.size+2) w3 w4) (h4:DRes w4 (w.heap.size+2) tb cap T 0 0 cs2 r2) (hone2:∀u∈cs2,u.oneCell'=true) (hlen:len≤n+1) hown hgrow=>
   pc_step (fin:=fin) (N:=n-1) (w0:=w) (wc:=w3) (w4:=w4) (w5:=w5) (so:=so) (sl:=sl) (sc:=sc) (m:=m) (g:=g) (cap':=cap') (len:=len) (cs:=cs) (cs2:=cs2) (acc:=acc) (r2:=r2) (k:=gk) rfl p1 p2 p3 (by omega) sm3 hold3 own3 hone hone2 hm hlen (hex acc i' rfl) hpa k4 h4 hown hgrow
  have STP:=hide stp
  have HD:=hide hD
  obtain ⟨⟨x0,x1⟩,y0,y1⟩:=bk2 p3
  clear stp hD hpa hex hdead hst3 p1 p2 hold3
  go_wp2
  go_region_law (first
    | (refine step_append_lies _ rfl _ _ 65 rfl (w.heap.size+4) 160 i0 (.agg #[.int .i64 0,.int .i64 0,.string ⟨#[]⟩,.int .i32 0,.int .i32 0,.bool false]) 6 48 Tryz.underlying65 hi0 hz0 hz1 hz2 rfl (by decide) (.slice so sl sc) m cs (by simp [Act.eval]) own4 ⟨g,0,none⟩ len c cs2 (by simp [Act.eval]) own2.1 news4 hone2 hl0 (by unfold maxLen;omega) (by omega) (by omega) w4.heap.size rfl ?_;intro g' cap' w5 hown hgrow hat hlt5;have z5:w5.heap[w.heap.size+3]?=some (.cells #[.slice so sl sc,.slice none 0 0] 68 (0,0)):=(hgrow.block _ (by omega) (fun e=>by have:=(own4.lt _ e.symm).1;omega)).trans z4;have c5:=(bk2 z5).1;have e5:=(bk2 z5).2;have fin5:=unhide FIN4 w5 g' cap' hown hgrow)
    | (go_simp;go_at_call 87;refine (pdeclaration_any _ (w.heap.size+2) tb cap i' T 0 0 r2 hT ?_ hi1 n (by omega) (unhide HD)).mono ?_;exact hps3.later (fun _ _=>rfl);rintro e w4 ⟨k4,g,len,c,cs2,rfl,hl0,hl1,own2,hone2,h4⟩;have z4:w4.heap[w.heap.size+3]?=some (.cells #[.slice so sl sc,.slice none 0 0] 68 (0,0)):=(k4.2 _ (by show _ < w3.heap.size;omega) (by omega)).trans p3;have c4:=(bk2 z4).1;have sz4:w3.heap.size≤w4.heap.size:=k4.1;have own4:=rowP_same own3 (w':=w4) (fun k hk=>k4.2 k (own3.lt k hk).2 (by have:=(own3.lt k hk).1;omega));have news4:∀j u,cs2[j]?=some u→w4.cell? (Addr.add ⟨g,0,none⟩ j)=some u:=(fun j u hu=>by have hj:=(List.getElem?_eq_some_iff.1 hu).1;have hc:=(own2.cellAt j (by rw [←own2.1];exact hj)).trans hu;rw [addr_add0];exact hc);have FIN4:=hide (fun w5 g' cap'=>unhide STP w4 w5 g' cap' len cs2 (by first | exact k4 | exact k4.undrew) h4 hone2 hl1)))
  all_goals go_wp2
  all_goals go_roundg gk
  all_goals first | omega | exact fin5
end Go.Proofs.YthmmgiaobakilaaGreat
