import Derived.Test.YthmmgiaobakilaaGreatJ05
import Derived.Test.YthmmgiaobakilaaGreatJ09
set_option maxRecDepth 100000
set_option maxHeartbeats 8000000
set_option linter.all false
namespace Go.Proofs.YthmmgiaobakilaaGreat
open Go.RowKit Go.Deep
variable {S:PS} {T:List aH} {acc l:List (aH×Bool)} {fin r2:Except Nat (List (aH×Bool)×Nat)} {n:Nat} {r:Except Nat ((List (aH×Bool)×Sx)×Nat)} {so:Option Addr} {sv:Value}
def yT (l:List (aH×Bool)):List Value:=l.flatMap (λd=>Cf d.1++[.bool d.2])
theorem Su (l:List (aH×Bool)) (d:aH×Bool):yT (l++[d])=yT l++(Cf d.1++[.bool d.2]):=by simp[yT]
theorem Db (l:List (aH×Bool)):(yT l).length=l.length*6:=by
 induction l with
 | nil=>rfl
 | cons a l ih=>simp only[yT,List.flatMap_cons,iZ]at ih ⊢;rw[ih];simp[Cf];omega
def Dl (T:List aH) (hd:Bool):Nat->List (aH×Bool)->Nat->PR (List (aH×Bool))
 | 0,_,_=>none
 | n+1,acc,i=>if bJ T i su then andThen (ib T 1 (i+1)) λt j=>Dl T hd n (acc++[(t,hd)]) j else andThen (aZ T xE i) λ_ k=>kF acc k
def XB (T:List aH) (hd:Bool) (n i:Nat):PR (List (aH×Bool)):=andThen (ib T 1 i) λt j=>Dl T hd n [(t,hd)] j
theorem Um (T:List aH) (hd:Bool):∀(n i:Nat) (acc:List (aH×Bool)) (r:Except Nat (List (aH×Bool)×Nat)),jO T hd n i=some r->(andThen (ib T 1 i) λt j=>Dl T hd n (acc++[(t,hd)]) j)=some (mapR (λl=>acc++l) r):=by
 intro n
 induction n with
 | zero=>intro i acc r h;cases h
 | succ n ih=>
  intro i acc r h;rw[jO]at h
  cases hk:ib T 1 i with
  | none=>rw[hk]at h;cases h
  | some q=>
   rw[hk]at h
   cases q with
   | error x=>cases h;rfl
   | ok q=>
    obtain⟨t,j⟩:=q;have h:(if bJ T j su then andThen (jO T hd n (j+1)) λl k=>kF ((t,hd)::l) k else andThen (aZ T xE j) λ_ k=>kF [(t,hd)] k)=some r:=h;show Dl T hd (n+1) (acc++[(t,hd)]) j=_;rw[Dl]
    cases hc:bJ T j su
    .rw[hc,ae (by simp)]at h;rw[ae (by simp)];obtain⟨r1,e1⟩:=dK T xE j;rw[e1]at h ⊢
     cases r1 with
     | error x=>cases h;rfl
     | ok q=>cases h;rfl
    .rw[hc,ag rfl]at h;rw[ag rfl]
     cases hn:jO T hd n (j+1) with
     | none=>rw[hn]at h;cases h
     | some q=>
      rw[hn]at h;rw[ih (j+1) (acc++[(t,hd)]) q hn]
      cases q with
      | error x=>cases h;rfl
      | ok q=>cases h;simp[mapR]
def YY (w':World) (pb tb cap:Nat) (T:List aH) (f pl:Int) (cs:List Value):Except Nat (List (aH×Bool)×Nat)->Prop
 | .ok (l,j)=>bg w' pb tb cap T j f pl/\cs=yT l
 | .error x=>bg w' pb tb cap T (T.length-1) (mo f) (nY f pl (ah T x).place)
theorem Rw:(Tryz.prog.info? 160).map (λi=>(i.zero,i.size,i.bytes))=some (some (.agg #[.int .i64 0,.int .i64 0,.string ⟨#[]⟩,.int .i32 0,.int .i32 0,.bool false]),6,48):=by kernel_rfl
def VZ (T:List aH) (hd:Bool) (pb tb cap:Nat) (f pl:Int) (fin:Except Nat (List (aH×Bool)×Nat)) (n:Nat) (w0:World) (k:Nat) (v:Value) (w:World):Prop:=
 ∃cs so sl sc m,v=.slice so sl sc/\0<m/\m+k=n+1/\aB pb w0 w/\w.ownsRow w0.heap.size 160 6 (.slice so sl sc) m cs/\(∀u∈cs,u.oneCell'=true) /\
  ∃cur:Except Nat (List (aH×Bool)×Nat),cK w pb tb cap T f pl cur/\(∀acc j,cur=.ok (acc,j)->cs=yT acc)/\jF cur (λacc j=>Dl T hd k acc j)=some fin
theorem Ed (w:World) (pb tb cap i:Nat) (T:List aH) (f pl:Int) (r:Except Nat (List (aH×Bool)×Nat)) (hT:eQ T) (h:bg w pb tb cap T i f pl) (hi1:i+1<T.length) (n:Nat) (hn:n<=100000) (hr:XB T (bJ T i bA) n (i+1)=some r) :
  Calls Tryz.prog 87 #[.pointer (some ⟨pb,0,none⟩)] w λe w'=>aB pb w w'/\∃g len c cs,e=.returned (.slice (some ⟨g,0,none⟩) len c)/\0<len/\len<=n+1/\w'.ownsRow w.heap.size 160 6 (.slice (some ⟨g,0,none⟩) len c) len cs/\(∀u∈cs,u.oneCell'=true)/\YY w' pb tb cap T f pl cs r:=by
 have hp:=h.plt;have hlow:=h.low;unfold XB at hr;obtain⟨rN,r1,hN,hst1,hv1,hr1⟩:=gN (r1:=.ok ((),i+1)) (show jF (.ok ((),i+1)) (λ_ j=>andThen (ib T 1 j) λt j=>Dl T (bJ T i bA) n [(t,bJ T i bA)] j)=some r from hr);have HR1:=aj (show jF r1 (λab j=>Dl T (bJ T i bA) n [(ab.2,bJ T i bA)] j)=some r from hr1);have HN:=aj hN;have HST1:=aj hst1;have HV1:=aj hv1;clear hr hr1 hN hst1 hv1;obtain⟨i0,hi0,hz0,hz1,hz2⟩:=dG Rw;go_enter Tryz.func87,Tryz.ntmps87;go_wp2_with fail;refine(jB _ pb tb cap i T f pl h hi1).mono ?_;rintro e w1 ⟨rfl,h1,k1⟩;unfold jC pE;go_wp2_with fail;refine(dm _ (kP (ah T i)) (ah T i).place (nP (ah T i)) (sP (ah T i)) (wP (ah T i)) w1.heap.size 0 1 [bA] (fJ w1 [bA]) (by simp)).mono ?_;rintro e w2 ⟨rfl,hb2⟩;have es:((kP (ah T i)==2)&&[bA].any (λt=>(wP (ah T i)).toList==t.toList))=[bA].any (bJ T i):=rG hT i (λs hs=>JX s (by simp only[aO,aQ,aR]at hs;subst hs;simp));have es2:[bA].any (bJ T i)=bJ T i bA:=by simp
 rw[es,es2];obtain⟨hd,hhd⟩:∃hd,bJ T i bA=hd:=⟨_,rfl⟩;rw[hhd]at HR1 ⊢;have B2:Below w1.heap.size w1 w2:=((ax _ w1).alloc (af _) _).trans (hb2.mono (by simp));have h2:=h1.below B2 (af _);have K2:=k1.trans (aB.below (pb:=pb) B2);clear h h1 k1 hb2 B2 es es2 hhd;go_wp2_with fail;refine(Hl hT _ pb tb cap f pl (r1:=.ok ((),i+1)) (show cK _ pb tb cap T f pl (.ok ((),i+1)) from h2) (aa HN)).mono ?_;rintro e w3 ⟨rfl,k3,h3⟩;have K3:=K2.trans k3;have lt3:=K3.1;obtain⟨n0,n1,n2,n3,n4,hnn⟩:=xH rN;rw[hnn];have inv0:VZ T hd pb tb cap f pl r n w n (.slice (some ⟨w3.heap.size,0,none⟩) 1 1) (w3.alloc (.cells #[.int .i64 n0,.int .i64 n1,.string n2,.int .i32 n3,.int .i32 n4,.bool hd] 160)):=by
  refine⟨[.int .i64 n0,.int .i64 n1,.string n2,.int .i32 n3,.int .i32 n4,.bool hd],_,_,_,1,rfl,by omega,by omega,K3.trans (aB.alloc pb w3 _),⟨by simp,.inr ⟨_,_,_,rfl,lt3,aA w3 _,by omega,by unfold maxLen;omega,by simp,by simp⟩⟩,by simp[Value.oneCell'],mapR (λab=>[(ab.2,hd)]) r1,cK.mapR (cK.alloc (aa HST1 _ _ _ _ _ _ _ h3) _) _,?_,?_⟩
  .intro acc j e
   cases r1 with
   | error x=>cases e
   | ok q=>
    obtain⟨⟨u,t⟩,j'⟩:=q
    cases e;obtain⟨j0,_,eN⟩:=aa HV1 _ _ rfl;rw[eN]at hnn;obtain⟨rfl,rfl,rfl,rfl,rfl⟩:=Dn hnn;rfl
  .have:=aa HR1
   cases r1 with
   | error x=>exact this
   | ok q=>exact this
 clear K2 k3 h2 h3 K3 hnn HR1 HN HST1 HV1;unfold pE;go_wp2
 go_loopg [4] n (λk v wr=>VZ T hd pb tb cap f pl r n w k v wr)
 case atStart=>exact inv0
 case round=>
 clear inv0;obtain⟨cs,so,sl,sc,m,rfl,hm0,hcl,kw,own,hone,cur,hst,hex,hpa⟩:=hrel;obtain⟨i',f',pl',hps,hdead⟩:∃i' f' pl',bg wr pb tb cap T i' f' pl'/\((∃acc,cur=.ok (acc,i')/\f'=f/\pl'=pl)∨(∃x,i'=T.length-1/\cur=.error x/\f'=mo f/\pl'=nY f pl (ah T x).place)):=by
  cases cur with
  | error x=>exact⟨_,_,_,hst,.inr ⟨x,rfl,rfl,rfl,rfl⟩⟩
  | ok p=>exact⟨p.2,f,pl,hst,.inl ⟨p.1,rfl,rfl,rfl⟩⟩
 obtain⟨g,c',e,hg,hg2⟩:=own.form hm0
 cases e;go_wp2_with fail;refine(dM wr pb tb cap i' T f' pl' hps).mono ?_;rintro e w4 ⟨rfl,hb4⟩;unfold jC pE;go_wp2_with fail;refine(di _ (kP (ah T i')) (ah T i').place (nP (ah T i')) (sP (ah T i')) (wP (ah T i')) w4.heap.size 0 1 [44] (fG w4 44) (by simp)).mono ?_;rintro e w5 ⟨rfl,hb5⟩;have B5:Below wr.heap.size wr w5:=(hb4.alloc hb4.size _).trans (hb5.mono (by have:=hb4.size;simp;omega));have es:((kP (ah T i')==4)&&[(44:Int)].any (λt=>sP (ah T i')==t))=bJ T i' su:=by
  rw[df,ig,gZ,<-Ri];exact pq hT i' fH.2.2.2.2.1
 rw[es];have hps5:=hps.below B5 (af _);have hst5:=cK.later hst (λk hk=>B5.block k hk);have own5:=bH own (w':=w5) (λk hk=>B5.block k (own.lt k hk).2);have K5:=kw.trans (aB.below (pb:=pb) B5);have sz5:=K5.1;clear es hb4 hb5 hps hst own kw B5
 cases hc:bJ T i' su
 .obtain⟨rS,hS,hfin⟩:∃rS:Except Nat (Unit×Nat),jF cur (λ_ j=>aZ T xE j)=some rS/\(∀(w:World),cK w pb tb cap T f pl rS->cK w pb tb cap T f pl r)/\∀l j,r=.ok (l,j)->∃j0,cur=.ok (l,j0):=by
   rcases hdead with⟨acc,rfl,rfl,rfl⟩|⟨x,rfl,rfl,rfl,rfl⟩
   .cases gk with
    | zero=>cases hpa
    | succ gk=>
     have hpa:Dl T hd (gk+1) acc i'=some r:=hpa;rw[Dl,hc,ae (by simp)]at hpa;obtain⟨rS,eS⟩:=dK T xE i';rw[eS]at hpa;refine⟨rS,eS,?_⟩
     cases rS with
     | error y=>cases hpa;exact⟨λ_ h=>h,λl j e=>(by cases e)⟩
     | ok q=>cases hpa;exact⟨λ_ h=>h,λl j e=>(by cases e;exact⟨_,rfl⟩)⟩
   .cases hpa;exact⟨.error x,rfl,λ_ h=>h,λl j e=>(by cases e)⟩
  have HS:=aj hS;have HF:=aj hfin;clear hS hfin hpa hdead hps5;go_wp2_with fail;refine(wD hT _ pb tb cap f pl 59 xE fH.2.2.2.2.2.1 LJ hst5 (aa HS)).mono ?_;rintro e w6 ⟨rfl,k6,h6⟩;have own6:=bH own5 (w':=w6) (λk hk=>k6.2 k (own5.lt k hk).2 (by have:=(own5.lt k hk).1;omega));have K6:=K5.trans k6;have R6:YY w6 pb tb cap T f pl cs r:=by
   have st:=(aa HF).1 _ h6
   cases r with
   | error x=>exact st
   | ok q=>
    obtain⟨l,j⟩:=q;obtain⟨j0,ec⟩:=(aa HF).2 l j rfl;exact⟨st,hex l j0 ec⟩
  clear h6 k6 K5 own5 HF hst5 hex;go_wp2;go_ret;exact⟨K6,g,sl,sc,cs,rfl,hm0,by omega,own6,hone,R6⟩
 .obtain⟨acc,ecur,ef,epl⟩:∃acc,cur=.ok (acc,i')/\f'=f/\pl'=pl:=by
   rcases hdead with hd|⟨x,rfl,_⟩
   .exact hd
   .rw[ku hT.last]at hc;cases hc
  subst ecur;subst ef;subst epl;have hi2:=aD hT.last hps5.lt hc
  cases gk with
  | zero=>cases hpa
  | succ gk=>
  have hpa:Dl T hd (gk+1) acc i'=some r:=hpa;rw[Dl,hc,ag rfl]at hpa;obtain⟨rM,r2,hM,hst2,hv2,hr2⟩:=gN (r1:=.ok ((),i'+1)) (show jF (.ok ((),i'+1)) (λ_ j=>andThen (ib T 1 j) λt j=>Dl T hd gk (acc++[(t,hd)]) j)=some r from hpa);have HR2:=aj (show jF r2 (λab j=>Dl T hd gk (acc++[(ab.2,hd)]) j)=some r from hr2);have HM:=aj hM;have HST2:=aj hst2;have HV2:=aj hv2;have hcs:=aj (hex acc i' rfl);clear hpa hr2 hM hst2 hv2 hex hdead hst5;go_wp2_with fail;refine(jB w5 pb tb cap i' T f' pl' hps5 hi2).mono ?_;rintro e w6 ⟨rfl,h6,k6⟩;have own6:=bH own5 (w':=w6) (λk hk=>k6.2 k (own5.lt k hk).2 (by have:=(own5.lt k hk).1;omega));have K6:=K5.trans k6;clear hps5 own5 k6 K5;unfold jC pE;go_wp2_with fail;refine(Hl hT _ pb tb cap f' pl' (r1:=.ok ((),i'+1)) (show cK _ pb tb cap T f' pl' (.ok ((),i'+1)) from h6) (aa HM)).mono ?_;rintro e w7 ⟨rfl,k7,h7⟩;have own7:=bH own6 (w':=w7) (λk hk=>k7.2 k (own6.lt k hk).2 (by have:=(own6.lt k hk).1;omega));have K7:=K6.trans k7;have sz7:=K7.1;obtain⟨t0,t1,t2,t3,t4,htt⟩:=xH rM;rw[htt];have HTT:=aj htt;clear h6 own6 k7 K6 htt;unfold pE
  go_wp2_with (at_builtin;refine wpList_append_lies _ rfl _ _ 65 rfl w.heap.size 160 i0 (.agg #[.int .i64 0,.int .i64 0,.string ⟨#[]⟩,.int .i32 0,.int .i32 0,.bool false]) 6 48 Tryz.underlying65 hi0 hz0 hz1 hz2 rfl (by decide) (.slice (some ⟨g,0,none⟩) sl sc) sl cs rfl (own7.alloc _) ⟨w7.heap.size,0,none⟩ 1 1 [.int .i64 t0,.int .i64 t1,.string t2,.int .i32 t3,.int .i32 t4,.bool hd] rfl rfl (World.news_of_block (aA w7 _)) (by simp[Value.oneCell']) (by decide) (by unfold maxLen;omega) (by omega) (by simp;omega) (w7.heap.size+1) (by simp) ?_;intro g' cap' wn hown hgrow hat hltn);have inv1:VZ T hd pb tb cap f' pl' r n w gk (.slice (some ⟨g',0,none⟩) (sl+1) cap') wn:=by
   have far:∀k,k<w7.heap.size->k<w.heap.size->wn.heap[k]?=w7.heap[k]?:=λk hk hk2=>(hgrow.block k (by simp;omega) (λe=>by have e:k=g:=(by simpa[Value.ownBlock] using e);omega)).trans (av w7 _ k hk);have szn:=hgrow.size;simp at szn;refine⟨_,_,_,_,sl+1,rfl,by omega,by omega,⟨by omega,λk hk hn=>(far k (by omega) hk).trans (K7.2 k hk hn),K7.same.trans (((bY.refl w7).alloc _).trans (bY.grown hgrow))⟩,hown,?_,mapR (λab=>acc++[(ab.2,hd)]) r2,cK.mapR (cK.two (aa HST2 _ _ _ _ _ _ _ h7) (λk hk=>far k (by omega) (by omega))) _,?_,?_⟩
   .intro u hu;rcases dW.1 hu with hu|hu
    .exact hone u hu
    .simp only[aO,aQ,aR]at hu;rcases hu with rfl|rfl|rfl|rfl|rfl|rfl<;>rfl
   .intro acc' j' e
    cases r2 with
    | error x=>cases e
    | ok q=>
     obtain⟨⟨u,t⟩,j''⟩:=q
     cases e;obtain⟨j0,_,eM⟩:=aa HV2 _ _ rfl;have htt:=aa HTT;rw[eM]at htt;obtain⟨rfl,rfl,rfl,rfl,rfl⟩:=Dn htt;rw[Su,<-aa hcs];rfl
   .have:=aa HR2
    cases r2 with
    | error x=>exact this
    | ok q=>exact this
  clear hown hgrow own7 K7 h7 HR2 HM HST2 HV2 HTT hcs hone;go_wp2
  go_roundg gk
  case rel=>exact inv1
  case measure=>omega
def I8 (T:List aH) (f:Nat):Nat->List (aH×Bool)->Nat->PR (List (aH×Bool))
 | 0,_,_=>none
 | n+1,acc,i=>if bJ T i lU||bJ T i bA then andThen (XB T (bJ T i bA) f (i+1)) λl j=>I8 T f n (acc++l) j else kF acc i
theorem UG (T:List aH) (f:Nat):∀(n i:Nat) (acc:List (aH×Bool)) (r:Except Nat (List (aH×Bool)×Nat)),jY T f n i=some r->I8 T f n acc i=some (mapR (λl=>acc++l) r):=by
 intro n
 induction n with
 | zero=>intro i acc r h;cases h
 | succ n ih=>
  intro i acc r h;rw[jY]at h;rw[I8]
  cases hc:(bJ T i lU||bJ T i bA)
  .rw[hc,ae (by simp)]at h;rw[ae (by simp)]
   cases h;simp[mapR,kF]
  .rw[hc,ag rfl]at h;rw[ag rfl]
   cases hn:jO T (bJ T i bA) f (i+1) with
   | none=>rw[hn]at h;cases h
   | some q=>
    rw[hn]at h;have e1:=Um T (bJ T i bA) f (i+1) [] q hn;have e2:mapR (λl=>[]++l) q=q:=by cases q<;>rfl
    rw[e2]at e1;have e3:XB T (bJ T i bA) f (i+1)=some q:=e1;rw[e3]
    cases q with
    | error x=>cases h;rfl
    | ok q=>
     obtain⟨l,j⟩:=q;have h:andThen (jY T f n j) (λm k=>kF (l++m) k)=some r:=h
     cases hd:jY T f n j with
     | none=>rw[hd]at h;cases h
     | some q=>
      rw[hd]at h;show I8 T f n (acc++l) j=_;rw[ih j (acc++l) q hd]
      cases q with
      | error x=>cases h;rfl
      | ok q=>cases h;simp[mapR]
def Ja (T:List aH) (s:Sx) (j:Nat):PR Sx:=if(ah T j).kind==4 then kF s j else Lp j
theorem SS (g j:Nat):Addr.add ⟨g,0,none⟩ j=⟨g,j,none⟩:=by
 by_cases h:j=0<;>simp[Addr.add,h]
theorem WT (hbad:∀i,dZ T i=false->S T i=Lp i∨S T i=none):∀(n:Nat) (acc:List Sx) (i:Nat) (r:Except Nat (Sx×Nat)),mH S T n i=some r ->
  ∃r':Except Nat (List Sx×Nat),(andThen (oh S T n acc i) λl j=>if(ah T j).kind==4 then kF l j else Lp j)=some r'/\((∃x,r=.error x/\r'=.error x)∨∃l' j,r=.ok (Fp l',j)/\r'=.ok (acc++l',j)):=by
 intro n
 induction n with
 | zero=>intro acc i r h;cases h
 | succ n ih=>
  intro acc i r h;rw[mH]at h
  cases hc:((ah T i).kind==4)
  .rw[hc,ae (by simp)]at h
   cases hs:dZ T i
   .rcases hbad i hs with hb|hb
    rotate_left
    .rw[hb]at h;cases h
    rw[hb]at h
    cases h;refine⟨.error i,?_,.inl ⟨i,rfl,rfl⟩⟩;rw[oh,hs,ae (by simp)];show(if(ah T i).kind==4 then kF acc i else Lp i)=_;rw[hc];rfl
   .cases hS:S T i with
    | none=>rw[hS]at h;cases h
    | some q=>
     rw[hS]at h
     cases q with
     | error x=>
      cases h;refine⟨.error x,?_,.inl ⟨x,rfl,rfl⟩⟩;rw[oh,hs,ag rfl,hS];rfl
     | ok q=>
      obtain⟨s,j⟩:=q;have h:andThen (mH S T n j) (λr k=>kF (kV s r) k)=some r:=h
      cases hr:mH S T n j with
      | none=>rw[hr]at h;cases h
      | some q=>
       rw[hr]at h;obtain⟨r',e1,e2⟩:=ih (acc++[s]) j q hr;have e3:(andThen (oh S T (n+1) acc i) λl j=>if(ah T j).kind==4 then kF l j else Lp j)=some r':=by
        rw[oh,hs,ag rfl,hS];exact e1
       refine⟨r',e3,?_⟩;rcases e2 with⟨x,rfl,rfl⟩|⟨l',j',rfl,rfl⟩
       .cases h;exact .inl ⟨x,rfl,rfl⟩
       .cases h;exact .inr ⟨s::l',j',rfl,by simp⟩
  .rw[hc,ag rfl]at h
   cases h;have hk:(ah T i).kind=4:=by simpa using hc
   have hs:dZ T i=false:=by
    unfold dZ bJ;rw[hk];rfl
   refine⟨.ok (acc,i),?_,.inr ⟨[],i,rfl,by simp⟩⟩;rw[oh,hs,ae (by simp)];show(if(ah T i).kind==4 then kF acc i else Lp i)=_;rw[hc];rfl
theorem Xf (hbad:∀i,dZ T i=false->S T i=Lp i∨S T i=none) {i:Nat} {r:Except Nat (Sx×Nat)} (h:mH S T n i=some r):(andThen (Fe S n T i) (Ja T))=some r:=by
 obtain⟨r',e1,e2⟩:=WT hbad n [] i r h;unfold Fe;rw[vE]
 cases hp:oh S T n [] i with
 | none=>rw[hp]at e1;cases e1
 | some q=>
  rw[hp]at e1
  cases q with
  | error x=>cases e1;rcases e2 with⟨y,rfl,e⟩|⟨l',j,_,e⟩<;>cases e;rfl
  | ok q=>
   obtain⟨l,j⟩:=q;have e1:(if(ah T j).kind==4 then kF l j else Lp j)=some r':=e1;show Ja T (Fp l) j=some r;unfold Ja
   cases hk:((ah T j).kind==4)
   .rw[hk,ae (by simp)]at e1
    cases e1;rcases e2 with⟨y,rfl,e⟩|⟨l',j,_,e⟩
    .cases e;rfl
    .cases e
   .rw[hk,ag rfl]at e1
    cases e1;rcases e2 with⟨y,rfl,e⟩|⟨l',j,rfl,e⟩
    .cases e
    .cases e;rfl
theorem Pb (h:dV n T=some r):∃fin,I8 T n (n-1) [] 0=some fin/\jF fin (λds j=>andThen (Fe (zB n).1 (n-1) T j) λs j=>andThen (Ja T s j) λs j=>kF (ds,s) j)=some r:=by
 unfold dV at h
 cases hd:jY T n (n-1) 0 with
 | none=>rw[hd]at h;cases h
 | some q=>
  rw[hd]at h;have e1:=UG T n (n-1) 0 [] q hd;have e2:mapR (λl=>[]++l) q=q:=by cases q<;>rfl
  rw[e2]at e1;refine⟨q,e1,?_⟩
  cases q with
  | error x=>exact h
  | ok q=>
   obtain⟨ds,j⟩:=q;have h:andThen (mH (zB n).1 T (n-1) j) (λs k=>kF (ds,s) k)=some r:=h;show(andThen (Fe (zB n).1 (n-1) T j) λs j=>andThen (Ja T s j) λs j=>kF (ds,s) j)=some r;rw[<-vE]
   cases hb:mH (zB n).1 T (n-1) j with
   | none=>rw[hb]at h;cases h
   | some q=>
    rw[Xf (λi hi=>Rs n i hi) hb,<-hb];exact h
def wI (w:World) (Q:Nat->Prop) (sv:Value) (l:List (aH×Bool)):Prop:=(l=[]/\∃ao c,sv=.slice ao 0 c)∨(l≠[]/\∃g c,sv=.slice (some ⟨g,0,none⟩) l.length c/\Q g/\∀k u,(yT l)[k]?=some u->w.cell? ⟨g,k,none⟩=some u)
theorem wI.later {w w':World} {Q Q':Nat->Prop} (hk:nz Q w w') (hB:∀k,Q k->k<w.heap.size->Q' k) (h:wI w Q sv l):wI w' Q' sv l:=by
 rcases h with h|⟨hn,g,c,e,hg,hc⟩
 .exact .inl h
 .have h0:0<(yT l).length:=by rw[Db];have:=List.length_pos_iff.2 hn;omega
  have hlt:=fB _ _ (hc 0 _ (aU h0));refine .inr ⟨hn,g,c,e,hB g hg hlt,λk u hu=>?_⟩;have:=hc k u hu;simp only[World.cell?]at this ⊢;rw[hk g hg hlt];exact this
def Ym (T:List aH) (pb tb cap n N:Nat) (fin:Except Nat (List (aH×Bool)×Nat)) (w0:World) (k:Nat) (w:World):Prop:=
 ∃so sl sc m cs,w.heap[w0.heap.size]?=some (.cells #[.slice none 0 0,.slice none 0 0] 68 (0,0))/\w.heap[w0.heap.size+1]?=some (.cells #[.int .i64 0,.int .i64 0] 105 (0,0))/\w.heap[w0.heap.size+3]?=some (.cells #[.slice so sl sc,.slice none 0 0] 68 (0,0)) /\
  w0.heap.size+4<=w.heap.size/\bY w0 w/\(∀j,j<w0.heap.size->w.heap[j]?=w0.heap[j]?)/\w.ownsRow (w0.heap.size+4) 160 6 (.slice so sl sc) m cs/\(∀u∈cs,u.oneCell'=true)/\m+k*(n+1)<=N*(n+1) /\
  ∃cur:Except Nat (List (aH×Bool)×Nat),cK w pb tb cap T 0 0 cur/\(∀acc j,cur=.ok (acc,j)->cs=yT acc)/\jF cur (λacc j=>I8 T n k acc j)=some fin
theorem YG {pb tb cap N k:Nat} {w0 wc w4 w5:World} {sl sc m g cap' len:Nat} {cs cs2:List Value}
  (hpb:pb=w0.heap.size+2) (q1:wc.heap[w0.heap.size]?=some (.cells #[.slice none 0 0,.slice none 0 0] 68 (0,0))) (q2:wc.heap[w0.heap.size+1]?=some (.cells #[.int .i64 0,.int .i64 0] 105 (0,0))) (q3:wc.heap[w0.heap.size+3]?=some (.cells #[.slice so sl sc,.slice none 0 0] 68 (0,0)))
  (hsz:w0.heap.size+4<=wc.heap.size) (hsm:bY w0 wc) (hold:∀j,j<w0.heap.size->wc.heap[j]?=w0.heap[j]?) (own:wc.ownsRow (w0.heap.size+4) 160 6 (.slice so sl sc) m cs) (h1:∀u∈cs,u.oneCell'=true) (h2:∀u∈cs2,u.oneCell'=true) (hm:m+(k+1)*(n+1)<=N*(n+1)) (hlen:len<=n+1)
  (hcs:cs=yT acc) (hpa:andThen (some r2) (λl j=>I8 T n k (acc++l) j)=some fin)
  (k4:aB pb wc w4) (h4:YY w4 pb tb cap T 0 0 cs2 r2)
  (hown:w5.ownsRow (w0.heap.size+4) 160 6 (.slice (some ⟨g,0,none⟩) (m+len) cap') (m+len) (cs++cs2))
  (hgrow:w4.grownBy w5 (Value.slice so sl sc).ownBlock) :
  Ym T pb tb cap n N fin w0 k (w5.setCell ⟨w0.heap.size+3,0,none⟩ (.slice (some ⟨g,0,none⟩) (m+len) cap')):=by
 have sz4:=k4.1;have sz5:=hgrow.size;have far:∀j,j<wc.heap.size->j<w0.heap.size+4->w5.heap[j]?=w4.heap[j]?:=λj hj hj2=>hgrow.block j (by omega) (λe=>by have:=(own.lt j e.symm).1;omega);have stay:∀j,j≠w0.heap.size+3->(w5.setCell ⟨w0.heap.size+3,0,none⟩ (.slice (some ⟨g,0,none⟩) (m+len) cap')).heap[j]?=w5.heap[j]?:=λj hj=>ay _ _ _ _ hj;have all:∀j,j<w0.heap.size+4->j≠w0.heap.size+3->j≠pb->(w5.setCell ⟨w0.heap.size+3,0,none⟩ (.slice (some ⟨g,0,none⟩) (m+len) cap')).heap[j]?=wc.heap[j]?:=λj h1 h2 h3=>(stay j h2).trans ((far j (by omega) h1).trans (k4.2 j (by omega) h3));refine⟨some ⟨g,0,none⟩,m+len,cap',m+len,cs++cs2,(all _ (by omega) (by omega) (by omega)).trans q1,(all _ (by omega) (by omega) (by omega)).trans q2,?_,by simp;omega,(hsm.trans k4.same).trans ((bY.grown hgrow).set _ _),λj hj=>(all j (by omega) (by omega) (by omega)).trans (hold j hj),bH hown (λj hj=>stay j (by have:=(hown.lt j hj).1;omega)),?_,?_,?_⟩
 .exact aM _ (w0.heap.size+3) 0 _ _ _ ((far _ (by omega) (by omega)).trans ((k4.2 _ (by omega) (by omega)).trans q3))
 .intro u hu;rcases dW.1 hu with hu|hu
  .exact h1 u hu
  .exact h2 u hu
 .rw[Nat.succ_mul]at hm;omega
 .have two:∀j,j<=pb->(w5.setCell ⟨w0.heap.size+3,0,none⟩ (.slice (some ⟨g,0,none⟩) (m+len) cap')).heap[j]?=w4.heap[j]?:=λj hj=>(stay j (by omega)).trans (far j (by omega) (by omega))
  cases r2 with
  | error y=>cases hpa;exact⟨.error y,cK.two (r:=.error y) (α:=List (aH×Bool)) h4 two,λacc j e=>(by cases e),rfl⟩
  | ok q=>
   obtain⟨l,j⟩:=q;refine⟨.ok (acc++l,j),cK.two (r:=.ok (acc++l,j)) h4.1 two,?_,hpa⟩;intro acc' j' e
   cases e;rw[hcs,h4.2];simp[yT]
def Qe1 (w:World) (T:List aH) (r:Except Nat ((List (aH×Bool)×Sx)×Nat)) (e:Ending) (w':World):Prop:=
 Below w.heap.size w w'/\∃no nl nc bo bl bc f pl,e=.returned (.tuple #[.agg #[.slice no nl nc,.slice bo bl bc],.agg #[.int .i64 f,.int .i64 pl]]) /\
  ((∃ds s j,r=.ok ((ds,s),j)/\f=0/\pl=0/\wI w' (λg=>w.heap.size<=g) (.slice no nl nc) ds/\dh w' (λg=>w.heap.size<=g) (.slice bo bl bc) s)∨(∃x,r=.error x/\f=9/\pl=(ah T x).place))
theorem AA (w:World) (tb cap:Nat) (T:List aH) (hT:eQ T) (htk:uH w tb T) (htb:tb<w.heap.size) (hfew:T.length<=1000) (hroom:T.length<=cap/\cap<=maxLen) (n:Nat) (hn:n<=1000) (r:Except Nat ((List (aH×Bool)×Sx)×Nat)) (hr:dV n T=some r) :
  Calls Tryz.prog 58 #[.slice (some ⟨tb,0,none⟩) T.length cap] w (Qe1 w T r):=by
 obtain⟨fin,hfin,hr2⟩:=Pb hr;have hlt:=hT.last.1;obtain⟨i0,hi0,hz0,hz1,hz2⟩:=dG Rw;have inv0:Ym T (w.heap.size+2) tb cap n (n-1) fin w (n-1) ((((w.alloc (.cells #[.slice none 0 0,.slice none 0 0] 68)).alloc (.cells #[.int .i64 0,.int .i64 0] 105)).alloc (.cells #[.slice (some ⟨tb,0,none⟩) T.length cap,.int .i64 0,.int .i64 0] 150)).alloc (.cells #[.slice none 0 0,.slice none 0 0] 68)):=by
  have b1:∀(W:World) (o:Obj) (k:Nat),k<W.heap.size->(W.alloc o).heap[k]?=W.heap[k]?:=λW o k hk=>av W o k hk;refine⟨none,0,0,0,[],?_,?_,?_,by simp,⟨rfl,rfl,rfl⟩,λj hj=>?_,fD _ _ _ _,(by intro u hu;cases hu),by omega,.ok ([],0),?_,(by intro acc j e;cases e;rfl),hfin⟩
  .rw[b1 _ _ _ (by simp;omega),b1 _ _ _ (by simp;omega),b1 _ _ _ (by simp)];exact aA w _
  .rw[b1 _ _ _ (by simp),b1 _ _ _ (by simp)];exact(by simpa using aA (w.alloc (.cells #[.slice none 0 0,.slice none 0 0] 68)) (.cells #[.int .i64 0,.int .i64 0] 105))
  .exact(by simpa using aA (((w.alloc (.cells #[.slice none 0 0,.slice none 0 0] 68)).alloc (.cells #[.int .i64 0,.int .i64 0] 105)).alloc (.cells #[.slice (some ⟨tb,0,none⟩) T.length cap,.int .i64 0,.int .i64 0] 150)) (.cells #[.slice none 0 0,.slice none 0 0] 68))
  .rw[b1 _ _ _ (by simp;omega),b1 _ _ _ (by simp;omega),b1 _ _ _ (by simp;omega),b1 _ _ _ hj]
  .refine⟨?_,uH.same htk ?_,by omega,hlt,hfew,hroom⟩
   .rw[b1 _ _ _ (by simp)];exact(by simpa using aA ((w.alloc (.cells #[.slice none 0 0,.slice none 0 0] 68)).alloc (.cells #[.int .i64 0,.int .i64 0] 105)) (.cells #[.slice (some ⟨tb,0,none⟩) T.length cap,.int .i64 0,.int .i64 0] 150))
   .rw[b1 _ _ _ (by simp;omega),b1 _ _ _ (by simp;omega),b1 _ _ _ (by simp;omega),b1 _ _ _ htb]
 have HR2:=aj hr2;clear hr hr2 hfin htk;go_enter Tryz.func58,Tryz.ntmps58;go_wp2
 go_loopg [8] (n-1) (λk _ wr=>Ym T (w.heap.size+2) tb cap n (n-1) fin w k wr)
 case atStart=>exact inv0
 case round=>
 clear inv0;obtain⟨so,sl,sc,m,cs,q1,q2,q3,hsz,hsm,hold,own,hone,hm,cur,hst,hex,hpa⟩:=hrel;obtain⟨i',f',pl',hps,hdead⟩:∃i' f' pl',bg wr (w.heap.size+2) tb cap T i' f' pl'/\((∃acc,cur=.ok (acc,i')/\f'=0/\pl'=0)∨(∃x,i'=T.length-1/\cur=.error x/\f'=mo 0/\pl'=nY 0 0 (ah T x).place)):=by
  cases cur with
  | error x=>exact⟨_,_,_,hst,.inr ⟨x,rfl,rfl,rfl,rfl⟩⟩
  | ok p=>exact⟨p.2,0,0,hst,.inl ⟨p.1,rfl,rfl,rfl⟩⟩
 have hmN:m<=1001000:=by
  have:(n-1)*(n+1)<=1000*1001:=Nat.mul_le_mul (by omega) (by omega);omega
 go_wp2_with fail;refine(dM wr (w.heap.size+2) tb cap i' T f' pl' hps).mono ?_;rintro e w2 ⟨rfl,hb2⟩;unfold jC pE;go_wp2_with fail;refine(dm _ (kP (ah T i')) (ah T i').place (nP (ah T i')) (sP (ah T i')) (wP (ah T i')) w2.heap.size 0 2 [lU,bA] (fJ w2 [lU,bA]) (by simp)).mono ?_;rintro e w3 ⟨rfl,hb3⟩;have B3:Below wr.heap.size wr w3:=(hb2.alloc hb2.size _).trans (hb3.mono (by have:=hb2.size;simp;omega));have es:((kP (ah T i')==2)&&[lU,bA].any (λt=>(wP (ah T i')).toList==t.toList))=[lU,bA].any (bJ T i'):=rG hT i' (λs hs=>JX s (by simp only[aO,aQ,aR]at hs ⊢;rcases hs with rfl|rfl<;>simp));have es2:[lU,bA].any (bJ T i')=(bJ T i' lU||bJ T i' bA):=by simp
 rw[es,es2];have sz3:=B3.size;have p1:=(B3.block _ (by omega)).trans q1;have p2:=(B3.block _ (by omega)).trans q2;have p3:=(B3.block _ (by omega)).trans q3;have sm3:=hsm.trans (bY.below B3);have hold3:∀j,j<w.heap.size->w3.heap[j]?=w.heap[j]?:=λj hj=>(B3.block j (by omega)).trans (hold j hj);have own3:=bH own (w':=w3) (λk hk=>B3.block k (own.lt k hk).2);have hps3:=hps.below B3 (af _);have hst3:=cK.later hst (λk hk=>B3.block k hk);clear es es2 hb2 hb3 q1 q2 q3 hold own hps hst B3
 cases hc:(bJ T i' lU||bJ T i' bA)
 .obtain⟨efin,hdone⟩:cur=fin/\(∀acc j,fin=.ok (acc,j)->cs=yT acc):=by
   have:cur=fin:=by
    rcases hdead with⟨acc,rfl,rfl,rfl⟩|⟨x,rfl,rfl,rfl,rfl⟩
    .cases gk with
     | zero=>cases hpa
     | succ gk=>
      have hpa:I8 T n (gk+1) acc i'=some fin:=hpa;rw[I8,hc,ae (by simp)]at hpa
      cases hpa;rfl
    .cases hpa;rfl
   exact⟨this,λacc j e=>hex acc j (this.trans e)⟩
  subst efin;obtain⟨rS,r2,hS,hst2,hv2,hrr⟩:=gN (aa HR2);have hrr:jF r2 (λab j=>andThen (Ja T ab.2 j) λs j=>kF (ab.1,s) j)=some r:=hrr;have HS:=aj hS;have HST2:=aj hst2;have HV2:=aj hv2;have HRR:=aj hrr;have DN:=aj hdone;clear hS hst2 hv2 hrr hpa hdead hdone HR2 hex hps3;go_wp2_with fail;refine(zQ ((Qc8 n (by omega)).2 (n-1) (by omega)) hT w3 (w.heap.size+2) tb cap 0 0 hst3 (aa HS)).mono ?_;rintro e w4 ⟨k4,bo,bl,bc,rfl,h4⟩;have sz4:=k4.1;have r1:=(k4.2 _ (by omega) (by omega)).trans p1;have r2':=(k4.2 _ (by omega) (by omega)).trans p2;have r3:=(k4.2 _ (by omega) (by omega)).trans p3;have sm4:=sm3.trans k4.same;have hold4:∀j,j<w.heap.size->w4.heap[j]?=w.heap[j]?:=λj hj=>(k4.2 j (by omega) (by omega)).trans (hold3 j hj);have own4:=bH own3 (w':=w4) (λk hk=>k4.2 k (own3.lt k hk).2 (by have:=(own3.lt k hk).1;omega));obtain⟨⟨x0,x1⟩,y0,y1⟩:=Md r3;clear hst3 p1 p2 p3 hold3 own3 k4;go_wp2_with fail;obtain⟨w5,hw5⟩:∃w5,w4.setCell ⟨w.heap.size+3,1,none⟩ (.slice bo bl bc)=w5:=⟨_,rfl⟩;rw[hw5];have o5:∀k,k≠w.heap.size+3->w5.heap[k]?=w4.heap[k]?:=λk hk=>by rw[<-hw5];exact ay _ _ _ _ hk
  have z5:w5.heap.size=w4.heap.size:=by rw[<-hw5];simp
  have v3:w5.heap[w.heap.size+3]?=some (.cells #[.slice so sl sc,.slice bo bl bc] 68 (0,0)):=by rw[<-hw5];exact aM _ (w.heap.size+3) 1 _ _ _ r3
  have v1:=(o5 _ (by omega)).trans r1;have v2:=(o5 _ (by omega)).trans r2';have sm5:bY w w5:=by rw[<-hw5];exact sm4.set _ _
  have hold5:∀j,j<w.heap.size->w5.heap[j]?=w.heap[j]?:=λj hj=>(o5 j (by omega)).trans (hold4 j hj);have own5:=bH own4 (w':=w5) (λk hk=>o5 k (by have:=(own4.lt k hk).1;omega));have h5:cK w5 (w.heap.size+2) tb cap T 0 0 r2:=cK.two (aa HST2 _ _ _ _ _ _ _ h4.st) (λk hk=>o5 k (by omega));have L5:∀s j,rS=.ok (s,j)->dh w5 (λg=>w.heap.size+4<=g) (.slice bo bl bc) s:=λs j e=>by
   rw[e]at h4;exact h4.2.later (λk hk hl=>o5 k (by have:w3.heap.size<=k:=hk;omega)) (λk hk _=>by have:w3.heap.size<=k:=hk;show _<=k;omega)
  clear hw5 x0 x1 y0 y1 r1 r2' r3 hold4 own4 h4 o5;obtain⟨i5,f5,pl5,hps5,hd5⟩:∃i5 f5 pl5,bg w5 (w.heap.size+2) tb cap T i5 f5 pl5/\((∃acc,r2=.ok (acc,i5)/\f5=0/\pl5=0)∨(∃x,i5=T.length-1/\r2=.error x/\f5=mo 0/\pl5=nY 0 0 (ah T x).place)):=by
   cases r2 with
   | error x=>exact⟨_,_,_,h5,.inr ⟨x,rfl,rfl,rfl,rfl⟩⟩
   | ok p=>exact⟨p.2,0,0,h5,.inl ⟨p.1,rfl,rfl,rfl⟩⟩
  refine(dM w5 (w.heap.size+2) tb cap i5 T f5 pl5 hps5).mono ?_;rintro e w6 ⟨rfl,B6⟩;have sz6:=B6.size;have s1:=(B6.block _ (by omega)).trans v1;have s2:=(B6.block _ (by omega)).trans v2;have s3:=(B6.block _ (by omega)).trans v3;have sm6:=sm5.trans (bY.below B6);have hold6:∀j,j<w.heap.size->w6.heap[j]?=w.heap[j]?:=λj hj=>(B6.block j (by omega)).trans (hold5 j hj);have own6:=bH own5 (w':=w6) (λk hk=>B6.block k (own5.lt k hk).2);have hps6:=hps5.below B6 (af _);have L6:∀s j,rS=.ok (s,j)->dh w6 (λg=>w.heap.size+4<=g) (.slice bo bl bc) s:=λs j e=>(L5 s j e).later (λk _ hl=>B6.block k hl) (λk hk _=>hk);have fin6:∀(w7 W:World) (ff pp:Int),bY w6 w7->bY w7 W->w6.heap.size<=w7.heap.size->(∀k,k<w6.heap.size->k≠(w.heap.size+2)->w7.heap[k]?=w6.heap[k]?)->w7.heap.size<=W.heap.size->(∀k,k≠w.heap.size->k≠w.heap.size+1->W.heap[k]?=w7.heap[k]?) ->
    ((∃ds s j,r=.ok ((ds,s),j)/\ff=0/\pp=0/\(∃jf,cur=.ok (ds,jf))/\∃j',rS=.ok (s,j'))∨(∃x,r=.error x/\ff=9/\pp=(ah T x).place))->Qe1 w T r (.returned (.tuple #[.agg #[.slice so sl sc,.slice bo bl bc],.agg #[.int .i64 ff,.int .i64 pp]])) W:=by
   intro w7 W ff pp sm7 smW hs7 h7 hsW hW hcase;have smA:=(sm6.trans sm7).trans smW;refine⟨⟨smA.os,smA.tape,smA.output,by omega,λj hj=>(hW j (by omega) (by omega)).trans ((h7 j (by omega) (by omega)).trans (hold6 j hj))⟩,so,sl,sc,bo,bl,bc,ff,pp,rfl,?_⟩;rcases hcase with⟨ds,s,j,e1,e2,e3,⟨jf,e4⟩,j',e5⟩|h
   .refine .inl ⟨ds,s,j,e1,e2,e3,?_,?_⟩
    .have ec:=aa DN ds jf e4;by_cases hz:m=0
     .subst hz;have hl:=own6.1;rw[ec,Db]at hl;have:ds=[]:=xN.1 (by omega);subst this;refine .inl ⟨rfl,?_⟩;rcases own6.2 with⟨e,_⟩|⟨g,c,_,e,_⟩
      .rw[e];exact⟨_,_,rfl⟩
      .rw[e];exact⟨_,_,rfl⟩
     .obtain⟨g,c,e,hg,hg2⟩:=own6.form (by omega);have hl:=own6.1;rw[ec,Db]at hl;have hml:ds.length=m:=by omega
      refine .inr ⟨λe0=>by rw[e0]at hml;simp at hml;omega,g,c,by rw[e,hml],by show _<=g;omega,λk u hu=>?_⟩;rw[<-ec]at hu;have hk:=(rR.1 hu).1;have own7:=own6;rw[e]at own7;have hc:=(own7.cellAt k (by rw[<-own7.1];exact hk)).trans hu;have hb:W.heap[g]?=w6.heap[g]?:=(hW g (by omega) (by omega)).trans (h7 g hg2 (by omega));simp only[World.cell?]at hc ⊢;rw[hb];exact hc
    .exact(L6 s j' e5).later (λk hk hl=>by have hk:w.heap.size+4<=k:=hk;exact(hW k (by omega) (by omega)).trans (h7 k hl (by omega))) (λk hk _=>by have hk:w.heap.size+4<=k:=hk;show w.heap.size<=k;omega)
   .exact .inr h
  have FIN:=aj fin6;clear h5 v1 v2 v3 hold5 own5 hps5 L5 L6 B6 own6 hold6 fin6;have tk:=IX;unfold jC pE
  cases hk4:((ah T i5).kind==4)
  .have hk5:kP (ah T i5)≠5:=by
    have:=hT.kinds i5;unfold kP;rcases this with h|h|h|h|h
    .rw[h];decide
    .rw[h];decide
    .rw[h];decide
    .rw[h];decide
    .rw[h]at hk4;cases hk4
   obtain⟨acc,e2,rfl,rfl⟩:∃acc,r2=.ok (acc,i5)/\f5=0/\pl5=0:=by
    rcases hd5 with h|⟨x,rfl,_⟩
    .exact h
    .rw[yC hT]at hk4;cases hk4
   have er:r=.error i5:=by
    have:=aa HRR;rw[e2]at this;have:andThen (Ja T acc.2 i5) (λs j=>kF (acc.1,s) j)=some r:=this;unfold Ja at this;rw[hk4,ae (by simp)]at this
    cases this;rfl
   go_wp2_with fail;refine(xV w6 (w.heap.size+2) tb cap i5 T 0 0 hps6).mono ?_;rintro e w7 ⟨rfl,h7,k7⟩;have sz7:=k7.1;have t1:=(k7.2 _ (by omega) (by omega)).trans s1;have t2:=(k7.2 _ (by omega) (by omega)).trans s2;have t3:=(k7.2 _ (by omega) (by omega)).trans s3;have t4:=h7.blk;have F7:=aj (λW h=>aa FIN w7 W (mo 0) (nY 0 0 (ah T i5).place) k7.same h k7.1 k7.2);have b9:mo 0=9:=rfl;have bp:nY 0 0 (ah T i5).place=(ah T i5).place:=rfl;obtain⟨⟨a0,a1⟩,b0,b1⟩:=Md t1;obtain⟨⟨c0,c1⟩,d0,d1⟩:=Md t2;obtain⟨⟨g0,g1⟩,_⟩:=Md t3;obtain⟨⟨j0,j1,j2⟩,_⟩:=yQ t4;clear FIN s1 s2 s3 hps6 h7 k7 t1 t2 t3 t4 HRR HV2 HST2 HS DN;go_wp2
   go_region
   go_wp2;refine aL (v:=.tuple #[.agg #[.slice so sl sc,.slice bo bl bc],.agg #[.int .i64 9,.int .i64 (ah T i5).place]]) (by simp[results,Tryz.results58,go_sem,a0,a1,c0,c1]) rfl ?_;refine aa F7 _ (((((bY.refl _).set _ _).set _ _).set _ _).set _ _).drew (by simp) (λk hk hk2=>?_) (.inr ⟨i5,er,rfl,rfl⟩);exact(ay _ _ _ _ hk2).trans ((ay _ _ _ _ hk2).trans ((ay _ _ _ _ hk).trans (ay _ _ _ _ hk)))
  .have hk5:kP (ah T i5)=5:=Du _ (by simpa using hk4);have hk6:(kP (ah T i5) != 5)=false:=by rw[hk5];rfl
   have F7:=aj (λW h=>aa FIN w6 W f5 pl5 (bY.refl _) h (af _) (λ_ _ _=>rfl));have hcase:((∃ds s j,r=.ok ((ds,s),j)/\f5=0/\pl5=0/\(∃jf,cur=.ok (ds,jf))/\∃j',rS=.ok (s,j'))∨(∃x,r=.error x/\f5=9/\pl5=(ah T x).place)):=by
    rcases hd5 with⟨acc,e2,rfl,rfl⟩|⟨x,_,e2,rfl,rfl⟩
    .obtain⟨ds,s⟩:=acc;have h9:=aa HRR;rw[e2]at h9;have h9:andThen (Ja T s i5) (λs j=>kF (ds,s) j)=some r:=h9;unfold Ja at h9;rw[hk4,ag rfl]at h9
     cases h9;obtain⟨j0,ec,eS⟩:=aa HV2 _ _ e2;exact .inl ⟨ds,s,i5,rfl,rfl,rfl,⟨j0,ec⟩,i5,eS⟩
    .have h9:=aa HRR;rw[e2]at h9
     cases h9;exact .inr ⟨x,rfl,rfl,rfl⟩
   have HC:=aj hcase;have t4:=hps6.blk;obtain⟨⟨a0,a1⟩,b0,b1⟩:=Md s1;obtain⟨⟨c0,c1⟩,d0,d1⟩:=Md s2;obtain⟨⟨g0,g1⟩,_⟩:=Md s3;obtain⟨⟨j0,j1,j2⟩,_⟩:=yQ t4;clear FIN s1 s2 s3 hps6 t4 HRR HV2 HST2 HS DN hcase hd5 hk6;go_wp2
   go_region
   go_wp2;refine aL (v:=.tuple #[.agg #[.slice so sl sc,.slice bo bl bc],.agg #[.int .i64 f5,.int .i64 pl5]]) (by simp[results,Tryz.results58,go_sem,a0,a1,c0,c1]) rfl ?_;refine aa F7 _ (((((bY.refl _).set _ _).set _ _).set _ _).set _ _).drew (by simp) (λk hk hk2=>?_) (aa HC);exact(ay _ _ _ _ hk2).trans ((ay _ _ _ _ hk2).trans ((ay _ _ _ _ hk).trans (ay _ _ _ _ hk)))
 .obtain⟨acc,ecur,ef,epl⟩:∃acc,cur=.ok (acc,i')/\f'=0/\pl'=0:=by
   rcases hdead with h|⟨x,rfl,_⟩
   .exact h
   .rw[ku hT.last,ku hT.last]at hc;cases hc
  subst ecur;subst ef;subst epl;have hi1:i'+1<T.length:=by
   cases h1:bJ T i' lU
   .rw[h1,Bool.false_or]at hc;exact aD hT.last hps3.lt hc
   .exact aD hT.last hps3.lt h1
  cases gk with
  | zero=>cases hpa
  | succ gk=>
  have hpa:I8 T n (gk+1) acc i'=some fin:=hpa;rw[I8,hc,ag rfl]at hpa
  cases hD:XB T (bJ T i' bA) n (i'+1) with
  | none=>rw[hD]at hpa;cases hpa
  | some r2=>
  rw[hD]at hpa;have stp:=λ(w4 w5:World) (g cap' len:Nat) (cs2:List Value) (k4:aB (w.heap.size+2) w3 w4) (h4:YY w4 (w.heap.size+2) tb cap T 0 0 cs2 r2) (hone2:∀u∈cs2,u.oneCell'=true) (hlen:len<=n+1) hown hgrow=>
   YG (fin:=fin) (N:=n-1) (w0:=w) (wc:=w3) (w4:=w4) (w5:=w5) (so:=so) (sl:=sl) (sc:=sc) (m:=m) (g:=g) (cap':=cap') (len:=len) (cs:=cs) (cs2:=cs2) (acc:=acc) (r2:=r2) (k:=gk) rfl p1 p2 p3 (by omega) sm3 hold3 own3 hone hone2 hm hlen (hex acc i' rfl) hpa k4 h4 hown hgrow
  have STP:=aj stp;have HD:=aj hD;obtain⟨⟨x0,x1⟩,y0,y1⟩:=Md p3;clear stp hD hpa hex hdead hst3 p1 p2 hold3;go_wp2
  go_region_law (first
    | (refine step_append_lies _ rfl _ _ 65 rfl (w.heap.size+4) 160 i0 (.agg #[.int .i64 0,.int .i64 0,.string ⟨#[]⟩,.int .i32 0,.int .i32 0,.bool false]) 6 48 Tryz.underlying65 hi0 hz0 hz1 hz2 rfl (by decide) (.slice so sl sc) m cs (by simp[Act.eval]) own4 ⟨g,0,none⟩ len c cs2 (by simp[Act.eval]) own2.1 news4 hone2 hl0 (by unfold maxLen;omega) (by omega) (by omega) w4.heap.size rfl ?_;intro g' cap' w5 hown hgrow hat hlt5;have z5:w5.heap[w.heap.size+3]?=some (.cells #[.slice so sl sc,.slice none 0 0] 68 (0,0)):=(hgrow.block _ (by omega) (λe=>by have:=(own4.lt _ e.symm).1;omega)).trans z4;have c5:=(Md z5).1;have e5:=(Md z5).2;have fin5:=aa FIN4 w5 g' cap' hown hgrow)
    | (go_simp;go_at_call 87;refine(Ed _ (w.heap.size+2) tb cap i' T 0 0 r2 hT ?_ hi1 n (by omega) (aa HD)).mono ?_;exact hps3.later (λ_ _=>rfl);rintro e w4 ⟨k4,g,len,c,cs2,rfl,hl0,hl1,own2,hone2,h4⟩;have z4:w4.heap[w.heap.size+3]?=some (.cells #[.slice so sl sc,.slice none 0 0] 68 (0,0)):=(k4.2 _ (by show _<w3.heap.size;omega) (by omega)).trans p3;have c4:=(Md z4).1;have sz4:w3.heap.size<=w4.heap.size:=k4.1;have own4:=bH own3 (w':=w4) (λk hk=>k4.2 k (own3.lt k hk).2 (by have:=(own3.lt k hk).1;omega));have news4:∀j u,cs2[j]?=some u->w4.cell? (Addr.add ⟨g,0,none⟩ j)=some u:=(λj u hu=>by have hj:=(rR.1 hu).1;have hc:=(own2.cellAt j (by rw[<-own2.1];exact hj)).trans hu;rw[SS];exact hc);have FIN4:=aj (λw5 g' cap'=>aa STP w4 w5 g' cap' len cs2 (by first|exact k4|exact k4.undrew) h4 hone2 hl1)))
  all_goals go_wp2
  all_goals go_roundg gk
  all_goals first|omega|exact fin5
open Go.Shelf
def qD:Value:=.agg #[.slice none 0 0,.slice none 0 0]
theorem SG (s:ByteArray) (h:300<s.size) (_h2:s.size<=maxLen) (w:World):Calls Tryz.prog 34 #[.string s] w λe w'=>Below w.heap.size w w'/\e=.returned (.tuple #[qD,.int .i64 7,.int .i64 0]):=by
 have hm:(maxLen:Int)<=9223372036854775807:=by unfold maxLen;decide
 go_enter Tryz.func34,Tryz.ntmps34;go_wp2;refine aL (v:=.tuple #[qD,.int .i64 7,.int .i64 0]) (by simp[results,Tryz.results34,go_sem,qD]) rfl ⟨?_,rfl⟩;exact(ax _ w).alloc (af _) _
theorem XX (s:ByteArray) (h:s.size<=300) (p:Nat) (hx:oN s s.size 0 []=(none,p)) (w:World):Calls Tryz.prog 34 #[.string s] w λe w'=>Below w.heap.size w w'/\e=.returned (.tuple #[qD,.int .i64 8,.int .i64 p]):=by
 go_enter Tryz.func34,Tryz.ntmps34;go_wp2_with fail;obtain⟨w1,hw1⟩:∃w1,w.alloc (.cells #[.slice none 0 0,.slice none 0 0] 68)=w1:=⟨_,rfl⟩;rw[hw1];refine(Mq s h w1).mono ?_;rintro e w2 ⟨hb,ho⟩;rw[hx]at ho;have ho':e=.returned (.tuple #[.slice none 0 0,.agg #[.int .i64 8,.int .i64 p]]):=ho;subst ho';have z1:w1.heap.size=w.heap.size+1:=by rw[<-hw1];simp
 have hz:=hb.size;have r1:w2.heap[w.heap.size]?=some (.cells #[.slice none 0 0,.slice none 0 0] 68 (0,0)):=(hb.block _ (by omega)).trans (by rw[<-hw1];exact aA w _);have r1c:=tq r1;have b0:Below w.heap.size w w1:=by rw[<-hw1];exact(ax _ w).alloc (af _) _
 have bw:Below w.heap.size w w2:=b0.trans ⟨hb.os,hb.tape,hb.output,hb.size,λk hk=>hb.block k (by omega)⟩;have hl1:w.heap.size<w2.heap.size:=by omega
 have hl2:¬ w.heap.size=w2.heap.size:=by omega
 have hl3:¬ w2.heap.size=w.heap.size:=by omega
 clear hx ho hb hw1;go_wp2
 go_region
 all_goals go_wp2
 obtain⟨⟨c0,c1⟩,f0,f1⟩:=r1c;refine aL (v:=.tuple #[qD,.int .i64 8,.int .i64 p]) (by simp[results,Tryz.results34,go_sem,qD,c0,c1,hl1]) rfl ⟨?_,rfl⟩;exact(((bw.setCell (p:=⟨w.heap.size,0,none⟩) (af _) _).setCell (p:=⟨w.heap.size,1,none⟩) (af _) _).alloc (by simp;omega) _).drew
theorem Xc (s:ByteArray) (h:s.size<=300) (l:List aH) (p:Nat) (hx:oN s s.size 0 []=(some l,p)) (n x:Nat) (hn:n<=1000) (hr:dV n (l++[aI p])=some (.error x)) (hfew:(l++[aI p]).length<=1000) (w:World):Calls Tryz.prog 34 #[.string s] w λe w'=>Below w.heap.size w w'/\e=.returned (.tuple #[qD,.int .i64 9,.int .i64 (ah (l++[aI p]) x).place]):=by
 have hW:=rF h hx;go_enter Tryz.func34,Tryz.ntmps34;go_wp2_with fail;obtain⟨w1,hw1⟩:∃w1,w.alloc (.cells #[.slice none 0 0,.slice none 0 0] 68)=w1:=⟨_,rfl⟩;rw[hw1];refine(Mq s h w1).mono ?_;rintro e w2 ⟨hb,ho⟩;rw[hx]at ho;obtain⟨hp,g,c,hg,hc,rfl,htk⟩:p=s.size/\∃g c,(w1.heap.size<=g/\g<w2.heap.size)/\((l++[aI p]).length<=c/\c<=maxLen)/\e=.returned (.tuple #[.slice (some ⟨g,0,none⟩) (l++[aI p]).length c,.agg #[.int .i64 0,.int .i64 0]])/\uH w2 g (l++[aI p]):=ho;obtain⟨T,hTe⟩:∃T,l++[aI p]=T:=⟨_,rfl⟩;rw[hTe]at hr hfew hc htk hW ⊢;have z1:w1.heap.size=w.heap.size+1:=by rw[<-hw1];simp
 have hz:=hb.size;have r1:w2.heap[w.heap.size]?=some (.cells #[.slice none 0 0,.slice none 0 0] 68 (0,0)):=(hb.block _ (by omega)).trans (by rw[<-hw1];exact aA w _);have b0:Below w.heap.size w w1:=by rw[<-hw1];exact(ax _ w).alloc (af _) _
 have bw:Below w.heap.size w w2:=b0.trans ⟨hb.os,hb.tape,hb.output,hb.size,λk hk=>hb.block k (by omega)⟩;have hl1:w.heap.size<w2.heap.size:=by omega
 have HTE:=aj hTe;clear hx hb hw1 hTe hp;go_wp2_with fail;obtain⟨w3,hw3⟩:∃w3,w2.alloc (.cells #[.int .i64 0,.int .i64 0] 105)=w3:=⟨_,rfl⟩;rw[hw3];have z3:w3.heap.size=w2.heap.size+1:=by rw[<-hw3];simp
 have htk3:uH w3 g T:=by
  have hg3:w3.heap[g]?=w2.heap[g]?:=by rw[<-hw3];exact av w2 _ g hg.2
  have f:∀o,w3.cell? ⟨g,o,none⟩=w2.cell? ⟨g,o,none⟩:=λo=>iY hg3;intro j hj;have:=htk j hj;rw[f,f,f,f,f];exact this
 refine(AA w3 g c T hW htk3 (by omega) hfew hc n hn _ hr).mono ?_;rintro e w4 ⟨hb4,no,nl,nc,bo,bl,bc,f,pl,rfl,hout⟩;have hfp:f=9/\pl=(ah T x).place:=by
  rcases hout with⟨ds,sx,j,hq,_⟩|⟨y,hq,h1,h2⟩
  .cases hq
  .cases hq;exact⟨h1,h2⟩
 obtain⟨rfl,rfl⟩:=hfp;have hz4:=hb4.size;have r4:w4.heap[w.heap.size]?=some (.cells #[.slice none 0 0,.slice none 0 0] 68 (0,0)):=(hb4.block _ (by omega)).trans (by rw[<-hw3];exact(av w2 _ _ (by omega)).trans r1);have q4:w4.heap[w2.heap.size]?=some (.cells #[.int .i64 0,.int .i64 0] 105 (0,0)):=(hb4.block _ (by omega)).trans (by rw[<-hw3];exact aA w2 _);have bw4:Below w.heap.size w w4:=by
  have b3:Below w.heap.size w w3:=by rw[<-hw3];exact bw.alloc (by omega) _
  exact b3.trans ⟨hb4.os,hb4.tape,hb4.output,hb4.size,λk hk=>hb4.block k (by omega)⟩
 have r4c:=tq r4;have q4c:=tq q4;have hl4:w.heap.size<w4.heap.size:=by omega
 have hl5:w2.heap.size<w4.heap.size:=by omega
 have hl6:¬ w.heap.size=w2.heap.size:=by omega
 have hl7:¬ w2.heap.size=w.heap.size:=by omega
 have hl8:¬ w.heap.size=w4.heap.size:=by omega
 have hl9:¬ w2.heap.size=w4.heap.size:=by omega
 clear hout hb4 hw3 htk htk3 hr r1 bw b0;go_wp2
 go_region
 all_goals go_wp2
 obtain⟨⟨c0,c1⟩,f0,f1⟩:=r4c;obtain⟨⟨d0,d1⟩,k0,k1⟩:=q4c;refine aL (v:=.tuple #[qD,.int .i64 9,.int .i64 (ah T x).place]) (by simp[results,Tryz.results34,go_sem,qD,c0,c1,hl4]) rfl ⟨?_,by rw[aa HTE]⟩;exact((((bw4.setCell (p:=⟨w2.heap.size,0,none⟩) (by simp;omega) _).setCell (p:=⟨w2.heap.size,1,none⟩) (by simp;omega) _).setCell (p:=⟨w.heap.size,0,none⟩) (af _) _).setCell (p:=⟨w.heap.size,1,none⟩) (af _) _).alloc (by simp;omega) _ |>.drew
end Go.Proofs.YthmmgiaobakilaaGreat
