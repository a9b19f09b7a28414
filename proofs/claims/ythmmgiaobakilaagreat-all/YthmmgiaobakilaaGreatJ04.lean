import Derived.Test.YthmmgiaobakilaaGreatJ01
import Derived.Deep.Trees
set_option maxRecDepth 100000
set_option maxHeartbeats 8000000
set_option linter.all false
namespace Go.Proofs.YthmmgiaobakilaaGreat
open Go.RowKit Go.Deep
variable {B b cap i j n off pb tb:Nat} {f k pl:Int} {l r s:ByteArray} {u:Unit} {w w':World}
def om (B:Nat) (w:World) (ao:Option Addr) (l:List ByteArray):Prop:=
 ∃b off,ao=some ⟨b,off,none⟩/\b<B/\∀j,j<l.length->w.cell? ⟨b,off+j,none⟩=some (.string (l.getD j ByteArray.empty))
theorem om.newAt (w:World) (l:List ByteArray) (B n:Nat) (hn:n=w.heap.size) (hB:n<B):om B (w.alloc (.cells (l.map Value.string).toArray 9)) (some ⟨n,0,none⟩) l:=by
 refine⟨n,0,rfl,hB,λj hj=>?_⟩;rw[World.cell?_alloc_at _ _ _ _ hn,pM];simp[List.getD,aU hj]
theorem om.new (w:World) (l:List ByteArray) (B:Nat) (hB:w.heap.size<B):om B (w.alloc (.cells (l.map Value.string).toArray 9)) (some ⟨w.heap.size,0,none⟩) l:=
 om.newAt w l B w.heap.size rfl hB
def dI (s:ByteArray) (l:List ByteArray):Bool:=l.any (λt=>t.toList==s.toList)
def aY:List ByteArray:=[⟨#[226,134,144]⟩,⟨#[226,128,166]⟩,⟨#[195,151]⟩,⟨#[195,183]⟩,⟨#[226,137,164]⟩,⟨#[226,137,160]⟩,⟨#[43]⟩,⟨#[45]⟩,⟨#[61]⟩,⟨#[60]⟩,⟨#[40]⟩,⟨#[41]⟩,⟨#[123]⟩,⟨#[125]⟩,⟨#[91]⟩,⟨#[93]⟩,⟨#[44]⟩,⟨#[59]⟩]
def okS (s:ByteArray) (a:Nat) (g:ByteArray):Bool:=decide (a+g.size<=s.size)&&((s.extract a (a+g.size)).toList==g.toList)
def iL (s:ByteArray) (a:Nat):ByteArray:=(aY.find? (okS s a)).getD ⟨#[]⟩
theorem EZ:∀k,k<aY.length->(aY.getD k ByteArray.empty).size<=3:=by decide +kernel
structure aH where
 kind:Int
 num:Int
 place:Int
 text:ByteArray
variable {T:List aH} {ds:List (aH×Bool)}
def qg:List ByteArray:=[⟨#[111,112,101,110]⟩,⟨#[104,105,100,100,101,110]⟩,⟨#[105,102]⟩,⟨#[101,108,115,101]⟩,⟨#[102,111,114]⟩,⟨#[111,117,116]⟩,⟨#[104,105,100,101]⟩,⟨#[115,101,108]⟩,⟨#[109,105,110]⟩,⟨#[109,97,120]⟩,⟨#[112,101,101,107]⟩,⟨#[115,112,121]⟩]
def jq (s:ByteArray) (a:Nat):ByteArray:=s.extract a (a+oJ false ((nums s).drop a))
def gL (s:ByteArray) (a:Nat):ByteArray:=s.extract a (a+oJ true ((nums s).drop a))
def ql (s:ByteArray) (a:Nat):aH:=⟨if dI (jq s a) qg then 0 else 1,0,a,jq s a⟩
def DJ (s:ByteArray) (a:Nat):aH:=⟨2,sO (nums (gL s a)),a,gL s a⟩
def yU (s:ByteArray) (a:Nat):aH:=⟨3,0,a,iL s a⟩
def nG (s:ByteArray) (a:Nat):Bool:=(nums s).getD a 0==32||(nums s).getD a 0==10
def oN (s:ByteArray):Nat->Nat->List aH->Option (List aH)×Nat
 | 0,a,acc=>(some acc,a)
 | f+1,a,acc=>
  if a<s.size then
   (if nG s a then oN s f (a+1) acc
    else if 0<(jq s a).size then oN s f (a+(jq s a).size) (acc++[ql s a])
    else if 0<(gL s a).size then(if 65535<sO (nums (gL s a)) then(none,a) else oN s f (a+(gL s a).size) (acc++[DJ s a]))
    else if 0<(iL s a).size then oN s f (a+(iL s a).size) (acc++[yU s a])
    else(none,a))
  else(some acc,a)
def aI (a:Nat):aH:=⟨4,0,a,⟨#[]⟩⟩
theorem Rq (d:Bool) (L:List Int):oJ d L<=L.length:=by unfold oJ;exact(List.takeWhile_prefix _).length_le
theorem xY (s:ByteArray) (a:Nat) (ha:a<=s.size):(jq s a).size=oJ false ((nums s).drop a)/\a+(jq s a).size<=s.size:=by
 have:=Rq false ((nums s).drop a);rw[jy,bU]at this;rw[jq,ug];omega
theorem Ai (s:ByteArray) (a:Nat) (ha:a<=s.size):(gL s a).size=oJ true ((nums s).drop a)/\a+(gL s a).size<=s.size:=by
 have:=Rq true ((nums s).drop a);rw[jy,bU]at this;rw[gL,ug];omega
theorem za (s:ByteArray) (a:Nat):∀x∈nums (gL s a),oQ x=true:=by
 intro x hx;rw[gL,jK,show a+oJ true ((nums s).drop a)-a=oJ true ((nums s).drop a) by omega]at hx;have e:((nums s).drop a).take (oJ true ((nums s).drop a))=((nums s).drop a).takeWhile (λx=>if true then oQ x else sJ x):=by
  unfold oJ;exact(List.prefix_iff_eq_take.1 (List.takeWhile_prefix _)).symm
 rw[e]at hx;have:=wC.1 (List.all_takeWhile (l:=(nums s).drop a) (p:=λx=>if true then oQ x else sJ x)) x hx;simpa using this
theorem Bg (s:ByteArray) (a:Nat):(iL s a).size<=3/\(0<(iL s a).size->a+(iL s a).size<=s.size):=by
 unfold iL
 cases h:aY.find? (okS s a) with
 | none=>exact⟨by decide,λh=>absurd h (by decide)⟩
 | some g=>
  have hm:=xK h;have hp:=List.find?_some h;obtain⟨j,hj,rfl⟩:=pV hm;have:=EZ j hj;simp only[List.getD,aU hj,rQ]at this;simp only[okS,dC,decide_eq_true_eq]at hp;exact⟨this,λ_=>hp.1⟩
def lT:List ByteArray:=[⟨#[195,151]⟩,⟨#[195,183]⟩]
def lQ:List ByteArray:=[⟨#[43]⟩,⟨#[45]⟩]
def sD:List ByteArray:=[⟨#[61]⟩,⟨#[226,137,160]⟩,⟨#[60]⟩,⟨#[226,137,164]⟩]
def J2:ByteArray:=⟨#[91]⟩
def D9:ByteArray:=⟨#[93]⟩
def su:ByteArray:=⟨#[44]⟩
def xS:ByteArray:=⟨#[40]⟩
def wF:ByteArray:=⟨#[41]⟩
def Oy:ByteArray:=⟨#[226,134,144]⟩
def xE:ByteArray:=⟨#[59]⟩
def M3:ByteArray:=⟨#[226,128,166]⟩
def Oz:ByteArray:=⟨#[123]⟩
def DF:ByteArray:=⟨#[125]⟩
def jS:ByteArray:=⟨#[101,108,115,101]⟩
def JG:ByteArray:=⟨#[105,102]⟩
def xZ:ByteArray:=⟨#[102,111,114]⟩
def lD:ByteArray:=⟨#[111,117,116]⟩
def dY:ByteArray:=⟨#[104,105,100,101]⟩
def lU:ByteArray:=⟨#[111,112,101,110]⟩
def bA:ByteArray:=⟨#[104,105,100,100,101,110]⟩
abbrev Ex:=BT aH
variable {e:Ex}
def BG (t:aH):Ex:=.node 0 0 t .nil .nil
def bD (a r:Ex):Ex:=match a with
 | .nil=>.nil
 | .node b o t k _=>.node b o t k r
def NA (t:aH) (a:Ex):Ex:=.node 0 0 t (bD a .nil) .nil
def uf (t:aH) (a b:Ex):Ex:=.node 0 0 t (bD a (bD b .nil)) .nil
def VH (t:aH) (a b c:Ex):Ex:=.node 0 0 t (bD a (bD b (bD c .nil))) .nil
abbrev PR (α:Type):=Option (Except Nat (α×Nat))
def andThen {α β:Type} (r:PR α) (f:α->Nat->PR β):PR β:=match r with
 | none=>none
 | some (.error k)=>some (.error k)
 | some (.ok (a,j))=>f a j
def kF {α:Type} (a:α) (j:Nat):PR α:=some (.ok (a,j))
def Lp {α:Type} (k:Nat):PR α:=some (.error k)
def ah (T:List aH) (i:Nat):aH:=T.getD i ⟨4,0,0,⟨#[]⟩⟩
def bJ (T:List aH) (i:Nat) (s:ByteArray):Bool:=(((ah T i).kind==3)||((ah T i).kind==0))&&((ah T i).text.toList==s.toList)
def aZ (T:List aH) (s:ByteArray) (i:Nat):PR Unit:=if bJ T i s then kF () (i+1) else Lp i
def ib (T:List aH) (k:Int) (i:Nat):PR aH:=if(ah T i).kind==k then kF (ah T i) (i+1) else Lp i
abbrev PE:=List aH->Nat->PR Ex
variable {F M X:PE}
def iB (M:PE) (ops:List ByteArray) (T:List aH):Nat->Ex->Nat->PR Ex
 | 0,_,_=>none
 | n+1,e,i=>if ops.any (bJ T i) then andThen (M T (i+1)) λx j=>iB M ops T n (uf (ah T i) e x) j else kF e i
def jk (M:PE) (ops:List ByteArray) (n:Nat):PE:=λT i=>if n=0 then none else andThen (M T i) (iB M ops T n)
def wV (M:PE) (T:List aH) (e:Ex) (i:Nat):PR Ex:=if sD.any (bJ T i) then andThen (M T (i+1)) λx j=>kF (uf (ah T i) e x) j else kF e i
def vV (M:PE):PE:=λT i=>andThen (M T i) (wV M T)
def bf:ByteArray:=⟨#[112,101,101,107]⟩
def cz:ByteArray:=⟨#[115,112,121]⟩
def jo:ByteArray:=⟨#[115,101,108]⟩
def kU:ByteArray:=⟨#[109,105,110]⟩
def kI:ByteArray:=⟨#[109,97,120]⟩
def Ag:ByteArray:=⟨#[45]⟩
def oU (X:PE) (l r:ByteArray) (T:List aH) (i:Nat):PR Ex:=
 andThen (aZ T l (i+1)) λ_ j=>andThen (X T j) λa j=>andThen (aZ T su j) λ_ j=>andThen (X T j) λb j=>andThen (aZ T r j) λ_ j=>kF (uf (ah T i) a b) j
def jN (X:PE) (l r:ByteArray) (T:List aH) (i:Nat):PR Ex:=
 andThen (aZ T l (i+1)) λ_ j=>andThen (X T j) λa j=>andThen (aZ T su j) λ_ j=>andThen (X T j) λb j=>andThen (aZ T su j) λ_ j=>andThen (X T j) λc j=>andThen (aZ T r j) λ_ j=>kF (VH (ah T i) a b c) j
def iD (X F:PE):PE:=λT i=>
 if(ah T i).kind==2 then kF (BG (ah T i)) (i+1) else
 if(ah T i).kind==1 then kF (BG (ah T i)) (i+1) else
 if bJ T i xS then(andThen (X T (i+1)) λe j=>andThen (aZ T wF j) λ_ j=>kF e j) else
 if bJ T i Ag then(andThen (F T (i+1)) λe j=>kF (NA (ah T i) e) j) else
 if bJ T i bf then oU X J2 D9 T i else
 if bJ T i cz then oU X J2 D9 T i else
 if bJ T i kU then oU X xS wF T i else
 if bJ T i kI then oU X xS wF T i else
 if bJ T i jo then jN X xS wF T i else
 Lp i
def noP:PE:=λ_ _=>none
def yG:Nat->PE×PE
 | 0=>(noP,noP)
 | n+1=>if n<2 then(noP,noP) else(vV (jk (jk (iD (yG n).1 (yG n).2) lT (n-1)) lQ (n-1)),iD (yG n).1 (yG n).2)
structure SP where
 tag:Nat
 t:aH
 a:aH
 b:aH
 e:Ex
abbrev Sx:=BT SP
def bK:aH:=⟨4,0,0,⟨#[]⟩⟩
def kV (a r:Sx):Sx:=match a with
 | .nil=>.nil
 | .node b o t k _=>.node b o t k r
abbrev PS:=List aH->Nat->PR Sx
variable {S:PS}
def mi (X:PE):PS:=λT i=>andThen (aZ T Oy (i+1)) λ_ j=>andThen (X T j) λe j=>andThen (aZ T xE j) λ_ j=>kF (.node 0 0 ⟨0,ah T i,bK,bK,e⟩ .nil .nil) j
def wJ (X:PE) (tag:Nat):PS:=λT i=>andThen (X T (i+1)) λe j=>andThen (aZ T xE j) λ_ j=>kF (.node 0 0 ⟨tag,ah T i,bK,bK,e⟩ .nil .nil) j
def uz (B:PS) (T:List aH) (i:Nat) (e:Ex) (s:Sx) (j:Nat):PR Sx:=
 if bJ T j jS then andThen (B T (j+1)) λu k=>kF (.node 0 0 ⟨1,ah T i,bK,bK,e⟩ (.node 0 0 ⟨5,bK,bK,bK,.nil⟩ s u) .nil) k
 else kF (.node 0 0 ⟨1,ah T i,bK,bK,e⟩ (.node 0 0 ⟨5,bK,bK,bK,.nil⟩ s .nil) .nil) j
def Pj (X:PE) (B:PS):PS:=λT i=>andThen (X T (i+1)) λe j=>andThen (B T j) λs j=>uz B T i e s j
def BS (B:PS):PS:=λT i=>andThen (ib T 1 (i+1)) λn j=>andThen (ib T 2 j) λa j=>andThen (aZ T M3 j) λ_ j=>andThen (ib T 2 j) λb j=>andThen (B T j) λs j=>kF (.node 0 0 ⟨2,n,a,b,.nil⟩ s .nil) j
def dU (X:PE) (B:PS):PS:=λT i=>
 if(ah T i).kind==1 then mi X T i else
 if bJ T i JG then Pj X B T i else
 if bJ T i xZ then BS B T i else
 if bJ T i lD then wJ X 3 T i else
 if bJ T i dY then wJ X 4 T i else
 Lp i
def kz (S:PS) (T:List aH):Nat->Nat->PR Sx
 | 0,_=>none
 | n+1,i=>if bJ T i DF then kF .nil (i+1) else andThen (S T i) λs j=>andThen (kz S T n j) λr k=>kF (kV s r) k
def r9 (S:PS) (n:Nat):PS:=λT i=>if n=0 then none else andThen (aZ T Oz i) λ_ j=>kz S T n j
def noS:PS:=λ_ _=>none
def zB:Nat->PS×PS
 | 0=>(noS,noS)
 | n+1=>if n<2 then(noS,noS) else(dU (yG n).1 (zB n).2,r9 (zB n).1 (n-1))
def mH (S:PS) (T:List aH):Nat->Nat->PR Sx
 | 0,_=>none
 | n+1,i=>if(ah T i).kind==4 then kF .nil i else andThen (S T i) λs j=>andThen (mH S T n j) λr k=>kF (kV s r) k
def jO (T:List aH) (hd:Bool):Nat->Nat->PR (List (aH×Bool))
 | 0,_=>none
 | n+1,i=>andThen (ib T 1 i) λt j=>if bJ T j su then andThen (jO T hd n (j+1)) λl k=>kF ((t,hd)::l) k else andThen (aZ T xE j) λ_ k=>kF [(t,hd)] k
def jY (T:List aH) (f:Nat):Nat->Nat->PR (List (aH×Bool))
 | 0,_=>none
 | n+1,i=>if bJ T i lU||bJ T i bA then andThen (jO T (bJ T i bA) f (i+1)) λl j=>andThen (jY T f n j) λm k=>kF (l++m) k else kF [] i
def dV (n:Nat) (T:List aH):PR (List (aH×Bool)×Sx):=andThen (jY T n (n-1) 0) λds j=>andThen (mH (zB n).1 T (n-1) j) λs k=>kF (ds,s) k
theorem FZ (s:ByteArray) (f:Nat):∀a acc l p,acc.length<=a->a<=s.size->oN s f a acc=(some l,p)->l.length<=s.size:=by
 induction f with
 | zero=>
  intro a acc l p h1 h2 h;simp only[oN,je,ko]at h;rw[<-h.1];omega
 | succ f ih=>
  intro a acc l p h1 h2 h;rw[oN]at h;split at h
  .rename_i hlt;have w1:=(xY s a h2).2;have w2:=(Ai s a h2).2;have w3:=(Bg s a).2;split at h
   .exact ih (a+1) acc l p (by omega) (by omega) h
   split at h
   .exact ih _ _ l p (by simp;omega) w1 h
   split at h
   .split at h
    .cases h
    .exact ih _ _ l p (by simp;omega) w2 h
   split at h
   .rename_i h3;exact ih _ _ l p (by simp;omega) (w3 h3) h
   .cases h
  .simp only[je,ko]at h;rw[<-h.1];omega
def bP (T:List aH):Prop:=0<T.length/\(ah T (T.length-1)).kind=4
theorem tO (h:bP T) (hi:i<T.length) (hk:(ah T i).kind≠4):i+1<T.length:=by
 rcases nV (i+1) T.length with h1|h1
 .exact h1
 .exfalso;have e:i=T.length-1:=by omega
  rw[e]at hk;exact hk h.2
theorem Xu (h:bJ T i s=true):(ah T i).kind≠4:=by
 intro e;simp[bJ,e]at h
theorem aD (h:bP T) (hi:i<T.length) (hs:bJ T i s=true):i+1<T.length:=tO h hi (Xu hs)
def M6 {α:Type} (T:List aH) (a b:Nat):PR α->Prop
 | none=>True
 | some (.error k)=>a<=k/\k<T.length
 | some (.ok (_,j))=>b<=j/\j<T.length
theorem bu {α β:Type} {a c:Nat} {r:PR α} {f:α->Nat->PR β} (h:M6 T a b r) (hf:∀x j,b<=j->j<T.length->M6 T a c (f x j)):M6 T a c (andThen r f):=by
 match r,h with
 | none,_=>trivial
 | some (.error k),h=>exact h
 | some (.ok (x,j)),h=>exact hf x j h.1 h.2
theorem M6.mono {α:Type} {a a' b':Nat} {r:PR α} (h:M6 T a b r) (ha:a'<=a) (hb:b'<=b):M6 T a' b' r:=by
 match r,h with
 | none,_=>trivial
 | some (.error k),h=>exact⟨iJ ha h.1,h.2⟩
 | some (.ok (x,j)),h=>exact⟨iJ hb h.1,h.2⟩
theorem iE {α:Type} {a:Nat} {x:α} (h1:b<=j) (h2:j<T.length):M6 T a b (kF x j):=⟨h1,h2⟩
theorem FW {α:Type} {a k:Nat} (h1:a<=k) (h2:k<T.length):M6 T a b (Lp k:PR α):=⟨h1,h2⟩
theorem bq (h:bP T) (hi:i<T.length):M6 T i (i+1) (aZ T s i):=by
 unfold aZ;split
 .rename_i hs;exact iE (af _) (aD h hi hs)
 .exact FW (af _) hi
def dL {α:Type} (P:List aH->Nat->PR α):Prop:=∀T i,bP T->i<T.length->M6 T i (i+1) (P T i)
theorem Uh (hM:dL M) (ops:List ByteArray) (h:bP T) (n:Nat):∀e i,i<T.length->M6 T i i (iB M ops T n e i):=by
 induction n with
 | zero=>intro e i hi;trivial
 | succ n ih=>
  intro e i hi;rw[iB];split
  .rename_i ha;obtain⟨s,_,hs⟩:=dD.1 ha;have h1:=aD h hi hs;exact bu ((hM T (i+1) h h1).mono (by omega) (af _)) (λx j hj hl=>(ih _ j hl).mono (by omega) (by omega))
  .exact iE (af _) hi
theorem qL (hM:dL M) (ops:List ByteArray) (n:Nat):dL (jk M ops n):=by
 intro T i h hi;unfold jk;split
 .trivial
 .exact bu (hM T i h hi) (λx j hj hl=>(Uh hM ops h n x j hl).mono (by omega) hj)
theorem Vy (hM:dL M):dL (vV M):=by
 intro T i h hi;refine bu (hM T i h hi) (λx j hj hl=>?_);unfold wV;split
 .rename_i ha;obtain⟨s,_,hs⟩:=dD.1 ha;have h1:=aD h hl hs;exact bu ((hM T (j+1) h h1).mono (by omega) (af _)) (λx k hk hl=>iE (by omega) hl)
 .exact iE hj hl
theorem FP (hX:dL X) (h:bP T) (hi:i+1<T.length):M6 T i (i+1) (oU X l r T i):=by
 unfold oU;refine bu ((bq h hi).mono (by omega) (af _)) (λ_ j hj hl=>?_);refine bu ((hX T j h hl).mono (by omega) (af _)) (λ_ j2 hj2 hl2=>?_);refine bu ((bq h hl2).mono (by omega) (af _)) (λ_ j3 hj3 hl3=>?_);refine bu ((hX T j3 h hl3).mono (by omega) (af _)) (λ_ j4 hj4 hl4=>?_);refine bu ((bq h hl4).mono (by omega) (af _)) (λ_ j5 hj5 hl5=>?_);exact iE (by omega) hl5
theorem TU (hX:dL X) (h:bP T) (hi:i+1<T.length):M6 T i (i+1) (jN X l r T i):=by
 unfold jN;refine bu ((bq h hi).mono (by omega) (af _)) (λ_ j hj hl=>?_);refine bu ((hX T j h hl).mono (by omega) (af _)) (λ_ j2 hj2 hl2=>?_);refine bu ((bq h hl2).mono (by omega) (af _)) (λ_ j3 hj3 hl3=>?_);refine bu ((hX T j3 h hl3).mono (by omega) (af _)) (λ_ j4 hj4 hl4=>?_);refine bu ((bq h hl4).mono (by omega) (af _)) (λ_ j5 hj5 hl5=>?_);refine bu ((hX T j5 h hl5).mono (by omega) (af _)) (λ_ j6 hj6 hl6=>?_);refine bu ((bq h hl6).mono (by omega) (af _)) (λ_ j7 hj7 hl7=>?_);exact iE (by omega) hl7
theorem sK (hX:dL X) (hF:dL F):dL (iD X F):=by
 intro T i h hi;unfold iD;have leaf:∀k:Int,k≠4->((ah T i).kind==k)=true->i+1<T.length:=λk hk hs=>by
  have e:(ah T i).kind=k:=by simpa using hs
  exact tO h hi (by rw[e];exact hk)
 split
 .rename_i hs;exact iE (af _) (leaf 2 (by decide) hs)
 split
 .rename_i hs;exact iE (af _) (leaf 1 (by decide) hs)
 split
 .rename_i hs;refine bu ((hX T (i+1) h (aD h hi hs)).mono (by omega) (af _)) (λ_ j hj hl=>?_);exact bu ((bq h hl).mono (by omega) (af _)) (λ_ k hk hl=>iE (by omega) hl)
 split
 .rename_i hs;exact bu ((hF T (i+1) h (aD h hi hs)).mono (by omega) (af _)) (λ_ j hj hl=>iE (by omega) hl)
 split
 .rename_i hs;exact FP hX h (aD h hi hs)
 split
 .rename_i hs;exact FP hX h (aD h hi hs)
 split
 .rename_i hs;exact FP hX h (aD h hi hs)
 split
 .rename_i hs;exact FP hX h (aD h hi hs)
 split
 .rename_i hs;exact TU hX h (aD h hi hs)
 .exact FW (af _) hi
theorem uU (n:Nat):dL (yG n).1/\dL (yG n).2:=by
 induction n with
 | zero=>exact⟨λ_ _ _ _=>trivial,λ_ _ _ _=>trivial⟩
 | succ n ih=>
  rw[yG];split
  .exact⟨λ_ _ _ _=>trivial,λ_ _ _ _=>trivial⟩
  have f:=sK ih.1 ih.2;exact⟨Vy (qL (qL f lT _) lQ _),f⟩
theorem dK (T:List aH) (s:ByteArray) (i:Nat):∃r,aZ T s i=some r:=by unfold aZ;split<;>exact⟨_,rfl⟩
theorem au {α β:Type} {r:PR α} {f:α->Nat->PR β} {y:β×Nat} (h:andThen r f=some (.ok y)):∃x j,r=some (.ok (x,j))/\f x j=some (.ok y):=by
 match r,h with
 | none,h=>cases h
 | some (.error k),h=>cases h
 | some (.ok (x,j)),h=>exact⟨x,j,rfl,h⟩
theorem gV {a b:ByteArray} (h:a.toList=b.toList):a=b:=by
 rw[aJ,aJ]at h;have:=Array.toList_inj.1 h
 cases a;cases b;simp at this;rw[this]
theorem fC (h:bJ T i s=true):(ah T i).text=s:=by
 simp only[bJ,dC]at h;exact gV (by simpa using h.2)
theorem nW (h:bJ T i s=true):(((ah T i).kind==2)||((ah T i).kind==1))=false:=by
 simp only[bJ,dC,pU]at h;rcases h.1 with e|e
 .have e':(ah T i).kind=3:=by simpa using e
  rw[e'];rfl
 .have e':(ah T i).kind=0:=by simpa using e
  rw[e'];rfl
def lenE:Ex->Nat
 | .nil=>0
 | .node _ _ _ _ r=>lenE r+1
theorem WJ (s:ByteArray) (f:Nat):∀a acc l p,(∀t∈acc,0<=t.num/\t.num<=65536)->oN s f a acc=(some l,p)->∀t∈l,0<=t.num/\t.num<=65536:=by
 induction f with
 | zero=>
  intro a acc l p h1 h;simp only[oN,je,ko]at h;rw[<-h.1];exact h1
 | succ f ih=>
  intro a acc l p h1 h;rw[oN]at h;have sn:∀t:aH,0<=t.num/\t.num<=65536->∀u∈acc++[t],0<=u.num/\u.num<=65536:=λt ht u hu=>by
   rcases dW.1 hu with hu|hu
   .exact h1 u hu
   .simp at hu;rw[hu];exact ht
  split at h
  .split at h
   .exact ih _ _ l p h1 h
   split at h
   .exact ih _ _ l p (sn _ ⟨by simp[ql],by simp[ql]⟩) h
   split at h
   .split at h
    .cases h
    .exact ih _ _ l p (sn _ (zY _ (za s a))) h
   split at h
   .exact ih _ _ l p (sn _ ⟨by simp[yU],by simp[yU]⟩) h
   .cases h
  .simp only[je,ko]at h;rw[<-h.1];exact h1
theorem wM {l:List aH} {p:Nat} (hs:s.size<=300) (h:oN s s.size 0 []=(some l,p)):bP (l++[aI p])/\(∀i,0<=(ah (l++[aI p]) i).num/\(ah (l++[aI p]) i).num<=65536)/\(l++[aI p]).length<=900:=by
 have hl:=FZ s s.size 0 [] l p (by simp) (by omega) h;have hn:=WJ s s.size 0 [] l p (by intro t ht;cases ht) h;refine⟨⟨by simp,?_⟩,λi=>?_,by simp;omega⟩
 .simp[ah,aI]
 .unfold ah;rcases nV i (l++[aI p]).length with hi|hi
  .have hm:(l++[aI p]).getD i ⟨4,0,0,⟨#[]⟩⟩∈l++[aI p]:=by
    rw[List.getD,aU hi,rQ];exact jW hi
   rcases dW.1 hm with hm|hm
   .exact hn _ hm
   .simp only[rJ]at hm;rw[hm];exact⟨dn 0,by show(0:Int)<=65536;decide⟩
  .rw[List.getD,ou hi,wm];exact⟨by decide,by decide⟩
theorem Q9 (w:World) (b off c:Nat) (l:List ByteArray) (v:ByteArray) (hc:∀j (hj:j<l.length),w.cell? ⟨b,off+j,none⟩=some (Value.string l[j])) (hl:l.length<=1000) :
  Calls Tryz.prog 128 #[.slice (some ⟨b,off,none⟩) l.length c,Value.string v] w λe w'=>(∃n:Int,e=.returned (.int .i64 n)/\decide (0<=n)=l.any (λt=>v.toList==t.toList))/\w'=w:=by
 go_enter Tryz.func128,Tryz.ntmps128;go_wp2
 go_loop [8] (λi=>∃k:Nat,k<=l.length/\i=.int .i64 k/\∀j (hj:j<l.length),j<k->(λt=>v.toList==t.toList) l[j]=false) (λi=>l.length-(intOf i).toNat)
 case atStart=>exact⟨0,bO _,rfl,λj hj h0=>absurd h0 (Nat.not_lt_zero _)⟩
 case round=>
  obtain⟨k,hk,rfl,hno⟩:=hrel;by_cases hlt:k<l.length
  .have hck:=hc k hlt;have HN:=aj hno;have hki:(k:Int)<(l.length:Int):=by omega
   obtain⟨x,hx⟩:∃x,l[k]=x:=⟨_,rfl⟩;rw[hx]at hck;clear hno hc
   cases he:(v.toList==x.toList)
   .go_wp2
    go_round
    case rel=>
     refine⟨k+1,by omega,by go_num,λj hj hlt2=>?_⟩;rcases nV j k with h|h
     .exact aa HN j hj h
     .have e:j=k:=by omega
      subst e;show(v.toList==l[j].toList)=false;rw[hx];exact he
    case measure=>simp[intOf];omega
   .go_wp2;go_ret;refine⟨⟨(k:Int),rfl,?_⟩,rfl⟩;have:l.any (λt=>v.toList==t.toList)=true:=dD.2 ⟨l[k],jW hlt,by rw[hx];exact he⟩;rw[this];simp
  .go_wp2;go_ret;refine⟨⟨-1,rfl,?_⟩,rfl⟩;have:l.any (λt=>v.toList==t.toList)=false:=by
    rw[jw];intro t ht;obtain⟨j,hj,rfl⟩:=pV ht;have:=hno j hj (by omega);rw[this];simp
   rw[this];decide
theorem Jm (w:World) (b off c:Nat) (l:List ByteArray) (v:ByteArray) (hc:∀j (hj:j<l.length),w.cell? ⟨b,off+j,none⟩=some (Value.string l[j])) (hl:l.length<=1000) :
  Calls Tryz.prog 107 #[.slice (some ⟨b,off,none⟩) l.length c,Value.string v] w λe w'=>e=.returned (.bool (l.any (λt=>v.toList==t.toList)))/\w'=w:=by
 go_enter Tryz.func107,Tryz.ntmps107;go_wp2_with fail;refine(Q9 w b off c l v hc hl).mono ?_;rintro e w1 ⟨⟨n,rfl,hn⟩,hw⟩;obtain rfl:=hw.symm;have HN:=aj hn;clear hn;go_wp2;go_ret;exact⟨cO (aa HN),rfl⟩
theorem Qc (w:World) (b off c:Nat) (l:List Int) (v:Int) (hc:∀j (hj:j<l.length),w.cell? ⟨b,off+j,none⟩=some (Value.int .i32 l[j])) (hl:l.length<=1000) :
  Calls Tryz.prog 140 #[.slice (some ⟨b,off,none⟩) l.length c,Value.int .i32 v] w λe w'=>(∃n:Int,e=.returned (.int .i64 n)/\decide (0<=n)=l.any (λt=>v==t))/\w'=w:=by
 go_enter Tryz.func140,Tryz.ntmps140;go_wp2
 go_loop [8] (λi=>∃k:Nat,k<=l.length/\i=.int .i64 k/\∀j (hj:j<l.length),j<k->(λt=>v==t) l[j]=false) (λi=>l.length-(intOf i).toNat)
 case atStart=>exact⟨0,bO _,rfl,λj hj h0=>absurd h0 (Nat.not_lt_zero _)⟩
 case round=>
  obtain⟨k,hk,rfl,hno⟩:=hrel;by_cases hlt:k<l.length
  .have hck:=hc k hlt;have HN:=aj hno;have hki:(k:Int)<(l.length:Int):=by omega
   obtain⟨x,hx⟩:∃x,l[k]=x:=⟨_,rfl⟩;rw[hx]at hck;clear hno hc
   cases he:(v==x)
   .go_wp2
    go_round
    case rel=>
     refine⟨k+1,by omega,by go_num,λj hj hlt2=>?_⟩;rcases nV j k with h|h
     .exact aa HN j hj h
     .have e:j=k:=by omega
      subst e;show(v==l[j])=false;rw[hx];exact he
    case measure=>simp[intOf];omega
   .go_wp2;go_ret;refine⟨⟨(k:Int),rfl,?_⟩,rfl⟩;have:l.any (λt=>v==t)=true:=dD.2 ⟨l[k],jW hlt,by rw[hx];exact he⟩;rw[this];simp
  .go_wp2;go_ret;refine⟨⟨-1,rfl,?_⟩,rfl⟩;have:l.any (λt=>v==t)=false:=by
    rw[jw];intro t ht;obtain⟨j,hj,rfl⟩:=pV ht;have:=hno j hj (by omega);rw[this];simp
   rw[this];decide
theorem J7 (w:World) (b off c:Nat) (l:List Int) (v:Int) (hc:∀j (hj:j<l.length),w.cell? ⟨b,off+j,none⟩=some (Value.int .i32 l[j])) (hl:l.length<=1000) :
  Calls Tryz.prog 129 #[.slice (some ⟨b,off,none⟩) l.length c,Value.int .i32 v] w λe w'=>e=.returned (.bool (l.any (λt=>v==t)))/\w'=w:=by
 go_enter Tryz.func129,Tryz.ntmps129;go_wp2_with fail;refine(Qc w b off c l v hc hl).mono ?_;rintro e w1 ⟨⟨n,rfl,hn⟩,hw⟩;obtain rfl:=hw.symm;have HN:=aj hn;clear hn;go_wp2;go_ret;exact⟨cO (aa HN),rfl⟩
def pE (k p:Int) (wd:ByteArray) (n s:Int):Value:=.agg #[.int .i64 k,.int .i64 p,.string wd,.int .i32 n,.int .i32 s]
def Ch (w:World) (b off:Nat) (l:List ByteArray):Prop:=∀j (hj:j<l.length),w.cell? ⟨b,off+j,none⟩=some (.string l[j])
def Aw (w:World) (b off:Nat) (l:List Int):Prop:=∀j (hj:j<l.length),w.cell? ⟨b,off+j,none⟩=some (.int .i32 l[j])
theorem Ch.grown {l:List ByteArray} (h:Ch w b off l) (hs:∀k,k<w.heap.size->w'.heap[k]?=w.heap[k]?):Ch w' b off l:=by
 intro j hj;have h0:=h j hj;have hb:=fB _ _ h0;simp only[World.cell?]at h0 ⊢;rw[hs b hb];exact h0
theorem Aw.grown {l:List Int} (h:Aw w b off l) (hs:∀k,k<w.heap.size->w'.heap[k]?=w.heap[k]?):Aw w' b off l:=by
 intro j hj;have h0:=h j hj;have hb:=fB _ _ h0;simp only[World.cell?]at h0 ⊢;rw[hs b hb];exact h0
theorem dm (w:World) (k p n s:Int) (wd:ByteArray) (b off c:Nat) (l:List ByteArray) (hc:Ch w b off l) (hl:l.length<=1000) :
  Calls Tryz.prog 86 #[pE k p wd n s,.slice (some ⟨b,off,none⟩) l.length c] w λe w'=>e=.returned (.bool ((k==2)&&l.any (λt=>wd.toList==t.toList)))/\Below w.heap.size w w':=by
 unfold pE
 cases hk:(k==2)
 .go_enter Tryz.func86,Tryz.ntmps86;go_wp2;go_ret;exact⟨rfl,(ax _ w).alloc (af _) _⟩
 .go_enter Tryz.func86,Tryz.ntmps86;go_wp2_with fail;refine(Jm _ b off c l wd (hc.grown (λk hk=>av w _ k hk)) hl).mono ?_;rintro e w1 ⟨rfl,hw⟩;have hb:Below w.heap.size w w1:=by rw[hw];exact(ax _ w).alloc (af _) _
  clear hw;go_wp2;go_ret;exact⟨cO (by simp),hb⟩
theorem di (w:World) (k p n s:Int) (wd:ByteArray) (b off c:Nat) (l:List Int) (hc:Aw w b off l) (hl:l.length<=1000) :
  Calls Tryz.prog 110 #[pE k p wd n s,.slice (some ⟨b,off,none⟩) l.length c] w λe w'=>e=.returned (.bool ((k==4)&&l.any (λt=>s==t)))/\Below w.heap.size w w':=by
 unfold pE
 cases hk:(k==4)
 .go_enter Tryz.func110,Tryz.ntmps110;go_wp2;go_ret;exact⟨rfl,(ax _ w).alloc (af _) _⟩
 .go_enter Tryz.func110,Tryz.ntmps110;go_wp2_with fail;refine(J7 _ b off c l s (hc.grown (λk hk=>av w _ k hk)) hl).mono ?_;rintro e w1 ⟨rfl,hw⟩;have hb:Below w.heap.size w w1:=by rw[hw];exact(ax _ w).alloc (af _) _
  clear hw;go_wp2;go_ret;exact⟨cO (by simp),hb⟩
theorem fJ (w:World) (l:List ByteArray):Ch (w.alloc (.cells (l.map Value.string).toArray 9)) w.heap.size 0 l:=by
 intro j hj;rw[World.cell?_alloc_at _ _ _ _ rfl,pM];simp[aU hj]
theorem AQ (w:World) (l:List Int):Aw (w.alloc (.cells (l.map (Value.int .i32)).toArray 21)) w.heap.size 0 l:=by
 intro j hj;rw[World.cell?_alloc_at _ _ _ _ rfl,pM];simp[aU hj]
def uS:List ByteArray:=[lU,bA,JG,jS,xZ,lD,dY,jo,kU,kI,bf,cz]
theorem gG (w:World) (k p n s:Int) (wd:ByteArray) :
  Calls Tryz.prog 112 #[pE k p wd n s] w λe w'=>e=.returned (.bool ((k==2) && !uS.any (λt=>wd.toList==t.toList)))/\Below w.heap.size w w':=by
 unfold pE
 cases hk:(k==2)
 .go_enter Tryz.func112,Tryz.ntmps112;go_wp2;go_ret;exact⟨rfl,(ax _ w).alloc (af _) _⟩
 .go_enter Tryz.func112,Tryz.ntmps112;go_wp2_with fail;have hsi:Ch ((w.alloc (.cells #[.int .i64 k,.int .i64 p,.string wd,.int .i32 n,.int .i32 s] 116)).alloc (.cells (uS.map Value.string).toArray 9)) (w.heap.size+1) 0 uS:=by
   have:=fJ (w.alloc (.cells #[.int .i64 k,.int .i64 p,.string wd,.int .i32 n,.int .i32 s] 116)) uS;rw[bE]at this;exact this
  refine(dm _ k p n s wd (w.heap.size+1) 0 12 uS hsi (by decide)).mono ?_;rintro e w1 ⟨rfl,hb1⟩;have hb:Below w.heap.size w w1:=(((ax _ w).alloc (af _) _).alloc (by simp) _).trans (hb1.mono (by simp;omega));clear hb1 hsi;rw[hk,qZ];go_wp2;go_ret;exact⟨cO (by simp),hb⟩
def kP (t:aH):Int:=if(t.kind==0)||(t.kind==1) then 2 else if t.kind==2 then 3 else if t.kind==3 then 4 else 5
def wP (t:aH):ByteArray:=if(t.kind==0)||(t.kind==1) then t.text else⟨#[]⟩
def nP (t:aH):Int:=if t.kind==2 then t.num else 0
def ma:List Int:=[8592,8230,215,247,8804,8800,43,45,61,60,40,41,123,125,91,93,44,59]
def aX (s:ByteArray):Int:=(((aY.zip ma).find? (λp=>p.1.toList==s.toList)).map (·.2)).getD 0
def sP (t:aH):Int:=if t.kind==3 then aX t.text else 0
def jC (t:aH):Value:=pE (kP t) t.place (wP t) (nP t) (sP t)
def Cf (t:aH):List Value:=[.int .i64 (kP t),.int .i64 t.place,.string (wP t),.int .i32 (nP t),.int .i32 (sP t)]
def uH (w:World) (tb:Nat) (T:List aH):Prop:=∀j (hj:j<T.length),w.cell? ⟨tb,j*5,none⟩=some (.int .i64 (kP T[j]))/\w.cell? ⟨tb,j*5+1,none⟩=some (.int .i64 (T[j]).place)/\w.cell? ⟨tb,j*5+2,none⟩=some (.string (wP T[j]))/\w.cell? ⟨tb,j*5+3,none⟩=some (.int .i32 (nP T[j]))/\w.cell? ⟨tb,j*5+4,none⟩=some (.int .i32 (sP T[j]))
structure bg (w:World) (pb tb cap:Nat) (T:List aH) (i:Nat) (f pl:Int):Prop where
 blk:w.heap[pb]?=some (.cells #[.slice (some ⟨tb,i*5,none⟩) (T.length-i) (cap-i),.int .i64 f,.int .i64 pl] 150 (0,0))
 toks:uH w tb T
 low:tb<pb
 lt:i<T.length
 few:T.length<=1000
 room:T.length<=cap/\cap<=maxLen
section
variable {w:World} {pb tb cap i:Nat} {T:List aH} {f pl:Int}
theorem bg.cell (h:bg w pb tb cap T i f pl) (k:Nat):w.cell? ⟨pb,k,none⟩=#[.slice (some ⟨tb,i*5,none⟩) (T.length-i) (cap-i),.int .i64 f,.int .i64 pl][k]?:=by
 simp only[World.cell?];rw[h.blk];simp
theorem bg.thaw (h:bg w pb tb cap T i f pl) (k:Nat):w.frozen? ⟨pb,k,none⟩=false:=by
 simp only[World.frozen?];rw[h.blk];simp
theorem bg.plt (h:bg w pb tb cap T i f pl):pb<w.heap.size:=(az.1 h.blk).1
theorem uH.same (h:uH w tb T) (hs:w'.heap[tb]?=w.heap[tb]?):uH w' tb T:=by
 intro j hj;have e:∀o,w'.cell? ⟨tb,o,none⟩=w.cell? ⟨tb,o,none⟩:=λo=>by simp only[World.cell?];rw[hs]
 simp only[e];exact h j hj
theorem bg.later (h:bg w pb tb cap T i f pl) (hs:∀k,k<w.heap.size->w'.heap[k]?=w.heap[k]?):bg w' pb tb cap T i f pl:=
 ⟨(hs pb h.plt).trans h.blk,h.toks.same (hs tb (by have:=h.plt;have:=h.low;omega)),h.low,h.lt,h.few,h.room⟩
theorem bg.below (h:bg w pb tb cap T i f pl) (hb:Below B w w') (hB:w.heap.size<=B):bg w' pb tb cap T i f pl:=
 ⟨(hb.block pb (by have:=h.plt;omega)).trans h.blk,h.toks.same (hb.block tb (by have:=h.plt;have:=h.low;omega)),h.low,h.lt,h.few,h.room⟩
end
theorem Mh (hi:i<T.length):ah T i=T[i]:=by simp[ah,List.getD,aU hi]
theorem dM (w:World) (pb tb cap i:Nat) (T:List aH) (f pl:Int) (h:bg w pb tb cap T i f pl) :
  Calls Tryz.prog 85 #[.pointer (some ⟨pb,0,none⟩)] w λe w'=>e=.returned (jC (ah T i))/\Below w.heap.size w w':=by
 have c0:=h.cell 0;simp at c0;obtain⟨t0,t1,t2,t3,t4⟩:=h.toks i h.lt;have hl:=h.lt;have hl2:0<T.length-i:=by omega
 have hp:=h.plt;have ht:tb<w.heap.size:=by have:=h.low;omega
 rw[Mh h.lt];unfold jC pE;generalize kP T[i]=a at *;generalize (T[i]).place=b at *;generalize wP T[i]=c at *;generalize nP T[i]=d at *;generalize sP T[i]=e at *;have hnb:pb≠w.heap.size:=by omega
 have hnt:tb≠w.heap.size:=by omega
 clear h;go_enter Tryz.func85,Tryz.ntmps85;go_wp2;refine aL (v:=.agg #[.int .i64 a,.int .i64 b,.string c,.int .i32 d,.int .i32 e]) (by simp[results,Tryz.results85,go_sem]) rfl ⟨rfl,(ax _ w).alloc (af _) _⟩
structure bY (w w':World):Prop where
 os:w'.os=w.os
 tape:w'.tape=w.tape
 output:w'.output=w.output
theorem bY.refl (w:World):bY w w:=⟨rfl,rfl,rfl⟩
theorem bY.trans {a b c:World} (h:bY a b) (k:bY b c):bY a c:=⟨k.os.trans h.os,k.tape.trans h.tape,k.output.trans h.output⟩
theorem bY.below {a b:World} (h:Below B a b):bY a b:=⟨h.os,h.tape,h.output⟩
theorem bY.set {a:World} (h:bY a w) (p:Addr) (v:Value):bY a (w.setCell p v):=h.trans (bY.below ((ax 0 w).setCell (bO _) v))
theorem bY.alloc {a w:World} (h:bY a w) (o:Obj):bY a (w.alloc o):=h.trans ⟨rfl,rfl,rfl⟩
theorem bY.drew {a w:World} (h:bY a w):bY a w.drew:=h.trans ⟨rfl,rfl,rfl⟩
theorem bY.grown {a:World} {r:Option Nat} (h:a.grownBy w r):bY a w:=⟨h.os,h.tape,h.output⟩
structure aB (pb:Nat) (w w':World):Prop where
 size:w.heap.size<=w'.heap.size
 block:∀k,k<w.heap.size->k≠pb->w'.heap[k]?=w.heap[k]?
 same:bY w w'
theorem aB.refl (pb:Nat) (w:World):aB pb w w:=⟨af _,λ_ _ _=>rfl,bY.refl _⟩
theorem aB.trans {pb:Nat} {a b c:World} (h1:aB pb a b) (h2:aB pb b c):aB pb a c:=⟨iJ h1.1 h2.1,λk hk hn=>(h2.2 k (by have:=h1.1;omega) hn).trans (h1.2 k hk hn),h1.same.trans h2.same⟩
theorem aB.below {pb:Nat} {a b:World} (h:Below a.heap.size a b):aB pb a b:=⟨h.size,λk hk _=>h.block k hk,bY.below h⟩
theorem aB.alloc (pb:Nat) (w:World) (o:Obj):aB pb w (w.alloc o):=⟨by simp,λk hk _=>av w o k hk,⟨rfl,rfl,rfl⟩⟩
theorem aB.set (pb:Nat) (w:World) (k:Nat) (v:Value):aB pb w (w.setCell ⟨pb,k,none⟩ v):=⟨by simp,λj _ hn=>ay _ _ _ _ hn,(bY.refl w).set _ _⟩
theorem aB.undrew (h:aB pb w.drew w'):aB pb w w':=⟨h.1,h.2,(bY.refl w).drew.trans h.same⟩
theorem bg.move (h:bg w pb tb cap T i f pl) (j:Nat) (hj:j<T.length):bg (w.setCell ⟨pb,0,none⟩ (.slice (some ⟨tb,j*5,none⟩) (T.length-j) (cap-j))) pb tb cap T j f pl:=
 ⟨aM _ pb 0 _ _ _ h.blk,h.toks.same (ay _ _ _ _ (by have:=h.low;show tb≠pb;omega)),h.low,hj,h.few,h.room⟩
theorem bg.fault (h:bg w pb tb cap T i f pl) (f' pl':Int):bg ((w.setCell ⟨pb,1,none⟩ (.int .i64 f')).setCell ⟨pb,2,none⟩ (.int .i64 pl')) pb tb cap T i f' pl':=
 ⟨aM _ pb 2 _ _ _ (aM _ pb 1 _ _ _ h.blk),(h.toks.same (ay _ _ _ _ (by have:=h.low;show tb≠pb;omega))).same (ay _ _ _ _ (by have:=h.low;show tb≠pb;omega)),h.low,h.lt,h.few,h.room⟩
theorem bg.alloc {w:World} {pb tb cap i:Nat} {T:List aH} {f pl:Int} (h:bg w pb tb cap T i f pl) (o:Obj):bg (w.alloc o) pb tb cap T i f pl:=h.later (λk hk=>av w o k hk)
theorem jB (w:World) (pb tb cap i:Nat) (T:List aH) (f pl:Int) (h:bg w pb tb cap T i f pl) (hi:i+1<T.length) :
  Calls Tryz.prog 108 #[.pointer (some ⟨pb,0,none⟩)] w λe w'=>e=.returned (jC (ah T i))/\bg w' pb tb cap T (i+1) f pl/\aB pb w w':=by
 have c0:=h.cell 0;have z0:=h.thaw 0;simp at c0;obtain⟨t0,t1,t2,t3,t4⟩:=h.toks i h.lt;have hl:=h.lt;have hl2:1<T.length-i:=by omega
 have hp:=h.plt;have hlow:=h.low;have hroom:=h.room;have hfew:=h.few;have ht:tb<w.heap.size:=by omega
 rw[Mh h.lt];unfold jC pE;generalize kP T[i]=a at *;generalize (T[i]).place=b at *;generalize wP T[i]=c at *;generalize nP T[i]=d at *;generalize sP T[i]=e at *;have hnb:pb≠w.heap.size:=by omega
 have hnt:tb≠w.heap.size:=by omega
 have H:=aj h;clear h;go_enter Tryz.func108,Tryz.ntmps108;go_wp2;have hmv:=(aa H).move (i+1) hi;have ek:=aB.set pb w 0 (.slice (some ⟨tb,(i+1)*5,none⟩) (T.length-(i+1)) (cap-(i+1)));rw[show(i+1)*5=i*5+5 by omega,show T.length-(i+1)=T.length-i-1 by omega,show cap-(i+1)=cap-i-1 by omega]at hmv ek;refine aL (v:=.agg #[.int .i64 a,.int .i64 b,.string c,.int .i32 d,.int .i32 e]) (by simp[results,Tryz.results108,go_sem]) rfl ⟨rfl,(hmv.alloc _).alloc _,(ek.trans (aB.alloc _ _ _)).trans (aB.alloc _ _ _)⟩
theorem VS (w:World) (pb tb cap i:Nat) (T:List aH) (f pl er at_:Int) (h:bg w pb tb cap T i f pl) :
  Calls Tryz.prog 117 #[.pointer (some ⟨pb,1,none⟩),.int .i64 er,.int .i64 at_] w λe w'=>e=.returned (.tuple #[])/\bg w' pb tb cap T i (if f=0 then er else f) (if f=0 then at_ else pl)/\aB pb w w':=by
 have c1:=h.cell 1;have c2:=h.cell 2;have z1:=h.thaw 1;have z2:=h.thaw 2;simp at c1 c2;have H:=aj h;clear h
 cases hf:(f==0)
 .have hf':¬ f=0:=by intro e;rw[e]at hf;cases hf
  rw[ae hf',ae hf'];go_enter Tryz.func117,Tryz.ntmps117;go_wp2
  go_end0
  exact⟨rfl,aa H,aB.refl _ _⟩
 .have hf':f=0:=by simpa using hf
  rw[ag hf',ag hf'];go_enter Tryz.func117,Tryz.ntmps117;go_wp2
  go_end0
  exact⟨rfl,(aa H).fault er at_,(aB.set pb w 1 _).trans (aB.set pb _ 2 _)⟩
def uE (p:aH->Prop):Ex->Prop
 | .nil=>True
 | .node _ _ t k r=>p t/\uE p k/\uE p r
def uR (p:aH->Prop):Sx->Prop
 | .nil=>True
 | .node _ _ s k r=>p s.t/\p s.a/\p s.b/\uE p s.e/\uR p k/\uR p r
def eu:Ex->Nat
 | .nil=>0
 | .node _ _ _ k r=>eu k+eu r+1
def dS:Sx->Nat
 | .nil=>0
 | .node _ _ _ k r=>dS k+dS r+1
section
variable {T:List aH} {p:aH->Prop}
structure Zy (p:aH->Prop) (e:Ex) (i j:Nat):Prop where
 one:∃b o t k,e=.node b o t k .nil
 sz:eu e+i<=j
 all:uE p e
def Et (T:List aH) (p:aH->Prop) (P:PE):Prop:=∀i e j,P T i=some (.ok (e,j))->Zy p e i j
theorem eF (h:aZ T s i=some (.ok (u,j))):j=i+1:=by
 unfold aZ at h;split at h
 .cases h;rfl
 .cases h
theorem wZ {t:aH} (h:ib T k i=some (.ok (t,j))):j=i+1/\t=ah T i:=by
 unfold ib at h;split at h
 .cases h;exact⟨rfl,rfl⟩
 .cases h
theorem RG (hp:∀i,p (ah T i)) (i:Nat):Zy p (BG (ah T i)) i (i+1):=⟨⟨_,_,_,_,rfl⟩,by simp[BG,eu];omega,⟨hp i,trivial,trivial⟩⟩
theorem nZ {a:Ex} (h:∃b o t k,a=.node b o t k .nil) (r:Ex):eu (bD a r)=eu a+eu r:=by
 obtain⟨b,o,t,k,rfl⟩:=h;simp[bD,eu];omega
theorem kH {a r:Ex} (ha:uE p a) (hr:uE p r):uE p (bD a r):=by
 cases a with
 | nil=>exact trivial
 | node b o t k r'=>exact⟨ha.1,ha.2.1,hr⟩
theorem NK (hp:∀i,p (ah T i)) {a b:Ex} {k l q:Nat} (h1:Zy p a i j) (h2:Zy p b (k) l) (hk:j+1<=k∨(i+1<=i)):Zy p (uf (ah T q) a b) i l:=by
 refine⟨⟨_,_,_,_,rfl⟩,?_,⟨hp q,kH h1.all (kH h2.all trivial),trivial⟩⟩;have s1:=h1.sz;have s2:=h2.sz;simp only[uf,eu,nZ h1.one,nZ h2.one];omega
theorem Xv (hp:∀i,p (ah T i)) (hM:Et T p M) (ops:List ByteArray):∀(n:Nat) (e:Ex) (i0 i:Nat) (r:Ex) (j:Nat),Zy p e i0 i->iB M ops T n e i=some (.ok (r,j))->Zy p r i0 j:=by
 intro n
 induction n with
 | zero=>intro e i0 i r j _ h;cases h
 | succ n ih=>
  intro e i0 i r j he h;rw[iB]at h;split at h
  .obtain⟨x,k,h1,h2⟩:=au h;exact ih _ i0 k r j (NK hp he (hM _ _ _ h1) (.inl (af _))) h2
  .cases h;exact he
theorem Nl (hp:∀i,p (ah T i)) (hM:Et T p M) (ops:List ByteArray) (n:Nat):Et T p (jk M ops n):=by
 intro i e j h;unfold jk at h;split at h
 .cases h
 .obtain⟨x,k,h1,h2⟩:=au h;exact Xv hp hM ops n x i k e j (hM _ _ _ h1) h2
theorem Qc5 (hp:∀i,p (ah T i)) (hM:Et T p M):Et T p (vV M):=by
 intro i e j h;obtain⟨x,k,h1,h2⟩:=au h;unfold wV at h2;split at h2
 .obtain⟨y,l,h3,h4⟩:=au h2
  cases h4;exact NK hp (hM _ _ _ h1) (hM _ _ _ h3) (.inl (af _))
 .cases h2;exact hM _ _ _ h1
theorem Li (hp:∀i,p (ah T i)) (hX:Et T p X) (h:oU X l r T i=some (.ok (e,j))):Zy p e i j:=by
 unfold oU at h;obtain⟨_,j1,h1,h⟩:=au h;obtain⟨a,j2,h2,h⟩:=au h;obtain⟨_,j3,h3,h⟩:=au h;obtain⟨b,j4,h4,h⟩:=au h;obtain⟨_,j5,h5,h⟩:=au h
 cases h;have g1:=hX _ _ _ h2;have g2:=hX _ _ _ h4;have e1:=eF h1;have e3:=eF h3;have e5:=eF h5;have s1:=g1.sz;have s2:=g2.sz;refine⟨⟨_,_,_,_,rfl⟩,?_,⟨hp i,kH g1.all (kH g2.all trivial),trivial⟩⟩;simp only[uf,eu,nZ g1.one,nZ g2.one];omega
theorem VU (hp:∀i,p (ah T i)) (hX:Et T p X) (h:jN X l r T i=some (.ok (e,j))):Zy p e i j:=by
 unfold jN at h;obtain⟨_,j1,h1,h⟩:=au h;obtain⟨a,j2,h2,h⟩:=au h;obtain⟨_,j3,h3,h⟩:=au h;obtain⟨b,j4,h4,h⟩:=au h;obtain⟨_,j5,h5,h⟩:=au h;obtain⟨c,j6,h6,h⟩:=au h;obtain⟨_,j7,h7,h⟩:=au h
 cases h;have g1:=hX _ _ _ h2;have g2:=hX _ _ _ h4;have g3:=hX _ _ _ h6;have e1:=eF h1;have e3:=eF h3;have e5:=eF h5;have e7:=eF h7;have s1:=g1.sz;have s2:=g2.sz;have s3:=g3.sz;refine⟨⟨_,_,_,_,rfl⟩,?_,⟨hp i,kH g1.all (kH g2.all (kH g3.all trivial)),trivial⟩⟩;simp only[VH,eu,nZ g1.one,nZ g2.one,nZ g3.one];omega
theorem SA (hp:∀i,p (ah T i)) (hX:Et T p X) (hF:Et T p F):Et T p (iD X F):=by
 intro i e j h;unfold iD at h;split at h
 .cases h;exact RG hp i
 split at h
 .cases h;exact RG hp i
 split at h
 .obtain⟨a,j2,h2,h⟩:=au h;obtain⟨_,j3,h3,h⟩:=au h
  cases h;have g:=hX _ _ _ h2;have e3:=eF h3;have s:=g.sz;exact⟨g.one,by omega,g.all⟩
 split at h
 .obtain⟨a,j2,h2,h⟩:=au h
  cases h;have g:=hF _ _ _ h2;have s:=g.sz;refine⟨⟨_,_,_,_,rfl⟩,?_,⟨hp i,kH g.all trivial,trivial⟩⟩;simp only[NA,eu,nZ g.one];omega
 split at h
 .exact Li hp hX h
 split at h
 .exact Li hp hX h
 split at h
 .exact Li hp hX h
 split at h
 .exact Li hp hX h
 split at h
 .exact VU hp hX h
 .cases h
theorem Qp0 (hp:∀i,p (ah T i)) (n:Nat):Et T p (yG n).1/\Et T p (yG n).2:=by
 induction n with
 | zero=>exact⟨λ_ _ _ h=>by(cases h),λ_ _ _ h=>by(cases h)⟩
 | succ n ih=>
  rw[yG];split
  .exact⟨λ_ _ _ h=>by(cases h),λ_ _ _ h=>by(cases h)⟩
  have f:=SA hp ih.1 ih.2;exact⟨Qc5 hp (Nl hp (Nl hp f lT _) lQ _),f⟩
def Dx (m:Nat):Sx->Prop
 | .nil=>True
 | .node _ _ s k r=>eu s.e<=m/\Dx m k/\Dx m r
theorem Dx.mono {m m':Nat} (h:m<=m'):∀ {s:Sx},Dx m s->Dx m' s
 | .nil,_=>trivial
 | .node _ _ _ _ _,⟨a,b,c⟩=>⟨iJ a h,Dx.mono h b,Dx.mono h c⟩
structure GdS (p:aH->Prop) (s:Sx) (i j:Nat):Prop where
 sz:dS s+i<=j
 all:uR p s
 exs:Dx j s
def One (s:Sx):Prop:=∃b o t k,s=.node b o t k .nil
def Zb (T:List aH) (p:aH->Prop) (P:PS):Prop:=∀i s j,P T i=some (.ok (s,j))->One s/\GdS p s i j
def Qn9 (T:List aH) (p:aH->Prop) (P:PS):Prop:=∀i s j,P T i=some (.ok (s,j))->GdS p s (i+1) j
theorem IL {a:Sx} (h:One a) (r:Sx):dS (kV a r)=dS a+dS r:=by
 obtain⟨b,o,t,k,rfl⟩:=h;simp[kV,dS];omega
theorem EP {a r:Sx} (ha:uR p a) (hr:uR p r):uR p (kV a r):=by
 cases a with
 | nil=>exact trivial
 | node b o t k r'=>exact⟨ha.1,ha.2.1,ha.2.2.1,ha.2.2.2.1,ha.2.2.2.2.1,hr⟩
theorem ET {m:Nat} {a r:Sx} (ha:Dx m a) (hr:Dx m r):Dx m (kV a r):=by
 cases a with
 | nil=>exact trivial
 | node b o t k r'=>exact⟨ha.1,ha.2.1,hr⟩
theorem Qj0 (hp:∀i,p (ah T i)) (h0:p bK) {B:PS} (hX:Et T p X) (hB:Qn9 T p B):Zb T p (dU X B):=by
 intro i s j h;unfold dU at h;split at h
 .unfold mi at h;obtain⟨_,j1,h1,h⟩:=au h;obtain⟨e,j2,h2,h⟩:=au h;obtain⟨_,j3,h3,h⟩:=au h
  cases h;have e1:=eF h1;have e3:=eF h3;have g:=hX _ _ _ h2;have s2:=g.sz;exact⟨⟨_,_,_,_,rfl⟩,by simp[dS];omega,⟨hp i,h0,h0,g.all,trivial,trivial⟩,⟨by show eu e<=j;omega,trivial,trivial⟩⟩
 split at h
 .unfold Pj at h;obtain⟨e,j1,h1,h⟩:=au h;obtain⟨a,j2,h2,h⟩:=au h;have g:=hX _ _ _ h1;have s1:=g.sz;have b1:=hB _ _ _ h2;have z1:=b1.sz;unfold uz at h;split at h
  .obtain⟨u,j3,h3,h⟩:=au h
   cases h;have b2:=hB _ _ _ h3;have z2:=b2.sz;exact⟨⟨_,_,_,_,rfl⟩,by simp[dS];omega,⟨hp i,h0,h0,g.all,⟨h0,h0,h0,trivial,b1.all,b2.all⟩,trivial⟩,⟨by show eu e<=j;omega,⟨by show 0<=j;omega,b1.exs.mono (by omega),b2.exs⟩,trivial⟩⟩
  .cases h;exact⟨⟨_,_,_,_,rfl⟩,by simp[dS];omega,⟨hp i,h0,h0,g.all,⟨h0,h0,h0,trivial,b1.all,trivial⟩,trivial⟩,⟨by show eu e<=j;omega,⟨by show 0<=j;omega,b1.exs,trivial⟩,trivial⟩⟩
 split at h
 .unfold BS at h;obtain⟨n,j1,h1,h⟩:=au h;obtain⟨a,j2,h2,h⟩:=au h;obtain⟨_,j3,h3,h⟩:=au h;obtain⟨b,j4,h4,h⟩:=au h;obtain⟨q,j5,h5,h⟩:=au h
  cases h;obtain⟨e1,rfl⟩:=wZ h1;obtain⟨e2,rfl⟩:=wZ h2;have e3:=eF h3;obtain⟨e4,rfl⟩:=wZ h4;have b1:=hB _ _ _ h5;have z1:=b1.sz;exact⟨⟨_,_,_,_,rfl⟩,by simp[dS];omega,⟨hp _,hp _,hp _,trivial,b1.all,trivial⟩,⟨by show 0<=j;omega,b1.exs,trivial⟩⟩
 have put:∀tag,wJ X tag T i=some (.ok (s,j))->One s/\GdS p s i j:=λtag h=>by
  unfold wJ at h;obtain⟨e,j2,h2,h⟩:=au h;obtain⟨_,j3,h3,h⟩:=au h
  cases h;have e3:=eF h3;have g:=hX _ _ _ h2;have s2:=g.sz;exact⟨⟨_,_,_,_,rfl⟩,by simp[dS];omega,⟨hp i,h0,h0,g.all,trivial,trivial⟩,⟨by show eu e<=j;omega,trivial,trivial⟩⟩
 split at h
 .exact put 3 h
 split at h
 .exact put 4 h
 .cases h
theorem Wy (hS:Zb T p S):∀(n i:Nat) (s:Sx) (j:Nat),kz S T n i=some (.ok (s,j))->GdS p s (i+1) j:=by
 intro n
 induction n with
 | zero=>intro i s j h;cases h
 | succ n ih=>
  intro i s j h;rw[kz]at h;split at h
  .cases h;exact⟨by simp[dS],trivial,trivial⟩
  .obtain⟨a,j1,h1,h⟩:=au h;obtain⟨r,j2,h2,h⟩:=au h
   cases h;obtain⟨o1,s1⟩:=hS _ _ _ h1;have g:=ih _ _ _ h2;have z1:=s1.sz;have z2:=g.sz;exact⟨by rw[IL o1];omega,EP s1.all g.all,ET (s1.exs.mono (by omega)) g.exs⟩
theorem YQ (hS:Zb T p S):∀(n i:Nat) (s:Sx) (j:Nat),mH S T n i=some (.ok (s,j))->GdS p s i j:=by
 intro n
 induction n with
 | zero=>intro i s j h;cases h
 | succ n ih=>
  intro i s j h;rw[mH]at h;split at h
  .cases h;exact⟨by simp[dS],trivial,trivial⟩
  .obtain⟨a,j1,h1,h⟩:=au h;obtain⟨r,j2,h2,h⟩:=au h
   cases h;obtain⟨o1,s1⟩:=hS _ _ _ h1;have g:=ih _ _ _ h2;have z1:=s1.sz;have z2:=g.sz;exact⟨by rw[IL o1];omega,EP s1.all g.all,ET (s1.exs.mono (by omega)) g.exs⟩
theorem Qn0 (hp:∀i,p (ah T i)) (h0:p bK):∀n,Zb T p (zB n).1/\Qn9 T p (zB n).2:=by
 intro n
 induction n with
 | zero=>exact⟨λ_ _ _ h=>by(cases h),λ_ _ _ h=>by(cases h)⟩
 | succ n ih=>
  rw[zB];split
  .exact⟨λ_ _ _ h=>by(cases h),λ_ _ _ h=>by(cases h)⟩
  refine⟨Qj0 hp h0 (Qp0 hp n).1 ih.2,?_⟩;intro i s j h;dsimp only at h;unfold r9 at h;split at h
  .cases h
  obtain⟨_,j1,h1,h⟩:=au h;have e1:=eF h1;have g:=Wy ih.1 _ _ _ _ h;have z:=g.sz;exact⟨by omega,g.all,g.exs⟩
theorem VQ (hp:∀i,p (ah T i)) (hd:Bool):∀(n i:Nat) (l:List (aH×Bool)) (j:Nat),jO T hd n i=some (.ok (l,j))->l.length+i<=j/\∀d∈l,p d.1:=by
 intro n
 induction n with
 | zero=>intro i l j h;cases h
 | succ n ih=>
  intro i l j h;rw[jO]at h;obtain⟨t,j1,h1,h⟩:=au h;obtain⟨e1,rfl⟩:=wZ h1;split at h
  .obtain⟨l2,j2,h2,h⟩:=au h
   cases h;obtain⟨a,b⟩:=ih _ _ _ h2;refine⟨by simp;omega,λd hd=>?_⟩;rcases aO.1 hd with rfl|hd
   .exact hp i
   .exact b d hd
  .obtain⟨_,j2,h2,h⟩:=au h
   cases h;have e2:=eF h2;refine⟨by simp;omega,λd hd=>?_⟩;simp at hd;subst hd;exact hp i
theorem VY (hp:∀i,p (ah T i)) (f:Nat):∀(n i:Nat) (l:List (aH×Bool)) (j:Nat),jY T f n i=some (.ok (l,j))->l.length+i<=j/\∀d∈l,p d.1:=by
 intro n
 induction n with
 | zero=>intro i l j h;cases h
 | succ n ih=>
  intro i l j h;rw[jY]at h;split at h
  .obtain⟨l1,j1,h1,h⟩:=au h;obtain⟨l2,j2,h2,h⟩:=au h
   cases h;obtain⟨a,b⟩:=VQ hp _ _ _ _ _ h1;obtain⟨c,d⟩:=ih _ _ _ h2;refine⟨by simp;omega,λx hx=>?_⟩;rcases dW.1 hx with hx|hx
   .exact b x hx
   .exact d x hx
  .cases h;exact⟨by simp,λd hd=>by cases hd⟩
theorem AX (hp:∀i,p (ah T i)) (h0:p bK) {s:Sx} (h:dV n T=some (.ok ((ds,s),j))):ds.length+dS s<=j/\(∀d∈ds,p d.1)/\uR p s/\Dx j s:=by
 unfold dV at h;obtain⟨l,j1,h1,h⟩:=au h;obtain⟨s',j2,h2,h⟩:=au h
 cases h;obtain⟨a,b⟩:=VY hp _ _ _ _ _ h1;have g:=YQ (Qn0 hp h0 n).1 _ _ _ _ h2;have z:=g.sz;exact⟨by omega,b,g.all,g.exs⟩
end
variable {P:PS}
theorem qf (h:bP T) (hk:k≠4) (hi:i<T.length):M6 T i (i+1) (ib T k i):=by
 unfold ib;split
 .rename_i hs;have e:(ah T i).kind=k:=by simpa using hs
  exact iE (af _) (tO h hi (by rw[e];exact hk))
 .exact FW (af _) hi
theorem xX (T:List aH) (k:Int) (i:Nat):∃r,ib T k i=some r:=by unfold ib;split<;>exact⟨_,rfl⟩
theorem UJ (hF:dL P) (hT:bP T) (m:Nat):∀j,j<T.length->M6 T j (j+1) (kz P T m j):=by
 induction m with
 | zero=>intro j hj;trivial
 | succ m ih=>
  intro j hj;rw[kz];split
  .rename_i hs;exact iE (af _) (aD hT hj hs)
  .refine bu (hF T j hT hj) (λ_ j1 h1 l1=>?_);exact bu ((ih j1 l1).mono (by omega) (af _)) (λ_ k hk hl=>iE (by omega) hl)
theorem SE (hF:dL P) (n:Nat):dL (r9 P n):=by
 intro T i hT hi;unfold r9;split
 .trivial
 .exact bu (bq hT hi) (λ_ j hj hl=>(UJ hF hT n j hl).mono (by omega) (by omega))
theorem Jj {P:PE} {Q:PS} (hF:dL P) (hQ:dL Q):dL (dU P Q):=by
 intro T i hT hi;unfold dU;split
 .rename_i hk;have e:(ah T i).kind=1:=by simpa using hk
  have h1:=tO hT hi (by rw[e];decide);unfold mi;refine bu ((bq hT h1).mono (by omega) (af _)) (λ_ j hj hl=>?_);refine bu ((hF T j hT hl).mono (by omega) (af _)) (λ_ j2 hj2 hl2=>?_);exact bu ((bq hT hl2).mono (by omega) (af _)) (λ_ j3 hj3 hl3=>iE (by omega) hl3)
 split
 .rename_i hs;have h1:=aD hT hi hs;unfold Pj;refine bu ((hF T (i+1) hT h1).mono (by omega) (af _)) (λ_ j hj hl=>?_);refine bu ((hQ T j hT hl).mono (by omega) (af _)) (λ_ j2 hj2 hl2=>?_);unfold uz;split
  .rename_i hs2;exact bu ((hQ T (j2+1) hT (aD hT hl2 hs2)).mono (by omega) (af _)) (λ_ j3 hj3 hl3=>iE (by omega) hl3)
  .exact iE (by omega) hl2
 split
 .rename_i hs;have h1:=aD hT hi hs;unfold BS;refine bu ((qf hT (by decide) h1).mono (by omega) (af _)) (λ_ j hj hl=>?_);refine bu ((qf hT (by decide) hl).mono (by omega) (af _)) (λ_ j2 hj2 hl2=>?_);refine bu ((bq hT hl2).mono (by omega) (af _)) (λ_ j3 hj3 hl3=>?_);refine bu ((qf hT (by decide) hl3).mono (by omega) (af _)) (λ_ j4 hj4 hl4=>?_);exact bu ((hQ T j4 hT hl4).mono (by omega) (af _)) (λ_ j5 hj5 hl5=>iE (by omega) hl5)
 have put:∀tag s,bJ T i s=true->M6 T i (i+1) (wJ P tag T i):=λtag s hs=>by
  unfold wJ;refine bu ((hF T (i+1) hT (aD hT hi hs)).mono (by omega) (af _)) (λ_ j hj hl=>?_);exact bu ((bq hT hl).mono (by omega) (af _)) (λ_ j3 hj3 hl3=>iE (by omega) hl3)
 split
 .rename_i hs;exact put 3 _ hs
 split
 .rename_i hs;exact put 4 _ hs
 .exact FW (af _) hi
theorem oV (n:Nat):dL (zB n).1/\dL (zB n).2:=by
 induction n with
 | zero=>exact⟨λ_ _ _ _=>trivial,λ_ _ _ _=>trivial⟩
 | succ n ih=>
  rw[zB];split
  .exact⟨λ_ _ _ _=>trivial,λ_ _ _ _=>trivial⟩
  .exact⟨Jj (uU n).1 ih.2,SE ih.1 _⟩
theorem xI (hd:Bool) (hT:bP T) (n:Nat):∀i,i<T.length->M6 T i (i+1) (jO T hd n i):=by
 induction n with
 | zero=>intro i hi;trivial
 | succ n ih=>
  intro i hi;rw[jO];refine bu (qf hT (by decide) hi) (λ_ j hj hl=>?_);split
  .rename_i hs;exact bu ((ih (j+1) (aD hT hl hs)).mono (by omega) (af _)) (λ_ k hk hl=>iE (by omega) hl)
  .exact bu ((bq hT hl).mono (by omega) (af _)) (λ_ k hk hl=>iE (by omega) hl)
theorem xF (hT:bP T) (f n:Nat):∀i,i<T.length->M6 T i i (jY T f n i):=by
 induction n with
 | zero=>intro i hi;trivial
 | succ n ih=>
  intro i hi;rw[jY];split
  .rename_i hs;have h1:i+1<T.length:=by
    simp only[pU]at hs;rcases hs with hs|hs<;>exact aD hT hi hs
   refine bu ((xI _ hT f (i+1) h1).mono (by omega) (af _)) (λ_ j hj hl=>?_);exact bu ((ih j hl).mono (by omega) (af _)) (λ_ k hk hl=>iE (by omega) hl)
  .exact iE (af _) hi
theorem bM {α β:Type} {r:PR α} {f:α->Nat->PR β} (hr:r≠none) (hf:∀x j,r=some (.ok (x,j))->f x j≠none):andThen r f≠none:=by
 match r,hr with
 | none,hr=>exact absurd rfl hr
 | some (.error k),_=>intro h;cases h
 | some (.ok (x,j)),_=>exact hf x j rfl
theorem nJ (T:List aH) (s:ByteArray) (i:Nat):aZ T s i≠none:=by
 obtain⟨r,e⟩:=dK T s i;rw[e];intro h;cases h
theorem Fu (T:List aH) (k:Int) (i:Nat):ib T k i≠none:=by
 obtain⟨r,e⟩:=xX T k i;rw[e];intro h;cases h
theorem jT {α:Type} (x:α) (j:Nat):kF x j≠none:=by intro h;cases h
theorem Vm {α:Type} (k:Nat):(Lp k:PR α)≠none:=by intro h;cases h
def qE {α:Type} (P:List aH->Nat->PR α) (T:List aH) (a:Nat):Prop:=∀i,a<=i->i<T.length->P T i≠none
theorem xq {α:Type} {P:List aH->Nat->PR α} (hF:dL P) (hT:bP T) {x:α} (hi:i<T.length) (h:P T i=some (.ok (x,j))):i<j/\j<T.length:=by
 have:=hF T i hT hi;rw[h]at this;exact⟨this.1,this.2⟩
theorem tZ (hT:bP T) (hi:i<T.length) (h:aZ T s i=some (.ok (u,j))):i<j/\j<T.length:=by
 have:=bq (s:=s) hT hi;rw[h]at this;exact⟨this.1,this.2⟩
theorem Cx (hT:bP T) (hk:k≠4) {u:aH} (hi:i<T.length) (h:ib T k i=some (.ok (u,j))):i<j/\j<T.length:=by
 have:=qf hT hk hi;rw[h]at this;exact⟨this.1,this.2⟩
section
variable {T:List aH} {a:Nat}
theorem Ta (hT:bP T) (hF:dL M) (hM:qE M T a) (ops:List ByteArray) (f:Nat):∀e j,a<=j->j<T.length->T.length-j<=f->iB M ops T f e j≠none:=by
 induction f with
 | zero=>intro e j _ hj hf;omega
 | succ f ih=>
  intro e j ha hj hf;rw[iB];split
  .rename_i hany;obtain⟨s,_,hs⟩:=dD.1 hany;have h1:=aD hT hj hs;refine bM (hM (j+1) (by omega) h1) (λx k hx=>?_);have:=xq hF hT h1 hx;exact ih _ k (by omega) this.2 (by omega)
  .exact jT _ _
theorem Kv (hT:bP T) (hF:dL M) (hM:qE M T a) (ops:List ByteArray) {f:Nat} (hf:T.length-a<=f+1) (h0:f≠0):qE (jk M ops f) T a:=by
 intro i ha hi;unfold jk;rw[ae h0];refine bM (hM i ha hi) (λx j hx=>?_);have:=xq hF hT hi hx;exact Ta hT hF hM ops f _ j (by omega) this.2 (by omega)
theorem VC (hT:bP T) (hF:dL M) (hM:qE M T a):qE (vV M) T a:=by
 intro i ha hi;refine bM (hM i ha hi) (λx j hx=>?_);have h0:=xq hF hT hi hx;unfold wV;split
 .rename_i hany;obtain⟨s,_,hs⟩:=dD.1 hany;exact bM (hM (j+1) (by omega) (aD hT h0.2 hs)) (λ_ _ _=>jT _ _)
 .exact jT _ _
theorem Fy (hT:bP T) (hF:dL X) (hX:qE X T (a+1)) (ha:a<=i) (hi:i+1<T.length):oU X l r T i≠none:=by
 unfold oU;refine bM (nJ _ _ _) (λ_ j h1=>?_);have e1:=tZ hT hi h1;refine bM (hX j (by omega) e1.2) (λ_ j2 h2=>?_);have e2:=xq hF hT e1.2 h2;refine bM (nJ _ _ _) (λ_ j3 h3=>?_);have e3:=tZ hT e2.2 h3;refine bM (hX j3 (by omega) e3.2) (λ_ j4 h4=>?_);exact bM (nJ _ _ _) (λ_ _ _=>jT _ _)
theorem SK (hT:bP T) (hF:dL X) (hX:qE X T (a+1)) (ha:a<=i) (hi:i+1<T.length):jN X l r T i≠none:=by
 unfold jN;refine bM (nJ _ _ _) (λ_ j h1=>?_);have e1:=tZ hT hi h1;refine bM (hX j (by omega) e1.2) (λ_ j2 h2=>?_);have e2:=xq hF hT e1.2 h2;refine bM (nJ _ _ _) (λ_ j3 h3=>?_);have e3:=tZ hT e2.2 h3;refine bM (hX j3 (by omega) e3.2) (λ_ j4 h4=>?_);have e4:=xq hF hT e3.2 h4;refine bM (nJ _ _ _) (λ_ j5 h5=>?_);have e5:=tZ hT e4.2 h5;refine bM (hX j5 (by omega) e5.2) (λ_ j6 h6=>?_);exact bM (nJ _ _ _) (λ_ _ _=>jT _ _)
theorem Qz (hT:bP T) (hF:dL X) (hX:qE X T (a+1)) (hX2:qE F T (a+1)):qE (iD X F) T a:=by
 intro i ha hi;unfold iD;split
 .exact jT _ _
 split
 .exact jT _ _
 split
 .rename_i hs;exact bM (hX (i+1) (by omega) (aD hT hi hs)) (λ_ _ _=>bM (nJ _ _ _) (λ_ _ _=>jT _ _))
 split
 .rename_i hs;exact bM (hX2 (i+1) (by omega) (aD hT hi hs)) (λ_ _ _=>jT _ _)
 split
 .rename_i hs;exact Fy hT hF hX ha (aD hT hi hs)
 split
 .rename_i hs;exact Fy hT hF hX ha (aD hT hi hs)
 split
 .rename_i hs;exact Fy hT hF hX ha (aD hT hi hs)
 split
 .rename_i hs;exact Fy hT hF hX ha (aD hT hi hs)
 split
 .rename_i hs;exact SK hT hF hX ha (aD hT hi hs)
 .exact Vm _
theorem YW {α:Type} {P:List aH->Nat->PR α} (h:T.length<=a):qE P T a:=λi hi hl=>by omega
theorem ZU (hT:bP T) (n:Nat):∀a,T.length-a+2<=n->qE (yG n).1 T a/\qE (yG n).2 T a:=by
 induction n with
 | zero=>intro a h;omega
 | succ n ih=>
  intro a h;by_cases hl:T.length<=a
  .exact⟨YW hl,YW hl⟩
  have i1:=ih (a+1) (by omega);rw[yG,ae (by omega)];have fw:=uU n;have f:=Qz (F:=(yG n).2) hT fw.1 i1.1 i1.2;have ff:=sK fw.1 fw.2;have t:=Kv hT ff f lT (f:=n-1) (by omega) (by omega);have tf:=qL ff lT (n-1);have s:=Kv hT tf t lQ (f:=n-1) (by omega) (by omega);exact⟨VC hT (qL tf lQ (n-1)) s,f⟩
theorem Jl {B:PS} (hT:bP T) (hF:dL X) (hX:qE X T (a+1)) (hFB:dL B) (hB:qE B T (a+1)):qE (dU X B) T a:=by
 intro i ha hi;unfold dU;split
 .rename_i hk;have e:(ah T i).kind=1:=by simpa using hk
  have h1:=tO hT hi (by rw[e];decide);unfold mi;refine bM (nJ _ _ _) (λ_ j e1=>?_);have e2:=tZ hT h1 e1;exact bM (hX j (by omega) e2.2) (λ_ _ _=>bM (nJ _ _ _) (λ_ _ _=>jT _ _))
 split
 .rename_i hs;have h1:=aD hT hi hs;unfold Pj;refine bM (hX (i+1) (by omega) h1) (λ_ j e1=>?_);have e2:=xq hF hT h1 e1;refine bM (hB j (by omega) e2.2) (λ_ j2 e3=>?_);have e4:=xq hFB hT e2.2 e3;unfold uz;split
  .rename_i hs2;exact bM (hB (j2+1) (by omega) (aD hT e4.2 hs2)) (λ_ _ _=>jT _ _)
  .exact jT _ _
 split
 .rename_i hs;have h1:=aD hT hi hs;unfold BS;refine bM (Fu _ _ _) (λ_ j e1=>?_);have f1:=Cx hT (by decide) h1 e1;refine bM (Fu _ _ _) (λ_ j2 e2=>?_);have f2:=Cx hT (by decide) f1.2 e2;refine bM (nJ _ _ _) (λ_ j3 e3=>?_);have f3:=tZ hT f2.2 e3;refine bM (Fu _ _ _) (λ_ j4 e4=>?_);have f4:=Cx hT (by decide) f3.2 e4;exact bM (hB j4 (by omega) f4.2) (λ_ _ _=>jT _ _)
 have put:∀tag s,bJ T i s=true->wJ X tag T i≠none:=λtag s hs=>by
  unfold wJ;exact bM (hX (i+1) (by omega) (aD hT hi hs)) (λ_ _ _=>bM (nJ _ _ _) (λ_ _ _=>jT _ _))
 split
 .rename_i hs;exact put 3 _ hs
 split
 .rename_i hs;exact put 4 _ hs
 .exact Vm _
theorem Tx (hT:bP T) (hF:dL S) (hS:qE S T a) (f:Nat):∀j,a<=j->j<T.length->T.length-j<=f->kz S T f j≠none:=by
 induction f with
 | zero=>intro j _ hj hf;omega
 | succ f ih=>
  intro j ha hj hf;rw[kz];split
  .exact jT _ _
  .refine bM (hS j ha hj) (λ_ k hk=>?_);have:=xq hF hT hj hk;exact bM (ih k (by omega) this.2 (by omega)) (λ_ _ _=>jT _ _)
theorem Qc7 (hT:bP T) (n:Nat):∀a,T.length-a+3<=n->qE (zB n).1 T a/\qE (zB n).2 T a:=by
 induction n with
 | zero=>intro a h;omega
 | succ n ih=>
  intro a h;by_cases hl:T.length<=a
  .exact⟨YW hl,YW hl⟩
  have i1:=ih (a+1) (by omega);rw[zB,ae (by omega)];refine⟨Jl hT (uU n).1 (ZU hT n (a+1) (by omega)).1 (oV n).2 i1.2,λi ha hi=>?_⟩;show r9 (zB n).1 (n-1) T i≠none;unfold r9;rw[ae (by omega)];refine bM (nJ _ _ _) (λ_ j e1=>?_);have e2:=tZ hT hi e1;exact Tx hT (oV n).1 i1.1 (n-1) j (by omega) e2.2 (by omega)
theorem Uv (hT:bP T) (hd:Bool) (f:Nat):∀j,j<T.length->T.length-j<=f->jO T hd f j≠none:=by
 induction f with
 | zero=>intro j hj hf;omega
 | succ f ih=>
  intro j hj hf;rw[jO];refine bM (Fu _ _ _) (λ_ k hk=>?_);have:=Cx hT (by decide) hj hk;split
  .rename_i hs;exact bM (ih (k+1) (aD hT this.2 hs) (by omega)) (λ_ _ _=>jT _ _)
  .exact bM (nJ _ _ _) (λ_ _ _=>jT _ _)
theorem UI (hT:bP T) (g f:Nat) (hg:T.length<=g):∀j,j<T.length->T.length-j<=f->jY T g f j≠none:=by
 induction f with
 | zero=>intro j hj hf;omega
 | succ f ih=>
  intro j hj hf;rw[jY];split
  .rename_i hs;have h1:j+1<T.length:=by
    simp only[pU]at hs;rcases hs with hs|hs<;>exact aD hT hj hs
   refine bM (Uv hT _ g (j+1) h1 (by omega)) (λ_ k hk=>?_);have f1:=xI (bJ T j bA) hT g (j+1) h1;rw[hk]at f1;have f2:j+1+1<=k:=f1.1;exact bM (ih k f1.2 (by omega)) (λ_ _ _=>jT _ _)
  .exact jT _ _
theorem WO (hT:bP T) (hF:dL S) (hS:qE S T 0) (f:Nat):∀j,j<T.length->T.length-j<=f->mH S T f j≠none:=by
 induction f with
 | zero=>intro j hj hf;omega
 | succ f ih=>
  intro j hj hf;rw[mH];split
  .exact jT _ _
  .refine bM (hS j (by omega) hj) (λ_ k hk=>?_);have:=xq hF hT hj hk;exact bM (ih k this.2 (by omega)) (λ_ _ _=>jT _ _)
theorem BR (hT:bP T) (hn:T.length+3<=n):∃r,dV n T=some r:=by
 have:dV n T≠none:=by
  unfold dV;refine bM (UI hT n (n-1) (by omega) 0 hT.1 (by omega)) (λ_ j hj=>?_);have f1:=xF hT n (n-1) 0 hT.1;rw[hj]at f1;exact bM (WO hT (oV n).1 (Qc7 hT n 0 (by omega)).1 (n-1) j f1.2 (by omega)) (λ_ _ _=>jT _ _)
 cases h:dV n T with
 | none=>exact absurd h this
 | some r=>exact⟨r,rfl⟩
end
end Go.Proofs.YthmmgiaobakilaaGreat
