import Derived.Test.YthmmgiaobakilaaGreatJ01
import Derived.Test.YthmmgiaobakilaaGreatJ07
import Derived.Deep.RegionLaw
import Derived.Deep.AppendLies
set_option maxRecDepth 100000
set_option maxHeartbeats 8000000
set_option linter.all false
namespace Go.Proofs.YthmmgiaobakilaaGreat
open Go.RowKit Go.Deep
variable {Q:Nat->Prop} {T:List aH} {U:Obj} {X:PE} {a2:ByteArray} {acc:List Sx} {ao so:Option Addr} {cap cap' g i k n o pb tb:Nat} {cs xs:List Value} {cur fin:Except Nat (List Ex×Nat)} {e:Ending} {f pl:Int} {r:Except Nat (aH×Nat)} {r1 rc:Except Nat (Unit×Nat)} {r2:Except Nat (Ex×Nat)} {s:Sx} {sv u v:Value} {ty:TypeId} {w w' w0 w5 wc:World}
def xk (Q:PE) (l r n:Int):Prop:=∀(s:ByteArray) (w:World) (pb tb cap i:Nat) (T:List aH) (f pl:Int) (x:Except Nat (Ex×Nat)),eQ T->bg w pb tb cap T i f pl->bJ T i s=true->Q T i=some x->Calls Tryz.prog 151 #[.pointer (some ⟨pb,0,none⟩),.int .i32 l,.int .i32 r,.int .i64 n] w (yu w pb tb cap T f pl x)
theorem ND {F:PE} (hX:gP 130 X) (hF:gP 149 F) (hb:xk (oU X J2 D9) 91 93 2) (hp:xk (oU X xS wF) 40 41 2) (h3:xk (jN X xS wF) 40 41 3):gP 149 (iD X F):=by
 intro w pb tb cap i T f pl r hT h hr;unfold iD at hr;split at hr
 .rename_i hk
  cases hr;exact LF w pb tb cap i T f pl hT h (by simpa using hk)
 rename_i hk2;split at hr
 .rename_i hk
  cases hr;exact Lj w pb tb cap i T f pl hT h (by simpa using hk)
 rename_i hk1;split at hr
 .rename_i hs;exact Ff hX w pb tb cap i T f pl r hT h hs hr
 rename_i n0;split at hr
 .rename_i hs;exact M8 hF w pb tb cap i T f pl r hT h hs hr
 rename_i n1;split at hr
 .rename_i hs;exact L8 (λw pb tb cap i T f pl r=>hb bf w pb tb cap i T f pl r) w pb tb cap i T f pl r hT h hs hr
 rename_i n2;split at hr
 .rename_i hs;exact Mw (λw pb tb cap i T f pl r=>hb cz w pb tb cap i T f pl r) w pb tb cap i T f pl r hT h hs hr
 rename_i n3;split at hr
 .rename_i hs;exact M9 (λw pb tb cap i T f pl r=>hp kU w pb tb cap i T f pl r) w pb tb cap i T f pl r hT h hs hr
 rename_i n4;split at hr
 .rename_i hs;exact NH (λw pb tb cap i T f pl r=>hp kI w pb tb cap i T f pl r) w pb tb cap i T f pl r hT h hs hr
 rename_i n5;split at hr
 .rename_i hs;exact ME (λw pb tb cap i T f pl r=>h3 jo w pb tb cap i T f pl r) w pb tb cap i T f pl r hT h hs hr
 rename_i n6
 cases hr;refine ER w pb tb cap i T f pl hT h (by simpa using hk2) (by simpa using hk1) (λs hs=>?_);simp only[aO,aQ,aR]at hs;rcases hs with rfl|rfl|rfl|rfl|rfl|rfl|rfl
 .exact gW.2 n0
 .exact gW.2 n1
 .exact gW.2 n2
 .exact gW.2 n3
 .exact gW.2 n6
 .exact gW.2 n4
 .exact gW.2 n5
theorem QM (hcall:∀X,gP 130 X->dL X->xk (oU X J2 D9) 91 93 2/\xk (oU X xS wF) 40 41 2/\xk (jN X xS wF) 40 41 3) (n:Nat):gP 130 (yG n).1/\gP 149 (yG n).2:=by
 induction n with
 | zero=>exact⟨λw pb tb cap i T f pl r _ _ h=>by(cases h),λw pb tb cap i T f pl r _ _ h=>by(cases h)⟩
 | succ n ih=>
  rw[yG];split
  .exact⟨λw pb tb cap i T f pl r _ _ h=>by(cases h),λw pb tb cap i T f pl r _ _ h=>by(cases h)⟩
  obtain⟨c1,c2,c3⟩:=hcall _ ih.1 (uU n).1;have fa:=ND ih.1 ih.2 c1 c2 c3;exact⟨JR (ML (JH fa _) _),fa⟩
def SF:List Ex->Ex
 | []=>.nil
 | a::l=>bD a (SF l)
def XG (t:aH) (l:List Ex):Ex:=.node 0 0 t (SF l) .nil
def uw (X:PE) (T:List aH) (r:ByteArray):Nat->List Ex->Nat->PR (List Ex)
 | 0,acc,i=>andThen (aZ T r i) λ_ j=>kF acc j
 | n+1,acc,i=>andThen (if acc.length=0 then kF () i else aZ T su i) λ_ j=>andThen (X T j) λa j=>uw X T r n (acc++[a]) j
theorem Nf {α β:Type} (a:α) (j:Nat) (f:α->Nat->PR β):andThen (kF a j) f=f a j:=rfl
theorem vE {α β γ:Type} (r:PR α) (f:α->Nat->PR β) (g:β->Nat->PR γ):andThen (andThen r f) g=andThen r λa j=>andThen (f a j) g:=by
 cases r with
 | none=>rfl
 | some r=>cases r with
  | error _=>rfl
  | ok p=>rfl
theorem Jz (X:PE) (l r:ByteArray) (T:List aH) (i:Nat):oU X l r T i=andThen (aZ T l (i+1)) λ_ j=>andThen (uw X T r 2 [] j) λls j=>kF (XG (ah T i) ls) j:=by
 unfold oU;simp only[uw,vE,mJ,if_true,kr,ae (show ¬ (0+(0+1)=0) by omega),Nf,gI,oK];rfl
theorem MZ (X:PE) (l r:ByteArray) (T:List aH) (i:Nat):jN X l r T i=andThen (aZ T l (i+1)) λ_ j=>andThen (uw X T r 3 [] j) λls j=>kF (XG (ah T i) ls) j:=by
 unfold jN;simp only[uw,vE,mJ,if_true,kr,ae (show ¬ (0+(0+1)=0) by omega),ae (show ¬ (0+(0+1)+(0+1)=0) by omega),Nf,gI,oK];rfl
def rO (w:World) (Q:Nat->Prop):List Value->List Ex->Prop
 | cs,[]=>cs=[]
 | cs,a::l=>∃b o t k r sv rest,a=.node b o t k r/\cs=Cf t++(sv::rest)/\qA w Q sv k/\rO w Q rest l
theorem rO.snoc {w:World} {Q:Nat->Prop} {b o:Nat} {t:aH} {k r:Ex} {sv:Value} (hk:qA w Q sv k):∀(l:List Ex) (cs:List Value),rO w Q cs l->rO w Q (cs++(Cf t++[sv])) (l++[.node b o t k r])
 | [],cs,h=>by
  cases h;exact⟨b,o,t,k,r,sv,[],rfl,rfl,hk,rfl⟩
 | a::l,cs,⟨b',o',t',k',r',sv',rest,e1,e2,h1,h2⟩=>⟨b',o',t',k',r',sv',rest++(Cf t++[sv]),e1,by rw[e2];simp,h1,rO.snoc hk l rest h2⟩
theorem rO.later {w w':World} {Q Q':Nat->Prop} (hk:nz Q w w') (hB:∀k,Q k->k<w.heap.size->Q' k):∀(l:List Ex) (cs:List Value),rO w Q cs l->rO w' Q' cs l
 | [],_,h=>h
 | _::l,_,⟨b',o',t',k',r',sv',rest,e1,e2,h1,h2⟩=>⟨b',o',t',k',r',sv',rest,e1,e2,h1.later hk hB,rO.later hk hB l rest h2⟩
theorem rO.len {w:World} {Q:Nat->Prop} : ∀(l:List Ex) (cs:List Value),rO w Q cs l->cs.length=6*l.length
 | [],_,h=>by cases h;rfl
 | a::l,cs,⟨b',o',t',k',r',sv',rest,e1,e2,h1,h2⟩=>by rw[e2];have:=rO.len l rest h2;simp[Cf,this];omega
theorem rO.lenE {w:World} {Q:Nat->Prop} : ∀(l:List Ex) (cs:List Value),rO w Q cs l->lenE (SF l)=l.length
 | [],_,h=>rfl
 | a::l,cs,⟨b',o',t',k',r',sv',rest,e1,e2,h1,h2⟩=>by rw[e1];have:=rO.lenE l rest h2;simp[SF,bD,Go.Proofs.YthmmgiaobakilaaGreat.lenE,this]
theorem rO.rep {w:World} {Q:Nat->Prop} {g:Nat} (C:List Value) (hC:∀k (hk:k<C.length),w.cell? ⟨g,k,none⟩=some C[k]):∀(l:List Ex) (cs:List Value) (o:Nat),C.drop (o*6)=cs->rO w Q cs l->xB w Q (SF l) g o
 | [],_,_,_,_=>trivial
 | a::l,cs,o,hd,⟨b',o',t',k',r',sv',rest,e1,e2,h1,h2⟩=>by
  have ln:cs.length=6*(l.length+1):=rO.len (a::l) cs ⟨b',o',t',k',r',sv',rest,e1,e2,h1,h2⟩;have lC:o*6+6<=C.length:=by have:=dO List.length hd;rw[jy,ln]at this;omega
  have at_:∀j (hj:j<cs.length),w.cell? ⟨g,o*6+j,none⟩=some cs[j]:=λj hj=>by
   have hj2:o*6+j<C.length:=by have:=dO List.length hd;rw[jy]at this;omega
   rw[hC _ hj2];congr 1;simp only[<-hd,List.getElem_drop]
  rw[e1];have get:∀j v,j<6->cs[j]?=some v->w.cell? ⟨g,o*6+j,none⟩=some v:=λj v hj hv=>by
   obtain⟨hj2,e⟩:=rR.1 hv;rw[at_ j hj2,e]
  refine⟨⟨sv',⟨?_,?_,?_,?_,?_,?_⟩,?_⟩,?_⟩
  .exact get 0 _ (by omega) (by rw[e2];rfl)
  .exact get 1 _ (by omega) (by rw[e2];rfl)
  .exact get 2 _ (by omega) (by rw[e2];rfl)
  .exact get 3 _ (by omega) (by rw[e2];rfl)
  .exact get 4 _ (by omega) (by rw[e2];rfl)
  .exact get 5 _ (by omega) (by rw[e2];rfl)
  .exact h1
  .refine rO.rep C hC l rest (o+1) ?_ h2;have:C.drop (o*6+6)=cs.drop 6:=by rw[<-hd,List.drop_drop]
   rw[show(o+1)*6=o*6+6 by omega,this,e2];rfl
def cK {α:Type} (w:World) (pb tb cap:Nat) (T:List aH) (f pl:Int):Except Nat (α×Nat)->Prop
 | .ok (_,j)=>bg w pb tb cap T j f pl
 | .error x=>bg w pb tb cap T (T.length-1) (mo f) (nY f pl (ah T x).place)
theorem cK.later {α:Type} {w w':World} {pb tb cap:Nat} {T:List aH} {f pl:Int} {r:Except Nat (α×Nat)} (h:cK w pb tb cap T f pl r) (hs:∀k,k<w.heap.size->w'.heap[k]?=w.heap[k]?):cK w' pb tb cap T f pl r:=by
 cases r with
 | error x=>exact bg.later h hs
 | ok p=>exact bg.later h hs
theorem cK.alloc {α:Type} {w:World} {pb tb cap:Nat} {T:List aH} {f pl:Int} {r:Except Nat (α×Nat)} (h:cK w pb tb cap T f pl r) (o:Obj):cK (w.alloc o) pb tb cap T f pl r:=h.later (λk hk=>av w o k hk)
theorem cK.two {α:Type} {r:Except Nat (α×Nat)} (h:cK w pb tb cap T f pl r) (hs:∀k,k<=pb->w'.heap[k]?=w.heap[k]?):cK w' pb tb cap T f pl r:=by
 have one:∀ {i f pl},bg w pb tb cap T i f pl->bg w' pb tb cap T i f pl:=λh=>⟨(hs pb (af _)).trans h.blk,h.toks.same (hs tb (by have:=h.low;omega)),h.low,h.lt,h.few,h.room⟩
 cases r with
 | error x=>exact one h
 | ok p=>exact one h
theorem Qd3.st {α:Type} {r:Except Nat (α×Nat)} (h:Qd3 w pb tb cap T f pl r e w'):e=.returned (.tuple #[])/\aB pb w w'/\cK w' pb tb cap T f pl r:=by
 obtain⟨h1,h2,h3⟩:=h;refine⟨h1,h2,?_⟩
 cases r with
 | error x=>exact h3
 | ok p=>exact h3
theorem zT.st {r:Except Nat (Ex×Nat)} (h:zT w Q pb tb cap T f pl v r):cK w pb tb cap T f pl r:=by
 cases r with
 | error x=>exact h
 | ok p=>exact h.1
def Qk2:PE:=λT i=>if i=T.length-1 then some (.error i) else none
theorem Pk:gP 149 Qk2:=by
 intro w pb tb cap i T f pl r hT h hr;unfold Qk2 at hr;split at hr
 .rename_i hi
  cases hr;subst hi;have hk:=hT.last.2;exact ER w pb tb cap _ T f pl hT h (by rw[hk];decide) (by rw[hk];decide) (λs _=>ku hT.last s)
 .cases hr
theorem Vl (w:World) (pb tb cap:Nat) (T:List aH) (f pl:Int) (hT:eQ T) (h:bg w pb tb cap T (T.length-1) f pl) :
  Calls Tryz.prog 130 #[.pointer (some ⟨pb,0,none⟩)] w (yu w pb tb cap T f pl (.error (T.length-1))):=by
 refine JR (ML (JH Pk 1) 1) w pb tb cap _ T f pl _ hT h ?_;simp[vV,jk,Qk2,andThen]
theorem Xm {α β:Type} {x y:Nat} (h:cK (α:=α) w pb tb cap T (mo f) (nY f pl (ah T x).place) (.error y)):cK (α:=β) w pb tb cap T f pl (.error x):=by
 have h:bg w pb tb cap T (T.length-1) (mo (mo f)) (nY (mo f) (nY f pl (ah T x).place) (ah T y).place):=h;rw[CR,CQ]at h;exact h
def jF {α β:Type} (r1:Except Nat (α×Nat)) (P:α->Nat->PR β):PR β:=andThen (some r1) P
theorem wD {α:Type} (hT:eQ T) (w:World) (pb tb cap:Nat) (f pl c:Int) (s:ByteArray) (hs:s∈aY) (hc:aX s=c) {r1:Except Nat (α×Nat)} {r:Except Nat (Unit×Nat)} (h:cK w pb tb cap T f pl r1) (hr:jF r1 (λ_ j=>aZ T s j)=some r) :
  Calls Tryz.prog 111 #[.pointer (some ⟨pb,0,none⟩),.int .i32 c] w λe w'=>e=.returned (.tuple #[])/\aB pb w w'/\cK w' pb tb cap T f pl r:=by
 cases r1 with
 | error x=>
  cases hr;refine(Dt hT w pb tb cap f pl c _ s hs hc h).mono ?_;rintro e w' ⟨he,k,h1⟩;exact⟨he,k,h1⟩
 | ok xj=>
  obtain⟨x,j⟩:=xj;exact(oW hT w pb tb cap j f pl c s hs hc h hr).mono (λe w' h=>h.st)
theorem Ad {α:Type} (hX:gP 130 X) (hT:eQ T) (w:World) (pb tb cap:Nat) (f pl:Int) {r1:Except Nat (α×Nat)} {r:Except Nat (Ex×Nat)} (h:cK w pb tb cap T f pl r1) (hr:jF r1 (λ_ j=>X T j)=some r) :
  Calls Tryz.prog 130 #[.pointer (some ⟨pb,0,none⟩)] w (yu w pb tb cap T f pl r):=by
 cases r1 with
 | error x=>
  cases hr;refine(Vl w pb tb cap T _ _ hT h).mono ?_;rintro e w' ⟨hk,a0,a1,a2,a3,a4,ao,len,c,he,hs⟩;exact⟨hk,a0,a1,a2,a3,a4,ao,len,c,he,Xm (α:=Ex) (β:=Ex) (zT.st hs)⟩
 | ok xj=>
  obtain⟨x,j⟩:=xj;exact hX w pb tb cap j T f pl r hT h hr
def Qg8:Except Nat (aH×Nat)->Value
 | .ok (t,_)=>jC t
 | .error _=>pE 0 0 ⟨#[]⟩ 0 0
theorem yC (hT:eQ T):(ah T (T.length-1)).kind=4:=hT.last.2
theorem Bd (hT:eQ T) (hi:i<T.length) {k:Int} (hk:(ah T i).kind=k) (h4:k≠4):i+1<T.length:=by
 rcases nV (i+1) T.length with h|h
 .exact h
 .exfalso;have:i=T.length-1:=by omega
  rw[this,yC hT]at hk;exact h4 hk.symm
theorem Hl {α:Type} (hT:eQ T) (w:World) (pb tb cap:Nat) (f pl:Int) {r1:Except Nat (α×Nat)} (h:cK w pb tb cap T f pl r1) (hr:jF r1 (λ_ j=>ib T 1 j)=some r) :
  Calls Tryz.prog 109 #[.pointer (some ⟨pb,0,none⟩)] w λe w'=>e=.returned (Qg8 r)/\aB pb w w'/\cK w' pb tb cap T f pl r:=by
 cases r1 with
 | error x=>
  cases hr;have h:bg w pb tb cap T (T.length-1) (mo f) (nY f pl (ah T x).place):=h;refine(EU w pb tb cap _ T _ _ h (by rw[wE hT,yC hT];rfl)).mono ?_;rintro e w' ⟨he,h1,k⟩;rw[CR,CQ]at h1;exact⟨he,k,h1⟩
 | ok xj=>
  obtain⟨x,j⟩:=xj;have h:bg w pb tb cap T j f pl:=h;have hr:ib T 1 j=some r:=hr;unfold ib at hr;split at hr
  .rename_i hk
   cases hr;refine(Dp w pb tb cap j T f pl h (by rw[wE hT];exact hk) (Bd hT h.lt (k:=1) (by simpa using hk) (by decide))).mono ?_;rintro e w' ⟨he,h1,k⟩;exact⟨he,k,h1⟩
  .rename_i hk
   cases hr;refine(EU w pb tb cap j T f pl h (by rw[wE hT];exact gW.2 hk)).mono ?_;rintro e w' ⟨he,h1,k⟩;exact⟨he,k,h1⟩
theorem IP {α:Type} (hT:eQ T) (w:World) (pb tb cap:Nat) (f pl:Int) {r1:Except Nat (α×Nat)} (h:cK w pb tb cap T f pl r1) (hr:jF r1 (λ_ j=>ib T 2 j)=some r) :
  Calls Tryz.prog 132 #[.pointer (some ⟨pb,0,none⟩)] w λe w'=>e=.returned (Qg8 r)/\aB pb w w'/\cK w' pb tb cap T f pl r:=by
 cases r1 with
 | error x=>
  cases hr;have h:bg w pb tb cap T (T.length-1) (mo f) (nY f pl (ah T x).place):=h;refine(Bz w pb tb cap _ T _ _ h (by rw[zz hT,yC hT];rfl)).mono ?_;rintro e w' ⟨he,h1,k⟩;rw[CR,CQ]at h1;exact⟨he,k,h1⟩
 | ok xj=>
  obtain⟨x,j⟩:=xj;have h:bg w pb tb cap T j f pl:=h;have hr:ib T 2 j=some r:=hr;unfold ib at hr;split at hr
  .rename_i hk
   cases hr;refine(GJ w pb tb cap j T f pl h (by rw[zz hT];exact hk) (Bd hT h.lt (k:=2) (by simpa using hk) (by decide))).mono ?_;rintro e w' ⟨he,h1,k⟩;exact⟨he,k,h1⟩
  .rename_i hk
   cases hr;refine(Bz w pb tb cap j T f pl h (by rw[zz hT];exact gW.2 hk)).mono ?_;rintro e w' ⟨he,h1,k⟩;exact⟨he,k,h1⟩
theorem Vs:(Tryz.prog.info? 119).map (λi=>(i.zero,i.size,i.bytes))=some (some (.agg #[.int .i64 0,.int .i64 0,.string ⟨#[]⟩,.int .i32 0,.int .i32 0,.slice none 0 0]),6,64):=by kernel_rfl
theorem bH {base:Nat} {e:TypeId} {size:Nat} (h:w.ownsRow base e size v n xs) (hs:∀k,v.ownBlock=some k->w'.heap[k]?=w.heap[k]?):w'.ownsRow base e size v n xs:=by
 refine⟨h.1,?_⟩;rcases h.2 with h0|⟨g,cap,cur,rfl,hb,hg,rest⟩
 .exact .inl h0
 .exact .inr ⟨g,cap,cur,rfl,hb,(hs g rfl).trans hg,rest⟩
def mapR {α β:Type} (g:α->β):Except Nat (α×Nat)->Except Nat (β×Nat)
 | .ok (a,j)=>.ok (g a,j)
 | .error y=>.error y
theorem KD {α β:Type} {P:Nat->PR α} {g:α->β} {x:Except Nat (β×Nat)} (h:andThen (some r1) (λ_ j=>andThen (P j) λls j=>kF (g ls) j)=some x):∃fin,jF r1 (λ_ j=>P j)=some fin/\x=mapR g fin:=by
 cases r1 with
 | error y=>cases h;exact⟨.error y,rfl,rfl⟩
 | ok p=>
  obtain⟨_,j⟩:=p;have h:andThen (P j) (λls j=>kF (g ls) j)=some x:=h
  cases hp:P j with
  | none=>rw[hp]at h;cases h
  | some q=>
   rw[hp]at h;refine⟨q,hp,?_⟩
   cases q with
   | error y=>cases h;rfl
   | ok p=>obtain⟨a,k⟩:=p;cases h;rfl
def Qw (so:Option Addr) (sl sc:Nat):Option Nat:=(Value.slice so sl sc).ownBlock
def Qm0 (X:PE) (T:List aH) (r:ByteArray) (w:World) (Q:Nat->Prop) (cs:List Value) (pb tb cap:Nat) (f pl:Int) (fin:Except Nat (List Ex×Nat)) (n k:Nat):Prop:=
 ∃cur:Except Nat (List Ex×Nat),cK w pb tb cap T f pl cur/\(∀acc j,cur=.ok (acc,j)->rO w Q cs acc/\acc.length+k=n)/\jF cur (λacc j=>uw X T r k acc j)=some fin
def LK (X:PE) (T:List aH) (r:ByteArray) (pb tb cap:Nat) (f pl:Int) (fin:Except Nat (List Ex×Nat)) (rb eb:Nat) (t:aH) (n:Nat) (w0:World) (k:Nat) (w:World):Prop:=
 ∃so sl sc cs,gT w eb (kP t) t.place (wP t) (nP t) (sP t) (.slice so sl sc)/\gT w rb 0 0 ⟨#[]⟩ 0 0 (.slice none 0 0)/\aB pb w0 w/\w.ownsRow (eb+1) 119 6 (.slice so sl sc) (n-k) cs /\
  Qm0 X T r w (λg=>eb<g/\Qw so sl sc≠some g) cs pb tb cap f pl fin n k
theorem KG {r:ByteArray} {r1:Except Nat (List Ex×Nat)} {rb eb:Nat} {t:aH} {d gk:Nat} {w4:World} {sl sc al ac:Nat} {a0 a1 a3 a4:Int}
  (hpr:pb<rb) (hre:rb<eb) (hew:eb<wc.heap.size) (h0:w0.heap.size<=rb) (hd:d+(gk+1)=n)
  (he:gT wc eb (kP t) t.place (wP t) (nP t) (sP t) (.slice so sl sc)) (hz:gT wc rb 0 0 ⟨#[]⟩ 0 0 (.slice none 0 0)) (K:aB pb w0 wc)
  (own:wc.ownsRow (eb+1) 119 6 (.slice so sl sc) d cs)
  (exs:∀acc j,r1=.ok (acc,j)->rO wc (λg=>eb<g/\Qw so sl sc≠some g) cs acc/\acc.length+(gk+1)=n)
  (hpa:jF r1 (λacc j=>andThen (X T j) λa j=>uw X T r gk (acc++[a]) j)=some fin) (hX2:jF r1 (λ_ j=>X T j)=some r2)
  (k4:aB pb wc w4) (h4:zT w4 (λg=>wc.heap.size<=g) pb tb cap T f pl (nN a0 a1 a2 a3 a4 (.slice ao al ac)) r2)
  (hown:w5.ownsRow (eb+1) 119 6 (.slice (some ⟨g,0,none⟩) (d+1) cap') (d+1) (cs++[.int .i64 a0,.int .i64 a1,.string a2,.int .i32 a3,.int .i32 a4,.slice ao al ac]))
  (hgrow:(w4.alloc U).grownBy w5 (Value.slice so sl sc).ownBlock) (hat:(Value.slice so sl sc).ownBlock=some g∨g=w4.heap.size+1) :
  LK X T r pb tb cap f pl fin rb eb t n w0 gk (w5.setCell ⟨eb,5,none⟩ (.slice (some ⟨g,0,none⟩) (d+1) cap')):=by
 have sz4:=k4.1;have far:∀k,k<w4.heap.size->(Value.slice so sl sc).ownBlock≠some k->w5.heap[k]?=w4.heap[k]?:=λk hk hn=>(hgrow.block k (by simp;omega) (λe=>hn e.symm)).trans (av w4 U k hk);have low:∀k,k<=eb->(Value.slice so sl sc).ownBlock≠some k:=λk hk e=>by have:=(own.lt k e).1;omega
 have hgg:=(hown.lt g rfl).1;have he5:gT w5 eb (kP t) t.place (wP t) (nP t) (sP t) (.slice so sl sc):=(far eb (by omega) (low eb (af _))).trans ((k4.2 eb hew (by omega)).trans he);have hz5:gT w5 rb 0 0 ⟨#[]⟩ 0 0 (.slice none 0 0):=(far rb (by omega) (low rb (by omega))).trans ((k4.2 rb (by omega) (by omega)).trans hz);have sz5:w4.heap.size+1<=w5.heap.size:=by have:=hgrow.size;simpa using this
 have stay:∀k,k≠eb->(w5.setCell ⟨eb,5,none⟩ (.slice (some ⟨g,0,none⟩) (d+1) cap')).heap[k]?=w5.heap[k]?:=λk hk=>ay _ _ _ _ hk;refine⟨some ⟨g,0,none⟩,d+1,cap',cs++[.int .i64 a0,.int .i64 a1,.string a2,.int .i32 a3,.int .i32 a4,.slice ao al ac],?_,?_,?_,?_,?_⟩
 .exact aM _ eb 5 _ _ _ he5
 .exact(stay rb (by omega)).trans hz5
 .refine⟨?_,λk hk hn=>?_,(K.same.trans k4.same).trans ((((bY.refl w4).alloc U).trans (bY.grown hgrow)).set _ _)⟩
  .have:=K.1;simp;omega
  .have:=K.1;exact(stay k (by omega)).trans ((far k (by omega) (low k (by omega))).trans ((k4.2 k (by omega) hn).trans (K.2 k hk hn)))
 .rw[show n-gk=d+1 by omega];exact bH hown (λk hk=>stay k (by have:=(hown.lt k hk).1;omega))
 .have two:∀k,k<=pb->(w5.setCell ⟨eb,5,none⟩ (.slice (some ⟨g,0,none⟩) (d+1) cap')).heap[k]?=w4.heap[k]?:=λk hk=>(stay k (by omega)).trans (far k (by omega) (low k (by omega)))
  cases r1 with
  | error y=>
   cases hX2
   cases hpa;exact⟨.error y,cK.two (r:=.error y) (α:=List Ex) (show cK w4 pb tb cap T f pl (.error y) from h4) two,λacc j e=>(by cases e),rfl⟩
  | ok p=>
   obtain⟨acc,j0⟩:=p;have hX2:X T j0=some r2:=hX2;have hpa:andThen (X T j0) (λa j=>uw X T r gk (acc++[a]) j)=some fin:=hpa;rw[hX2]at hpa;obtain⟨ex,hl⟩:=exs acc j0 rfl
   cases r2 with
   | error y=>
    cases hpa;exact⟨.error y,cK.two (r:=.error y) (α:=List Ex) (show cK w4 pb tb cap T f pl (.error y) from h4) two,λacc j e=>(by cases e),rfl⟩
   | ok q=>
    obtain⟨a,j⟩:=q;refine⟨.ok (acc++[a],j),cK.two (r:=.ok (acc++[a],j)) (show cK w4 pb tb cap T f pl (.ok (acc++[a],j)) from h4.1) two,?_,hpa⟩;intro acc' j' e
    cases e;refine⟨?_,by simp;omega⟩;have st1:nz (λg=>eb<g/\Qw so sl sc≠some g) wc (w5.setCell ⟨eb,5,none⟩ (.slice (some ⟨g,0,none⟩) (d+1) cap')):=λk hk hl=>by
     have h1:eb<k:=hk.1;exact(stay k (by omega)).trans ((far k (by omega) hk.2).trans (k4.2 k hl (by omega)))
    have st2:nz (λg=>wc.heap.size<=g) w4 (w5.setCell ⟨eb,5,none⟩ (.slice (some ⟨g,0,none⟩) (d+1) cap')):=λk hk hl=>by
     have hk:wc.heap.size<=k:=hk;exact(stay k (by omega)).trans (far k hl (λe=>by have:=(own.lt k e).2;omega))
    have hQ:∀k,eb<k->k<w4.heap.size->Qw so sl sc≠some k->eb<k/\Qw (some ⟨g,0,none⟩) (d+1) cap'≠some k:=λk h1 h2 h3=>⟨h1,λe=>by
     have e:g=k:=by simpa[Qw,Value.ownBlock] using e
     rcases hat with h|h
     .exact h3 (by rw[<-e];exact h)
     .omega⟩
    obtain⟨b,o,ta,ka,ra,sva,ea,ev,hka⟩:=h4.2;obtain⟨rfl,rfl,rfl,rfl,rfl,rfl⟩:=wO ev;subst ea;refine rO.snoc (hka.later st2 (λk hk hl=>?_)) acc cs (rO.later st1 (λk hk hl=>hQ k hk.1 (by omega) hk.2) acc cs ex);have hk:wc.heap.size<=k:=hk;exact hQ k (by omega) hl (λe=>by have:=(own.lt k e).2;omega)
theorem Us {r:ByteArray} (h:jF cur (λacc j=>uw X T r (k+1) acc j)=some fin) :
  ∃rc:Except Nat (Unit×Nat),jF cur (λacc j=>if acc.length=0 then kF () j else aZ T su j)=some rc /\
   ∃r1:Except Nat (List Ex×Nat),(∀acc j,r1=.ok (acc,j)->∃j0,cur=.ok (acc,j0))/\(∀(w:World) (pb tb cap:Nat) (f pl:Int),cK w pb tb cap T f pl rc->cK w pb tb cap T f pl r1) /\
    ∃r2,jF r1 (λ_ j=>X T j)=some r2/\jF r1 (λacc j=>andThen (X T j) λa j=>uw X T r k (acc++[a]) j)=some fin:=by
 cases cur with
 | error y=>cases h;exact⟨.error y,rfl,.error y,λacc j e=>(by cases e),λ_ _ _ _ _ _ h=>h,.error y,rfl,rfl⟩
 | ok p=>
  obtain⟨acc,j⟩:=p;have h:uw X T r (k+1) acc j=some fin:=h;rw[uw]at h
  cases hc:(if acc.length=0 then kF () j else aZ T su j:PR Unit) with
  | none=>rw[hc]at h;cases h
  | some rc=>
   rw[hc]at h;refine⟨rc,hc,?_⟩
   cases rc with
   | error y=>cases h;exact⟨.error y,λacc j e=>(by cases e),λ_ _ _ _ _ _ h=>h,.error y,rfl,rfl⟩
   | ok q=>
    obtain⟨_,j1⟩:=q;have h:andThen (X T j1) (λa j=>uw X T r k (acc++[a]) j)=some fin:=h
    cases hx:X T j1 with
    | none=>rw[hx]at h;cases h
    | some r2=>
     refine⟨.ok (acc,j1),λacc' j' e=>(by cases e;exact⟨j,rfl⟩),λ_ _ _ _ _ _ h=>h,r2,hx,?_⟩;exact h
theorem Tw {r:ByteArray} (h:jF cur (λacc j=>uw X T r 0 acc j)=some fin) :
  ∃rc:Except Nat (Unit×Nat),jF cur (λ_ j=>aZ T r j)=some rc/\(∀(w:World) (pb tb cap:Nat) (f pl:Int),cK w pb tb cap T f pl rc->cK w pb tb cap T f pl fin)/\∀ls j,fin=.ok (ls,j)->∃j0,cur=.ok (ls,j0):=by
 cases cur with
 | error y=>cases h;exact⟨.error y,rfl,λ_ _ _ _ _ _ h=>h,λls j e=>(by cases e)⟩
 | ok p=>
  obtain⟨acc,j⟩:=p;have h:uw X T r 0 acc j=some fin:=h;rw[uw]at h;obtain⟨rc,hc⟩:=dK T r j;rw[hc]at h;refine⟨rc,hc,?_⟩
  cases rc with
  | error y=>cases h;exact⟨λ_ _ _ _ _ _ h=>h,λls j e=>(by cases e)⟩
  | ok q=>obtain⟨_,j1⟩:=q;cases h;exact⟨λ_ _ _ _ _ _ h=>h,λls j' e=>(by cases e;exact⟨j,rfl⟩)⟩
theorem Pz (h:jF cur (λacc j=>if acc.length=0 then kF () j else aZ T su j)=some rc) (h0:∀acc j,cur=.ok (acc,j)->acc.length=0) (hs:cK w pb tb cap T f pl cur):cK w pb tb cap T f pl rc:=by
 cases cur with
 | error y=>cases h;exact hs
 | ok p=>
  obtain⟨acc,j⟩:=p;have h:(if acc.length=0 then kF () j else aZ T su j:PR Unit)=some rc:=h;rw[ag (h0 acc j rfl)]at h
  cases h;exact hs
theorem Q5 (h:jF cur (λacc j=>if acc.length=0 then kF () j else aZ T su j)=some rc) (h0:∀acc j,cur=.ok (acc,j)->acc.length≠0):jF cur (λ_ j=>aZ T su j)=some rc:=by
 cases cur with
 | error y=>exact h
 | ok p=>
  obtain⟨acc,j⟩:=p;have h:(if acc.length=0 then kF () j else aZ T su j:PR Unit)=some rc:=h;rw[ae (h0 acc j rfl)]at h;exact h
theorem Ev {Q:PE} (hX:gP 130 X) (l r:ByteArray) (cl cr:Int) (hl:l∈aY) (hcl:aX l=cl) (hrs:r∈aY) (hcr:aX r=cr) (n:Nat) (hn0:0<n) (hn:n<=3)
  (hQ:∀T i,Q T i=andThen (aZ T l (i+1)) λ_ j=>andThen (uw X T r n [] j) λls j=>kF (XG (ah T i) ls) j):xk Q cl cr n:=by
 intro s w pb tb cap i T f pl x hT h hi hx;have hp:=h.plt;have hlow:=h.low;have hi1:=aD hT.last h.lt hi;rw[hQ]at hx;obtain⟨r1,e1⟩:=dK T l (i+1);rw[e1]at hx;obtain⟨fin,hfin,rfl⟩:=KD hx;have HFIN:=aj hfin;have E1:=aj e1;clear hx hfin e1 hi;obtain⟨i0,hi0,hz0,hz1,hz2⟩:=dG Vs;go_enter Tryz.func151,Tryz.ntmps151;go_wp2_with fail;refine(jB _ pb tb cap i T f pl (h.alloc _) hi1).mono ?_;rintro e w1 ⟨rfl,h1,k1⟩;have q1:gT w1 w.heap.size 0 0 ⟨#[]⟩ 0 0 (.slice none 0 0):=(k1.2 _ (by simp) (by omega)).trans (aA w _);have K1:=(aB.alloc pb w _).trans k1;have lt1:w.heap.size<w1.heap.size:=(az.1 q1).1;clear h k1;unfold jC pE;go_wp2_with fail;refine(oW hT _ pb tb cap (i+1) f pl cl l hl hcl (h1.alloc _) (aa E1)).mono ?_;rintro e w2 hu;obtain⟨rfl,k2,h2⟩:=hu.st;have he2:gT w2 w1.heap.size (kP (ah T i)) (ah T i).place (wP (ah T i)) (nP (ah T i)) (sP (ah T i)) (.slice none 0 0):=(k2.2 _ (by simp) (by omega)).trans (aA w1 _);have hz2':gT w2 w.heap.size 0 0 ⟨#[]⟩ 0 0 (.slice none 0 0):=(k2.2 _ (by simp;omega) (by omega)).trans ((av w1 _ _ lt1).trans q1);have K2:=(K1.trans (aB.alloc pb w1 _)).trans k2;have sz2:w1.heap.size+1<=w2.heap.size:=by have:=k2.1;simpa using this
 have inv0:LK X T r pb tb cap f pl fin w.heap.size w1.heap.size (ah T i) n w n w2:=by
  refine⟨none,0,0,[],he2,hz2',K2,by rw[cZ];exact fD _ _ _ _,mapR (λ_=>[]) r1,?_,?_,?_⟩
  .cases r1 with
   | error y=>exact h2
   | ok p=>exact h2
  .intro acc j e
   cases r1 with
   | error y=>cases e
   | ok p=>cases e;exact⟨rfl,by simp⟩
  .have:=aa HFIN
   cases r1 with
   | error y=>exact this
   | ok p=>exact this
 clear hu h1 h2 q1 K1 k2 he2 hz2' K2 HFIN E1 hi1;go_wp2
 go_loopg [18] n (λk v wr=>k<=n/\v=.int .i64 ((n-k:Nat):Int)/\LK X T r pb tb cap f pl fin w.heap.size w1.heap.size (ah T i) n w k wr)
 case atStart=>exact⟨af _,by rw[cZ];rfl,inv0⟩
 case round=>
  clear inv0;obtain⟨hkn,rfl,so,sl,sc,cs,he,hz,kw,own,cur,hst,hex,hpa⟩:=hrel;have hew:w1.heap.size<wr.heap.size:=(az.1 he).1
  cases gk with
  | zero=>
   obtain⟨rc,hrc,hfin,hls⟩:=Tw hpa;have HF:=aj hfin;have HL:=aj hls;have HRC:=aj hrc;have HEX:=aj hex;clear hfin hls hrc hpa hex;have hlt:decide (((n-0:Nat):Int)<(n:Int))=false:=by simp
   go_wp2_with fail;refine(wD hT _ pb tb cap f pl cr r hrs hcr hst (aa HRC)).mono ?_;rintro e w3 ⟨rfl,k3,h3⟩;have he3:=(k3.2 _ hew (by omega)).trans he;have hz3:=(k3.2 _ (by omega) (by omega)).trans hz;have K3:=aj (kw.trans k3);have H3:=aj (aa HF _ _ _ _ _ _ h3);obtain⟨⟨d0,d1,d2,d3,d4,d5⟩,z0,z1,z2,z3,z4,z5⟩:=iy hz3;obtain⟨⟨x0,x1,x2,x3,x4,x5⟩,y0,y1,y2,y3,y4,y5⟩:=iy he3;have KK:=aj k3;clear he hz kw h3 hst he3 hz3 k3;go_wp2;refine aL (v:=nN (kP (ah T i)) (ah T i).place (wP (ah T i)) (nP (ah T i)) (sP (ah T i)) (.slice so sl sc)) (by simp[results,Tryz.results151,go_sem,nN,d0,d1,d2,d3,d4,d5]) rfl ⟨(aa K3).put6 (af _),_,_,_,_,_,_,_,_,rfl,?_⟩;have two:∀k,k≠w.heap.size->(put6 w3 w.heap.size (kP (ah T i)) (ah T i).place (wP (ah T i)) (nP (ah T i)) (sP (ah T i)) (.slice so sl sc)).heap[k]?=w3.heap[k]?:=λk hk=>jR hk;have st:=cK.two (aa H3) (λk hk=>two k (by omega))
   cases fin with
   | error y=>exact st
   | ok q=>
    obtain⟨ls,j⟩:=q;refine⟨st,?_⟩;obtain⟨j0,hcur⟩:=aa HL ls j rfl;obtain⟨ex,hlen⟩:=aa HEX ls j0 hcur;refine⟨0,0,ah T i,SF ls,.nil,.slice so sl sc,rfl,rfl,?_⟩;rw[Nat.sub_zero]at own;obtain⟨g,c,hsv,hg1,hg2⟩:=own.form hn0
    cases hsv;have stay:nz (λg'=>w1.heap.size<g'/\Qw (some ⟨g,0,none⟩) n sc≠some g') wr (put6 w3 w.heap.size (kP (ah T i)) (ah T i).place (wP (ah T i)) (nP (ah T i)) (sP (ah T i)) (.slice (some ⟨g,0,none⟩) n sc)):=λk hk hl=>by
     have:=hk.1;exact(two k (by omega)).trans ((aa KK).2 k hl (by omega))
    have ex2:=rO.later stay (Q':=λg'=>w.heap.size<=g') (λk hk _=>by have:w1.heap.size<k:=hk.1;show _<=k;omega) ls cs ex;have own2:(put6 w3 w.heap.size (kP (ah T i)) (ah T i).place (wP (ah T i)) (nP (ah T i)) (sP (ah T i)) (.slice (some ⟨g,0,none⟩) n sc)).ownsRow (w1.heap.size+1) 119 6 (.slice (some ⟨g,0,none⟩) n sc) n cs:=bH own (λk hk=>by
     have:=(own.lt k hk);exact(two k (by omega)).trans ((aa KK).2 k this.2 (by omega)))
    have hll:ls.length=n:=by omega
    refine .inr ⟨?_,g,sc,?_,by show _<=g;omega,?_⟩
    .cases ls with
     | nil=>exact absurd hll (by simp;omega)
     | cons a ls=>obtain⟨_,_,_,_,_,_,_,ea,_⟩:=ex;rw[ea];exact λe=>by(cases e)
    .rw[rO.lenE ls cs ex,hll]
    .refine rO.rep cs (λk hk=>?_) ls cs 0 rfl ex2;exact(own2.cellAt k (by have:=own.1;omega)).trans (aU hk)
  | succ gk=>
   obtain⟨d,hd⟩:∃d,d+(gk+1)=n:=⟨n-(gk+1),by omega⟩;have hnd:n-(gk+1)=d:=by omega
   rw[hnd]at own ⊢;have hlt:decide ((d:Int)<(n:Int))=true:=by simp;omega
   obtain⟨rc,hrc,ra,hra,hrast,r2,hX2,hfin⟩:=Us hpa;have HF:=aj hfin;have HX2:=aj hX2;have HRA:=aj hrast;have hcl0:∀acc j,cur=.ok (acc,j)->acc.length=d:=λacc j e=>by have:=(hex acc j e).2;omega
   clear hpa hfin hX2 hrast;by_cases hd0:d=0
   .have hst1:=aa HRA _ _ _ _ _ _ (Pz hrc (λacc j e=>by rw[hcl0 acc j e,hd0]) hst);have exs:∀acc j,ra=.ok (acc,j)->rO wr (λg=>w1.heap.size<g/\Qw so sl sc≠some g) cs acc/\acc.length+(gk+1)=n:=λacc j e=>by
     obtain⟨j0,e0⟩:=hra acc j e;exact hex acc j0 e0
    subst hd0;obtain⟨wc,hwc⟩:∃wc,wc=wr:=⟨_,rfl⟩;have EXS:=aj exs;have HST:=aj hst1;clear hrc hra hst hex hcl0 HRA exs hst1;go_wp2;obtain⟨⟨x0,x1,x2,x3,x4,x5⟩,y0,y1,y2,y3,y4,y5⟩:=iy he
    go_region_law (first
      | (refine step_append_lies _ rfl _ _ 117 rfl (w1.heap.size+1) 119 i0 (.agg #[.int .i64 0,.int .i64 0,.string ⟨#[]⟩,.int .i32 0,.int .i32 0,.slice none 0 0]) 6 64 Tryz.underlying117 hi0 hz0 hz1 hz2 rfl (by decide) (.slice so sl sc) 0 cs (by simp[Act.eval]) (own4.alloc _) ⟨w4.heap.size,0,none⟩ 1 1 [.int .i64 a0,.int .i64 a1,.string a2,.int .i32 a3,.int .i32 a4,.slice ao al ac] (by simp[Act.eval]) rfl (World.news_of_block (aA w4 _)) (by simp[Value.oneCell']) (by decide) (by unfold maxLen;omega) (by omega) (by simp;omega) (w4.heap.size+1) (by simp) ?_;intro g cap' w5 hown hgrow hat hlt5;have he5:gT w5 w1.heap.size (kP (ah T i)) (ah T i).place (wP (ah T i)) (nP (ah T i)) (sP (ah T i)) (.slice so sl sc):=(hgrow.block _ (by simp;omega) (λe=>by have:=(own4.lt _ e.symm).1;omega)).trans ((av w4 _ _ (by omega)).trans he4);have c5:=(iy he5).1.2.2.2.2.2;have z5':=(iy he5).2.2.2.2.2.2;have fin5:=fin4 g cap' w5 hown hgrow hat)
      | (go_simp;go_at_call_of 130 (Value.pointer (some ⟨pb,0,none⟩));refine(Ad hX hT _ pb tb cap f pl (r1:=ra) (r:=r2) ?_ (aa HX2)).mono ?_;exact cK.later (aa HST) (λ_ _=>rfl);rintro e w4 ⟨k4,a0,a1,a2,a3,a4,ao,al,ac,rfl,h4⟩;have c4:w4.cell? ⟨w1.heap.size,5,none⟩=some (.slice so sl sc):=(iy ((k4.2 _ (by show _<wr.heap.size;omega) (by omega)).trans he)).1.2.2.2.2.2;have he4:gT w4 w1.heap.size (kP (ah T i)) (ah T i).place (wP (ah T i)) (nP (ah T i)) (sP (ah T i)) (.slice so sl sc):=(k4.2 _ (by show _<wr.heap.size;omega) (by omega)).trans he;have own4:=bH own (w':=w4) (λk hk=>k4.2 k (own.lt k hk).2 (by have:=(own.lt k hk).1;omega));have sz4:wr.heap.size<=w4.heap.size:=k4.1;have m4:w1.heap.size≠w4.heap.size:=(by omega);have l4:w1.heap.size<w4.heap.size:=(by omega);have fin4:=λ(g cap':Nat) (w5:World) hown hgrow hat=>KG (U:=.cells #[.int .i64 a0,.int .i64 a1,.string a2,.int .i32 a3,.int .i32 a4,.slice ao al ac] 119) (g:=g) (cap':=cap') (w5:=w5) hp lt1 hew (af _) hd he hz kw own (aa EXS) (aa HF) (aa HX2) (by first|exact k4|exact k4.undrew|exact k4.undrew.undrew) h4 hown hgrow hat;unfold nN))
    all_goals go_wp2
    all_goals go_roundg gk
    all_goals first|omega|exact⟨by omega,by(congr 1;omega),fin5⟩
   .have hcm:=Q5 hrc (λacc j e=>by rw[hcl0 acc j e];exact hd0);have HCM:=aj hcm;have hgt:(0:Int)<(d:Int):=by omega
    have HEX:=aj hex;have HRA2:=aj hra;clear hrc hcm hex hcl0 hra;go_wp2_with fail;refine(wD hT _ pb tb cap f pl 44 su fH.2.2.2.2.1 Ri hst (aa HCM)).mono ?_;rintro e wc ⟨rfl,kc,hc⟩;have hst1:=aa HRA _ _ _ _ _ _ hc;have exs:∀acc j,ra=.ok (acc,j)->rO wc (λg=>w1.heap.size<g/\Qw so sl sc≠some g) cs acc/\acc.length+(gk+1)=n:=λacc j e=>by
     obtain⟨j0,e0⟩:=aa HRA2 acc j e;obtain⟨a,b⟩:=aa HEX acc j0 e0;exact⟨rO.later (λk hk hl=>kc.2 k hl (by have:=hk.1;omega)) (λk hk _=>hk) acc cs a,b⟩
    have he':gT wc w1.heap.size (kP (ah T i)) (ah T i).place (wP (ah T i)) (nP (ah T i)) (sP (ah T i)) (.slice so sl sc):=(kc.2 _ hew (by omega)).trans he;have hz':gT wc w.heap.size 0 0 ⟨#[]⟩ 0 0 (.slice none 0 0):=(kc.2 _ (by omega) (by omega)).trans hz;have kw':=kw.trans kc;have own':=bH own (w':=wc) (λk hk=>kc.2 k (own.lt k hk).2 (by have:=(own.lt k hk).1;omega));have hew':w1.heap.size<wc.heap.size:=(az.1 he').1;clear he hz kw own hst hc kc HRA HRA2 HEX HCM hew;have EXS:=aj exs;have HST:=aj hst1;clear exs hst1;go_wp2;obtain⟨⟨x0,x1,x2,x3,x4,x5⟩,y0,y1,y2,y3,y4,y5⟩:=iy he'
    go_region_law (first
      | (refine step_append_lies _ rfl _ _ 117 rfl (w1.heap.size+1) 119 i0 (.agg #[.int .i64 0,.int .i64 0,.string ⟨#[]⟩,.int .i32 0,.int .i32 0,.slice none 0 0]) 6 64 Tryz.underlying117 hi0 hz0 hz1 hz2 rfl (by decide) (.slice so sl sc) d cs (by simp[Act.eval]) (own4.alloc _) ⟨w4.heap.size,0,none⟩ 1 1 [.int .i64 a0,.int .i64 a1,.string a2,.int .i32 a3,.int .i32 a4,.slice ao al ac] (by simp[Act.eval]) rfl (World.news_of_block (aA w4 _)) (by simp[Value.oneCell']) (by decide) (by unfold maxLen;omega) (by omega) (by simp;omega) (w4.heap.size+1) (by simp) ?_;intro g cap' w5 hown hgrow hat hlt5;have he5:gT w5 w1.heap.size (kP (ah T i)) (ah T i).place (wP (ah T i)) (nP (ah T i)) (sP (ah T i)) (.slice so sl sc):=(hgrow.block _ (by simp;omega) (λe=>by have:=(own4.lt _ e.symm).1;omega)).trans ((av w4 _ _ (by omega)).trans he4);have c5:=(iy he5).1.2.2.2.2.2;have z5':=(iy he5).2.2.2.2.2.2;have fin5:=fin4 g cap' w5 hown hgrow hat)
      | (go_simp;go_at_call_of 130 (Value.pointer (some ⟨pb,0,none⟩));refine(Ad hX hT _ pb tb cap f pl (r1:=ra) (r:=r2) ?_ (aa HX2)).mono ?_;exact cK.later (aa HST) (λ_ _=>rfl);rintro e w4 ⟨k4,a0,a1,a2,a3,a4,ao,al,ac,rfl,h4⟩;have c4:w4.cell? ⟨w1.heap.size,5,none⟩=some (.slice so sl sc):=(iy ((k4.2 _ (by show _<wc.heap.size;omega) (by omega)).trans he')).1.2.2.2.2.2;have he4:gT w4 w1.heap.size (kP (ah T i)) (ah T i).place (wP (ah T i)) (nP (ah T i)) (sP (ah T i)) (.slice so sl sc):=(k4.2 _ (by show _<wc.heap.size;omega) (by omega)).trans he';have own4:=bH own' (w':=w4) (λk hk=>k4.2 k (own'.lt k hk).2 (by have:=(own'.lt k hk).1;omega));have sz4:wc.heap.size<=w4.heap.size:=k4.1;have m4:w1.heap.size≠w4.heap.size:=(by omega);have l4:w1.heap.size<w4.heap.size:=(by omega);have fin4:=λ(g cap':Nat) (w5:World) hown hgrow hat=>KG (U:=.cells #[.int .i64 a0,.int .i64 a1,.string a2,.int .i32 a3,.int .i32 a4,.slice ao al ac] 119) (g:=g) (cap':=cap') (w5:=w5) hp lt1 hew' (af _) hd he' hz' kw' own' (aa EXS) (aa HF) (aa HX2) (by first|exact k4|exact k4.undrew|exact k4.undrew.undrew) h4 hown hgrow hat;unfold nN))
    all_goals go_wp2
    all_goals go_roundg gk
    all_goals first|omega|exact⟨by omega,by(congr 1;omega),fin5⟩
def lenS:Sx->Nat
 | .nil=>0
 | .node _ _ _ _ r=>lenS r+1
def Zx (t x:aH) (sv:Value):Value:=.iface 121 (.agg #[.int .i64 (kP t),.int .i64 t.place,.string (wP t),.int .i32 (nP t),.int .i32 (sP t),.int .i64 (kP x),.int .i64 x.place,.string (wP x),.int .i32 (nP x),.int .i32 (sP x),sv])
def Qa8 (t x:aH) (sv:Value):Value:=.iface 130 (.agg #[.int .i64 (kP t),.int .i64 t.place,.string (wP t),.int .i32 (nP t),.int .i32 (sP t),.int .i64 (kP x),.int .i64 x.place,.string (wP x),.int .i32 (nP x),.int .i32 (sP x),sv])
def ifV (t x:aH) (sv a b:Value):Value:=.iface 124 (.agg #[.int .i64 (kP t),.int .i64 t.place,.string (wP t),.int .i32 (nP t),.int .i32 (sP t),.int .i64 (kP x),.int .i64 x.place,.string (wP x),.int .i32 (nP x),.int .i32 (sP x),sv,a,b])
def ZT (t x y:aH) (a:Value):Value:=.iface 127 (.agg #[.int .i64 (kP t),.int .i64 t.place,.string (wP t),.int .i32 (nP t),.int .i32 (sP t),.int .i64 (kP x),.int .i64 x.place,.string (wP x),.int .i32 (nP x),.int .i32 (sP x),.int .i64 (kP y),.int .i64 y.place,.string (wP y),.int .i32 (nP y),.int .i32 (sP y),a])
def QZ (e:Ex) (x:aH) (k:Ex):Prop:=∃b o r,e=.node b o x k r
def Ug (w:World) (Q:Nat->Prop) (p:SP) (v:Value) (A:Value->Prop) (B:Value->Value->Prop):Prop:=
 (p.tag=0/\∃x k sv,QZ p.e x k/\v=Zx p.t x sv/\qA w Q sv k) ∨
 (p.tag=1/\∃x k sv a b,QZ p.e x k/\v=ifV p.t x sv a b/\qA w Q sv k/\B a b) ∨
 (p.tag=2/\∃a,v=ZT p.t p.a p.b a/\A a) ∨
 ((p.tag=3∨p.tag=4)/\∃x k sv,QZ p.e x k/\v=Qa8 p.t x sv/\qA w Q sv k)
theorem Ug.later {w w':World} {Q Q':Nat->Prop} {p:SP} {v:Value} {A A':Value->Prop} {B B':Value->Value->Prop} (hk:nz Q w w') (hB:∀k,Q k->k<w.heap.size->Q' k) (h:Ug w Q p v A B) (hA:∀a,A a->A' a) (hBB:∀a b,B a b->B' a b):Ug w' Q' p v A' B':=by
 rcases h with⟨h0,x,k,sv,h1,h2,h3⟩|⟨h0,x,k,sv,a,b,h1,h2,h3,h4⟩|⟨h0,a,h1,h2⟩|⟨h0,x,k,sv,h1,h2,h3⟩
 .exact .inl ⟨h0,x,k,sv,h1,h2,h3.later hk hB⟩
 .exact .inr (.inl ⟨h0,x,k,sv,a,b,h1,h2,h3.later hk hB,hBB _ _ h4⟩)
 .exact .inr (.inr (.inl ⟨h0,a,h1,hA _ h2⟩))
 .exact .inr (.inr (.inr ⟨h0,x,k,sv,h1,h2,h3.later hk hB⟩))
def ul (w:World) (Q:Nat->Prop):Sx->Nat->Nat->Prop
 | .nil,_,_=>True
 | .node _ _ p k r,g,o=>(∃v,w.cell? ⟨g,o,none⟩=some v/\Ug w Q p v
   (λsv=>(k=.nil/\∃ao c,sv=.slice ao 0 c)∨(k≠.nil/\∃g' c,sv=.slice (some ⟨g',0,none⟩) (lenS k) c/\Q g'/\ul w Q k g' 0))
   (match k with
    | .nil=>λ_ _=>False
    | .node _ _ _ s u=>λsv sw=>((s=.nil/\∃ao c,sv=.slice ao 0 c)∨(s≠.nil/\∃g' c,sv=.slice (some ⟨g',0,none⟩) (lenS s) c/\Q g'/\ul w Q s g' 0))/\((u=.nil/\∃ao c,sw=.slice ao 0 c)∨(u≠.nil/\∃g' c,sw=.slice (some ⟨g',0,none⟩) (lenS u) c/\Q g'/\ul w Q u g' 0))))/\ul w Q r g (o+1)
def dh (w:World) (Q:Nat->Prop) (sv:Value) (s:Sx):Prop:=(s=.nil/\∃ao c,sv=.slice ao 0 c)∨(s≠.nil/\∃g c,sv=.slice (some ⟨g,0,none⟩) (lenS s) c/\Q g/\ul w Q s g 0)
def Qn8 (w:World) (Q:Nat->Prop) (k:Sx) (a b:Value):Prop:=match k with
 | .nil=>False
 | .node _ _ _ s u=>dh w Q a s/\dh w Q b u
def Qs (w:World) (Q:Nat->Prop) (v:Value):Sx->Prop
 | .nil=>False
 | .node _ _ p k _=>Ug w Q p v (λsv=>dh w Q sv k) (Qn8 w Q k)
theorem yh {b o':Nat} {p:SP} {k r:Sx} : ul w Q (.node b o' p k r) g o↔(∃v,w.cell? ⟨g,o,none⟩=some v/\Qs w Q v (.node b o' p k r))/\ul w Q r g (o+1):=by
 cases k with
 | nil=>exact Iff.rfl
 | node _ _ _ _ _=>exact Iff.rfl
theorem ul.lt {k:Sx} (hn:k≠.nil) (h:ul w Q k g o):g<w.heap.size:=by
 cases k with
 | nil=>exact absurd rfl hn
 | node _ _ _ _ _=>rw[yh]at h;obtain⟨⟨_,hc,_⟩,_⟩:=h;exact fB _ _ hc
theorem dh.mk_later {Q':Nat->Prop} (hB:∀k,Q k->k<w.heap.size->Q' k) (hs:∀g,Q g->ul w Q s g 0->ul w' Q' s g 0) (h:dh w Q sv s):dh w' Q' sv s:=by
 rcases h with h|⟨hn,g,c,e,hg,hf⟩
 .exact .inl h
 .exact .inr ⟨hn,g,c,e,hB _ hg (hf.lt hn),hs g hg hf⟩
theorem ul.later {w w':World} {Q Q':Nat->Prop} (hk:nz Q w w') (hB:∀k,Q k->k<w.heap.size->Q' k):∀(e:Sx) (g o:Nat),Q g->ul w Q e g o->ul w' Q' e g o
 | .nil,_,_,_,_=>trivial
 | .node _ _ p .nil r,g,o,hg,⟨⟨v,hc,hs⟩,hr⟩=>by
  refine⟨⟨v,?_,hs.later hk hB (λa ha=>dh.mk_later (s:=.nil) hB (λg _ _=>trivial) ha) (λa b hb=>hb)⟩,ul.later hk hB r g (o+1) hg hr⟩;have hb:=hk g hg (fB _ _ hc);simp only[World.cell?]at hc ⊢;rw[hb];exact hc
 | .node _ _ p (.node b1 o1 q s u) r,g,o,hg,⟨⟨v,hc,hs⟩,hr⟩=>by
  refine⟨⟨v,?_,hs.later hk hB (λa ha=>dh.mk_later (s:=.node b1 o1 q s u) hB (λg' hg' h=>ul.later hk hB (.node b1 o1 q s u) g' 0 hg' h) ha)
   (λa b hb=>⟨dh.mk_later (s:=s) hB (λg' hg' h=>ul.later hk hB s g' 0 hg' h) hb.1,dh.mk_later (s:=u) hB (λg' hg' h=>ul.later hk hB u g' 0 hg' h) hb.2⟩)⟩,ul.later hk hB r g (o+1) hg hr⟩
  have hb:=hk g hg (fB _ _ hc);simp only[World.cell?]at hc ⊢;rw[hb];exact hc
theorem dh.later {w w':World} {Q Q':Nat->Prop} (hk:nz Q w w') (hB:∀k,Q k->k<w.heap.size->Q' k) {sv:Value} {s:Sx} (h:dh w Q sv s):dh w' Q' sv s:=
 h.mk_later hB (λg hg hs=>ul.later hk hB s g 0 hg hs)
theorem Qs.later {w w':World} {Q Q':Nat->Prop} (hk:nz Q w w') (hB:∀k,Q k->k<w.heap.size->Q' k) {v:Value} {s:Sx} (h:Qs w Q v s):Qs w' Q' v s:=by
 cases s with
 | nil=>exact h
 | node _ _ p k r=>
  refine Ug.later hk hB h (λa ha=>dh.later hk hB ha) (λa b hb=>?_)
  cases k with
  | nil=>exact hb
  | node _ _ _ s u=>exact⟨dh.later hk hB hb.1,dh.later hk hB hb.2⟩
theorem dh.form (h:dh w Q sv s):∃ao c,sv=.slice ao (lenS s) c:=by
 rcases h with⟨rfl,ao,c,rfl⟩|⟨_,g,c,rfl,_⟩
 .exact⟨ao,c,rfl⟩
 .exact⟨_,c,rfl⟩
def Fp:List Sx->Sx
 | []=>.nil
 | a::l=>kV a (Fp l)
def pQ (w:World) (Q:Nat->Prop):List Value->List Sx->Prop
 | cs,[]=>cs=[]
 | cs,a::l=>∃v rest,cs=v::rest/\Qs w Q v a/\pQ w Q rest l
theorem pQ.snoc {w:World} {Q:Nat->Prop} {v:Value} {s:Sx} (hk:Qs w Q v s):∀(l:List Sx) (cs:List Value),pQ w Q cs l->pQ w Q (cs++[v]) (l++[s])
 | [],cs,h=>by cases h;exact⟨v,[],rfl,hk,rfl⟩
 | a::l,cs,⟨v',rest,e,h1,h2⟩=>⟨v',rest++[v],by rw[e];rfl,h1,pQ.snoc hk l rest h2⟩
theorem pQ.later {w w':World} {Q Q':Nat->Prop} (hk:nz Q w w') (hB:∀k,Q k->k<w.heap.size->Q' k):∀(l:List Sx) (cs:List Value),pQ w Q cs l->pQ w' Q' cs l
 | [],_,h=>h
 | _::l,_,⟨v',rest,e,h1,h2⟩=>⟨v',rest,e,h1.later hk hB,pQ.later hk hB l rest h2⟩
theorem pQ.len {w:World} {Q:Nat->Prop} : ∀(l:List Sx) (cs:List Value),pQ w Q cs l->cs.length=l.length
 | [],_,h=>by cases h;rfl
 | a::l,cs,⟨v',rest,e,h1,h2⟩=>by rw[e];have:=pQ.len l rest h2;simp[this]
theorem pQ.lenS {w:World} {Q:Nat->Prop} : ∀(l:List Sx) (cs:List Value),pQ w Q cs l->lenS (Fp l)=l.length
 | [],_,h=>rfl
 | a::l,cs,⟨v',rest,e,h1,h2⟩=>by
  cases a with
  | nil=>exact h1.elim
  | node _ _ _ _ _=>have:=pQ.lenS l rest h2;simp[Fp,kV,Go.Proofs.YthmmgiaobakilaaGreat.lenS,this]
theorem pQ.rep {w:World} {Q:Nat->Prop} {g:Nat} (C:List Value) (hC:∀k (hk:k<C.length),w.cell? ⟨g,k,none⟩=some C[k]):∀(l:List Sx) (cs:List Value) (o:Nat),C.drop o=cs->pQ w Q cs l->ul w Q (Fp l) g o
 | [],_,_,_,_=>trivial
 | a::l,cs,o,hd,⟨v',rest,e,h1,h2⟩=>by
  cases a with
  | nil=>exact h1.elim
  | node b o' p k r=>
   have ho:o<C.length:=by
    have:=dO List.length hd;rw[e,jy,kr]at this;omega
   have hv:C[o]=v':=by
    rw[vR ho,e]at hd;exact(List.cons.inj hd).1
   show ul w Q (.node b o' p k (Fp l)) g o;rw[yh];refine⟨⟨v',by rw[hC o ho,hv],h1⟩,pQ.rep C hC l rest (o+1) ?_ h2⟩;rw[vR ho,e]at hd;exact(List.cons.inj hd).2
def Qv (w':World) (Q:Nat->Prop) (pb tb cap:Nat) (T:List aH) (f pl:Int) (v:Value):Except Nat (Sx×Nat)->Prop
 | .ok (s,j)=>bg w' pb tb cap T j f pl/\Qs w' Q v s
 | .error x=>bg w' pb tb cap T (T.length-1) (mo f) (nY f pl (ah T x).place)
def TS (ty:TypeId) (w:World) (pb tb cap:Nat) (T:List aH) (f pl:Int) (r:Except Nat (Sx×Nat)) (e:Ending) (w':World):Prop:=aB pb w w'/\∃v,e=.returned v/\Qv w' (λg=>w.heap.size<=g) pb tb cap T f pl (.iface ty v) r
def Ti (w':World) (Q:Nat->Prop) (pb tb cap:Nat) (T:List aH) (f pl:Int) (v:Value):Except Nat (Sx×Nat)->Prop
 | .ok (s,j)=>bg w' pb tb cap T j f pl/\dh w' Q v s
 | .error x=>bg w' pb tb cap T (T.length-1) (mo f) (nY f pl (ah T x).place)
def OE (w:World) (pb tb cap:Nat) (T:List aH) (f pl:Int) (r:Except Nat (Sx×Nat)) (e:Ending) (w':World):Prop:=aB pb w w'/\∃ao len c,e=.returned (.slice ao len c)/\Ti w' (λg=>w.heap.size<=g) pb tb cap T f pl (.slice ao len c) r
theorem Ti.st {r:Except Nat (Sx×Nat)} (h:Ti w Q pb tb cap T f pl v r):cK w pb tb cap T f pl r:=by
 cases r with
 | error x=>exact h
 | ok p=>exact h.1
def tN (fn:Nat) (ty:TypeId) (C:List aH->Nat->Prop) (P:PS):Prop:=∀(w:World) (pb tb cap i:Nat) (T:List aH) (f pl:Int) (r:Except Nat (Sx×Nat)),eQ T->bg w pb tb cap T i f pl->C T i->P T i=some r->Calls Tryz.prog fn #[.pointer (some ⟨pb,0,none⟩)] w (TS ty w pb tb cap T f pl r)
def tT (fn:Nat) (P:PS):Prop:=∀(w:World) (pb tb cap i:Nat) (T:List aH) (f pl:Int) (r:Except Nat (Sx×Nat)),eQ T->bg w pb tb cap T i f pl->P T i=some r->Calls Tryz.prog fn #[.pointer (some ⟨pb,0,none⟩)] w (OE w pb tb cap T f pl r)
theorem gN {α β γ:Type} {r1:Except Nat (α×Nat)} {P:α->Nat->PR β} {G:α->β->Nat->PR γ} {r:Except Nat (γ×Nat)} (h:jF r1 (λa j=>andThen (P a j) (G a))=some r) :
  ∃(rX:Except Nat (β×Nat)) (r2:Except Nat ((α×β)×Nat)),jF r1 P=some rX/\(∀(w:World) (pb tb cap:Nat) (T:List aH) (f pl:Int),cK w pb tb cap T f pl rX->cK w pb tb cap T f pl r2)/\(∀ab j,r2=.ok (ab,j)->∃j0,r1=.ok (ab.1,j0)/\rX=.ok (ab.2,j))/\jF r2 (λab j=>G ab.1 ab.2 j)=some r:=by
 cases r1 with
 | error y=>cases h;exact⟨.error y,.error y,rfl,λ_ _ _ _ _ _ _ h=>h,λab j e=>(by cases e),rfl⟩
 | ok p=>
  obtain⟨a,j⟩:=p;have h:andThen (P a j) (G a)=some r:=h
  cases hp:P a j with
  | none=>rw[hp]at h;cases h
  | some q=>
   rw[hp]at h
   cases q with
   | error y=>cases h;exact⟨.error y,.error y,hp,λ_ _ _ _ _ _ _ h=>h,λab j e=>(by cases e),rfl⟩
   | ok q=>
    obtain⟨b,j2⟩:=q;exact⟨.ok (b,j2),.ok ((a,b),j2),hp,λ_ _ _ _ _ _ _ h=>h,λab j' e=>(by cases e;exact⟨j,rfl,rfl⟩),h⟩
theorem Dk {α γ:Type} {r1:Except Nat (α×Nat)} {g:α->γ} {r:Except Nat (γ×Nat)} (h:jF r1 (λa j=>kF (g a) j)=some r):r=mapR g r1:=by
 cases r1 with
 | error y=>cases h;rfl
 | ok p=>obtain⟨a,j⟩:=p;cases h;rfl
theorem cK.mapR {α β:Type} {w:World} {pb tb cap:Nat} {T:List aH} {f pl:Int} {r:Except Nat (α×Nat)} (h:cK w pb tb cap T f pl r) (g:α->β):cK w pb tb cap T f pl (mapR g r):=by
 cases r with
 | error x=>exact h
 | ok p=>exact h
theorem MR (hX:gP 130 X):tN 113 121 (λT i=>(ah T i).kind=1) (mi X):=by
 intro w pb tb cap i T f pl r hT h hk hr;have hp:=h.plt;have hlow:=h.low;have hi1:=Bd hT h.lt hk (by decide);have hnm:Ow T i=true:=by rw[wE hT,hk];rfl
 obtain⟨r1,e1⟩:=dK T Oy (i+1);unfold mi at hr;rw[e1]at hr;obtain⟨rX,r2,hX2,hst2,hv2,hr2⟩:=gN (show jF r1 (λ_ j=>andThen (X T j) λe j=>andThen (aZ T xE j) λ_ j=>kF (.node 0 0 ⟨0,ah T i,bK,bK,e⟩ .nil .nil) j)=some r from hr);obtain⟨rS,r3,hS3,hst3,hv3,hr3⟩:=gN (show jF r2 (λab j=>andThen (aZ T xE j) λ_ j=>kF (.node 0 0 ⟨0,ah T i,bK,bK,ab.2⟩ .nil .nil:Sx) j)=some r from hr2);have HR:=aj (Dk (g:=λ(ab:(Unit×Ex)×Unit)=>(.node 0 0 ⟨0,ah T i,bK,bK,ab.1.2⟩ .nil .nil:Sx)) hr3);have E1:=aj e1;have HX2:=aj hX2;have HST2:=aj hst2;have HV2:=aj hv2;have HS3:=aj hS3;have HST3:=aj hst3;have HV3:=aj hv3;clear hr hr2 hr3 e1 hX2 hst2 hv2 hS3 hst3 hv3 hk;go_enter Tryz.func113,Tryz.ntmps113;go_wp2_with fail;refine(Dp _ pb tb cap i T f pl (h.alloc _) hnm hi1).mono ?_;rintro e w1 ⟨rfl,h1,k1⟩;have q1:w1.heap[w.heap.size]?=some (.cells #[.int .i64 0,.int .i64 0,.string ⟨#[]⟩,.int .i32 0,.int .i32 0,.int .i64 0,.int .i64 0,.string ⟨#[]⟩,.int .i32 0,.int .i32 0,.slice none 0 0] 121 (0,0)):=(k1.2 _ (by simp) (by omega)).trans (aA w _);have K1:=(aB.alloc pb w _).trans k1;have lt1:w.heap.size<w1.heap.size:=(az.1 q1).1;clear h k1 hnm;unfold jC pE;go_wp2_with fail;refine(oW hT _ pb tb cap (i+1) f pl 8592 Oy fH.2.2.2.2.2.2.1 Qa3 (h1.alloc _) (aa E1)).mono ?_;rintro e w2 hu;obtain⟨rfl,k2,h2⟩:=hu.st
 have s2:w2.heap[w1.heap.size]?=some (.cells #[.int .i64 (kP (ah T i)),.int .i64 (ah T i).place,.string (wP (ah T i)),.int .i32 (nP (ah T i)),.int .i32 (sP (ah T i))] 116 (0,0)):=(k2.2 _ (by simp) (by omega)).trans (aA w1 _);have q2:=(k2.2 _ (by simp;omega) (by omega)).trans ((av w1 _ _ lt1).trans q1);have K2:=(K1.trans (aB.alloc pb w1 _)).trans k2;have lt2:w1.heap.size<w2.heap.size:=(az.1 s2).1;clear hu h1 q1 K1 k2;go_wp2_with fail;refine(Ad hX hT _ pb tb cap f pl h2 (aa HX2)).mono ?_;rintro e w3 ⟨k3,a0,a1,a2,a3,a4,ao,al,ac,rfl,h3⟩;have s3:=(k3.2 _ lt2 (by omega)).trans s2;have q3:=(k3.2 _ (by omega) (by omega)).trans q2;have K3:=K2.trans k3;have lt3:=k3.1;clear h2 q2 s2 K2 k3;unfold nN;go_wp2_with fail;refine(wD hT _ pb tb cap f pl 59 xE fH.2.2.2.2.2.1 LJ (cK.alloc (aa HST2 _ _ _ _ _ _ _ (zT.st h3)) _) (aa HS3)).mono ?_;rintro e w4 ⟨rfl,k4,h4⟩;have s4:=(k4.2 _ (by simp;omega) (by omega)).trans ((av w3 _ _ (by omega)).trans s3);have q4:=(k4.2 _ (by simp;omega) (by omega)).trans ((av w3 _ _ (by omega)).trans q3);have ub4:w4.heap[w3.heap.size]?=some (.cells #[.int .i64 a0,.int .i64 a1,.string a2,.int .i32 a3,.int .i32 a4,.slice ao al ac] 119 (0,0)):=(k4.2 _ (by simp) (by omega)).trans (aA w3 _);have K4:=(K3.trans (aB.alloc pb w3 _)).trans k4;have lt4:=k4.1;clear K3 s3 q3
 have fin:∀W:World,bY w4 W->w4.heap.size<=W.heap.size->(∀k,k≠w.heap.size->W.heap[k]?=w4.heap[k]?)->TS 121 w pb tb cap T f pl r (.returned (.agg #[.int .i64 (kP (ah T i)),.int .i64 (ah T i).place,.string (wP (ah T i)),.int .i32 (nP (ah T i)),.int .i32 (sP (ah T i)),.int .i64 a0,.int .i64 a1,.string a2,.int .i32 a3,.int .i32 a4,.slice ao al ac])) W:=by
  intro W hsame hs hW;refine⟨⟨by have:=K4.1;omega,λk hk hn=>(hW k (by omega)).trans (K4.2 k hk hn),K4.same.trans hsame⟩,_,rfl,?_⟩;have st:=cK.mapR (cK.two (aa HST3 _ _ _ _ _ _ _ h4) (λk hk=>hW k (by omega))) (λ(ab:(Unit×Ex)×Unit)=>(.node 0 0 ⟨0,ah T i,bK,bK,ab.1.2⟩ .nil .nil:Sx));have hr4:=aa HR;subst hr4
  cases r3 with
  | error y=>exact st
  | ok q=>
   obtain⟨⟨⟨u,e⟩,u2⟩,j⟩:=q;obtain⟨j0,e2,_⟩:=aa HV3 _ _ rfl;obtain⟨j1,_,eX⟩:=aa HV2 _ _ e2;rw[eX]at h3;refine⟨st,.inl ⟨rfl,?_⟩⟩;obtain⟨b,o,t,k,rr,sv,he,hv,hk⟩:=h3.2;obtain⟨rfl,rfl,rfl,rfl,rfl,rfl⟩:=wO hv;refine⟨t,k,_,⟨b,o,rr,he⟩,rfl,hk.later (λk hk hl=>?_) (λk hk _=>?_)⟩
   .have hk:w2.heap.size<=k:=hk;exact(hW k (by omega)).trans ((k4.2 k (by simp;omega) (by omega)).trans (av w3 _ k hl))
   .have hk:w2.heap.size<=k:=hk;show w.heap.size<=k;omega
 obtain⟨⟨d0,d1,d2,d3,d4,d5,d6,d7,d8,d9,d10⟩,z0,z1,z2,z3,z4,z5,z6,z7,z8,z9,z10⟩:=zR q4;obtain⟨⟨t0,t1,t2,t3,t4⟩,y0,y1,y2,y3,y4⟩:=kE s4;obtain⟨⟨x0,x1,x2,x3,x4,x5⟩,_⟩:=iy ub4;have n1:w.heap.size≠w1.heap.size:=by omega
 have n3:w.heap.size≠w3.heap.size:=by omega
 clear q4 s4 ub4 h3 h4 k4 K4 HST3 HR;go_wp2;refine aL (v:=.agg #[.int .i64 (kP (ah T i)),.int .i64 (ah T i).place,.string (wP (ah T i)),.int .i32 (nP (ah T i)),.int .i32 (sP (ah T i)),.int .i64 a0,.int .i64 a1,.string a2,.int .i32 a3,.int .i32 a4,.slice ao al ac]) (by simp[results,Tryz.results113,go_sem,d0,d1,d2,d3,d4,d5,d6,d7,d8,d9,d10]) rfl ?_;refine fin _ ?_ (by simp) (λk hk=>?_)
 .iterate 11 (refine bY.set ?_ _ _)
  exact bY.refl _
 iterate 11 (refine(ay _ _ _ _ hk).trans ?_)
 rfl
theorem O7 (hX:gP 130 X) (tag:Nat) (htag:tag=3∨tag=4):tN 116 130 (λT i=>i+1<T.length) (wJ X tag):=by
 intro w pb tb cap i T f pl r hT h hi1 hr;have hp:=h.plt;have hlow:=h.low;unfold wJ at hr;obtain⟨rX,r2,hX2,hst2,hv2,hr2⟩:=gN (r1:=.ok ((),i+1)) (show jF (.ok ((),i+1)) (λ_ j=>andThen (X T j) λe j=>andThen (aZ T xE j) λ_ j=>kF (.node 0 0 ⟨tag,ah T i,bK,bK,e⟩ .nil .nil:Sx) j)=some r from hr);obtain⟨rS,r3,hS3,hst3,hv3,hr3⟩:=gN (show jF r2 (λab j=>andThen (aZ T xE j) λ_ j=>kF (.node 0 0 ⟨tag,ah T i,bK,bK,ab.2⟩ .nil .nil:Sx) j)=some r from hr2);have HR:=aj (Dk (g:=λ(ab:(Unit×Ex)×Unit)=>(.node 0 0 ⟨tag,ah T i,bK,bK,ab.1.2⟩ .nil .nil:Sx)) hr3);have HX2:=aj hX2;have HST2:=aj hst2;have HV2:=aj hv2;have HS3:=aj hS3;have HST3:=aj hst3;have HV3:=aj hv3;clear hr hr2 hr3 hX2 hst2 hv2 hS3 hst3 hv3;go_enter Tryz.func116,Tryz.ntmps116;go_wp2_with fail;refine(jB _ pb tb cap i T f pl (h.alloc _) hi1).mono ?_;rintro e w1 ⟨rfl,h1,k1⟩;have q1:w1.heap[w.heap.size]?=some (.cells #[.int .i64 0,.int .i64 0,.string ⟨#[]⟩,.int .i32 0,.int .i32 0,.int .i64 0,.int .i64 0,.string ⟨#[]⟩,.int .i32 0,.int .i32 0,.slice none 0 0] 130 (0,0)):=(k1.2 _ (by simp) (by omega)).trans (aA w _);have K1:=(aB.alloc pb w _).trans k1;have lt1:w.heap.size<w1.heap.size:=(az.1 q1).1;clear h k1;unfold jC pE;go_wp2_with fail;refine(Ad hX hT _ pb tb cap f pl (r1:=.ok ((),i+1)) (show cK _ pb tb cap T f pl (.ok ((),i+1)) from h1.alloc _) (aa HX2)).mono ?_;rintro e w3 ⟨k3,a0,a1,a2,a3,a4,ao,al,ac,rfl,h3⟩
 have s3:w3.heap[w1.heap.size]?=some (.cells #[.int .i64 (kP (ah T i)),.int .i64 (ah T i).place,.string (wP (ah T i)),.int .i32 (nP (ah T i)),.int .i32 (sP (ah T i))] 116 (0,0)):=(k3.2 _ (by simp) (by omega)).trans (aA w1 _);have q3:=(k3.2 _ (by simp;omega) (by omega)).trans ((av w1 _ _ lt1).trans q1);have K3:=(K1.trans (aB.alloc pb w1 _)).trans k3;have lt3:w1.heap.size<w3.heap.size:=(az.1 s3).1;clear h1 q1 K1 k3;unfold nN;go_wp2_with fail;refine(wD hT _ pb tb cap f pl 59 xE fH.2.2.2.2.2.1 LJ (cK.alloc (aa HST2 _ _ _ _ _ _ _ (zT.st h3)) _) (aa HS3)).mono ?_;rintro e w4 ⟨rfl,k4,h4⟩;have s4:=(k4.2 _ (by simp;omega) (by omega)).trans ((av w3 _ _ (by omega)).trans s3);have q4:=(k4.2 _ (by simp;omega) (by omega)).trans ((av w3 _ _ (by omega)).trans q3);have ub4:w4.heap[w3.heap.size]?=some (.cells #[.int .i64 a0,.int .i64 a1,.string a2,.int .i32 a3,.int .i32 a4,.slice ao al ac] 119 (0,0)):=(k4.2 _ (by simp) (by omega)).trans (aA w3 _);have K4:=(K3.trans (aB.alloc pb w3 _)).trans k4;have lt4:=k4.1;clear K3 s3 q3;have fin:∀W:World,bY w4 W->w4.heap.size<=W.heap.size->(∀k,k≠w.heap.size->W.heap[k]?=w4.heap[k]?)->TS 130 w pb tb cap T f pl r (.returned (.agg #[.int .i64 (kP (ah T i)),.int .i64 (ah T i).place,.string (wP (ah T i)),.int .i32 (nP (ah T i)),.int .i32 (sP (ah T i)),.int .i64 a0,.int .i64 a1,.string a2,.int .i32 a3,.int .i32 a4,.slice ao al ac])) W:=by
  intro W hsame hs hW;refine⟨⟨by have:=K4.1;omega,λk hk hn=>(hW k (by omega)).trans (K4.2 k hk hn),K4.same.trans hsame⟩,_,rfl,?_⟩;have st:=cK.mapR (cK.two (aa HST3 _ _ _ _ _ _ _ h4) (λk hk=>hW k (by omega))) (λ(ab:(Unit×Ex)×Unit)=>(.node 0 0 ⟨tag,ah T i,bK,bK,ab.1.2⟩ .nil .nil:Sx));have hr4:=aa HR;subst hr4
  cases r3 with
  | error y=>exact st
  | ok q=>
   obtain⟨⟨⟨u,e⟩,u2⟩,j⟩:=q;obtain⟨j0,e2,_⟩:=aa HV3 _ _ rfl;obtain⟨j1,_,eX⟩:=aa HV2 _ _ e2;rw[eX]at h3;refine⟨st,.inr (.inr (.inr ⟨htag,?_⟩))⟩;obtain⟨b,o,t,k,rr,sv,he,hv,hk⟩:=h3.2;obtain⟨rfl,rfl,rfl,rfl,rfl,rfl⟩:=wO hv;refine⟨t,k,_,⟨b,o,rr,he⟩,rfl,hk.later (λk hk hl=>?_) (λk hk _=>?_)⟩
   .have hk:(w1.alloc _).heap.size<=k:=hk;simp at hk;exact(hW k (by omega)).trans ((k4.2 k (by simp;omega) (by omega)).trans (av w3 _ k hl))
   .have hk:(w1.alloc _).heap.size<=k:=hk;simp at hk;show w.heap.size<=k;omega
 obtain⟨⟨d0,d1,d2,d3,d4,d5,d6,d7,d8,d9,d10⟩,z0,z1,z2,z3,z4,z5,z6,z7,z8,z9,z10⟩:=zR q4;obtain⟨⟨t0,t1,t2,t3,t4⟩,y0,y1,y2,y3,y4⟩:=kE s4;obtain⟨⟨x0,x1,x2,x3,x4,x5⟩,_⟩:=iy ub4;have n1:w.heap.size≠w1.heap.size:=by omega
 have n3:w.heap.size≠w3.heap.size:=by omega
 clear q4 s4 ub4 h3 h4 k4 K4 HST3 HR;go_wp2;refine aL (v:=.agg #[.int .i64 (kP (ah T i)),.int .i64 (ah T i).place,.string (wP (ah T i)),.int .i32 (nP (ah T i)),.int .i32 (sP (ah T i)),.int .i64 a0,.int .i64 a1,.string a2,.int .i32 a3,.int .i32 a4,.slice ao al ac]) (by simp[results,Tryz.results116,go_sem,d0,d1,d2,d3,d4,d5,d6,d7,d8,d9,d10]) rfl ?_;refine fin _ ?_ (by simp) (λk hk=>?_)
 .iterate 11 (refine bY.set ?_ _ _)
  exact bY.refl _
 iterate 11 (refine(ay _ _ _ _ hk).trans ?_)
 rfl
theorem JX:∀s∈[JG,xZ,lD,dY,jS,lU,bA,bf,cz,jo,kU,kI],dI s qg=true:=by
 intro s hs;unfold dI;simp only[aJ];revert s;unfold qg JG xZ lD dY jS lU bA bf cz jo kU kI;decide
def S5 (PA PC PL PO PH:PS):PS:=λT i=>
 if(ah T i).kind==1 then PA T i else
 if bJ T i JG then PC T i else
 if bJ T i xZ then PL T i else
 if bJ T i lD then PO T i else
 if bJ T i dY then PH T i else
 Lp i
theorem Qe2 (X:PE) (B:PS):S5 (mi X) (Pj X B) (BS B) (wJ X 3) (wJ X 4)=dU X B:=rfl
def dZ (T:List aH) (i:Nat):Bool:=((ah T i).kind==1)||bJ T i JG||bJ T i xZ||bJ T i lD||bJ T i dY
def oh (S:PS) (T:List aH):Nat->List Sx->Nat->PR (List Sx)
 | 0,_,_=>none
 | n+1,acc,i=>if dZ T i then andThen (S T i) λs j=>oh S T n (acc++[s]) j else kF acc i
def Fe (S:PS) (n:Nat):PS:=λT i=>andThen (oh S T n [] i) λl j=>kF (Fp l) j
theorem Mi (h:bP T):dZ T (T.length-1)=false:=by
 unfold dZ;rw[h.2,ku h,ku h,ku h,ku h];rfl
theorem ZC:(Tryz.prog.info? 113).map (λi=>(i.zero,i.size,i.bytes))=some (some .nilIface,1,16):=by kernel_rfl
def Wh (S:PS) (T:List aH) (pb tb cap:Nat) (f pl:Int) (fin:Except Nat (List Sx×Nat)) (n:Nat) (w0:World) (k:Nat) (v:Value) (w:World):Prop:=
 ∃cs so sl sc,v=.slice so sl sc/\cs.length+k=n/\aB pb w0 w/\w.ownsRow w0.heap.size 113 1 (.slice so sl sc) cs.length cs /\
  ∃cur:Except Nat (List Sx×Nat),cK w pb tb cap T f pl cur/\(∀acc j,cur=.ok (acc,j)->pQ w (λg=>w0.heap.size<=g/\Qw so sl sc≠some g) cs acc)/\jF cur (λacc j=>oh S T k acc j)=some fin
theorem CW {S:PS} {fin:Except Nat (List Sx×Nat)} {w6:World} {sl sc:Nat} {r2:Except Nat (Sx×Nat)}
  (hpb:pb<w0.heap.size) (hl:cs.length+(k+1)=n) (K:aB pb w0 wc) (own:wc.ownsRow w0.heap.size 113 1 (.slice so sl sc) cs.length cs)
  (ex:pQ wc (λg=>w0.heap.size<=g/\Qw so sl sc≠some g) cs acc)
  (hS:S T i=some r2) (hp:andThen (S T i) (λs j=>oh S T k (acc++[s]) j)=some fin)
  (k5:aB pb wc w5) (h5:Qv w5 (λg=>wc.heap.size<=g) pb tb cap T f pl (.iface ty u) r2)
  (hown:w6.ownsRow w0.heap.size 113 1 (.slice (some ⟨g,0,none⟩) (cs.length+1) cap') (cs.length+1) (cs++[.iface ty u]))
  (hgrow:(w5.alloc U).grownBy w6 (Value.slice so sl sc).ownBlock) (hat:(Value.slice so sl sc).ownBlock=some g∨g=w5.heap.size+1) :
  Wh S T pb tb cap f pl fin n w0 k (.slice (some ⟨g,0,none⟩) (cs.length+1) cap') w6:=by
 have sz5:=k5.1;have szc:=K.1;have far:∀k,k<w5.heap.size->(Value.slice so sl sc).ownBlock≠some k->w6.heap[k]?=w5.heap[k]?:=λk hk hn=>(hgrow.block k (by simp;omega) (λe=>hn e.symm)).trans (av w5 U k hk);have low:∀k,k<w0.heap.size->(Value.slice so sl sc).ownBlock≠some k:=λk hk e=>by have:=(own.lt k e).1;omega
 have sz6:w5.heap.size+1<=w6.heap.size:=by have:=hgrow.size;simpa using this
 rw[hS]at hp;refine⟨cs++[.iface ty u],some ⟨g,0,none⟩,cs.length+1,cap',rfl,by simp;omega,⟨by omega,λk hk hn=>(far k (by omega) (low k hk)).trans ((k5.2 k (by omega) hn).trans (K.2 k hk hn)),(K.same.trans k5.same).trans (((bY.refl w5).alloc U).trans (bY.grown hgrow))⟩,by simpa using hown,?_⟩;have two:∀k,k<=pb->w6.heap[k]?=w5.heap[k]?:=λk hk=>far k (by omega) (low k (by omega))
 cases r2 with
 | error y=>cases hp;exact⟨.error y,cK.two (r:=.error y) (α:=List Sx) (show cK w5 pb tb cap T f pl (.error y) from h5) two,λacc j e=>(by cases e),rfl⟩
 | ok q=>
  obtain⟨s,j⟩:=q;refine⟨.ok (acc++[s],j),cK.two (r:=.ok (acc++[s],j)) (show cK w5 pb tb cap T f pl (.ok (acc++[s],j)) from h5.1) two,?_,hp⟩;intro acc' j' e
  cases e;have hQ:∀k,w0.heap.size<=k->k<w5.heap.size->Qw so sl sc≠some k->w0.heap.size<=k/\Qw (some ⟨g,0,none⟩) (cs.length+1) cap'≠some k:=λk h1 h2 h3=>⟨h1,λe=>by
   have e:g=k:=by simpa[Qw,Value.ownBlock] using e
   rcases hat with h|h
   .exact h3 (by rw[<-e];exact h)
   .omega⟩
  refine pQ.snoc (h5.2.later (λk hk hl=>?_) (λk hk hl=>?_)) acc cs (pQ.later (λk hk hl=>?_) (λk hk hl=>hQ k hk.1 (by omega) hk.2) acc cs ex)
  .have hk:wc.heap.size<=k:=hk;exact far k hl (λe=>by have:=(own.lt k e).2;omega)
  .have hk:wc.heap.size<=k:=hk;exact hQ k (by omega) hl (λe=>by have:=(own.lt k e).2;omega)
  .have h1:w0.heap.size<=k:=hk.1;exact(far k (by omega) hk.2).trans (k5.2 k hl (by omega))
end Go.Proofs.YthmmgiaobakilaaGreat
