import Derived.Test.YthmmgiaobakilaaGreatJ30
import Derived.Test.YthmmgiaobakilaaGreatJ40
import Derived.Test.YthmmgiaobakilaaGreatJ48
set_option maxRecDepth 100000
set_option maxHeartbeats 8000000
set_option linter.all false
namespace Go.Proofs.YthmmgiaobakilaaGreat
open Go.RowKit Go.Deep
variable {B g mb p q:Nat} {K:List Nat} {U:Nat->Prop} {e:Ending} {l xs ys:List Int} {r:List (Bool×Value)} {src:ByteArray} {v:Value} {w w' w0:World}
theorem Kg {b:Nat} (h:w.heap[b]?=some (kY l)) (hB:B<=b) (hl:l.length<=36):w.ownsRow B 3 1 (.slice (some ⟨b,0,none⟩) l.length l.length) l.length (l.map (Value.int .i64)):=by
 refine⟨by simp,.inr ⟨b,l.length,_,rfl,hB,h,af _,by unfold maxLen;omega,by simp,?_⟩⟩;rw[oD (by simp)]
def Qf6 (base:Nat) (e:Ending) (w':World):Prop:=∃va n xs vb m ys vc k zs i j E P,e=.returned (.tuple #[.agg #[va,vb,.int .i64 i,.int .i64 j,vc],.int .i64 E,.int .i64 P])/\w'.ownsRow base 3 1 va n xs/\w'.ownsRow base 3 1 vb m ys/\w'.ownsRow base 61 2 vc k zs /\
 (∀g,va.ownBlock=some g->vb.ownBlock≠some g/\vc.ownBlock≠some g)/\(∀g,vb.ownBlock=some g->vc.ownBlock≠some g)/\n<=100/\m<=100/\k<=100
theorem tF.owns {sw sh:Int} {E P:Int} {r:Option dx} (hA:YD sw sh xs ys src E P r) (h:tF w E P r e w'):Qf6 w.heap.size e w':=by
 cases r with
 | none=>exact⟨jG,0,[],jG,0,[],jG,0,[],0,0,E,P,h.2,fD _ _ _ _,fD _ _ _ _,fD _ _ _ _,λg e=>(by cases e),λg e=>(by cases e),by omega,by omega,by omega⟩
 | some S=>
  obtain⟨l1,l2,l3⟩:=VI hA;obtain⟨hb,ob,hb',rv,he,ho,hh,hr,g1,g2,g3,g4,g5⟩:=h;refine⟨_,_,_,_,_,_,rv,_,_,_,_,_,_,he,Kg ho g1 l1,Kg hh g2 l2,hr,λg e=>?_,λg e=>?_,by omega,by omega,by omega⟩
  .cases e;exact⟨λe=>by cases e;exact g3 rfl,g4⟩
  .cases e;exact g5
def Qr6:Bool->Nat
 | true=>2000000
 | false=>17592186043904
def TT (B:Nat) (U:Nat->Prop) (w:World):List (Bool×Value)->Prop
 | []=>True
 | (t,v)::r=>(∃n xs,w.ownsRow B (if t then 61 else 3) (if t then 2 else 1) v n xs/\n<=Qr6 t)/\(∀g,v.ownBlock=some g->¬U g)/\(∀y∈r,∀g,v.ownBlock=some g->y.2.ownBlock≠some g)/\TT B U w r
theorem TT.step {B:Nat} {U U':Nat->Prop} {w w':World} : ∀ {r:List (Bool×Value)},TT B U w r->(∀y∈r,∀g,y.2.ownBlock=some g->g<w.heap.size->¬U g->w'.heap[g]?=w.heap[g]?/\¬U' g)->TT B U' w' r
 | [],_,_=>trivial
 | (t,v)::r,⟨⟨n,xs,h1,h2⟩,h3,h4,h5⟩,hk=>by
  have hv:=hk (t,v) (oq ..);refine⟨⟨n,xs,cu h1 (λg e=>(hv g e (h1.lt g e).2 (h3 g e)).1),h2⟩,λg e=>(hv g e (h1.lt g e).2 (h3 g e)).2,h4,TT.step h5 (λy hy=>hk y (uA _ hy))⟩
structure Ph (B mb:Nat) (K:List Nat) (w0 w:World) (U:Nat->Prop) (p q:Nat) (r:List (Bool×Value)):Prop where
 book:xU B mb U w p q
 rest:TT B U w r
 keep:∀k∈K,k<w.heap.size/\¬U k/\∀y∈r,y.2.ownBlock≠some k
 bel:Below B w0 w
 lt:∀g,U g->g<w.heap.size
 same:∀k∈K,w.heap[k]?=w0.heap[k]?
theorem Ph.step {B mb:Nat} {K:List Nat} {w0 w w':World} {U:Nat->Prop} {p q p' q':Nat} {t:Bool} {v:Value} {r:List (Bool×Value)} (h:Ph B mb K w0 w U p q ((t,v)::r)) (m:CL B mb U w v p' q' w'):Ph B mb K w0 w' (λg=>U g∨v.ownBlock=some g∨(w.heap.size<=g/\g<w'.heap.size)) p' q' r:=by
 obtain⟨⟨n,xs,h1,_⟩,h3,h4,h5⟩:=h.rest;have hz:=m.bel.size;refine⟨m.book,h5.step (λy hy g e hg hU=>?_),λk hk=>?_,h.bel.trans m.bel,?_,λk hk=>?_⟩
 .have hne:v.ownBlock≠some g:=λe'=>h4 y hy g e' e;refine⟨m.same g hg hU hne,?_⟩;rintro(h|h|h)
  .exact hU h
  .exact hne h
  .omega
 .obtain⟨a,b,c⟩:=h.keep k hk;refine⟨by omega,?_,λy hy=>c y (uA _ hy)⟩;rintro(h|h|h)
  .exact b h
  .exact c (t,v) (oq ..) h
  .omega
 .rintro g (h'|h'|h')
  .have:=h.lt g h';omega
  .have:=(h1.lt g h').2;omega
  .exact h'.2
 .obtain⟨a,b,c⟩:=h.keep k hk;exact(m.same k a b (c (t,v) (oq ..))).trans (h.same k hk)
theorem Ph.ints (h:Ph B mb K w0 w U p q ((false,v)::r)) (hp:p<=1000) :
  Calls Tryz.prog 18 #[.pointer (some ⟨mb,0,none⟩),v] w λe w'=>e=.returned (.tuple #[])/\∃U',Ph B mb K w0 w' U' (p+1) q r:=by
 obtain⟨⟨n,xs,h1,h2⟩,h3,_⟩:=h.rest;exact(Xk B mb U p q w v n xs h.book h1 h3 h2 hp).mono λe w' ⟨he,hm⟩=>⟨he,_,h.step hm⟩
theorem Ph.touches (h:Ph B mb K w0 w U p q ((true,v)::r)) (hq:q<=1000) :
  Calls Tryz.prog 19 #[.pointer (some ⟨mb,0,none⟩),v] w λe w'=>e=.returned (.tuple #[])/\∃U',Ph B mb K w0 w' U' p (q+1) r:=by
 obtain⟨⟨n,xs,h1,h2⟩,h3,_⟩:=h.rest;exact(MH B mb U p q w v n xs h.book h1 h3 h2 hq).mono λe w' ⟨he,hm⟩=>⟨he,_,h.step hm⟩
theorem nu {e size n:Nat} {xs:List Value} (h:w.ownsRow B e size v n xs) (hb:Below w.heap.size w w'):w'.ownsRow B e size v n xs:=cu h (λk e=>hb.block k (h.lt k e).2)
theorem qH {k:Nat} {o:Obj} (h:w.heap[k]?=some o) (hb:Below w.heap.size w w'):w'.heap[k]?=some o:=(hb.block k (az.1 h).1).trans h
structure AB (w:World) (sb tb gO gH:Nat) (so to oo ho:Obj) (wk:World):Prop where
 bel:Below w.heap.size w wk
 s:wk.heap[sb]?=some so
 t:wk.heap[tb]?=some to
 o:wk.heap[gO]?=some oo
 h:wk.heap[gH]?=some ho
 z:tb<wk.heap.size
theorem AB.later {wk:World} {sb tb gO gH:Nat} {so to oo ho:Obj} (h:AB w sb tb gO gH so to oo ho wk) (hb:Below wk.heap.size wk w'):AB w sb tb gO gH so to oo ho w':=
 ⟨h.bel.trans (hb.mono h.bel.size),qH h.s hb,qH h.t hb,qH h.o hb,qH h.h hb,by have:=h.z;have:=hb.size;omega⟩
theorem Oi {us:List Int} (h:w.heap[g]?=some (kY (xs++us))) (hu:us.length=2) (hB:B<=g) (hl:xs.length<=17592186043904):w.ownsRow B 3 1 (.slice (some ⟨g,0,none⟩) xs.length (xs.length+2)) xs.length (xs.map (Value.int .i64)):=by
 refine⟨by simp,.inr ⟨g,xs.length+2,_,rfl,hB,h,by omega,by unfold maxLen;omega,by simp[hu],?_⟩⟩;simp
theorem jv {h n c:Nat} (e:(Value.slice (some ⟨g,0,none⟩) n c).ownBlock=some h):g=h:=by cases e;rfl
theorem Yu {va vb vc da dv:Value} {gO gH tb pb db z8 z10 na nb nc nd ne:Nat} {xa xb xc xd xe:List Value} (book:xU B mb (λg=>g<w.heap.size) w p q) (hBw:B<=w.heap.size) (bel:Below w.heap.size w w')
  (oO:w'.heap[gO]?=some (kY (xs++[77,77]))) (oH:w'.heap[gH]?=some (kY (ys++[77,77]))) (lx:xs.length<=17592186043904) (ly:ys.length<=17592186043904)
  (ha:w'.ownsRow z8 3 1 va na xa) (hb:w'.ownsRow z8 3 1 vb nb xb) (hc:w'.ownsRow z8 61 2 vc nc xc) (hd:w'.ownsRow z10 3 1 da nd xd) (he:w'.ownsRow z10 3 1 dv ne xe)
  (dab:∀g,va.ownBlock=some g->vb.ownBlock≠some g/\vc.ownBlock≠some g) (dbc:∀g,vb.ownBlock=some g->vc.ownBlock≠some g) (dde:∀g,da.ownBlock=some g->dv.ownBlock≠some g)
  (ua:∀g,va.ownBlock=some g∨vb.ownBlock=some g∨vc.ownBlock=some g->g<pb) (ud:∀g,da.ownBlock=some g∨dv.ownBlock=some g->g<db)
  (ln:na<=100/\nb<=100/\nc<=100/\nd<=100/\ne<=100) (o1:w.heap.size<=gO/\w.heap.size<=gH/\w.heap.size<=tb) (o2:gO≠gH/\tb≠gO/\tb≠gH) (o4:gO<z8/\gH<z8/\tb<z8) (o5:pb<z10) (o5':z8<=pb) (o6:z10<=db) (o7:db<w'.heap.size) :
  Ph B mb [tb,pb,db] w' w' (λg=>g<w.heap.size) p q [(false,va),(false,vb),(true,vc),(false,da),(false,dv),(false,.slice (some ⟨gO,0,none⟩) xs.length (xs.length+2)),(false,.slice (some ⟨gH,0,none⟩) ys.length (ys.length+2))]:=by
 have la:=λg e=>(ha.lt g e).1;have lb:=λg e=>(hb.lt g e).1;have lc:=λg e=>(hc.lt g e).1;have ld:=λg e=>(hd.lt g e).1;have le:=λg e=>(he.lt g e).1;have qa:=λg e=>ua g (.inl e);have qb:=λg e=>ua g (.inr (.inl e));have qc:=λg e=>ua g (.inr (.inr e));have qd:=λg e=>ud g (.inl e);have qe:=λg e=>ud g (.inr e);refine⟨book.frame (λg hg=>bel.block g hg) (λg hg=>hg),?_,?_,ax _ _,λg hg=>Nat.lt_of_lt_of_le hg bel.size,λ_ _=>rfl⟩
 .refine⟨⟨_,_,nk ha (by omega),(show na<=17592186043904 by omega)⟩,λg e (h:g<w.heap.size)=>by have:=la g e;omega,?_,⟨_,_,nk hb (by omega),(show nb<=17592186043904 by omega)⟩,λg e (h:g<w.heap.size)=>by have:=lb g e;omega,?_,⟨_,_,nk hc (by omega),(show nc<=2000000 by omega)⟩,λg e (h:g<w.heap.size)=>by have:=lc g e;omega,?_,⟨_,_,nk hd (by omega),(show nd<=17592186043904 by omega)⟩,λg e (h:g<w.heap.size)=>by have:=ld g e;omega,?_,⟨_,_,nk he (by omega),(show ne<=17592186043904 by omega)⟩,λg e (h:g<w.heap.size)=>by have:=le g e;omega,?_,⟨_,_,Oi oO rfl (by omega) lx,lx⟩,λg e (h:g<w.heap.size)=>by have:=jv e;omega,?_,⟨_,_,Oi oH rfl (by omega) ly,ly⟩,λg e (h:g<w.heap.size)=>by have:=jv e;omega,?_,trivial⟩
  all_goals
   intro y hy g e;simp only[aO,aQ,aR]at hy
  .rcases hy with rfl|rfl|rfl|rfl|rfl|rfl
   .exact(dab g e).1
   .exact(dab g e).2
   .exact λe'=>by have:=qa g e;have:=ld g e';omega
   .exact λe'=>by have:=qa g e;have:=le g e';omega
   .exact λe'=>by have:=jv e';have:=la g e;omega
   .exact λe'=>by have:=jv e';have:=la g e;omega
  .rcases hy with rfl|rfl|rfl|rfl|rfl
   .exact dbc g e
   .exact λe'=>by have:=qb g e;have:=ld g e';omega
   .exact λe'=>by have:=qb g e;have:=le g e';omega
   .exact λe'=>by have:=jv e';have:=lb g e;omega
   .exact λe'=>by have:=jv e';have:=lb g e;omega
  .rcases hy with rfl|rfl|rfl|rfl
   .exact λe'=>by have:=qc g e;have:=ld g e';omega
   .exact λe'=>by have:=qc g e;have:=le g e';omega
   .exact λe'=>by have:=jv e';have:=lc g e;omega
   .exact λe'=>by have:=jv e';have:=lc g e;omega
  .rcases hy with rfl|rfl|rfl
   .exact dde g e
   .exact λe'=>by have:=jv e';have:=ld g e;omega
   .exact λe'=>by have:=jv e';have:=ld g e;omega
  .rcases hy with rfl|rfl
   .exact λe'=>by have:=jv e';have:=le g e;omega
   .exact λe'=>by have:=jv e';have:=le g e;omega
  .rcases hy with rfl;exact λe'=>by have:=jv e;have:=jv e';omega
 .intro k hk;simp only[aO,aQ,aR]at hk;refine⟨by omega,λ(h:k<w.heap.size)=>by omega,λy hy e=>?_⟩;simp only[aO,aQ,aR]at hy;rcases hy with rfl|rfl|rfl|rfl|rfl|rfl|rfl
  .have:=la k e;have:=qa k e;omega
  .have:=lb k e;have:=qb k e;omega
  .have:=lc k e;have:=qc k e;omega
  .have:=ld k e;have:=qd k e;omega
  .have:=le k e;have:=qe k e;omega
  .have:=jv e;omega
  .have:=jv e;omega
end Go.Proofs.YthmmgiaobakilaaGreat
