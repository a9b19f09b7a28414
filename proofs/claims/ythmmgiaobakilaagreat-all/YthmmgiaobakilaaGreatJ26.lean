import Derived.Test.YthmmgiaobakilaaGreatJ25
set_option maxRecDepth 100000
set_option maxHeartbeats 8000000
set_option linter.all false
namespace Go.Proofs.YthmmgiaobakilaaGreat
open Go.RowKit Go.Deep
variable {E:bB} {T:List aH} {b:Bool} {t:aH} {σ:St}
theorem lW {e:Int} (he:e≠0):(jZ σ t e).fault≠0:=by
 unfold jZ;split
 .exact he
 .rename_i h;intro e0;exact h (.inl e0)
theorem Nh (h:(lH E σ t).fault=0):σ.fault=0:=by
 unfold lH at h;split at h
 .exact absurd h (lW (by decide))
 .exact h
theorem Gj (h:(lG E σ t b).fault=0):σ.fault=0:=by
 unfold lG at h;split at h
 .exact absurd h (lW (by decide))
 .exact h
theorem XU (h:(Bv E t b σ).fault=0):σ.fault=0:=by
 unfold Bv at h;split at h
 .exact Nh h
 split at h
 .exact Gj h
 .exact h
theorem zW {E:bB} : ∀(e:Ex) (σ:St),(zo E e σ).fault=0->σ.fault=0
 | .nil,_,h=>h
 | .node _ _ _ k r,σ,h=>zW k σ (XU (zW r _ h))
theorem AZ {c:Bool} (h:(zh E σ t b c).fault=0):σ.fault=0:=by
 unfold zh at h;split at h
 .exact absurd h (lW (by decide))
 .exact h
theorem G5 {a b:aH} (h:(xA E σ a b).fault=0):σ.fault=0:=by
 unfold xA at h;split at h
 .exact absurd h (lW (by decide))
 .exact h
theorem Oc {a:Bool} (h:(dN E σ t a b).fault=0):σ.fault=0:=by
 unfold dN qU at h;split at h
 .exact absurd h (lW (by decide))
 .exact h
theorem Mx (h:(rY E σ t).fault=0):(lH E σ t).fault=0:=by
 unfold rY at h;split at h
 .exact absurd h (lW (by decide))
 .exact h
theorem BM (hm:E.mode=1) (h:(lH E σ t).fault=0):0<=aN σ.cells t.text:=by
 unfold lH at h;by_cases hk:jr σ t<0
 .rw[ag (by simp[hm,hk])]at h;exact absurd h (lW (by decide))
 .unfold jr at hk;omega
theorem yI {E:bB} (hm:E.mode=1):∀(s:Sx) (σ:St),(oP E s σ).fault=0->σ.fault=0/\jl s σ.cells
 | .nil,_,h=>⟨h,trivial⟩
 | .node _ _ p k r,σ,h=>by
  have ih:=yI hm r (uX E p (oP E k) σ) h;have hk:=yI hm k;have hc:(uX E p (oP E k) σ).cells=σ.cells:=(lS E (.node 0 0 p k .nil) σ).cells;obtain⟨h1,h2⟩:=ih;rw[hc]at h2;unfold uX at h1;split at h1
  .rename_i ht;have hu:=Mx (zW _ _ (AZ h1));have hf:=BM hm hu;exact⟨Nh hu,λ_=>hf,.inl (.inl ht),h2⟩
  split at h1
  .rename_i ht0 ht;obtain⟨a,b⟩:=hk _ h1;have s:=(qW E p.e σ).trans (qB E (hS E p.e σ) p.t (hH σ.cells p.e));rw[s.cells]at b;refine⟨zW _ _ (Gj a),λh0=>absurd h0 ht0,?_,h2⟩;rw[ae (by rw[ht];decide)];exact .inr b
  split at h1
  .rename_i ht0 ht1 ht;obtain⟨a,b⟩:=hk _ h1;rw[(xP E _ p.a p.b).cells,(mf E σ p.t false false).cells]at b;refine⟨Oc (G5 a),λh0=>absurd h0 ht0,?_,h2⟩;rw[ag ht];exact .inr b
  split at h1
  .rename_i ht0 ht1 ht2 ht;exact⟨zW _ _ (AZ h1),λh0=>absurd h0 ht0,.inl (.inr (.inl ht)),h2⟩
  split at h1
  .rename_i ht0 ht1 ht2 ht3 ht;exact⟨zW _ _ (AZ h1),λh0=>absurd h0 ht0,.inl (.inr (.inr ht)),h2⟩
  .rename_i ht0 ht1 ht2 ht3 ht4;obtain⟨a,b⟩:=hk _ h1;refine⟨a,λh0=>absurd h0 ht0,.inr ?_,h2⟩;rw[ae ht2];exact b
theorem Qh4 (l:List (aH×Bool)):∀σ,(Av E l σ).fault=0->σ.fault=0:=by
 induction l with
 | nil=>intro σ h;exact h
 | cons x l ih=>intro σ h;exact Oc (ih _ h)
theorem Uw (E E':bB) (l:List (aH×Bool)):∀σ σ',σ.cells=σ'.cells->(Av E l σ).cells=(Av E' l σ').cells:=by
 induction l with
 | nil=>intro σ σ' h;exact h
 | cons x l ih=>
  intro σ σ' h;refine ih _ _ ?_;rw[(mf E σ x.1 x.2 true).cells,(mf E' σ' x.1 x.2 true).cells];show σ.cells++_=σ'.cells++_;rw[h]
def ky (T:List aH) (m:Int) (ds:List (aH×Bool)) (t:Sx):St:=oP (vS T m) t (Av (vS T m) ds (DU Nb))
def Lx (T:List aH):Int×Int:=match dV 1000 T with
 | none=>(0,0)
 | some (.error k)=>(9,(ah T k).place)
 | some (.ok ((ds,t),_))=>
  if(ky T 1 ds t).fault=0 then(if(ky T 2 ds t).fault=0 then(0,0) else((ky T 2 ds t).fault,(ky T 2 ds t).place))
  else((ky T 1 ds t).fault,(ky T 1 ds t).place)
theorem GZ {n k:Nat} {m:Int} {a:St} (hm:m<=2) (h:Mg n T m=some a):Ya n T (k+1) m=if a.fault=0 then Ya n T k (m+1) else some (a.fault,a.place):=by
 rw[Ya,ag hm,h,aG]
theorem ZV (hT:bP T) (hn:∀i,0<=(ah T i).num/\(ah T i).num<=65536) (hl:T.length<=900):Ya 1000 T 3 0=some (Lx T):=by
 have ok:∀m,bL (vS T m):=λm=>⟨hT,hn⟩;have hnn:zu T:=λi=>⟨by have:=hn i;omega,by have:=hn i;omega⟩;have ok0:lI Nb:=⟨by decide,by decide,by decide,by decide⟩;obtain⟨r,hr⟩:=BR hT (n:=1000) (by omega);have m0:Mg 1000 T 0=some (cB (vS T 0) (iC (vS T 0) Nb) r).2:=Q7 (ok 0) 999 rfl rfl ok0 rfl hr;rw[GZ (k:=2) (by decide) m0];unfold Lx;rw[hr]
 cases r with
 | error k=>exact(ae (by show ¬ (9:Int)=0;decide)).trans rfl
 | ok x=>
  obtain⟨⟨ds,t⟩,j⟩:=x;refine(ag rfl).trans ?_;have m1:Mg 1000 T (0+1)=some (ky T 1 ds t):=MJ (E:=vS T 1) (.inl rfl) (ok 1) hnn hl 999 ok0 rfl hr (λh=>by cases h);rw[GZ (k:=1) (by decide) m1];show _=some (if(ky T 1 ds t).fault=0 then(if(ky T 2 ds t).fault=0 then(0,0) else((ky T 2 ds t).fault,(ky T 2 ds t).place)) else((ky T 1 ds t).fault,(ky T 1 ds t).place));by_cases h1:(ky T 1 ds t).fault=0
  .rw[ag h1,ag h1];have fd:=(yI (E:=vS T 1) rfl t _ h1).2;have m2:Mg 1000 T (0+1+1)=some (ky T 2 ds t):=MJ (E:=vS T 2) (.inr rfl) (ok 2) hnn hl 999 ok0 rfl hr (λ_=>by
    rw[Uw (vS T 2) (vS T 1) ds (iC (vS T 2) Nb) (DU Nb) rfl];exact fd)
   rw[GZ (k:=0) (by decide) m2];by_cases h2:(ky T 2 ds t).fault=0
   .rw[ag h2,ag h2];rfl
   .rw[ae h2,ae h2]
  .rw[ae h1,ae h1]
def Bl (s:ByteArray):Int×Int:=if 300<s.size then(7,0) else match oN s s.size 0 [] with
 | (none,p)=>(8,(p:Int))
 | (some l,p)=>Lx (l++[aI p])
theorem CY (s:ByteArray) (w:World) :
  Calls Tryz.prog 23 #[.string s] w λe w'=>e=.returned (.tuple #[.int .i64 (Bl s).1,.int .i64 (Bl s).2])/\Below w.heap.size w w':=by
 by_cases hs:300<s.size
 .have hd:Bl s=(7,0):=by unfold Bl;rw[ag hs]
  rw[hd];have hs':(300:Int)<s.size:=by omega
  go_enter Tryz.func23,Tryz.ntmps23;go_wp2
  go_ret2
  exact⟨rfl,ax _ _⟩
 .obtain⟨o,p,hl⟩:∃o p,oN s s.size 0 []=(o,p):=⟨_,_,rfl⟩
  cases o with
  | none=>
   have hd:Bl s=(8,(p:Int)):=by unfold Bl;rw[ae hs,hl]
   rw[hd];have hs':(s.size:Int)<=300:=by omega
   have HL:=aj hl;clear hl hd;go_enter Tryz.func23,Tryz.ntmps23;go_wp2_with fail;refine(BU s w (by omega)).mono ?_;rintro e w1 ⟨ho,hb1⟩;unfold tu at ho;rw[aa HL]at ho;subst ho;go_wp2
   go_ret2
   exact⟨rfl,hb1⟩
  | some l=>
   have hd:Bl s=Lx (l++[aI p]):=by unfold Bl;rw[ae hs,hl]
   obtain⟨t1,t2,t3⟩:=wM (by omega) hl;rw[hd];exact Jf 1000 s l p _ _ w (by omega) hl (ZV t1 t2 t3)
end Go.Proofs.YthmmgiaobakilaaGreat
