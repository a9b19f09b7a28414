import Derived.Test.YthmmgiaobakilaaGreatJ14
import Derived.Test.YthmmgiaobakilaaGreatJ15
set_option maxRecDepth 100000
set_option maxHeartbeats 8000000
set_option linter.all false
namespace Go.Proofs.YthmmgiaobakilaaGreat
open Go.RowKit Go.Deep
variable {ds:List (aH×Bool)} {l:List aH} {p:Nat} {s:ByteArray}
def sG (ds:List (aH×Bool)) (t:Sx):Int×Int:=if(lN ds t).1≠0 then lN ds t else if(uq ds t).1≠0 then uq ds t else(0,0)
def xJ (T:List aH):Int×Int:=match dV 1000 T with
 | none=>(0,0)
 | some (.error k)=>(9,(ah T k).place)
 | some (.ok ((ds,t),_))=>sG ds t
def iX (s:ByteArray):Int×Int:=if 300<s.size then(7,0) else match oN s s.size 0 [] with
 | (none,p)=>(8,(p:Int))
 | (some l,p)=>xJ (l++[aI p])
def yL (s:ByteArray) (ds:List (aH×Bool)) (t:Sx):Prop:=s.size<=300/\∃l p j,oN s s.size 0 []=(some l,p)/\dV 1000 (l++[aI p])=some (.ok ((ds,t),j))/\sG ds t=(0,0)
theorem OZ {m:Nat} (hm:m<=100000):∀ {s:Sx},Dx m s->zi s
 | .nil,_=>trivial
 | .node _ _ _ _ _,⟨a,b,c⟩=>⟨iJ a hm,OZ hm b,OZ hm c⟩
theorem Zp (s:ByteArray) (f:Nat):∀(a:Nat) (acc l:List aH) (p:Nat),a<=s.size->(∀t∈acc,t.text.size<=s.size)->oN s f a acc=(some l,p)->∀t∈l,t.text.size<=s.size:=by
 induction f with
 | zero=>
  intro a acc l p _ h1 h;simp only[oN,je,ko]at h;rw[<-h.1];exact h1
 | succ f ih=>
  intro a acc l p ha h1 h;rw[oN]at h;have sn:∀t:aH,t.text.size<=s.size->∀u∈acc++[t],u.text.size<=s.size:=λt ht u hu=>by
   rcases dW.1 hu with hu|hu
   .exact h1 u hu
   .simp only[rJ]at hu;rw[hu];exact ht
  have w1:=(xY s a ha).2;have w2:=(Ai s a ha).2;have w3:=(Bg s a).2;split at h
  .split at h
   .exact ih _ _ l p (by omega) h1 h
   split at h
   .exact ih _ _ l p w1 (sn _ (by show(jq s a).size<=_;omega)) h
   split at h
   .split at h
    .cases h
    .exact ih _ _ l p w2 (sn _ (by show(gL s a).size<=_;omega)) h
   split at h
   .rename_i h3;have:=w3 h3;exact ih _ _ l p this (sn _ (by show(iL s a).size<=_;omega)) h
   .cases h
  .simp only[je,ko]at h;rw[<-h.1];exact h1
theorem Ot (hs:s.size<=300) (h:oN s s.size 0 []=(some l,p)):∀i,kD (ah (l++[aI p]) i):=by
 have hW:=rF hs h;have ht:=Zp s s.size 0 [] l p (by omega) (λt ht=>by cases ht) h;intro i;have hx:(ah (l++[aI p]) i).text.size<=300:=by
  unfold ah;rcases nV i (l++[aI p]).length with hi|hi
  .rw[List.getD,aU hi,rQ];rcases dW.1 (jW hi) with hm|hm
   .have:=ht _ hm;omega
   .simp only[rJ]at hm;rw[hm];show ByteArray.size ⟨#[]⟩<=300;decide
  .rw[List.getD,ou hi,wm];decide
 have hn:=hW.nums i;refine⟨?_,?_⟩
 .unfold wP;split
  .exact hx
  .decide
 .unfold nP;split
  .exact hn
  .decide
theorem QQ:kD bK:=⟨by decide,by decide,by decide⟩
theorem Qc4 (hs:s.size<=300) (h:oN s s.size 0 []=(some l,p)) {t:Sx} {j:Nat} (hr:dV 1000 (l++[aI p])=some (.ok ((ds,t),j))):(∀d∈ds,kD d.1)/\(uR kD t/\zi t)/\ds.length+dS t+2<=100000/\ds.length<=1000:=by
 obtain⟨t1,t2,t3⟩:=wM hs h;have hj:=Ay t1 hr;obtain⟨a,b,c,d⟩:=AX (Ot hs h) QQ hr;exact⟨b,⟨c,OZ (by omega) d⟩,by omega,by omega⟩
theorem wI.slice {w:World} {Q:Nat->Prop} {v:Value} {l:List (aH×Bool)} (h:wI w Q v l):∃o n c,v=.slice o n c:=by
 rcases h with⟨_,ao,c,e⟩|⟨_,g,c,e,_⟩
 .exact⟨_,_,_,e⟩
 .exact⟨_,_,_,e⟩
theorem dh.slice {w:World} {Q:Nat->Prop} {v:Value} {s:Sx} (h:dh w Q v s):∃o n c,v=.slice o n c:=by
 rcases h with⟨_,ao,c,e⟩|⟨_,g,c,e,_⟩
 .exact⟨_,_,_,e⟩
 .exact⟨_,_,_,e⟩
theorem DL (s:ByteArray) (hm:s.size<=maxLen) (w:World):Calls Tryz.prog 34 #[.string s] w λe w'=>Below w.heap.size w w'/\∃no nl nc bo bl bc,e=.returned (.tuple #[.agg #[.slice no nl nc,.slice bo bl bc],.int .i64 (iX s).1,.int .i64 (iX s).2])/\∀ds t,yL s ds t->wI w' (λk=>w.heap.size<k/\k<w'.heap.size) (.slice no nl nc) ds/\dh w' (λk=>w.heap.size<k/\k<w'.heap.size) (.slice bo bl bc) t:=by
 by_cases hs:300<s.size
 .have e:iX s=(7,0):=by unfold iX;rw[ag hs]
  rw[e];refine(SG s hs hm w).mono ?_;rintro e w' ⟨hb,rfl⟩;refine⟨hb,none,0,0,none,0,0,rfl,λds t ht=>?_⟩;have:=ht.1;omega
 have hs':s.size<=300:=by omega
 obtain⟨o,p,hl⟩:∃o p,oN s s.size 0 []=(o,p):=⟨_,_,rfl⟩
 cases o with
 | none=>
  have e:iX s=(8,(p:Int)):=by unfold iX;rw[ae hs,hl]
  rw[e];refine(XX s hs' p hl w).mono ?_;rintro e w' ⟨hb,rfl⟩;refine⟨hb,none,0,0,none,0,0,rfl,λds t ht=>?_⟩;obtain⟨_,l,p',j,h,_⟩:=ht;rw[hl]at h
  cases h
 | some l=>
  have e:iX s=xJ (l++[aI p]):=by unfold iX;rw[ae hs,hl]
  obtain⟨t1,t2,t3⟩:=wM hs' hl;obtain⟨r,hr⟩:=BR t1 (n:=1000) (by omega)
  cases r with
  | error k=>
   have e2:xJ (l++[aI p])=(9,(ah (l++[aI p]) k).place):=by unfold xJ;rw[hr]
   rw[e,e2];refine(Xc s hs' l p hl 1000 k (af _) hr (by omega) w).mono ?_;rintro e w' ⟨hb,rfl⟩;refine⟨hb,none,0,0,none,0,0,rfl,λds t ht=>?_⟩;obtain⟨_,l',p',j,h,h2,_⟩:=ht;rw[hl]at h
   cases h;rw[hr]at h2
   cases h2
  | ok x=>
   obtain⟨⟨ds,t⟩,j⟩:=x;have e2:xJ (l++[aI p])=sG ds t:=by unfold xJ;rw[hr]
   obtain⟨k1,k2,k3,k4⟩:=Qc4 hs' hl hr;have no:sG ds t≠(0,0)->∀(w':World) (nv bv:Value) ds' t',yL s ds' t'->wI w' (λk=>w.heap.size<k/\k<w'.heap.size) nv ds'/\dh w' (λk=>w.heap.size<k/\k<w'.heap.size) bv t':=λhne w' nv bv ds' t' ht=>by
    obtain⟨_,l',p',j',h,h2,h3⟩:=ht;rw[hl]at h
    cases h;rw[hr]at h2
    cases h2;exact absurd h3 hne
   rw[e,e2];by_cases n1:(lN ds t).1≠0
   .have e3:sG ds t=lN ds t:=by unfold sG;rw[ag n1]
    have hne:sG ds t≠(0,0):=λh=>n1 (by rw[<-e3,h]);have no':=no hne;rw[e3];refine(PG s hs' l p hl 1000 ds t j (af _) hr (by omega) k1 k2 k3 n1 w).mono ?_;rintro e w' ⟨hb,rfl⟩;exact⟨hb,none,0,0,none,0,0,rfl,no' w' _ _⟩
   have n0:(lN ds t).1=0:=Classical.not_not.1 n1;by_cases n2:(uq ds t).1≠0
   .have e3:sG ds t=uq ds t:=by unfold sG;rw[ae n1,ag n2]
    have hne:sG ds t≠(0,0):=λh=>n2 (by rw[<-e3,h]);have no':=no hne;rw[e3];refine(Tz s hs' l p hl 1000 ds t j (af _) hr (by omega) k1 k2 k3 n0 k4 n2 w).mono ?_;rintro e w' ⟨hb,rfl⟩;exact⟨hb,none,0,0,none,0,0,rfl,no' w' _ _⟩
   .have m0:(uq ds t).1=0:=Classical.not_not.1 n2;have e3:sG ds t=(0,0):=by unfold sG;rw[ae n1,ae n2]
    rw[e3];refine(Qb2 s hs' l p hl 1000 ds t j (af _) hr (by omega) k1 k2 k3 n0 k4 m0 w).mono ?_;rintro e w' ⟨hb,nv,bv,rfl,r1,r2⟩;obtain⟨no,nl,nc,rfl⟩:=r1.slice;obtain⟨bo,bl,bc,rfl⟩:=r2.slice;refine⟨hb,no,nl,nc,bo,bl,bc,rfl,λds' t' ht=>?_⟩;obtain⟨_,l',p',j',h,h2,h3⟩:=ht;rw[hl]at h
    cases h;rw[hr]at h2
    cases h2;exact⟨r1,r2⟩
theorem TE (s:ByteArray) (hm:s.size<=maxLen) (w:World):Calls Tryz.prog 31 #[.string s] w λe w'=>Below w.heap.size w w'/\e=.returned (.tuple #[.int .i64 (iX s).1,.int .i64 (iX s).2]):=by
 go_enter Tryz.func31,Tryz.ntmps31;go_wp2_with fail;refine(DL s hm w).mono ?_;rintro e w' ⟨hb,no,nl,nc,bo,bl,bc,rfl,_⟩;go_wp2
 go_ret2
 exact⟨hb.alloc hb.size _,rfl⟩
end Go.Proofs.YthmmgiaobakilaaGreat
