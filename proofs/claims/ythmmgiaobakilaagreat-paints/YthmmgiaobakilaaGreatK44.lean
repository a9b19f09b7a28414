import Derived.Test.YthmmgiaobakilaaGreatK41
set_option maxRecDepth 100000
namespace Go.Proofs.YthmmgiaobakilaaGreat
open Go.RowKit Go.Deep
theorem wrongT_ne {σ:St} {t:Tok} {e:Int} (he:e≠0):(wrongT σ t e).fault≠0:=by
 unfold wrongT
 split
 ·exact he
 ·rename_i h;intro e0;exact h (.inl e0)
theorem usedT_st {E:Env} {σ:St} {t:Tok} (h:(usedT E σ t).fault=0):σ.fault=0:=by
 unfold usedT at h
 split at h
 ·exact absurd h (wrongT_ne (by decide))
 ·exact h
theorem flowT_st {E:Env} {σ:St} {t:Tok} {b:Bool} (h:(flowT E σ t b).fault=0):σ.fault=0:=by
 unfold flowT at h
 split at h
 ·exact absurd h (wrongT_ne (by decide))
 ·exact h
theorem hdS_st {E:Env} {σ:St} {t:Tok} {b:Bool} (h:(hdS E t b σ).fault=0):σ.fault=0:=by
 unfold hdS at h
 split at h
 ·exact usedT_st h
 split at h
 ·exact flowT_st h
 ·exact h
theorem exS_st {E:Env} : ∀(e:Ex) (σ:St),(exS E e σ).fault=0→σ.fault=0
 | .nil,_,h=>h
 | .node _ _ _ k r,σ,h=>exS_st k σ (hdS_st (exS_st r _ h))
theorem outT_st {E:Env} {σ:St} {t:Tok} {b c:Bool} (h:(outT E σ t b c).fault=0):σ.fault=0:=by
 unfold outT at h
 split at h
 ·exact absurd h (wrongT_ne (by decide))
 ·exact h
theorem numT_st {E:Env} {σ:St} {a b:Tok} (h:(numT E σ a b).fault=0):σ.fault=0:=by
 unfold numT at h
 split at h
 ·exact absurd h (wrongT_ne (by decide))
 ·exact h
theorem declT_st {E:Env} {σ:St} {t:Tok} {a b:Bool} (h:(declT E σ t a b).fault=0):σ.fault=0:=by
 unfold declT addC at h
 split at h
 ·exact absurd h (wrongT_ne (by decide))
 ·exact h
theorem leadT_st {E:Env} {σ:St} {t:Tok} (h:(leadT E σ t).fault=0):(usedT E σ t).fault=0:=by
 unfold leadT at h
 split at h
 ·exact absurd h (wrongT_ne (by decide))
 ·exact h
theorem used_found {E:Env} (hm:E.mode=1) {σ:St} {t:Tok} (h:(usedT E σ t).fault=0):0≤findN σ.cells t.text:=by
 unfold usedT at h
 by_cases hk:usedKT σ t < 0
 ·rw [if_pos (by simp [hm,hk])] at h
  exact absurd h (wrongT_ne (by decide))
 ·unfold usedKT at hk
  omega
theorem stS_st {E:Env} (hm:E.mode=1):∀(s:Sx) (σ:St),(stS E s σ).fault=0→σ.fault=0∧FoundS s σ.cells
 | .nil,_,h=>⟨h,trivial⟩
 | .node _ _ p k r,σ,h=>by
  have ih:=stS_st hm r (stF E p (stS E k) σ) h
  have hk:=stS_st hm k
  have hc:(stF E p (stS E k) σ).cells=σ.cells:=(stS_same E (.node 0 0 p k .nil) σ).cells
  obtain ⟨h1,h2⟩:=ih
  rw [hc] at h2
  unfold stF at h1
  split at h1
  ·rename_i ht
   have hu:=leadT_st (exS_st _ _ (outT_st h1))
   have hf:=used_found hm hu
   exact ⟨usedT_st hu,fun _=>hf,.inl (.inl ht),h2⟩
  split at h1
  ·rename_i ht0 ht
   obtain ⟨a,b⟩:=hk _ h1
   have s:=(hS_same E p.e σ).trans (flowT_same E (hS E p.e σ) p.t (hH σ.cells p.e))
   rw [s.cells] at b
   refine ⟨exS_st _ _ (flowT_st a),fun h0=>absurd h0 ht0,?_,h2⟩
   rw [if_neg (by rw [ht];decide)]
   exact .inr b
  split at h1
  ·rename_i ht0 ht1 ht
   obtain ⟨a,b⟩:=hk _ h1
   rw [(numT_same E _ p.a p.b).cells,(declT_eq E σ p.t false false).cells] at b
   refine ⟨declT_st (numT_st a),fun h0=>absurd h0 ht0,?_,h2⟩
   rw [if_pos ht]
   exact .inr b
  split at h1
  ·rename_i ht0 ht1 ht2 ht
   exact ⟨exS_st _ _ (outT_st h1),fun h0=>absurd h0 ht0,.inl (.inr (.inl ht)),h2⟩
  split at h1
  ·rename_i ht0 ht1 ht2 ht3 ht
   exact ⟨exS_st _ _ (outT_st h1),fun h0=>absurd h0 ht0,.inl (.inr (.inr ht)),h2⟩
  ·rename_i ht0 ht1 ht2 ht3 ht4
   obtain ⟨a,b⟩:=hk _ h1
   refine ⟨a,fun h0=>absurd h0 ht0,.inr ?_,h2⟩
   rw [if_neg ht2]
   exact b
theorem dcS_st {E:Env} (l:List (Tok×Bool)):∀σ,(dcS E l σ).fault=0→σ.fault=0:=by
 induction l with
 | nil=>intro σ h;exact h
 | cons x l ih=>intro σ h;exact declT_st (ih _ h)
theorem dcS_cells (E E':Env) (l:List (Tok×Bool)):∀σ σ',σ.cells=σ'.cells→(dcS E l σ).cells=(dcS E' l σ').cells:=by
 induction l with
 | nil=>intro σ σ' h;exact h
 | cons x l ih=>
  intro σ σ' h
  refine ih _ _ ?_
  rw [(declT_eq E σ x.1 x.2 true).cells,(declT_eq E' σ' x.1 x.2 true).cells]
  show σ.cells++_=σ'.cells++_
  rw [h]
def lookS (T:List Tok) (m:Int) (ds:List (Tok×Bool)) (t:Sx):St:=stS (envC T m) t (dcS (envC T m) ds (xyS st0))
def docT (T:List Tok):Int×Int:=match pSource 1000 T with
 | none=>(0,0)
 | some (.error k)=>(9,(tkAt T k).place)
 | some (.ok ((ds,t),_))=>
  if (lookS T 1 ds t).fault=0 then (if (lookS T 2 ds t).fault=0 then (0,0) else ((lookS T 2 ds t).fault,(lookS T 2 ds t).place))
  else ((lookS T 1 ds t).fault,(lookS T 1 ds t).place)
theorem goM_step {n k:Nat} {T:List Tok} {m:Int} {a:St} (hm:m≤2) (h:modeM n T m=some a):goM n T (k+1) m=if a.fault=0 then goM n T k (m+1) else some (a.fault,a.place):=by
 rw [goM,if_pos hm,h,Option.bind_some]
theorem goM_doc {T:List Tok} (hT:LastOver T) (hn:∀i,0≤(tkAt T i).num∧(tkAt T i).num≤65536) (hl:T.length≤900):goM 1000 T 3 0=some (docT T):=by
 have ok:∀m,TokOK (envC T m):=fun m=>⟨hT,hn⟩
 have hnn:NumOK T:=fun i=>⟨by have:=hn i;omega,by have:=hn i;omega⟩
 have ok0:OkS st0:=⟨by decide,by decide,by decide,by decide⟩
 obtain ⟨r,hr⟩:=source_tot hT (n:=1000) (by omega)
 have m0:modeM 1000 T 0=some (end0 (envC T 0) (startS (envC T 0) st0) r).2:=source_rel (ok 0) 999 rfl rfl ok0 rfl hr
 rw [goM_step (k:=2) (by decide) m0]
 unfold docT
 rw [hr]
 cases r with
 | error k=>exact (if_neg (by show ¬ (9:Int)=0;decide)).trans rfl
 | ok x=>
  obtain ⟨⟨ds,t⟩,j⟩:=x
  refine (if_pos rfl).trans ?_
  have m1:modeM 1000 T (0+1)=some (lookS T 1 ds t):=source12 (E:=envC T 1) (.inl rfl) (ok 1) hnn hl 999 ok0 rfl hr (fun h=>by cases h)
  rw [goM_step (k:=1) (by decide) m1]
  show _=some (if (lookS T 1 ds t).fault=0 then (if (lookS T 2 ds t).fault=0 then (0,0) else ((lookS T 2 ds t).fault,(lookS T 2 ds t).place)) else ((lookS T 1 ds t).fault,(lookS T 1 ds t).place))
  by_cases h1:(lookS T 1 ds t).fault=0
  ·rw [if_pos h1,if_pos h1]
   have fd:=(stS_st (E:=envC T 1) rfl t _ h1).2
   have m2:modeM 1000 T (0+1+1)=some (lookS T 2 ds t):=source12 (E:=envC T 2) (.inr rfl) (ok 2) hnn hl 999 ok0 rfl hr (fun _=>by
    rw [dcS_cells (envC T 2) (envC T 1) ds (startS (envC T 2) st0) (xyS st0) rfl]
    exact fd)
   rw [goM_step (k:=0) (by decide) m2]
   by_cases h2:(lookS T 2 ds t).fault=0
   ·rw [if_pos h2,if_pos h2]
    rfl
   ·rw [if_neg h2,if_neg h2]
  ·rw [if_neg h1,if_neg h1]
def docC (s:ByteArray):Int×Int:=if 300 < s.size then (7,0) else match lex s s.size 0 [] with
 | (none,p)=>(8,(p:Int))
 | (some l,p)=>docT (l++[overTok p])
set_option maxHeartbeats 4000000 in
theorem refcheck_any (s:ByteArray) (w:World) :
  Calls Tryz.prog 23 #[.string s] w fun e w'=>e = .returned (.tuple #[.int .i64 (docC s).1,.int .i64 (docC s).2])∧Below w.heap.size w w':=by
 by_cases hs:300 < s.size
 ·have hd:docC s=(7,0):=by unfold docC;rw [if_pos hs]
  rw [hd]
  have hs':(300:Int) < s.size:=by omega
  go_enter Tryz.func23,Tryz.ntmps23
  go_wp2
  go_ret2
  exact ⟨rfl,Below.refl _ _⟩
 ·obtain ⟨o,p,hl⟩:∃o p,lex s s.size 0 []=(o,p):=⟨_,_,rfl⟩
  cases o with
  | none=>
   have hd:docC s=(8,(p:Int)):=by unfold docC;rw [if_neg hs,hl]
   rw [hd]
   have hs':(s.size:Int)≤300:=by omega
   have HL:=hide hl
   clear hl hd
   go_enter Tryz.func23,Tryz.ntmps23
   go_wp2_with fail
   refine (tokens_any s w (by omega)).mono ?_
   rintro e w1 ⟨ho,hb1⟩
   unfold TokOut at ho
   rw [unhide HL] at ho
   subst ho
   go_wp2
   go_ret2
   exact ⟨rfl,hb1⟩
  | some l=>
   have hd:docC s=docT (l++[overTok p]):=by unfold docC;rw [if_neg hs,hl]
   obtain ⟨t1,t2,t3⟩:=toks_ok (by omega) hl
   rw [hd]
   exact refcheck_toks 1000 s l p _ _ w (by omega) hl (goM_doc t1 t2 t3)
end Go.Proofs.YthmmgiaobakilaaGreat
