import Derived.Test.YthmmgiaobakilaaGreatK33
import Derived.Test.YthmmgiaobakilaaGreatK34
import Derived.Test.YthmmgiaobakilaaGreatK35
import Derived.Test.YthmmgiaobakilaaGreatK37
set_option maxRecDepth 100000
namespace Go.Proofs.YthmmgiaobakilaaGreat
open Go.RowKit Go.Deep
def treeF (ds:List (Tok×Bool)) (t:Sx):Int×Int:=if (namesF ds t).1≠0 then namesF ds t else if (flowF ds t).1≠0 then flowF ds t else (0,0)
def toksF (T:List Tok):Int×Int:=match pSource 1000 T with
 | none=>(0,0)
 | some (.error k)=>(9,(tkAt T k).place)
 | some (.ok ((ds,t),_))=>treeF ds t
def readF (s:ByteArray):Int×Int:=if 300 < s.size then (7,0) else match lex s s.size 0 [] with
 | (none,p)=>(8,(p:Int))
 | (some l,p)=>toksF (l++[overTok p])
def IsTree (s:ByteArray) (ds:List (Tok×Bool)) (t:Sx):Prop:=s.size≤300∧∃l p j,lex s s.size 0 []=(some l,p)∧pSource 1000 (l++[overTok p])=some (.ok ((ds,t),j))∧treeF ds t=(0,0)
theorem allM_Z {m:Nat} (hm:m≤100000):∀ {s:Sx},AllM m s→AllZ s
 | .nil,_=>trivial
 | .node _ _ _ _ _,⟨a,b,c⟩=>⟨Nat.le_trans a hm,allM_Z hm b,allM_Z hm c⟩
theorem text_le (s:ByteArray) (f:Nat):∀(a:Nat) (acc l:List Tok) (p:Nat),a≤s.size→(∀t∈acc,t.text.size≤s.size)→lex s f a acc=(some l,p)→∀t∈l,t.text.size≤s.size:=by
 induction f with
 | zero=>
  intro a acc l p _ h1 h
  simp only [lex,Prod.mk.injEq,Option.some.injEq] at h
  rw [←h.1];exact h1
 | succ f ih=>
  intro a acc l p ha h1 h
  rw [lex] at h
  have sn:∀t:Tok,t.text.size≤s.size→∀u∈acc++[t],u.text.size≤s.size:=fun t ht u hu=>by
   rcases List.mem_append.1 hu with hu | hu
   ·exact h1 u hu
   ·simp only [List.mem_singleton] at hu;rw [hu];exact ht
  have w1:=(word_size s a ha).2
  have w2:=(num_size s a ha).2
  have w3:=(sign_size s a).2
  split at h
  ·split at h
   ·exact ih _ _ l p (by omega) h1 h
   split at h
   ·exact ih _ _ l p w1 (sn _ (by show (wordAt s a).size≤_;omega)) h
   split at h
   ·split at h
    ·cases h
    ·exact ih _ _ l p w2 (sn _ (by show (numAt s a).size≤_;omega)) h
   split at h
   ·rename_i h3
    have:=w3 h3
    exact ih _ _ l p this (sn _ (by show (signF s a).size≤_;omega)) h
   ·cases h
  ·simp only [Prod.mk.injEq,Option.some.injEq] at h
   rw [←h.1];exact h1
theorem lex_tokB {s:ByteArray} {l:List Tok} {p:Nat} (hs:s.size≤300) (h:lex s s.size 0 []=(some l,p)):∀i,TokB (tkAt (l++[overTok p]) i):=by
 have hW:=lex_tokW hs h
 have ht:=text_le s s.size 0 [] l p (by omega) (fun t ht=>by cases ht) h
 intro i
 have hx:(tkAt (l++[overTok p]) i).text.size≤300:=by
  unfold tkAt
  rcases Nat.lt_or_ge i (l++[overTok p]).length with hi | hi
  ·rw [List.getD,List.getElem?_eq_getElem hi,Option.getD_some]
   rcases List.mem_append.1 (List.getElem_mem hi) with hm | hm
   ·have:=ht _ hm;omega
   ·simp only [List.mem_singleton] at hm
    rw [hm];show ByteArray.size ⟨#[]⟩≤300;decide
  ·rw [List.getD,List.getElem?_eq_none hi,Option.getD_none];decide
 have hn:=hW.nums i
 refine ⟨?_,?_⟩
 ·unfold wP;split
  ·exact hx
  ·decide
 ·unfold nP;split
  ·exact hn
  ·decide
theorem noTok_b:TokB noTok:=⟨by decide,by decide,by decide⟩
theorem tree_ok {s:ByteArray} {l:List Tok} {p:Nat} (hs:s.size≤300) (h:lex s s.size 0 []=(some l,p)) {ds:List (Tok×Bool)} {t:Sx} {j:Nat} (hr:pSource 1000 (l++[overTok p])=some (.ok ((ds,t),j))):(∀d∈ds,TokB d.1)∧(AllS TokB t∧AllZ t)∧ds.length+szS t+2≤100000∧ds.length≤1000:=by
 obtain ⟨t1,t2,t3⟩:=toks_ok hs h
 have hj:=source_lt t1 hr
 obtain ⟨a,b,c,d⟩:=gd_source (lex_tokB hs h) noTok_b hr
 exact ⟨b,⟨c,allM_Z (by omega) d⟩,by omega,by omega⟩
theorem RepD.slice {w:World} {Q:Nat→Prop} {v:Value} {l:List (Tok×Bool)} (h:RepD w Q v l):∃o n c,v = .slice o n c:=by
 rcases h with ⟨_,ao,c,e⟩ | ⟨_,g,c,e,_⟩
 ·exact ⟨_,_,_,e⟩
 ·exact ⟨_,_,_,e⟩
theorem RepL.slice {w:World} {Q:Nat→Prop} {v:Value} {s:Sx} (h:RepL w Q v s):∃o n c,v = .slice o n c:=by
 rcases h with ⟨_,ao,c,e⟩ | ⟨_,g,c,e,_⟩
 ·exact ⟨_,_,_,e⟩
 ·exact ⟨_,_,_,e⟩
set_option maxHeartbeats 4000000 in
theorem read_any' (s:ByteArray) (hm:s.size≤maxLen) (w:World):Calls Tryz.prog 34 #[.string s] w fun e w'=>Below w.heap.size w w'∧∃no nl nc bo bl bc,e = .returned (.tuple #[.agg #[.slice no nl nc,.slice bo bl bc],.int .i64 (readF s).1,.int .i64 (readF s).2])∧∀ds t,IsTree s ds t→RepD w' (fun k=>w.heap.size < k∧k < w'.heap.size) (.slice no nl nc) ds∧RepL w' (fun k=>w.heap.size < k∧k < w'.heap.size) (.slice bo bl bc) t:=by
 by_cases hs:300 < s.size
 ·have e:readF s=(7,0):=by unfold readF;rw [if_pos hs]
  rw [e]
  refine (read_long s hs hm w).mono ?_
  rintro e w' ⟨hb,rfl⟩
  refine ⟨hb,none,0,0,none,0,0,rfl,fun ds t ht=>?_⟩
  have:=ht.1
  omega
 have hs':s.size≤300:=by omega
 obtain ⟨o,p,hl⟩:∃o p,lex s s.size 0 []=(o,p):=⟨_,_,rfl⟩
 cases o with
 | none=>
  have e:readF s=(8,(p:Int)):=by unfold readF;rw [if_neg hs,hl]
  rw [e]
  refine (read_tok s hs' p hl w).mono ?_
  rintro e w' ⟨hb,rfl⟩
  refine ⟨hb,none,0,0,none,0,0,rfl,fun ds t ht=>?_⟩
  obtain ⟨_,l,p',j,h,_⟩:=ht
  rw [hl] at h
  cases h
 | some l=>
  have e:readF s=toksF (l++[overTok p]):=by unfold readF;rw [if_neg hs,hl]
  obtain ⟨t1,t2,t3⟩:=toks_ok hs' hl
  obtain ⟨r,hr⟩:=source_tot t1 (n:=1000) (by omega)
  cases r with
  | error k=>
   have e2:toksF (l++[overTok p])=(9,(tkAt (l++[overTok p]) k).place):=by unfold toksF;rw [hr]
   rw [e,e2]
   refine (read_bad s hs' l p hl 1000 k (Nat.le_refl _) hr (by omega) w).mono ?_
   rintro e w' ⟨hb,rfl⟩
   refine ⟨hb,none,0,0,none,0,0,rfl,fun ds t ht=>?_⟩
   obtain ⟨_,l',p',j,h,h2,_⟩:=ht
   rw [hl] at h
   cases h
   rw [hr] at h2
   cases h2
  | ok x=>
   obtain ⟨⟨ds,t⟩,j⟩:=x
   have e2:toksF (l++[overTok p])=treeF ds t:=by unfold toksF;rw [hr]
   obtain ⟨k1,k2,k3,k4⟩:=tree_ok hs' hl hr
   have no:treeF ds t≠(0,0)→∀(w':World) (nv bv:Value) ds' t',IsTree s ds' t'→RepD w' (fun k=>w.heap.size < k∧k < w'.heap.size) nv ds'∧RepL w' (fun k=>w.heap.size < k∧k < w'.heap.size) bv t':=fun hne w' nv bv ds' t' ht=>by
    obtain ⟨_,l',p',j',h,h2,h3⟩:=ht
    rw [hl] at h
    cases h
    rw [hr] at h2
    cases h2
    exact absurd h3 hne
   rw [e,e2]
   by_cases n1:(namesF ds t).1≠0
   ·have e3:treeF ds t=namesF ds t:=by unfold treeF;rw [if_pos n1]
    have hne:treeF ds t≠(0,0):=fun h=>n1 (by rw [←e3,h])
    have no':=no hne
    rw [e3]
    refine (read_names s hs' l p hl 1000 ds t j (Nat.le_refl _) hr (by omega) k1 k2 k3 n1 w).mono ?_
    rintro e w' ⟨hb,rfl⟩
    exact ⟨hb,none,0,0,none,0,0,rfl,no' w' _ _⟩
   have n0:(namesF ds t).1=0:=Classical.not_not.1 n1
   by_cases n2:(flowF ds t).1≠0
   ·have e3:treeF ds t=flowF ds t:=by unfold treeF;rw [if_neg n1,if_pos n2]
    have hne:treeF ds t≠(0,0):=fun h=>n2 (by rw [←e3,h])
    have no':=no hne
    rw [e3]
    refine (read_flow s hs' l p hl 1000 ds t j (Nat.le_refl _) hr (by omega) k1 k2 k3 n0 k4 n2 w).mono ?_
    rintro e w' ⟨hb,rfl⟩
    exact ⟨hb,none,0,0,none,0,0,rfl,no' w' _ _⟩
   ·have m0:(flowF ds t).1=0:=Classical.not_not.1 n2
    have e3:treeF ds t=(0,0):=by unfold treeF;rw [if_neg n1,if_neg n2]
    rw [e3]
    refine (read_ok s hs' l p hl 1000 ds t j (Nat.le_refl _) hr (by omega) k1 k2 k3 n0 k4 m0 w).mono ?_
    rintro e w' ⟨hb,nv,bv,rfl,r1,r2⟩
    obtain ⟨no,nl,nc,rfl⟩:=r1.slice
    obtain ⟨bo,bl,bc,rfl⟩:=r2.slice
    refine ⟨hb,no,nl,nc,bo,bl,bc,rfl,fun ds' t' ht=>?_⟩
    obtain ⟨_,l',p',j',h,h2,h3⟩:=ht
    rw [hl] at h
    cases h
    rw [hr] at h2
    cases h2
    exact ⟨r1,r2⟩
end Go.Proofs.YthmmgiaobakilaaGreat
