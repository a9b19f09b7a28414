import Derived.Test.YthmmgiaobakilaaGreatK03
import Derived.Test.YthmmgiaobakilaaGreatK04
import Derived.Test.YthmmgiaobakilaaGreatK36
set_option maxRecDepth 100000
namespace Go.Proofs.YthmmgiaobakilaaGreat
open Go.RowKit Go.Deep
theorem inc_snoc {l:List Tok} {t:Tok} {a:Nat} (h:Inc l) (hb:∀u∈l,u.place < (a:Int)) (ht:t.place=a):Inc (l++[t]):=by
 unfold Inc
 refine List.pairwise_append.2 ⟨h,List.pairwise_singleton _ _,fun x hx y hy=>?_⟩
 simp only [List.mem_singleton] at hy
 rw [hy,ht]
 exact hb x hx
theorem below_snoc {l:List Tok} {t:Tok} {a n:Nat} (hb:∀u∈l,u.place < (a:Int)) (ht:t.place=a) (hn:0 < n):∀u∈l++[t],u.place < ((a+n:Nat):Int):=by
 intro u hu
 rcases List.mem_append.1 hu with hu | hu
 ·have:=hb u hu;omega
 ·simp only [List.mem_singleton] at hu
  rw [hu,ht];omega
theorem lex_inc (s:ByteArray) (f:Nat):∀(a:Nat) (acc l:List Tok) (p:Nat),Inc acc→(∀u∈acc,u.place < (a:Int))→lex s f a acc=(some l,p)→Inc l∧∀u∈l,u.place < (p:Int):=by
 induction f with
 | zero=>
  intro a acc l p h1 h2 h
  simp only [lex,Prod.mk.injEq,Option.some.injEq] at h
  rw [←h.1,←h.2];exact ⟨h1,h2⟩
 | succ f ih=>
  intro a acc l p h1 h2 h
  rw [lex] at h
  split at h
  ·split at h
   ·exact ih _ _ l p h1 (fun u hu=>by have:=h2 u hu;omega) h
   split at h
   ·rename_i hz
    exact ih _ _ l p (inc_snoc h1 h2 rfl) (below_snoc h2 rfl hz) h
   split at h
   ·rename_i hz
    split at h
    ·cases h
    ·exact ih _ _ l p (inc_snoc h1 h2 rfl) (below_snoc h2 rfl hz) h
   split at h
   ·rename_i hz
    exact ih _ _ l p (inc_snoc h1 h2 rfl) (below_snoc h2 rfl hz) h
   ·cases h
  ·simp only [Prod.mk.injEq,Option.some.injEq] at h
   rw [←h.1,←h.2];exact ⟨h1,h2⟩
theorem lex_places {s:ByteArray} {l:List Tok} {p:Nat} (h:lex s s.size 0 []=(some l,p)):∀a b,a < b→b < (l++[overTok p]).length→(tkAt (l++[overTok p]) a).place < (tkAt (l++[overTok p]) b).place:=by
 obtain ⟨h1,h2⟩:=lex_inc s s.size 0 [] l p List.Pairwise.nil (fun u hu=>by cases hu) h
 have hi:Inc (l++[overTok p]):=inc_snoc h1 h2 rfl
 intro a b hab hb
 unfold tkAt
 simp only [List.getD,List.getElem?_eq_getElem hb,List.getElem?_eq_getElem (show a < (l++[overTok p]).length by omega),Option.getD_some]
 exact List.pairwise_iff_getElem.1 hi a b _ hb hab
theorem body_lt {S:PS} (hS:FwdP S) {T:List Tok} (hT:LastOver T) (n:Nat):∀i s j,i < T.length→pBody S T n i=some (.ok (s,j))→j < T.length:=by
 induction n with
 | zero=>intro i s j _ h;cases h
 | succ n ih=>
  intro i s j hi h
  rw [pBody] at h
  split at h
  ·cases h;exact hi
  ·obtain ⟨a,j1,h1,h⟩:=then_ok h
   obtain ⟨r,j2,h2,h⟩:=then_ok h
   cases h
   have f:=hS T i hT hi
   rw [h1] at f
   exact ih _ _ _ f.2 h2
theorem source_lt {T:List Tok} (hT:LastOver T) {n:Nat} {ds:List (Tok×Bool)} {s:Sx} {j:Nat} (h:pSource n T=some (.ok ((ds,s),j))):j < T.length:=by
 unfold pSource at h
 obtain ⟨l,j1,h1,h⟩:=then_ok h
 obtain ⟨s',j2,h2,h⟩:=then_ok h
 cases h
 have f:=decls_fwd hT n (n-1) 0 hT.1
 rw [h1] at f
 exact body_lt (pSB_fwd n).1 hT _ _ _ _ f.2 h2
structure TokN (t:Tok):Prop where
 kinds:t.kind=0∨t.kind=1∨t.kind=2∨t.kind=3∨t.kind=4
 key:t.kind=0→memB t.text kws=true
 name:t.kind=1→memB t.text kws=false
 peek:t.kind≠0→(t.text.toList==sPEEK.toList)=false∧(t.text.toList==sSPY.toList)=false
theorem lex_numT (s:ByteArray) (f:Nat):∀(a:Nat) (acc l:List Tok) (p:Nat),(∀t∈acc,t.kind=2→∃b,t.text=numAt s b)→lex s f a acc=(some l,p)→∀t∈l,t.kind=2→∃b,t.text=numAt s b:=by
 induction f with
 | zero=>
  intro a acc l p h1 h
  simp only [lex,Prod.mk.injEq,Option.some.injEq] at h
  rw [←h.1];exact h1
 | succ f ih=>
  intro a acc l p h1 h
  rw [lex] at h
  have sn:∀t:Tok,(t.kind=2→∃b,t.text=numAt s b)→∀u∈acc++[t],u.kind=2→∃b,u.text=numAt s b:=fun t ht u hu=>by
   rcases List.mem_append.1 hu with hu | hu
   ·exact h1 u hu
   ·simp only [List.mem_singleton] at hu;rw [hu];exact ht
  split at h
  ·split at h
   ·exact ih _ _ l p h1 h
   split at h
   ·refine ih _ _ l p (sn _ (fun h=>?_)) h
    unfold wordTok at h
    dsimp only at h
    split at h <;> cases h
   split at h
   ·split at h
    ·cases h
    ·exact ih _ _ l p (sn _ (fun _=>⟨a,rfl⟩)) h
   split at h
   ·exact ih _ _ l p (sn _ (fun h=>by cases h)) h
   ·cases h
  ·simp only [Prod.mk.injEq,Option.some.injEq] at h
   rw [←h.1];exact h1
theorem num_not (s:ByteArray) (b:Nat) {u:ByteArray} (hu:∃x∈nums u,digB x=false):((numAt s b).toList==u.toList)=false:=by
 cases h:((numAt s b).toList==u.toList)
 ·rfl
 ·exfalso
  have e:(numAt s b).toList=u.toList:=by simpa using h
  obtain ⟨x,hx,hd⟩:=hu
  have e2:nums (numAt s b)=nums u:=by unfold nums;rw [←ByteArray.toList_eq,←ByteArray.toList_eq,e]
  have:=num_digits s b x (by rw [e2];exact hx)
  rw [hd] at this
  cases this
theorem signs_not:∀t∈signs,(t.toList==sPEEK.toList)=false∧(t.toList==sSPY.toList)=false:=by
 simp only [ByteArray.toList_eq];decide
theorem kws_not {t:ByteArray} (h:memB t kws=false):(t.toList==sPEEK.toList)=false∧(t.toList==sSPY.toList)=false:=by
 unfold memB at h
 rw [List.any_eq_false] at h
 constructor
 ·have:=h sPEEK (by simp [kws,sPEEK])
  cases e:(t.toList==sPEEK.toList)
  ·rfl
  ·exfalso;apply this;simp at e ⊢;exact e.symm
 ·have:=h sSPY (by simp [kws,sSPY])
  cases e:(t.toList==sSPY.toList)
  ·rfl
  ·exfalso;apply this;simp at e ⊢;exact e.symm
theorem lex_tokN {s:ByteArray} {l:List Tok} {p:Nat} (hs:s.size≤300) (h:lex s s.size 0 []=(some l,p)):∀i,TokN (tkAt (l++[overTok p]) i):=by
 have hW:=lex_tokW hs h
 have hn:=lex_numT s s.size 0 [] l p (fun t ht=>by cases ht) h
 intro i
 refine ⟨hW.kinds i,hW.key i,hW.name i,fun hk=>?_⟩
 rcases hW.kinds i with e | e | e | e | e
 ·exact absurd e hk
 ·exact kws_not (hW.name i e)
 ·have hm:tkAt (l++[overTok p]) i∈l:=by
   unfold tkAt at e ⊢
   rcases Nat.lt_or_ge i (l++[overTok p]).length with hi | hi
   ·rw [List.getD,List.getElem?_eq_getElem hi,Option.getD_some] at e ⊢
    rcases List.mem_append.1 (List.getElem_mem hi) with hm | hm
    ·exact hm
    ·simp only [List.mem_singleton] at hm
     rw [hm] at e
     cases e
   ·rw [List.getD,List.getElem?_eq_none hi,Option.getD_none] at e
    cases e
  obtain ⟨b,hb⟩:=hn _ hm e
  rw [hb]
  exact ⟨num_not s b ⟨112,by decide,by decide⟩,num_not s b ⟨115,by decide,by decide⟩⟩
 ·exact signs_not _ (hW.sign i e)
 ·have ht:(tkAt (l++[overTok p]) i).text=⟨#[]⟩:=by
   have hg:=lex_g s s.size 0 [] l p (by intro t ht;cases ht) h
   unfold tkAt at e ⊢
   rcases Nat.lt_or_ge i (l++[overTok p]).length with hi | hi
   ·rw [List.getD,List.getElem?_eq_getElem hi,Option.getD_some] at e ⊢
    rcases List.mem_append.1 (List.getElem_mem hi) with hm | hm
    ·rcases hg _ hm with g | g | g | g
     ·rw [g.1] at e;cases e
     ·rw [g.1] at e;cases e
     ·rw [g] at e;cases e
     ·rw [g.1] at e;cases e
    ·simp only [List.mem_singleton] at hm
     rw [hm];rfl
   ·rw [List.getD,List.getElem?_eq_none hi,Option.getD_none]
  rw [ht]
  simp only [ByteArray.toList_eq]
  decide
theorem noTok_n:TokN noTok:=by
 refine ⟨.inr (.inr (.inr (.inr rfl))),fun h=>?_,fun h=>?_,fun _=>?_⟩
 ·cases h
 ·cases h
 ·unfold noTok
  simp only [ByteArray.toList_eq]
  decide
end Go.Proofs.YthmmgiaobakilaaGreat
