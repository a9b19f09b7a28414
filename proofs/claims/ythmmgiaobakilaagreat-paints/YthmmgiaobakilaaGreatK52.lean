import Derived.Test.YthmmgiaobakilaaGreatK38
import Derived.Test.YthmmgiaobakilaaGreatK51
set_option maxRecDepth 100000
namespace Go.Proofs.YthmmgiaobakilaaGreat
open Go.RowKit Go.Deep
theorem roles_xy:roles0=role [⟨sXR,0,false,false⟩,⟨sYR,0,false,false⟩]:=by
 funext s
 have e1:∀u:ByteArray,findN [] u < 0:=fun u=>by unfold findN;simp
 have r0:∀u:ByteArray,role [] u=0:=fun u=>role_none.2 (e1 u)
 have hx:findN [⟨sXR,0,false,false⟩] sYR < 0:=by
  unfold findN sXR sYR
  simp only [ByteArray.toList_eq]
  decide
 have a:=role_snoc (l:=[⟨sXR,0,false,false⟩]) (c:=⟨sYR,0,false,false⟩) hx s
 have b:=role_snoc (l:=[]) (c:=⟨sXR,0,false,false⟩) (e1 _) s
 simp only [List.nil_append,List.cons_append] at a b
 rw [a,b,r0]
 unfold roles0
 rw [updR_at,updR_at]
 rfl
theorem dcN {E:Env} (hm:E.mode=1):∀(ds:List (Tok×Bool)) (v:List Tok) (R:ByteArray→Int) (F:Flt) (σ:St),(∀d∈ds,d.1.kind=1)→(σ.fault=0→R=role σ.cells)→Rl v F σ→Inc (v++ds.map (·.1)) →
  Rl (v++ds.map (·.1)) (nmDs ds (R,F)).2 (dcS E ds σ)∧((dcS E ds σ).fault=0→(nmDs ds (R,F)).1=role (dcS E ds σ).cells)
 | [],v,R,F,σ,_,hR,hr,_=>⟨hr.app,hR⟩
 | d::ds,v,R,F,σ,hk,hR,hr,hi=>by
  have e:v++(d::ds).map (·.1)=v++[d.1]++ds.map (·.1):=by simp
  rw [e] at hi ⊢
  obtain ⟨r1,q1⟩:=declN hm (hk d (by simp)) d.2 true hR hr (hi.sublist (List.sublist_append_left _ _))
  exact dcN hm ds _ (nbr (R,F) d.1 1).1 (nbr (R,F) d.1 1).2 (declT E σ d.1 d.2 true) (fun x hx=>hk x (by simp [hx])) (fun h=>(q1 h).2) r1 hi
theorem names_eq {T:List Tok} {ds:List (Tok×Bool)} {t:Sx} (hk:∀d∈ds,d.1.kind=1) (hn:AllS TokN t) (hsh:ShS GE t) (hi:Inc (ds.map (·.1)++ordS t)):Rl (ds.map (·.1)++ordS t) (namesF ds t) (lookS T 1 ds t):=by
 have hm:(envC T 1).mode=1:=rfl
 obtain ⟨r1,q1⟩:=dcN hm ds [] roles0 (0,0) (xyS st0) hk (fun _=>roles_xy) (Rl.zero rfl rfl) (hi.sublist (by rw [List.nil_append];exact List.sublist_append_left _ _))
 rw [List.nil_append] at r1
 exact (stN hm _ t (Nat.le_refl _) _ _ _ _ hn hsh q1 r1 hi).1
theorem dcH {E E2:Env} (hm:E.mode=1) (h2:E2.mode=2):∀(ds:List (Tok×Bool)) (σ τ:St) (H:List ByteArray),(∀d∈ds,d.1.kind=1∧TokN d.1)→(dcS E ds σ).fault=0→σ.cells=τ.cells→HidIs H τ.cells→HidIs (H++hidDs ds) (dcS E2 ds τ).cells∧(dcS E2 ds τ).fault=τ.fault
 | [],σ,τ,H,_,_,_,hH=>⟨by unfold hidDs;simp;exact hH,rfl⟩
 | d::ds,σ,τ,H,hk,hf,hc,hH=>by
  have hf1:(declT E σ d.1 d.2 true).fault=0:=dcS_st ds _ hf
  have hnf:findN σ.cells d.1.text < 0:=by
   unfold declT addC at hf1
   by_cases hq:((E.mode==1)&&(decide (0≤findN σ.cells d.1.text)||decide (6 < d.1.text.size)))=true
   ·rw [if_pos hq] at hf1
    exact absurd hf1 (wrongT_ne (by decide))
   ·rw [hm] at hq
    simp at hq
    omega
  have hd:=hk d (by simp)
  have step:HidIs (H++(if d.2 then [d.1.text] else [])) (declT E2 τ d.1 d.2 true).cells:=by
   rw [decl_2 h2]
   show HidIs _ (τ.cells++[⟨d.1.text,0,d.2,true⟩])
   rw [hc] at hnf
   refine ⟨fun s=>?_,fun u hu=>?_⟩
   ·rw [hid_snoc,List.any_append,←hH.eq]
    by_cases hs:findN τ.cells s < 0
    ·rw [if_pos hs,hid_none hs]
     cases hb:d.2
     ·simp
     ·simp only [if_true,List.any_cons,List.any_nil,Bool.or_false,Bool.false_or,Bool.and_true]
      by_cases e:d.1.text=s
      ·rw [e];simp
      ·have:(s.toList==d.1.text.toList)=false:=by
        cases hz:(s.toList==d.1.text.toList)
        ·rfl
        ·exact absurd (bytes_eq (by simpa using hz)).symm e
       rw [this];simp [e]
    ·rw [if_neg hs]
     have e:¬ d.1.text=s:=fun e=>hs (by rw [←e];exact hnf)
     have:(s.toList==d.1.text.toList)=false:=by
      cases hz:(s.toList==d.1.text.toList)
      ·rfl
      ·exact absurd (bytes_eq (by simpa using hz)).symm e
     cases d.2
     ·simp
     ·simp [this]
   ·rcases List.mem_append.1 hu with hu | hu
    ·exact hH.key u hu
    ·cases hb:d.2
     ·rw [hb] at hu;simp at hu
     ·rw [hb] at hu
      simp at hu
      rw [hu]
      exact hd.2.name hd.1
  have c1:(declT E σ d.1 d.2 true).cells=(declT E2 τ d.1 d.2 true).cells:=by
   rw [(declT_eq E σ d.1 d.2 true).cells,(declT_eq E2 τ d.1 d.2 true).cells]
   show σ.cells++_=τ.cells++_
   rw [hc]
  obtain ⟨a,b⟩:=dcH hm h2 ds (declT E σ d.1 d.2 true) (declT E2 τ d.1 d.2 true) _ (fun x hx=>hk x (by simp [hx])) hf c1 step
  have eh:H++hidDs (d::ds)=H++(if d.2 then [d.1.text] else [])++hidDs ds:=by
   unfold hidDs
   cases hb:d.2
   ·simp [hb]
   ·simp [hb,wP_name hd.1]
  rw [eh]
  refine ⟨a,b.trans ?_⟩
  rw [decl_2 h2]
  rfl
theorem flow_eq {T:List Tok} {ds:List (Tok×Bool)} {t:Sx} (hk:∀d∈ds,d.1.kind=1∧TokN d.1) (hn:AllS TokN t) (hsh:ShS GE t) (hi:Inc (ds.map (·.1)++ordS t)) (h1:(lookS T 1 ds t).fault=0):Rl (ordS t) (flowF ds t) (lookS T 2 ds t):=by
 have hm:(envC T 2).mode=2:=rfl
 have hf:(dcS (envC T 1) ds (xyS st0)).fault=0:=(stS_st (E:=envC T 1) rfl t _ h1).1
 have h0:HidIs [] (xyS st0).cells:=by
  refine ⟨fun s=>?_,fun u hu=>by cases hu⟩
  have a:=hid_open [⟨sXR,0,false,false⟩] ⟨sYR,0,false,false⟩ rfl s
  have b:=hid_open [] ⟨sXR,0,false,false⟩ rfl s
  exact (a.trans b).trans (hid_none (by unfold findN;simp))
 obtain ⟨a,b⟩:=dcH (E:=envC T 1) (E2:=envC T 2) rfl hm ds (xyS st0) (xyS st0) [] hk hf rfl h0
 rw [List.nil_append] at a
 have:=stFl hm _ t (Nat.le_refl _) [] (0,0) (dcS (envC T 2) ds (xyS st0)) hn hsh a (Rl.zero rfl b) (hi.sublist (by rw [List.nil_append];exact List.sublist_append_right _ _))
 rw [List.nil_append] at this
 exact this
theorem Rl.pair {v:List Tok} {F:Flt} {σ:St} (h:Rl v F σ) (hf:σ.fault≠0):F=(σ.fault,σ.place):=by
 obtain ⟨a,b⟩:=F
 have h1:a=σ.fault:=h.1
 have h2:b=σ.place:=(h.2 hf).1
 rw [h1,h2]
theorem read_doc (s:ByteArray):readF s=docC s:=by
 unfold readF docC
 by_cases hs:300 < s.size
 ·rw [if_pos hs,if_pos hs]
 rw [if_neg hs,if_neg hs]
 obtain ⟨o,p,hl⟩:∃o p,lex s s.size 0 []=(o,p):=⟨_,_,rfl⟩
 rw [hl]
 cases o with
 | none=>rfl
 | some l=>
  show toksF (l++[overTok p])=docT (l++[overTok p])
  have hs':s.size≤300:=by omega
  have hW:=lex_tokW hs' hl
  have hN:=lex_tokN hs' hl
  have hP:=lex_places hl
  obtain ⟨t1,t2,t3⟩:=toks_ok hs' hl
  generalize l++[overTok p]=T at *
  unfold toksF docT
  cases hr:pSource 1000 T with
  | none=>rfl
  | some r=>
   cases r with
   | error k=>rfl
   | ok x=>
    obtain ⟨⟨ds,t⟩,j⟩:=x
    show treeF ds t=if (lookS T 1 ds t).fault=0 then (if (lookS T 2 ds t).fault=0 then (0,0) else ((lookS T 2 ds t).fault,(lookS T 2 ds t).place)) else ((lookS T 1 ds t).fault,(lookS T 1 ds t).place)
    have hj:=source_lt t1 hr
    have nok:NumOK T:=fun i=>⟨by have:=t2 i;omega,by have:=t2 i;omega⟩
    obtain ⟨seg,hk,hsh⟩:=od_source (X:=GE) (fun n i e j h=>(pXF_wf n).1 T i e j nok h) (fun i u h hu=>by
     rcases hW.kinds i with e | e | e | e | e
     ·exact e
     ·exfalso;unfold isT at h;rw [e] at h;simp at h
     ·exfalso;unfold isT at h;rw [e] at h;simp at h
     ·exfalso
      have hm:=hW.sign i e
      have ht:(tkAt T i).text=u:=bytes_eq (isT_key h)
      have hn:=sign_not_key _ hm
      rw [ht] at hn
      rcases hu with rfl | rfl
      ·exact absurd hn (by unfold memB kws sOUT;simp only [ByteArray.toList_eq];decide)
      ·exact absurd hn (by unfold memB kws sHIDE;simp only [ByteArray.toList_eq];decide)
     ·exfalso;unfold isT at h;rw [e] at h;simp at h) hr
    obtain ⟨_,had,hall,_⟩:=gd_source (p:=TokN) hN noTok_n hr
    have hi:Inc (ds.map (·.1)++ordS t):=seg.inc (fun a b hab hb=>hP a b hab (by omega))
    have r1:=names_eq (T:=T) hk hall hsh hi
    unfold treeF
    by_cases h1:(lookS T 1 ds t).fault=0
    ·rw [if_pos h1,if_neg (by rw [r1.1,h1];simp)]
     have r2:=flow_eq (T:=T) (fun d hd=>⟨hk d hd,had d hd⟩) hall hsh hi h1
     by_cases h2:(lookS T 2 ds t).fault=0
     ·rw [if_pos h2,if_neg (by rw [r2.1,h2];simp)]
     ·rw [if_neg h2,if_pos (by rw [r2.1];exact h2)]
      exact r2.pair h2
    ·rw [if_neg h1,if_pos (by rw [r1.1];exact h1)]
     exact r1.pair h1
end Go.Proofs.YthmmgiaobakilaaGreat
