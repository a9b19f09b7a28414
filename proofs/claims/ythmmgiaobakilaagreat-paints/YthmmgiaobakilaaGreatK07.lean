import Derived.Test.YthmmgiaobakilaaGreatK06
set_option maxRecDepth 100000
namespace Go.Proofs.YthmmgiaobakilaaGreat
open Go.RowKit Go.Deep
def CallOK (Q:PE) (l r n:Int):Prop:=∀(s:ByteArray) (w:World) (pb tb cap i:Nat) (T:List Tok) (f pl:Int) (x:Except Nat (Ex×Nat)),TokW T→PsAt w pb tb cap T i f pl→isT T i s=true→Q T i=some x→Calls Tryz.prog 151 #[.pointer (some ⟨pb,0,none⟩),.int .i32 l,.int .i32 r,.int .i64 n] w (EOut w pb tb cap T f pl x)
theorem pfactor_any {X F:PE} (hX:ParsesE 130 X) (hF:ParsesE 149 F) (hb:CallOK (pTwo X sBO sBC) 91 93 2) (hp:CallOK (pTwo X sPO sPC) 40 41 2) (h3:CallOK (pThree X sPO sPC) 40 41 3):ParsesE 149 (pFactor X F):=by
 intro w pb tb cap i T f pl r hT h hr
 unfold pFactor at hr
 split at hr
 ·rename_i hk
  cases hr
  exact pfactor_leaf w pb tb cap i T f pl hT h (by simpa using hk)
 rename_i hk2
 split at hr
 ·rename_i hk
  cases hr
  exact pfactor_name w pb tb cap i T f pl hT h (by simpa using hk)
 rename_i hk1
 split at hr
 ·rename_i hs;exact pfactor_bracket hX w pb tb cap i T f pl r hT h hs hr
 rename_i n0
 split at hr
 ·rename_i hs;exact pfactor_neg hF w pb tb cap i T f pl r hT h hs hr
 rename_i n1
 split at hr
 ·rename_i hs;exact pfactor_peek (fun w pb tb cap i T f pl r=>hb sPEEK w pb tb cap i T f pl r) w pb tb cap i T f pl r hT h hs hr
 rename_i n2
 split at hr
 ·rename_i hs;exact pfactor_spy (fun w pb tb cap i T f pl r=>hb sSPY w pb tb cap i T f pl r) w pb tb cap i T f pl r hT h hs hr
 rename_i n3
 split at hr
 ·rename_i hs;exact pfactor_min (fun w pb tb cap i T f pl r=>hp sMIN w pb tb cap i T f pl r) w pb tb cap i T f pl r hT h hs hr
 rename_i n4
 split at hr
 ·rename_i hs;exact pfactor_max (fun w pb tb cap i T f pl r=>hp sMAX w pb tb cap i T f pl r) w pb tb cap i T f pl r hT h hs hr
 rename_i n5
 split at hr
 ·rename_i hs;exact pfactor_sel (fun w pb tb cap i T f pl r=>h3 sSEL w pb tb cap i T f pl r) w pb tb cap i T f pl r hT h hs hr
 rename_i n6
 cases hr
 refine pfactor_bad w pb tb cap i T f pl hT h (by simpa using hk2) (by simpa using hk1) (fun s hs=>?_)
 simp only [List.mem_cons,List.not_mem_nil,or_false] at hs
 rcases hs with rfl | rfl | rfl | rfl | rfl | rfl | rfl
 ·exact Bool.eq_false_iff.2 n0
 ·exact Bool.eq_false_iff.2 n1
 ·exact Bool.eq_false_iff.2 n2
 ·exact Bool.eq_false_iff.2 n3
 ·exact Bool.eq_false_iff.2 n6
 ·exact Bool.eq_false_iff.2 n4
 ·exact Bool.eq_false_iff.2 n5
theorem pXF_parses (hcall:∀X,ParsesE 130 X→FwdP X→CallOK (pTwo X sBO sBC) 91 93 2∧CallOK (pTwo X sPO sPC) 40 41 2∧CallOK (pThree X sPO sPC) 40 41 3) (n:Nat):ParsesE 130 (pXF n).1∧ParsesE 149 (pXF n).2:=by
 induction n with
 | zero=>exact ⟨fun w pb tb cap i T f pl r _ _ h=>by (cases h),fun w pb tb cap i T f pl r _ _ h=>by (cases h)⟩
 | succ n ih=>
  rw [pXF]
  split
  ·exact ⟨fun w pb tb cap i T f pl r _ _ h=>by (cases h),fun w pb tb cap i T f pl r _ _ h=>by (cases h)⟩
  obtain ⟨c1,c2,c3⟩:=hcall _ ih.1 (pXF_fwd n).1
  have fa:=pfactor_any ih.1 ih.2 c1 c2 c3
  exact ⟨pexpr_any (psum_any (pterm_any fa _) _),fa⟩
def rowE:List Ex→Ex
 | []=>.nil
 | a::l=>besideE a (rowE l)
def nodeL (t:Tok) (l:List Ex):Ex:=.node 0 0 t (rowE l) .nil
def pArgs (X:PE) (T:List Tok) (r:ByteArray):Nat→List Ex→Nat→PR (List Ex)
 | 0,acc,i=>andThen (pNeed T r i) fun _ j=>got acc j
 | n+1,acc,i=>andThen (if acc.length=0 then got () i else pNeed T sCM i) fun _ j=>andThen (X T j) fun a j=>pArgs X T r n (acc++[a]) j
theorem then_got {α β:Type} (a:α) (j:Nat) (f:α→Nat→PR β):andThen (got a j) f=f a j:=rfl
theorem then_assoc {α β γ:Type} (r:PR α) (f:α→Nat→PR β) (g:β→Nat→PR γ):andThen (andThen r f) g=andThen r fun a j=>andThen (f a j) g:=by
 cases r with
 | none=>rfl
 | some r=>cases r with
  | error _=>rfl
  | ok p=>rfl
theorem pTwo_args (X:PE) (l r:ByteArray) (T:List Tok) (i:Nat):pTwo X l r T i=andThen (pNeed T l (i+1)) fun _ j=>andThen (pArgs X T r 2 [] j) fun ls j=>got (nodeL (tkAt T i) ls) j:=by
 unfold pTwo
 simp only [pArgs,then_assoc,List.length_nil,if_true,List.length_cons,if_neg (show ¬ (0+(0+1)=0) by omega),then_got,List.nil_append,List.cons_append]
 rfl
theorem pThree_args (X:PE) (l r:ByteArray) (T:List Tok) (i:Nat):pThree X l r T i=andThen (pNeed T l (i+1)) fun _ j=>andThen (pArgs X T r 3 [] j) fun ls j=>got (nodeL (tkAt T i) ls) j:=by
 unfold pThree
 simp only [pArgs,then_assoc,List.length_nil,if_true,List.length_cons,if_neg (show ¬ (0+(0+1)=0) by omega),if_neg (show ¬ (0+(0+1)+(0+1)=0) by omega),then_got,List.nil_append,List.cons_append]
 rfl
def ExsC (w:World) (Q:Nat→Prop):List Value→List Ex→Prop
 | cs,[]=>cs=[]
 | cs,a::l=>∃b o t k r sv rest,a = .node b o t k r∧cs=tokC t++(sv::rest)∧RepK w Q sv k∧ExsC w Q rest l
theorem ExsC.snoc {w:World} {Q:Nat→Prop} {b o:Nat} {t:Tok} {k r:Ex} {sv:Value} (hk:RepK w Q sv k):∀(l:List Ex) (cs:List Value),ExsC w Q cs l→ExsC w Q (cs++(tokC t++[sv])) (l++[.node b o t k r])
 | [],cs,h=>by
  cases h
  exact ⟨b,o,t,k,r,sv,[],rfl,rfl,hk,rfl⟩
 | a::l,cs,⟨b',o',t',k',r',sv',rest,e1,e2,h1,h2⟩=>⟨b',o',t',k',r',sv',rest++(tokC t++[sv]),e1,by rw [e2];simp,h1,ExsC.snoc hk l rest h2⟩
theorem ExsC.later {w w':World} {Q Q':Nat→Prop} (hk:Stay Q w w') (hB:∀k,Q k→k < w.heap.size→Q' k):∀(l:List Ex) (cs:List Value),ExsC w Q cs l→ExsC w' Q' cs l
 | [],_,h=>h
 | _::l,_,⟨b',o',t',k',r',sv',rest,e1,e2,h1,h2⟩=>⟨b',o',t',k',r',sv',rest,e1,e2,h1.later hk hB,ExsC.later hk hB l rest h2⟩
theorem ExsC.len {w:World} {Q:Nat→Prop} : ∀(l:List Ex) (cs:List Value),ExsC w Q cs l→cs.length=6*l.length
 | [],_,h=>by cases h;rfl
 | a::l,cs,⟨b',o',t',k',r',sv',rest,e1,e2,h1,h2⟩=>by rw [e2];have:=ExsC.len l rest h2;simp [tokC,this];omega
theorem ExsC.lenE {w:World} {Q:Nat→Prop} : ∀(l:List Ex) (cs:List Value),ExsC w Q cs l→lenE (rowE l)=l.length
 | [],_,h=>rfl
 | a::l,cs,⟨b',o',t',k',r',sv',rest,e1,e2,h1,h2⟩=>by rw [e1];have:=ExsC.lenE l rest h2;simp [rowE,besideE,Go.Proofs.YthmmgiaobakilaaGreat.lenE,this]
theorem ExsC.rep {w:World} {Q:Nat→Prop} {g:Nat} (C:List Value) (hC:∀k (hk:k < C.length),w.cell? ⟨g,k,none⟩=some C[k]):∀(l:List Ex) (cs:List Value) (o:Nat),C.drop (o*6)=cs→ExsC w Q cs l→RepF w Q (rowE l) g o
 | [],_,_,_,_=>trivial
 | a::l,cs,o,hd,⟨b',o',t',k',r',sv',rest,e1,e2,h1,h2⟩=>by
  have ln:cs.length=6*(l.length+1):=ExsC.len (a::l) cs ⟨b',o',t',k',r',sv',rest,e1,e2,h1,h2⟩
  have lC:o*6+6≤C.length:=by have:=congrArg List.length hd;rw [List.length_drop,ln] at this;omega
  have at_:∀j (hj:j < cs.length),w.cell? ⟨g,o*6+j,none⟩=some cs[j]:=fun j hj=>by
   have hj2:o*6+j < C.length:=by have:=congrArg List.length hd;rw [List.length_drop] at this;omega
   rw [hC _ hj2]
   congr 1
   simp only [←hd,List.getElem_drop]
  rw [e1]
  have get:∀j v,j < 6→cs[j]?=some v→w.cell? ⟨g,o*6+j,none⟩=some v:=fun j v hj hv=>by
   obtain ⟨hj2,e⟩:=List.getElem?_eq_some_iff.1 hv
   rw [at_ j hj2,e]
  refine ⟨⟨sv',⟨?_,?_,?_,?_,?_,?_⟩,?_⟩,?_⟩
  ·exact get 0 _ (by omega) (by rw [e2];rfl)
  ·exact get 1 _ (by omega) (by rw [e2];rfl)
  ·exact get 2 _ (by omega) (by rw [e2];rfl)
  ·exact get 3 _ (by omega) (by rw [e2];rfl)
  ·exact get 4 _ (by omega) (by rw [e2];rfl)
  ·exact get 5 _ (by omega) (by rw [e2];rfl)
  ·exact h1
  ·refine ExsC.rep C hC l rest (o+1) ?_ h2
   have:C.drop (o*6+6)=cs.drop 6:=by rw [←hd,List.drop_drop]
   rw [show (o+1)*6=o*6+6 by omega,this,e2]
   rfl
def StAt {α:Type} (w:World) (pb tb cap:Nat) (T:List Tok) (f pl:Int):Except Nat (α×Nat)→Prop
 | .ok (_,j)=>PsAt w pb tb cap T j f pl
 | .error x=>PsAt w pb tb cap T (T.length-1) (badF f) (badP f pl (tkAt T x).place)
theorem StAt.later {α:Type} {w w':World} {pb tb cap:Nat} {T:List Tok} {f pl:Int} {r:Except Nat (α×Nat)} (h:StAt w pb tb cap T f pl r) (hs:∀k,k < w.heap.size→w'.heap[k]?=w.heap[k]?):StAt w' pb tb cap T f pl r:=by
 cases r with
 | error x=>exact PsAt.later h hs
 | ok p=>exact PsAt.later h hs
theorem StAt.alloc {α:Type} {w:World} {pb tb cap:Nat} {T:List Tok} {f pl:Int} {r:Except Nat (α×Nat)} (h:StAt w pb tb cap T f pl r) (o:Obj):StAt (w.alloc o) pb tb cap T f pl r:=h.later (fun k hk=>Below.heap_alloc w o k hk)
theorem StAt.two {α:Type} {w w':World} {pb tb cap:Nat} {T:List Tok} {f pl:Int} {r:Except Nat (α×Nat)} (h:StAt w pb tb cap T f pl r) (hs:∀k,k≤pb→w'.heap[k]?=w.heap[k]?):StAt w' pb tb cap T f pl r:=by
 have one:∀ {i f pl},PsAt w pb tb cap T i f pl→PsAt w' pb tb cap T i f pl:=fun h=>⟨(hs pb (Nat.le_refl _)).trans h.blk,h.toks.same (hs tb (by have:=h.low;omega)),h.low,h.lt,h.few,h.room⟩
 cases r with
 | error x=>exact one h
 | ok p=>exact one h
theorem UOut.st {α:Type} {w w':World} {pb tb cap:Nat} {T:List Tok} {f pl:Int} {r:Except Nat (α×Nat)} {e:Ending} (h:UOut w pb tb cap T f pl r e w'):e = .returned (.tuple #[])∧Kept pb w w'∧StAt w' pb tb cap T f pl r:=by
 obtain ⟨h1,h2,h3⟩:=h
 refine ⟨h1,h2,?_⟩
 cases r with
 | error x=>exact h3
 | ok p=>exact h3
theorem ERes.st {w:World} {Q:Nat→Prop} {pb tb cap:Nat} {T:List Tok} {f pl:Int} {v:Value} {r:Except Nat (Ex×Nat)} (h:ERes w Q pb tb cap T f pl v r):StAt w pb tb cap T f pl r:=by
 cases r with
 | error x=>exact h
 | ok p=>exact h.1
def pEnd:PE:=fun T i=>if i=T.length-1 then some (.error i) else none
theorem end_factor:ParsesE 149 pEnd:=by
 intro w pb tb cap i T f pl r hT h hr
 unfold pEnd at hr
 split at hr
 ·rename_i hi
  cases hr
  subst hi
  have hk:=hT.last.2
  exact pfactor_bad w pb tb cap _ T f pl hT h (by rw [hk];decide) (by rw [hk];decide) (fun s _=>over_is hT.last s)
 ·cases hr
theorem end_expr (w:World) (pb tb cap:Nat) (T:List Tok) (f pl:Int) (hT:TokW T) (h:PsAt w pb tb cap T (T.length-1) f pl) :
  Calls Tryz.prog 130 #[.pointer (some ⟨pb,0,none⟩)] w (EOut w pb tb cap T f pl (.error (T.length-1))):=by
 refine pexpr_any (psum_any (pterm_any end_factor 1) 1) w pb tb cap _ T f pl _ hT h ?_
 simp [pExpr,pLevel,pEnd,andThen]
theorem st_bad {α β:Type} {w:World} {pb tb cap:Nat} {T:List Tok} {f pl:Int} {x y:Nat} (h:StAt (α:=α) w pb tb cap T (badF f) (badP f pl (tkAt T x).place) (.error y)):StAt (α:=β) w pb tb cap T f pl (.error x):=by
 have h:PsAt w pb tb cap T (T.length-1) (badF (badF f)) (badP (badF f) (badP f pl (tkAt T x).place) (tkAt T y).place):=h
 rw [badF_bad,badP_bad] at h
 exact h
def seqR {α β:Type} (r1:Except Nat (α×Nat)) (P:α→Nat→PR β):PR β:=andThen (some r1) P
theorem sign_seq {α:Type} {T:List Tok} (hT:TokW T) (w:World) (pb tb cap:Nat) (f pl c:Int) (s:ByteArray) (hs:s∈signs) (hc:runeOf s=c) {r1:Except Nat (α×Nat)} {r:Except Nat (Unit×Nat)} (h:StAt w pb tb cap T f pl r1) (hr:seqR r1 (fun _ j=>pNeed T s j)=some r) :
  Calls Tryz.prog 111 #[.pointer (some ⟨pb,0,none⟩),.int .i32 c] w fun e w'=>e = .returned (.tuple #[])∧Kept pb w w'∧StAt w' pb tb cap T f pl r:=by
 cases r1 with
 | error x=>
  cases hr
  refine (takeSign_bad hT w pb tb cap f pl c _ s hs hc h).mono ?_
  rintro e w' ⟨he,k,h1⟩
  exact ⟨he,k,h1⟩
 | ok xj=>
  obtain ⟨x,j⟩:=xj
  exact (takeSign_any hT w pb tb cap j f pl c s hs hc h hr).mono (fun e w' h=>h.st)
theorem expr_seq {α:Type} {X:PE} (hX:ParsesE 130 X) {T:List Tok} (hT:TokW T) (w:World) (pb tb cap:Nat) (f pl:Int) {r1:Except Nat (α×Nat)} {r:Except Nat (Ex×Nat)} (h:StAt w pb tb cap T f pl r1) (hr:seqR r1 (fun _ j=>X T j)=some r) :
  Calls Tryz.prog 130 #[.pointer (some ⟨pb,0,none⟩)] w (EOut w pb tb cap T f pl r):=by
 cases r1 with
 | error x=>
  cases hr
  refine (end_expr w pb tb cap T _ _ hT h).mono ?_
  rintro e w' ⟨hk,a0,a1,a2,a3,a4,ao,len,c,he,hs⟩
  exact ⟨hk,a0,a1,a2,a3,a4,ao,len,c,he,st_bad (α:=Ex) (β:=Ex) (ERes.st hs)⟩
 | ok xj=>
  obtain ⟨x,j⟩:=xj
  exact hX w pb tb cap j T f pl r hT h hr
def tokR:Except Nat (Tok×Nat)→Value
 | .ok (t,_)=>tokP t
 | .error _=>tkV 0 0 ⟨#[]⟩ 0 0
theorem over_kind {T:List Tok} (hT:TokW T):(tkAt T (T.length-1)).kind=4:=hT.last.2
theorem kind_next {T:List Tok} (hT:TokW T) {i:Nat} (hi:i < T.length) {k:Int} (hk:(tkAt T i).kind=k) (h4:k≠4):i+1 < T.length:=by
 rcases Nat.lt_or_ge (i+1) T.length with h | h
 ·exact h
 ·exfalso
  have:i=T.length-1:=by omega
  rw [this,over_kind hT] at hk
  exact h4 hk.symm
theorem name_seq {α:Type} {T:List Tok} (hT:TokW T) (w:World) (pb tb cap:Nat) (f pl:Int) {r1:Except Nat (α×Nat)} {r:Except Nat (Tok×Nat)} (h:StAt w pb tb cap T f pl r1) (hr:seqR r1 (fun _ j=>pKind T 1 j)=some r) :
  Calls Tryz.prog 109 #[.pointer (some ⟨pb,0,none⟩)] w fun e w'=>e = .returned (tokR r)∧Kept pb w w'∧StAt w' pb tb cap T f pl r:=by
 cases r1 with
 | error x=>
  cases hr
  have h:PsAt w pb tb cap T (T.length-1) (badF f) (badP f pl (tkAt T x).place):=h
  refine (takeName_no w pb tb cap _ T _ _ h (by rw [nm_is hT,over_kind hT];rfl)).mono ?_
  rintro e w' ⟨he,h1,k⟩
  rw [badF_bad,badP_bad] at h1
  exact ⟨he,k,h1⟩
 | ok xj=>
  obtain ⟨x,j⟩:=xj
  have h:PsAt w pb tb cap T j f pl:=h
  have hr:pKind T 1 j=some r:=hr
  unfold pKind at hr
  split at hr
  ·rename_i hk
   cases hr
   refine (takeName_yes w pb tb cap j T f pl h (by rw [nm_is hT];exact hk) (kind_next hT h.lt (k:=1) (by simpa using hk) (by decide))).mono ?_
   rintro e w' ⟨he,h1,k⟩
   exact ⟨he,k,h1⟩
  ·rename_i hk
   cases hr
   refine (takeName_no w pb tb cap j T f pl h (by rw [nm_is hT];exact Bool.eq_false_iff.2 hk)).mono ?_
   rintro e w' ⟨he,h1,k⟩
   exact ⟨he,k,h1⟩
theorem number_seq {α:Type} {T:List Tok} (hT:TokW T) (w:World) (pb tb cap:Nat) (f pl:Int) {r1:Except Nat (α×Nat)} {r:Except Nat (Tok×Nat)} (h:StAt w pb tb cap T f pl r1) (hr:seqR r1 (fun _ j=>pKind T 2 j)=some r) :
  Calls Tryz.prog 132 #[.pointer (some ⟨pb,0,none⟩)] w fun e w'=>e = .returned (tokR r)∧Kept pb w w'∧StAt w' pb tb cap T f pl r:=by
 cases r1 with
 | error x=>
  cases hr
  have h:PsAt w pb tb cap T (T.length-1) (badF f) (badP f pl (tkAt T x).place):=h
  refine (takeNumber_no w pb tb cap _ T _ _ h (by rw [nu_is hT,over_kind hT];rfl)).mono ?_
  rintro e w' ⟨he,h1,k⟩
  rw [badF_bad,badP_bad] at h1
  exact ⟨he,k,h1⟩
 | ok xj=>
  obtain ⟨x,j⟩:=xj
  have h:PsAt w pb tb cap T j f pl:=h
  have hr:pKind T 2 j=some r:=hr
  unfold pKind at hr
  split at hr
  ·rename_i hk
   cases hr
   refine (takeNumber_yes w pb tb cap j T f pl h (by rw [nu_is hT];exact hk) (kind_next hT h.lt (k:=2) (by simpa using hk) (by decide))).mono ?_
   rintro e w' ⟨he,h1,k⟩
   exact ⟨he,k,h1⟩
  ·rename_i hk
   cases hr
   refine (takeNumber_no w pb tb cap j T f pl h (by rw [nu_is hT];exact Bool.eq_false_iff.2 hk)).mono ?_
   rintro e w' ⟨he,h1,k⟩
   exact ⟨he,k,h1⟩
end Go.Proofs.YthmmgiaobakilaaGreat
