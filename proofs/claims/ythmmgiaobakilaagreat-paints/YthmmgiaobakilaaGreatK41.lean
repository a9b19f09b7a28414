import Derived.Test.YthmmgiaobakilaaGreatK25
set_option maxRecDepth 100000
namespace Go.Proofs.YthmmgiaobakilaaGreat
open Go.RowKit Go.Deep
def toA (j:Nat) (x:VR):RAns:=⟨x.1,x.2.1,j,x.2.2⟩
theorem need_okR {T:List Tok} {s:ByteArray} {i j:Nat} {u:Unit} (h:pNeed T s i=some (.ok (u,j))):isT T i s=true∧j=i+1:=by
 unfold pNeed at h
 split at h
 ·rename_i hs;cases h;exact ⟨hs,rfl⟩
 ·cases h
section
variable {E:Env}
theorem stop1R (hN:E.mode≠0) (σ:St):stopB E σ=false:=by simp [stopB,hN]
theorem is1 (hN:E.mode≠0) (σ:St) (i:Nat) (s:ByteArray):isB E σ i s=isT E.toks i s:=by simp [isB,stop1R hN,isT,tokAt,tkAt]
theorem need1 (hN:E.mode≠0) (σ:St) {i j:Nat} {s:ByteArray} {u:Unit} (h:pNeed E.toks s i=some (.ok (u,j))):needI E σ i s=j∧needS E σ i s=σ:=by
 obtain ⟨hs,rfl⟩:=need_okR h
 unfold needI needS
 rw [is1 hN,hs]
 simp
theorem any1 (hN:E.mode≠0) (σ:St) (i:Nat) (ops:List ByteArray):ops.any (isB E σ i)=ops.any (isT E.toks i):=by
 congr 1
 funext s
 exact is1 hN _ _ _
theorem chk1 {j:Nat} (hj:j < E.toks.length) (x:VR):chk E (toA j x)=(okV x).map (toA j):=by
 unfold chk okV
 by_cases h:OkS x.2.2∧In32 x.1
 ·rw [if_pos h,if_pos ⟨hj,h.1,h.2⟩];rfl
 ·rw [if_neg h,if_neg (fun g=>h ⟨g.2.1,g.2.2⟩)];rfl
end
theorem op_text {E:Env} (hN:E.mode≠0) {σ:St} {i:Nat} {ops:List ByteArray} (h:ops.any (isT E.toks i)=true):opF E σ i ops=(tkAt E.toks i).text:=by
 unfold opF
 cases hf:ops.find? (isB E σ i) with
 | none=>
  obtain ⟨s,hs,ht⟩:=List.any_eq_true.1 h
  have:=List.find?_eq_none.1 hf s hs
  rw [is1 hN,ht] at this
  simp at this
 | some t=>
  have ht:=List.find?_some hf
  rw [is1 hN] at ht
  exact (isT_text ht).symm
def plainOp (s:ByteArray):Prop:=s.toList≠[]∧(s.toList==sPEEK.toList)=false∧(s.toList==sSPY.toList)=false∧(s.toList==sMIN.toList)=false∧(s.toList==sMAX.toList)=false
theorem twoT_plain {E:Env} {live:Bool} {t:Tok} (h:plainOp t.text) (A B:St→Option VR) (σ:St):twoT E live t A B σ=(A σ).bind fun a=>(B (stepS E a.2.2 live)).bind fun b=>binT t a b:=by
 unfold twoT txt
 rw [h.2.1,h.2.2.1,h.2.2.2.1,h.2.2.2.2]
 rfl
theorem plainT:∀s∈opsT,plainOp s:=by
 intro s hs
 simp only [opsT,List.mem_cons,List.not_mem_nil,or_false] at hs
 rcases hs with rfl | rfl <;> (unfold plainOp;simp only [ByteArray.toList_eq];decide)
theorem plainS:∀s∈opsS,plainOp s:=by
 intro s hs
 simp only [opsS,List.mem_cons,List.not_mem_nil,or_false] at hs
 rcases hs with rfl | rfl <;> (unfold plainOp;simp only [ByteArray.toList_eq];decide)
theorem plainE:∀s∈opsE,plainOp s:=by
 intro s hs
 simp only [opsE,List.mem_cons,List.not_mem_nil,or_false] at hs
 rcases hs with rfl | rfl | rfl | rfl <;> (unfold plainOp;simp only [ByteArray.toList_eq];decide)
def Rel1 (E:Env) (M:MX) (P:PE):Prop:=∀i t j,i < E.toks.length→P E.toks i=some (.ok (t,j))→isN t∧∀σ live,M E σ i live=(wkX E live t σ).map (toA j)
section
variable {E:Env} {M:MX} {P:PE}
theorem fwd_ok (hF:FwdP P) (hT:TokOK E) {i j:Nat} {t:Ex} (hi:i < E.toks.length) (h:P E.toks i=some (.ok (t,j))):i < j∧j < E.toks.length:=by
 have:=hF E.toks i hT.last hi
 rw [h] at this
 exact ⟨this.1,this.2⟩
theorem chain_go (hN:E.mode≠0) {ops:List ByteArray} (hne:∀s∈ops,s.toList≠[]) {live:Bool} {n:Nat} (q:RAns) (hany:ops.any (isT E.toks q.to)=true) (hi:q.to+1 < E.toks.length) :
  chainM M ops E live (n+1) q=(M E (stepS E q.σ live) (q.to+1) live).bind fun x=>chainM M ops E live n ⟨doesV (tkAt E.toks q.to).text q.v x.v,q.h||x.h,x.to,x.σ⟩:=by
 rw [chainM,op_none hne,any1 hN,hany,if_neg (by simp),if_pos hi,op_text hN hany]
theorem chain_end (hN:E.mode≠0) {ops:List ByteArray} (hne:∀s∈ops,s.toList≠[]) {live:Bool} {n:Nat} (q:RAns) (hany:ops.any (isT E.toks q.to)=false):chainM M ops E live (n+1) q=some q:=by
 rw [chainM,op_none hne,any1 hN,hany,if_pos (by simp)]
theorem pair_go (hN:E.mode≠0) {live:Bool} (q:RAns) (hany:opsE.any (isT E.toks q.to)=true) (hi:q.to+1 < E.toks.length) :
  pairM M E live q=(M E (stepS E q.σ live) (q.to+1) live).bind fun x=>some ⟨doesV (tkAt E.toks q.to).text q.v x.v,q.h||x.h,x.to,x.σ⟩:=by
 rw [pairM,op_none ne_opsE,any1 hN,hany,if_neg (by simp),if_pos hi,op_text hN hany]
theorem pair_end (hN:E.mode≠0) {live:Bool} (q:RAns) (hany:opsE.any (isT E.toks q.to)=false):pairM M E live q=some q:=by
 rw [pairM,op_none ne_opsE,any1 hN,hany,if_pos (by simp)]
theorem chain_rel1 (hN:E.mode≠0) (hT:TokOK E) (hR:Rel1 E M P) (hF:FwdP P) {ops:List ByteArray} (hp:∀s∈ops,plainOp s) (n:Nat):∀e i t j,i < E.toks.length→isN e→pChain P ops E.toks n e i=some (.ok (t,j)) →
  isN t∧∀σ live,(wkX E live e σ).bind (fun x=>chainM M ops E live (n+1) (toA i x))=(wkX E live t σ).map (toA j):=by
 have hne:∀s∈ops,s.toList≠[]:=fun s hs=>(hp s hs).1
 induction n with
 | zero=>intro e i t j _ _ h;cases h
 | succ n ih=>
  intro e i t j hi he h
  rw [pChain] at h
  split at h
  ·rename_i hany
   obtain ⟨x,j1,h1,h2⟩:=then_ok h
   obtain ⟨s,hs,hst⟩:=List.any_eq_true.1 hany
   have hi1:=isT_next hT.last hi hst
   obtain ⟨hx,hMx⟩:=hR (i+1) x j1 hi1 h1
   have f1:=fwd_ok hF hT hi1 h1
   obtain ⟨ht,hrest⟩:=ih (node2 (tkAt E.toks i) e x) j1 t j f1.2 trivial h2
   refine ⟨ht,fun σ live=>?_⟩
   rw [←hrest σ live,wkX_two _ (isT_leaf hst) he hx,twoT_plain (by rw [isT_text hst];exact hp s hs)]
   rw [Option.bind_assoc]
   congr 1
   funext a
   rw [chain_go hN hne (toA i a) hany hi1]
   show (M E (stepS E a.2.2 live) (i+1) live).bind _=_
   rw [hMx,Option.bind_map,Option.bind_assoc]
   rfl
  ·rename_i hany
   cases h
   refine ⟨he,fun σ live=>?_⟩
   have hany':ops.any (isT E.toks i)=false:=Bool.eq_false_iff.2 hany
   have:(fun x=>chainM M ops E live (n+1+1) (toA i x))=fun x=>some (toA i x):=by
    funext a
    exact chain_end hN hne (toA i a) hany'
   rw [this]
   cases wkX E live e σ <;> rfl
theorem level_rel1 (hN:E.mode≠0) (hT:TokOK E) (hR:Rel1 E M P) (hF:FwdP P) {ops:List ByteArray} (hp:∀s∈ops,plainOp s) (n:Nat):Rel1 E (levelM M ops (n+1)) (pLevel P ops n):=by
 intro i t j hi h
 unfold pLevel at h
 split at h
 ·cases h
 obtain ⟨x,j1,h1,h2⟩:=then_ok h
 obtain ⟨hx,hMx⟩:=hR i x j1 hi h1
 have f1:=fwd_ok hF hT hi h1
 obtain ⟨ht,hrest⟩:=chain_rel1 hN hT hR hF hp n x j1 t j f1.2 hx h2
 refine ⟨ht,fun σ live=>?_⟩
 unfold levelM
 rw [hMx,←hrest σ live,Option.bind_map]
 rfl
theorem expr_rel1 (hN:E.mode≠0) (hT:TokOK E) (hR:Rel1 E M P) (hF:FwdP P):Rel1 E (exprM M) (pExpr P):=by
 intro i t j hi h
 unfold pExpr at h
 obtain ⟨x,j1,h1,h2⟩:=then_ok h
 obtain ⟨hx,hMx⟩:=hR i x j1 hi h1
 have f1:=fwd_ok hF hT hi h1
 unfold pPair at h2
 split at h2
 ·rename_i hany
  obtain ⟨y,j2,h3,h4⟩:=then_ok h2
  cases h4
  obtain ⟨s,hs,hst⟩:=List.any_eq_true.1 hany
  have hi1:=isT_next hT.last f1.2 hst
  obtain ⟨hy,hMy⟩:=hR (j1+1) y j hi1 h3
  refine ⟨trivial,fun σ live=>?_⟩
  rw [wkX_two _ (isT_leaf hst) hx hy,twoT_plain (by rw [isT_text hst];exact plainE s hs)]
  unfold exprM
  rw [hMx,Option.bind_map]
  rw [Option.map_bind]
  congr 1
  funext a
  show pairM M E live (toA j1 a)=_
  rw [pair_go hN (toA j1 a) hany hi1]
  show (M E (stepS E a.2.2 live) (j1+1) live).bind _=_
  rw [hMy,Option.bind_map]
  show _=Option.map (toA j) ((wkX E live y (stepS E a.2.2 live)).bind fun b=>binT (tkAt E.toks j1) a b)
  rw [Option.map_bind]
  rfl
 ·rename_i hany
  cases h2
  refine ⟨hx,fun σ live=>?_⟩
  have hany':opsE.any (isT E.toks j)=false:=Bool.eq_false_iff.2 hany
  unfold exprM
  rw [hMx,Option.bind_map]
  have:(pairM M E live ∘ toA j)=fun x=>some (toA j x):=by
   funext a
   exact pair_end hN (toA j a) hany'
  rw [this]
  cases wkX E live t σ <;> rfl
end
end Go.Proofs.YthmmgiaobakilaaGreat

set_option maxRecDepth 100000
namespace Go.Proofs.YthmmgiaobakilaaGreat
open Go.RowKit Go.Deep
section
variable {E:Env} {X F:MX} {P Q:PE}
theorem chk2 {j:Nat} (hj:j < E.toks.length) (v:Int) (b:Bool) (σ:St):chk E ⟨v,b,j,σ⟩=(okV (v,b,σ)).map (toA j):=chk1 hj (v,b,σ)
theorem named1 (σ:St) (i:Nat) (live:Bool):namedA E σ i live=toA (i+1) (namedT E σ (tokAt E i) live):=by
 unfold namedA namedT
 split
 ·rfl
 split
 ·rfl
 split
 ·rename_i h
  rw [if_pos (show usedKT (stepS E σ live) (tokAt E i) < 0 from h)]
  rfl
 ·rename_i h
  rw [if_neg (show ¬ usedKT (stepS E σ live) (tokAt E i) < 0 from h)]
  rfl
theorem tex1_rel1 (hN:E.mode≠0) {i j:Nat} {live hid:Bool} {a b:VR} {ja jb:Nat} {u:Unit} (hj:j < E.toks.length) (hc:pNeed E.toks sBC jb=some (.ok (u,j))):texEnd E i live hid (toA ja a) (toA jb b)=(texT E (tokAt E i) live hid a b).map (toA j):=by
 unfold texT
 change (if livesB E (flowS E (needS E b.2.2 jb sBC) i (a.2.1||b.2.1)) live then
  (if 1≤E.sw∧E.sw≤6∧1≤E.sh∧E.sh≤6∧0≤placeR E a.1 b.1∧placeR E a.1 b.1 < E.opens.length∧placeR E a.1 b.1 < E.hids.length then
   chk E ⟨(if hid then E.hids else E.opens).getD (placeR E a.1 b.1).toNat 0,hid,needI E b.2.2 jb sBC,touchS (flowS E (needS E b.2.2 jb sBC) i (a.2.1||b.2.1)) (truthV hid) (placeR E a.1 b.1)⟩
  else none)
  else chk E ⟨0,hid||a.2.1||b.2.1,needI E b.2.2 jb sBC,flowS E (needS E b.2.2 jb sBC) i (a.2.1||b.2.1)⟩)=_
 rw [(need1 hN _ hc).1,(need1 hN _ hc).2]
 have ef:flowS E b.2.2 i (a.2.1||b.2.1)=flowT E b.2.2 (tokAt E i) (a.2.1||b.2.1):=rfl
 rw [ef]
 cases hl:livesB E (flowT E b.2.2 (tokAt E i) (a.2.1||b.2.1)) live
 ·rw [if_neg (by simp),if_neg (by simp)]
  exact chk1 hj (0,hid||a.2.1||b.2.1,flowT E b.2.2 (tokAt E i) (a.2.1||b.2.1))
 ·rw [if_pos rfl,if_pos rfl]
  split
  ·exact chk2 hj _ _ _
  ·rfl
theorem tex1_go {i j:Nat} {live hid:Bool} (q:RAns) (h1:needI E q.σ q.to sCM=j) (h2:needS E q.σ q.to sCM=q.σ) (hj:j < E.toks.length):tex1 X hid E i live q=(X E q.σ j live).bind fun b=>texEnd E i live hid q b:=by
 unfold tex1
 rw [h1,h2,if_pos hj]
theorem texel_rel1 (hN:E.mode≠0) (hT:TokOK E) (hR:Rel1 E X P) (hF:FwdP P) (hid:Bool) {i j:Nat} {t:Ex} (hi:i+1 < E.toks.length) (hl:(((tkAt E.toks i).kind==2)||((tkAt E.toks i).kind==1))=false) (h:pTwo P sBO sBC E.toks i=some (.ok (t,j)))
  (ht:∀(A B:St→Option VR) (live:Bool) (σ:St),twoT E live (tkAt E.toks i) A B σ=(A (stepS E σ live)).bind fun a=>(B a.2.2).bind fun b=>texT E (tkAt E.toks i) live hid a b) :
  isN t∧∀σ live,texelM X hid E σ i live=(wkX E live t σ).map (toA j):=by
 unfold pTwo at h
 obtain ⟨u1,j1,h1,h⟩:=then_ok h
 obtain ⟨a,j2,h2,h⟩:=then_ok h
 obtain ⟨u3,j3,h3,h⟩:=then_ok h
 obtain ⟨b,j4,h4,h⟩:=then_ok h
 obtain ⟨u5,j5,h5,h⟩:=then_ok h
 cases h
 have l1:j1 < E.toks.length:=by have:=need_fwd (s:=sBO) hT.last hi;rw [h1] at this;exact this.2
 obtain ⟨ha,hMa⟩:=hR j1 a j2 l1 h2
 have l2:=(fwd_ok hF hT l1 h2).2
 have l3:j3 < E.toks.length:=by have:=need_fwd (s:=sCM) hT.last l2;rw [h3] at this;exact this.2
 obtain ⟨hb,hMb⟩:=hR j3 b j4 l3 h4
 have l4:=(fwd_ok hF hT l3 h4).2
 have l5:j < E.toks.length:=by have:=need_fwd (s:=sBC) hT.last l4;rw [h5] at this;exact this.2
 refine ⟨trivial,fun σ live=>?_⟩
 rw [wkX_two _ hl ha hb,ht,texel_eq,(need1 hN _ h1).1,(need1 hN _ h1).2,if_pos ⟨hi,l1⟩,hMa,Option.bind_map,Option.map_bind]
 congr 1
 funext x
 show tex1 X hid E i live (toA j2 x)=_
 rw [tex1_go (toA j2 x) (need1 hN _ h3).1 (need1 hN _ h3).2 l3]
 show (X E x.2.2 j3 live).bind _=_
 rw [hMb,Option.bind_map]
 show _=Option.map (toA j) ((wkX E live b x.2.2).bind fun y=>texT E (tkAt E.toks i) live hid x y)
 rw [Option.map_bind]
 congr 1
 funext y
 exact tex1_rel1 hN l5 h5
theorem items1 {live:Bool} {m j:Nat} {vs:List Int} {h:Bool} {σ:St} {a:Ex} {j2:Nat} (pre:preI E ⟨vs,h,j,σ⟩ < E.toks.length) (hM:X E (preS E ⟨vs,h,j,σ⟩) (preI E ⟨vs,h,j,σ⟩) live=(wkX E live a (preS E ⟨vs,h,j,σ⟩)).map (toA j2)) :
  itemsM X E live (m+1) ⟨vs,h,j,σ⟩=(wkX E live a (preS E ⟨vs,h,j,σ⟩)).bind fun x=>itemsM X E live m ⟨vs++[x.1],h||x.2.1,j2,x.2.2⟩:=by
 rw [itemsM,if_pos pre,hM,Option.bind_map]
 rfl
theorem pre_next (hN:E.mode≠0) {vs:List Int} {h:Bool} {j j1:Nat} {σ:St} {u:Unit} (hv:vs.length≠0) (hc:pNeed E.toks sCM j=some (.ok (u,j1))):preI E ⟨vs,h,j,σ⟩=j1∧preS E ⟨vs,h,j,σ⟩=σ:=by
 unfold preI preS
 rw [if_neg hv,if_neg hv]
 exact need1 hN _ hc
theorem two_rel1 (hN:E.mode≠0) (hT:TokOK E) (hR:Rel1 E X P) (hF:FwdP P) {i j:Nat} {t:Ex} (hi:i+1 < E.toks.length) (hl:(((tkAt E.toks i).kind==2)||((tkAt E.toks i).kind==1))=false) (h:pTwo P sPO sPC E.toks i=some (.ok (t,j)))
  (ht:∀(A B:St→Option VR) (live:Bool) (σ:St),twoT E live (tkAt E.toks i) A B σ=(A (stepS E σ live)).bind fun a=>(B a.2.2).bind fun b=>bothT (tkAt E.toks i) a b) :
  isN t∧∀σ live,(listM X 2 E σ i live).bind (bothM E (tkAt E.toks i).text)=(wkX E live t σ).map (toA j):=by
 unfold pTwo at h
 obtain ⟨u1,j1,h1,h⟩:=then_ok h
 obtain ⟨a,j2,h2,h⟩:=then_ok h
 obtain ⟨u3,j3,h3,h⟩:=then_ok h
 obtain ⟨b,j4,h4,h⟩:=then_ok h
 obtain ⟨u5,j5,h5,h⟩:=then_ok h
 cases h
 have l1:j1 < E.toks.length:=by have:=need_fwd (s:=sPO) hT.last hi;rw [h1] at this;exact this.2
 obtain ⟨ha,hMa⟩:=hR j1 a j2 l1 h2
 have l2:=(fwd_ok hF hT l1 h2).2
 have l3:j3 < E.toks.length:=by have:=need_fwd (s:=sCM) hT.last l2;rw [h3] at this;exact this.2
 obtain ⟨hb,hMb⟩:=hR j3 b j4 l3 h4
 have l4:=(fwd_ok hF hT l3 h4).2
 have l5:j < E.toks.length:=by have:=need_fwd (s:=sPC) hT.last l4;rw [h5] at this;exact this.2
 refine ⟨trivial,fun σ live=>?_⟩
 rw [wkX_two _ hl ha hb,ht]
 unfold listM
 rw [(need1 hN _ h1).1,(need1 hN _ h1).2,if_pos ⟨hi,l1⟩]
 rw [items1 (a:=a) (j2:=j2) (show preI E ⟨[],false,j1,stepS E σ live⟩ < E.toks.length from l1) (hMa _ _),Option.map_bind]
 simp only [Option.bind_assoc]
 show (wkX E live a (stepS E σ live)).bind _=_
 congr 1
 funext x
 have p2:=pre_next (vs:=[x.1]) (h:=false||x.2.1) (σ:=x.2.2) hN (by simp) h3
 show (itemsM X E live 1 ⟨[x.1],false||x.2.1,j2,x.2.2⟩).bind _=Option.map (toA j) ((wkX E live b x.2.2).bind fun y=>bothT (tkAt E.toks i) x y)
 rw [items1 (a:=b) (j2:=j4) (by rw [p2.1];exact l3) (by rw [p2.1,p2.2];exact hMb _ _),Option.map_bind,p2.2,Option.bind_assoc]
 congr 1
 funext y
 show ((some _:Option LS).bind _)=_
 rw [Option.bind_some]
 dsimp only
 rw [(need1 hN _ h5).1,(need1 hN _ h5).2,Option.bind_some]
 unfold bothM
 show (if ([x.1]++[y.1]).length=2∧In32 x.1∧In32 y.1 then chk E ⟨doesV (tkAt E.toks i).text x.1 y.1,false||x.2.1||y.2.1,j,y.2.2⟩ else none)=Option.map (toA j) (bothT (tkAt E.toks i) x y)
 unfold bothT
 by_cases hg:In32 x.1∧In32 y.1
 ·rw [if_pos ⟨rfl,hg⟩,if_pos hg,Bool.false_or]
  exact chk2 l5 _ _ _
 ·rw [if_neg (fun g=>hg g.2),if_neg hg]
  rfl
theorem three_rel1 (hN:E.mode≠0) (hT:TokOK E) (hR:Rel1 E X P) (hF:FwdP P) {i j:Nat} {t:Ex} (hi:i+1 < E.toks.length) (hl:(((tkAt E.toks i).kind==2)||((tkAt E.toks i).kind==1))=false) (h:pThree P sPO sPC E.toks i=some (.ok (t,j))) :
  isN t∧∀σ live,(listM X 3 E σ i live).bind (selM E)=(wkX E live t σ).map (toA j):=by
 unfold pThree at h
 obtain ⟨u1,j1,h1,h⟩:=then_ok h
 obtain ⟨a,j2,h2,h⟩:=then_ok h
 obtain ⟨u3,j3,h3,h⟩:=then_ok h
 obtain ⟨b,j4,h4,h⟩:=then_ok h
 obtain ⟨u5,j5,h5,h⟩:=then_ok h
 obtain ⟨c,j6,h6,h⟩:=then_ok h
 obtain ⟨u7,j7,h7,h⟩:=then_ok h
 cases h
 have l1:j1 < E.toks.length:=by have:=need_fwd (s:=sPO) hT.last hi;rw [h1] at this;exact this.2
 obtain ⟨ha,hMa⟩:=hR j1 a j2 l1 h2
 have l2:=(fwd_ok hF hT l1 h2).2
 have l3:j3 < E.toks.length:=by have:=need_fwd (s:=sCM) hT.last l2;rw [h3] at this;exact this.2
 obtain ⟨hb,hMb⟩:=hR j3 b j4 l3 h4
 have l4:=(fwd_ok hF hT l3 h4).2
 have l5:j5 < E.toks.length:=by have:=need_fwd (s:=sCM) hT.last l4;rw [h5] at this;exact this.2
 obtain ⟨hc,hMc⟩:=hR j5 c j6 l5 h6
 have l6:=(fwd_ok hF hT l5 h6).2
 have l7:j < E.toks.length:=by have:=need_fwd (s:=sPC) hT.last l6;rw [h7] at this;exact this.2
 refine ⟨trivial,fun σ live=>?_⟩
 rw [wkX_three _ hl ha hb hc]
 unfold listM
 rw [(need1 hN _ h1).1,(need1 hN _ h1).2,if_pos ⟨hi,l1⟩]
 rw [items1 (a:=a) (j2:=j2) (show preI E ⟨[],false,j1,stepS E σ live⟩ < E.toks.length from l1) (hMa _ _),Option.map_bind]
 simp only [Option.bind_assoc]
 show (wkX E live a (stepS E σ live)).bind _=_
 congr 1
 funext x
 have p2:=pre_next (vs:=[x.1]) (h:=false||x.2.1) (σ:=x.2.2) hN (by simp) h3
 show (itemsM X E live 2 ⟨[x.1],false||x.2.1,j2,x.2.2⟩).bind _=Option.map (toA j) ((wkX E live b x.2.2).bind fun y=>(wkX E live c y.2.2).bind fun z=>selT x y z)
 rw [items1 (a:=b) (j2:=j4) (by rw [p2.1];exact l3) (by rw [p2.1,p2.2];exact hMb _ _),Option.map_bind,p2.2,Option.bind_assoc]
 congr 1
 funext y
 have p3:=pre_next (vs:=[x.1]++[y.1]) (h:=false||x.2.1||y.2.1) (σ:=y.2.2) hN (by simp) h5
 show (itemsM X E live 1 ⟨[x.1]++[y.1],false||x.2.1||y.2.1,j4,y.2.2⟩).bind _=Option.map (toA j) ((wkX E live c y.2.2).bind fun z=>selT x y z)
 rw [items1 (a:=c) (j2:=j6) (by rw [p3.1];exact l5) (by rw [p3.1,p3.2];exact hMc _ _),Option.map_bind,p3.2,Option.bind_assoc]
 congr 1
 funext z
 show ((some _:Option LS).bind _)=_
 rw [Option.bind_some]
 dsimp only
 rw [(need1 hN _ h7).1,(need1 hN _ h7).2,Option.bind_some]
 have e:selM E ⟨[x.1]++[y.1]++[z.1],false||x.2.1||y.2.1||z.2.1,j,z.2.2⟩=if x.1=0 then chk E ⟨z.1,false||x.2.1||y.2.1||z.2.1,j,z.2.2⟩ else chk E ⟨y.1,false||x.2.1||y.2.1||z.2.1,j,z.2.2⟩:=by simp [selM]
 rw [e,Bool.false_or]
 show _=Option.map (toA j) (selT x y z)
 unfold selT
 split
 ·exact chk2 l7 _ _ _
 ·exact chk2 l7 _ _ _
theorem opF1 (hN:E.mode≠0) (σ:St) (i:Nat) {s:ByteArray} {L:List UInt8} (hs:s∈opsF) (hL:s.toList=L) (hne:L≠[]):((opF E σ i opsF).toList==L)=isT E.toks i s:=by
 rw [←hL,op_is hs (by rw [hL];exact hne),is1 hN]
theorem opF1_text (hN:E.mode≠0) (σ:St) (i:Nat) {s:ByteArray} (hs:s∈opsF) (h:isT E.toks i s=true):opF E σ i opsF=(tkAt E.toks i).text:=op_text hN (List.any_eq_true.2 ⟨s,hs,h⟩)
theorem txt_of {T:List Tok} {i:Nat} {s u:ByteArray} (h:isT T i s=true):txt (tkAt T i) u=(s.toList==u.toList):=by
 unfold txt
 rw [isT_text h]
theorem factor_rel1 (hN:E.mode≠0) (hT:TokOK E) (hR:Rel1 E X P) (gX:SubGood X) (hF:FwdP P) (hR2:Rel1 E F Q) (hF2:FwdP Q):Rel1 E (factorM X F) (pFactor P Q):=by
 intro i t j hi h
 have fw:j < E.toks.length:=(fwd_ok (factor_fwd hF hF2) hT hi h).2
 have un:∀σ live,factorM X F E σ i live=if (tkAt E.toks i).kind==2 then chk E (namedA E σ i live) else if (tkAt E.toks i).kind==1 then chk E (namedA E σ i live) else signM X F E σ i live (opF E σ i opsF):=fun σ live=>by
  unfold factorM
  rw [if_neg (by rw [stop1R hN];simp)]
  rfl
 unfold pFactor at h
 split at h
 ·rename_i hk
  cases h
  refine ⟨trivial,fun σ live=>?_⟩
  rw [un,if_pos hk,named1,chk1 fw,wkX_leaf _ (by rw [hk];rfl)]
  rfl
 rename_i hk2
 split at h
 ·rename_i hk
  cases h
  refine ⟨trivial,fun σ live=>?_⟩
  rw [un,if_neg hk2,if_pos hk,named1,chk1 fw,wkX_leaf _ (by rw [hk];simp)]
  rfl
 rename_i hk1
 have hl:(((tkAt E.toks i).kind==2)||((tkAt E.toks i).kind==1))=false:=by simp [hk2,hk1]
 have un2:∀σ live,factorM X F E σ i live=signM X F E σ i live (opF E σ i opsF):=fun σ live=>by rw [un,if_neg hk2,if_neg hk1]
 have sg:∀σ live,signM X F E σ i live (opF E σ i opsF) =
   if isT E.toks i sPO then (if i+1 < E.toks.length then (X E σ (i+1) live).bind fun r=>chk E ⟨r.v,r.h,needI E r.σ r.to sPC,needS E r.σ r.to sPC⟩ else none) else
   if isT E.toks i sNEG then (if i+1 < E.toks.length then (F E (stepS E σ live) (i+1) live).bind fun r=>chk E ⟨wrapV (-r.v),r.h,r.to,r.σ⟩ else none) else
   if isT E.toks i sPEEK then texelM X false E σ i live else
   if isT E.toks i sSPY then texelM X true E σ i live else
   if isT E.toks i sMIN then (listM X 2 E σ i live).bind (bothM E (opF E σ i opsF)) else
   if isT E.toks i sMAX then (listM X 2 E σ i live).bind (bothM E (opF E σ i opsF)) else
   if isT E.toks i sSEL then (listM X 3 E σ i live).bind (selM E) else
   chk E ⟨0,false,E.toks.length-1,wrongS E σ i 9⟩:=fun σ live=>by
  unfold signM
  rw [opF1 hN σ i (s:=sPO) (by simp [opsF,sPO]) (by rw [ByteArray.toList_eq];rfl) (by simp),opF1 hN σ i (s:=sNEG) (by simp [opsF,sNEG]) (by rw [ByteArray.toList_eq];rfl) (by simp),
   opF1 hN σ i (s:=sPEEK) (by simp [opsF,sPEEK]) (by rw [ByteArray.toList_eq];rfl) (by simp),opF1 hN σ i (s:=sSPY) (by simp [opsF,sSPY]) (by rw [ByteArray.toList_eq];rfl) (by simp),
   opF1 hN σ i (s:=sMIN) (by simp [opsF,sMIN]) (by rw [ByteArray.toList_eq];rfl) (by simp),opF1 hN σ i (s:=sMAX) (by simp [opsF,sMAX]) (by rw [ByteArray.toList_eq];rfl) (by simp),
   opF1 hN σ i (s:=sSEL) (by simp [opsF,sSEL]) (by rw [ByteArray.toList_eq];rfl) (by simp)]
 split at h
 ·rename_i hs
  have h1:=isT_next hT.last hi hs
  obtain ⟨e,j1,e1,h⟩:=then_ok h
  obtain ⟨u,j2,e2,h⟩:=then_ok h
  cases h
  obtain ⟨he,hM⟩:=hR (i+1) t j1 h1 e1
  refine ⟨he,fun σ live=>?_⟩
  rw [un2,sg,if_pos hs,if_pos h1,hM,Option.bind_map]
  have good:=gX E σ (i+1) live
  rw [hM] at good
  cases hw:wkX E live t σ with
  | none=>rfl
  | some x=>
   rw [hw] at good
   have g:=good (toA j1 x) rfl
   show chk E ⟨x.1,x.2.1,needI E x.2.2 j1 sPC,needS E x.2.2 j1 sPC⟩=_
   rw [(need1 hN _ e2).1,(need1 hN _ e2).2]
   exact chk_ok ⟨fw,g.2.1,g.2.2⟩
 rename_i hs0
 split at h
 ·rename_i hs
  have h1:=isT_next hT.last hi hs
  obtain ⟨e,j1,e1,h⟩:=then_ok h
  cases h
  obtain ⟨he,hM⟩:=hR2 (i+1) e j h1 e1
  refine ⟨trivial,fun σ live=>?_⟩
  rw [un2,sg,if_neg hs0,if_pos hs,if_pos h1,hM,Option.bind_map,wkX_one _ hl he,Option.map_bind]
  congr 1
  funext x
  exact chk2 fw _ _ _
 rename_i hs1
 split at h
 ·rename_i hs
  have:=texel_rel1 hN hT hR hF false (isT_next hT.last hi hs) hl h (fun A B live σ=>by unfold twoT;rw [if_pos (by rw [txt_of hs];simp)])
  exact ⟨this.1,fun σ live=>by rw [un2,sg,if_neg hs0,if_neg hs1,if_pos hs];exact this.2 σ live⟩
 rename_i hs2
 split at h
 ·rename_i hs
  have:=texel_rel1 hN hT hR hF true (isT_next hT.last hi hs) hl h (fun A B live σ=>by unfold twoT;rw [txt_of hs,txt_of hs,if_neg (by simp only [ByteArray.toList_eq];decide),if_pos (by simp)])
  exact ⟨this.1,fun σ live=>by rw [un2,sg,if_neg hs0,if_neg hs1,if_neg hs2,if_pos hs];exact this.2 σ live⟩
 rename_i hs3
 split at h
 ·rename_i hs
  have:=two_rel1 hN hT hR hF (isT_next hT.last hi hs) hl h (fun A B live σ=>by unfold twoT;rw [txt_of hs,txt_of hs,txt_of hs,if_neg (by simp only [ByteArray.toList_eq];decide),if_neg (by simp only [ByteArray.toList_eq];decide),if_pos (by simp)])
  exact ⟨this.1,fun σ live=>by rw [un2,sg,if_neg hs0,if_neg hs1,if_neg hs2,if_neg hs3,if_pos hs,opF1_text hN σ i (s:=sMIN) (by simp [opsF,sMIN]) hs];exact this.2 σ live⟩
 rename_i hs4
 split at h
 ·rename_i hs
  have:=two_rel1 hN hT hR hF (isT_next hT.last hi hs) hl h (fun A B live σ=>by unfold twoT;rw [txt_of hs,txt_of hs,txt_of hs,txt_of hs,if_neg (by simp only [ByteArray.toList_eq];decide),if_neg (by simp only [ByteArray.toList_eq];decide),if_neg (by simp only [ByteArray.toList_eq];decide),if_pos (by simp)])
  exact ⟨this.1,fun σ live=>by rw [un2,sg,if_neg hs0,if_neg hs1,if_neg hs2,if_neg hs3,if_neg hs4,if_pos hs,opF1_text hN σ i (s:=sMAX) (by simp [opsF,sMAX]) hs];exact this.2 σ live⟩
 rename_i hs5
 split at h
 ·rename_i hs
  have:=three_rel1 hN hT hR hF (isT_next hT.last hi hs) hl h
  exact ⟨this.1,fun σ live=>by rw [un2,sg,if_neg hs0,if_neg hs1,if_neg hs2,if_neg hs3,if_neg hs4,if_neg hs5,if_pos hs];exact this.2 σ live⟩
 ·cases h
theorem XF_rel1 (hN:E.mode≠0) (hT:TokOK E) (n:Nat):Rel1 E (XF n).1 (pXF n).1∧Rel1 E (XF n).2 (pXF n).2:=by
 induction n with
 | zero=>exact ⟨fun i t j _ h=>by (cases h),fun i t j _ h=>by (cases h)⟩
 | succ n ih=>
  rw [pXF]
  split
  ·exact ⟨fun i t j _ h=>by (cases h),fun i t j _ h=>by (cases h)⟩
  rename_i hn
  obtain ⟨m,rfl⟩:∃m,n=m+2:=⟨n-2,by omega⟩
  have fw:=pXF_fwd (m+2)
  have f:=factor_rel1 hN hT ih.1 (XF_ok (m+2)).1.2 fw.1 ih.2 fw.2
  have ff:=factor_fwd fw.1 fw.2
  rw [XF]
  have t:=level_rel1 hN hT f ff plainT (m+1)
  have tf:=level_fwd ff opsT (m+1)
  have s:=level_rel1 hN hT t tf plainS (m+1)
  have sf:=level_fwd tf opsS (m+1)
  exact ⟨expr_rel1 hN hT s sf,f⟩
end
end Go.Proofs.YthmmgiaobakilaaGreat

set_option maxRecDepth 100000
namespace Go.Proofs.YthmmgiaobakilaaGreat
open Go.RowKit Go.Deep
def M12 (E:Env):Prop:=E.mode=1∨E.mode=2
section
variable {E:Env} (h:M12 E)
theorem M12.ne0 (h:M12 E):E.mode≠0:=by rcases h with h | h <;> rw [h] <;> decide
theorem M12.ne3 (h:M12 E):(E.mode==3)=false:=by rcases h with h | h <;> rw [h] <;> rfl
theorem M12.lives (h:M12 E) (σ:St) (live:Bool):livesB E σ live=false:=by simp [livesB,h.ne3]
theorem M12.step (h:M12 E) (σ:St) (live:Bool):stepS E σ live=σ:=by simp [stepS,h.lives]
theorem M12.stepB (h:M12 E) (σ:St) (live:Bool):stepB E σ live=false:=by simp [Go.Proofs.YthmmgiaobakilaaGreat.stepB,h.lives]
end
def hidName (l:List CellR) (s:ByteArray):Bool:=if findN l s < 0 then false else (l.getD (findN l s).toNat noCell).hid
def isOp (t:Tok):Bool:=!((t.kind==2)||(t.kind==1))
def exH (l:List CellR):Ex→Bool
 | .nil=>false
 | .node _ _ t k r=>((t.kind==1)&&hidName l t.text)||(isOp t&&txt t sSPY)||exH l k||exH l r
def hdS (E:Env) (t:Tok) (b:Bool) (σ:St):St:=if t.kind==1 then usedT E σ t else if isOp t&&(txt t sPEEK||txt t sSPY) then flowT E σ t b else σ
def exS (E:Env):Ex→St→St
 | .nil,σ=>σ
 | .node _ _ t k r,σ=>exS E r (hdS E t (exH σ.cells k) (exS E k σ))
def WF:Ex→Prop
 | .nil=>True
 | .node _ _ t k r=>((isOp t=false∧k = .nil∧In32 t.num)∨(isOp t=true∧(lenE k=2∨((lenE k=1∨lenE k=3)∧txt t sPEEK=false∧txt t sSPY=false))))∧WF k∧WF r
def hH (l:List CellR) (e:Ex):Bool:=exH l (besideE e .nil)
def hS (E:Env) (e:Ex) (σ:St):St:=exS E (besideE e .nil) σ
def SameSt (σ τ:St):Prop:=τ = { σ with fault:=τ.fault,place:=τ.place }
theorem SameSt.refl (σ:St):SameSt σ σ:=rfl
theorem SameSt.trans {a b c:St} (h1:SameSt a b) (h2:SameSt b c):SameSt a c:=by
 unfold SameSt at *
 rw [h2,h1]
theorem SameSt.cells {a b:St} (h:SameSt a b):b.cells=a.cells:=by rw [h]
theorem SameSt.ok {a b:St} (h:SameSt a b) (ha:OkS a):OkS b:=by rw [h];exact ha
theorem wrongT_same (σ:St) (t:Tok) (e:Int):SameSt σ (wrongT σ t e):=by unfold wrongT;split <;> rfl
theorem usedT_same (E:Env) (σ:St) (t:Tok):SameSt σ (usedT E σ t):=by
 unfold usedT
 split
 ·exact wrongT_same _ _ _
 ·rfl
theorem flowT_same (E:Env) (σ:St) (t:Tok) (b:Bool):SameSt σ (flowT E σ t b):=by
 unfold flowT
 split
 ·exact wrongT_same _ _ _
 ·rfl
theorem hdS_same (E:Env) (t:Tok) (b:Bool) (σ:St):SameSt σ (hdS E t b σ):=by
 unfold hdS
 split
 ·exact usedT_same _ _ _
 split
 ·exact flowT_same _ _ _ _
 ·rfl
theorem exS_same (E:Env):∀(e:Ex) (σ:St),SameSt σ (exS E e σ)
 | .nil,_=>rfl
 | .node _ _ t k r,σ=>((exS_same E k σ).trans (hdS_same E t _ _)).trans (exS_same E r _)
theorem hH_node (l:List CellR) (b o:Nat) (t:Tok) (k r:Ex):hH l (.node b o t k r)=(((t.kind==1)&&hidName l t.text)||(isOp t&&txt t sSPY)||exH l k):=by
 show exH l (.node b o t k .nil)=_
 rw [exH,exH]
 simp
theorem hS_node (E:Env) (b o:Nat) (t:Tok) (k r:Ex) (σ:St):hS E (.node b o t k r) σ=hdS E t (exH σ.cells k) (exS E k σ):=rfl
theorem lenE_one {k:Ex} (h:lenE k=1):∃b o t j,k = .node b o t j .nil:=by
 match k,h with
 | .node b o t j .nil,_=>exact ⟨b,o,t,j,rfl⟩
 | .node _ _ _ _ (.node _ _ _ _ _),h=>simp [lenE] at h
theorem lenE_two {k:Ex} (h:lenE k=2):∃b o t j r,k = .node b o t j r∧lenE r=1:=by
 match k,h with
 | .node b o t j r,h=>exact ⟨b,o,t,j,r,rfl,by simpa [lenE] using h⟩
theorem lenE_three {k:Ex} (h:lenE k=3):∃b o t j r,k = .node b o t j r∧lenE r=2:=by
 match k,h with
 | .node b o t j r,h=>exact ⟨b,o,t,j,r,rfl,by simpa [lenE] using h⟩
theorem okV_ok {r:VR} (h1:OkS r.2.2) (h2:In32 r.1):okV r=some r:=by rw [okV,if_pos ⟨h1,h2⟩]
theorem named12 {E:Env} (hm:M12 E) (σ:St) (t:Tok) (live:Bool) (hk:t.kind=1):namedT E σ t live=(0,hidName σ.cells t.text,usedT E σ t):=by
 unfold namedT
 rw [if_neg (by rw [hk];decide),if_neg (by simp [hm.ne0]),hm.step,hm.stepB]
 unfold hidName
 show (if findN σ.cells t.text < 0 then _ else _)=_
 split
 ·rfl
 ·simp only [cellOf,(usedT_same E σ t).cells]
  rfl
theorem txt_peek_spy {t:Tok} (h:txt t sPEEK=true):txt t sSPY=false:=by
 have e:t.text.toList=sPEEK.toList:=by simpa [txt] using h
 unfold txt
 rw [e]
 simp only [ByteArray.toList_eq]
 decide
theorem tex12 {E:Env} (hm:M12 E) {t:Tok} {live hid:Bool} {a b:VR} (hok:OkS b.2.2):texT E t live hid a b=some (0,hid||a.2.1||b.2.1,flowT E b.2.2 t (a.2.1||b.2.1)):=by
 unfold texT
 rw [hm.lives,if_neg (by simp),okV_ok ((flowT_same _ _ _ _).ok hok) in0]
theorem head12 {E:Env} (hm:M12 E) (live:Bool):∀(k:Ex) (b o:Nat) (t:Tok) (r:Ex) (σ:St),WF (.node b o t k r)→OkS σ→∃v,In32 v∧wkX E live (.node b o t k r) σ=some (v,hH σ.cells (.node b o t k r),hS E (.node b o t k r) σ)
 | k,b,o,t,r,σ,hw,hok=>by
  rw [hH_node,hS_node]
  obtain ⟨hsh,hk,_⟩:=hw
  show ∃v,In32 v∧headF E live t (evs E live k) σ=_
  rcases hsh with ⟨ho,rfl,hn⟩ | ⟨ho,hlen⟩
  ·have hl:((t.kind==2)||(t.kind==1))=true:=by
    unfold isOp at ho
    cases h:((t.kind==2)||(t.kind==1))
    ·rw [h] at ho;cases ho
    ·rfl
   unfold headF
   rw [if_pos hl]
   have hop:isOp t=false:=ho
   cases hk2:(t.kind==2)
   ·have hk1:t.kind=1:=by rw [hk2] at hl;simpa using hl
    refine ⟨0,in0,?_⟩
    rw [named12 hm σ t live hk1,okV_ok ((usedT_same E σ t).ok hok) in0]
    simp [exH,exS,hdS,hk1,hop]
   ·have hk2':t.kind=2:=by simpa using hk2
    refine ⟨t.num,hn,?_⟩
    have e:namedT E σ t live=(t.num,false,σ):=by
     unfold namedT
     rw [if_pos hk2,hm.step]
    rw [e,okV_ok hok hn]
    simp [exH,exS,hdS,hk2',hop]
  ·have hl:((t.kind==2)||(t.kind==1))=false:=by
    unfold isOp at ho
    cases h:((t.kind==2)||(t.kind==1))
    ·rfl
    ·rw [h] at ho;cases ho
   have hk1:(t.kind==1)=false:=by
    cases h:(t.kind==1)
    ·rfl
    ·rw [h] at hl;simp at hl
   have hf:∀ks,headF E live t ks σ=match ks with
     | [A]=>(A (stepS E σ live)).bind negT
     | [A,B]=>twoT E live t A B σ
     | [A,B,C]=>(A (stepS E σ live)).bind fun a=>(B a.2.2).bind fun b=>(C b.2.2).bind fun c=>selT a b c
     | _=>none:=fun ks=>by
    unfold headF
    rw [if_neg (by rw [hl];simp)]
    all_goals rfl
   rw [hf]
   have hd:∀bb τ,hdS E t bb τ=if txt t sPEEK||txt t sSPY then flowT E τ t bb else τ:=fun bb τ=>by
    unfold hdS
    rw [hk1,ho]
    simp
   rw [hd,hk1,ho]
   match k,hlen,hk with
   | .nil,hlen,_=>simp [lenE] at hlen
   | .node b1 o1 t1 k1 .nil,hlen,hk=>
    obtain ⟨_,np,ns⟩:_∧txt t sPEEK=false∧txt t sSPY=false:=by
     rcases hlen with h | ⟨_,h⟩
     ·simp [lenE] at h
     ·exact ⟨trivial,h⟩
    obtain ⟨v,hv,e⟩:=head12 hm live k1 b1 o1 t1 .nil σ hk hok
    refine ⟨wrapV (-v),wrapV_in _,?_⟩
    show (wkX E live (.node b1 o1 t1 k1 .nil) (stepS E σ live)).bind negT=_
    rw [hm.step,e,Option.bind_some,negT,np,ns]
    have s1:SameSt σ (hS E (.node b1 o1 t1 k1 .nil) σ):=exS_same E _ σ
    rw [okV_ok (s1.ok hok) (wrapV_in _)]
    rfl
   | .node b1 o1 t1 k1 (.node b2 o2 t2 k2 .nil),hlen,hk=>
    obtain ⟨va,hva,ea⟩:=head12 hm live k1 b1 o1 t1 (.node b2 o2 t2 k2 .nil) σ hk hok
    have s1:SameSt σ (hS E (.node b1 o1 t1 k1 (.node b2 o2 t2 k2 .nil)) σ):=exS_same E _ σ
    obtain ⟨vb,hvb,eb⟩:=head12 hm live k2 b2 o2 t2 .nil (hS E (.node b1 o1 t1 k1 (.node b2 o2 t2 k2 .nil)) σ) hk.2.2 (s1.ok hok)
    have s2:=s1.trans (exS_same E (besideE (.node b2 o2 t2 k2 .nil) .nil) (hS E (.node b1 o1 t1 k1 (.node b2 o2 t2 k2 .nil)) σ))
    rw [s1.cells] at eb
    have eS:exS E (.node b1 o1 t1 k1 (.node b2 o2 t2 k2 .nil)) σ=hS E (.node b2 o2 t2 k2 .nil) (hS E (.node b1 o1 t1 k1 (.node b2 o2 t2 k2 .nil)) σ):=rfl
    have eH:exH σ.cells (.node b1 o1 t1 k1 (.node b2 o2 t2 k2 .nil))=(hH σ.cells (.node b1 o1 t1 k1 (.node b2 o2 t2 k2 .nil))||hH σ.cells (.node b2 o2 t2 k2 .nil)):=by
     rw [hH_node]
     rfl
    rw [eS,eH]
    show ∃v,In32 v∧twoT E live t (wkX E live (.node b1 o1 t1 k1 (.node b2 o2 t2 k2 .nil))) (wkX E live (.node b2 o2 t2 k2 .nil)) σ=_
    generalize hS E (.node b1 o1 t1 k1 (.node b2 o2 t2 k2 .nil)) σ=σa at *
    have okb:=s2.ok hok
    change OkS (hS E (.node b2 o2 t2 k2 .nil) σa) at okb
    generalize hS E (.node b2 o2 t2 k2 .nil) σa=σb at *
    generalize hH σ.cells (.node b1 o1 t1 k1 (.node b2 o2 t2 k2 .nil))=ba at *
    generalize hH σ.cells (.node b2 o2 t2 k2 .nil)=bb at *
    have run:∀f:VR→VR→Option VR,((wkX E live (.node b1 o1 t1 k1 (.node b2 o2 t2 k2 .nil)) (stepS E σ live)).bind fun a=>(wkX E live (.node b2 o2 t2 k2 .nil) a.2.2).bind fun b=>f a b)=f (va,ba,σa) (vb,bb,σb):=fun f=>by
     rw [hm.step,ea,Option.bind_some,eb,Option.bind_some]
    have run2:((wkX E live (.node b1 o1 t1 k1 (.node b2 o2 t2 k2 .nil)) σ).bind fun a=>(wkX E live (.node b2 o2 t2 k2 .nil) (stepS E a.2.2 live)).bind fun b=>binT t a b)=binT t (va,ba,σa) (vb,bb,σb):=by
     rw [ea,Option.bind_some,hm.step,eb,Option.bind_some]
    unfold twoT
    cases hp:txt t sPEEK
    ·cases hs:txt t sSPY
     ·have both:bothT t (va,ba,σa) (vb,bb,σb)=some (doesV t.text va vb,ba||bb,σb):=by
       unfold bothT
       rw [if_pos ⟨hva,hvb⟩,okV_ok okb (doesV_in hva hvb)]
      refine ⟨doesV t.text va vb,doesV_in hva hvb,?_⟩
      rw [if_neg (by simp),if_neg (by simp)]
      split
      ·rw [run,both];simp
      split
      ·rw [run,both];simp
      ·rw [run2];simp [binT]
     ·refine ⟨0,in0,?_⟩
      rw [if_neg (by simp),if_pos rfl,run,tex12 hm okb]
      simp
    ·have hs:=txt_peek_spy hp
     refine ⟨0,in0,?_⟩
     rw [if_pos rfl,run,tex12 hm okb,hs]
     simp
   | .node b1 o1 t1 k1 (.node b2 o2 t2 k2 (.node b3 o3 t3 k3 .nil)),hlen,hk=>
    obtain ⟨_,np,ns⟩:_∧txt t sPEEK=false∧txt t sSPY=false:=by
     rcases hlen with h | ⟨_,h⟩
     ·simp [lenE] at h
     ·exact ⟨trivial,h⟩
    obtain ⟨va,hva,ea⟩:=head12 hm live k1 b1 o1 t1 (.node b2 o2 t2 k2 (.node b3 o3 t3 k3 .nil)) σ hk hok
    have s1:SameSt σ (hS E (.node b1 o1 t1 k1 (.node b2 o2 t2 k2 (.node b3 o3 t3 k3 .nil))) σ):=exS_same E _ σ
    obtain ⟨vb,hvb,eb⟩:=head12 hm live k2 b2 o2 t2 (.node b3 o3 t3 k3 .nil) (hS E (.node b1 o1 t1 k1 (.node b2 o2 t2 k2 (.node b3 o3 t3 k3 .nil))) σ) hk.2.2 (s1.ok hok)
    have s2:SameSt σ (hS E (.node b2 o2 t2 k2 (.node b3 o3 t3 k3 .nil)) (hS E (.node b1 o1 t1 k1 (.node b2 o2 t2 k2 (.node b3 o3 t3 k3 .nil))) σ)):=s1.trans (exS_same E _ _)
    obtain ⟨vc,hvc,ec⟩:=head12 hm live k3 b3 o3 t3 .nil (hS E (.node b2 o2 t2 k2 (.node b3 o3 t3 k3 .nil)) (hS E (.node b1 o1 t1 k1 (.node b2 o2 t2 k2 (.node b3 o3 t3 k3 .nil))) σ)) hk.2.2.2.2 (s2.ok hok)
    rw [s1.cells] at eb
    rw [s2.cells] at ec
    have eS:exS E (.node b1 o1 t1 k1 (.node b2 o2 t2 k2 (.node b3 o3 t3 k3 .nil))) σ=hS E (.node b3 o3 t3 k3 .nil) (hS E (.node b2 o2 t2 k2 (.node b3 o3 t3 k3 .nil)) (hS E (.node b1 o1 t1 k1 (.node b2 o2 t2 k2 (.node b3 o3 t3 k3 .nil))) σ)):=rfl
    have eH:exH σ.cells (.node b1 o1 t1 k1 (.node b2 o2 t2 k2 (.node b3 o3 t3 k3 .nil)))=(hH σ.cells (.node b1 o1 t1 k1 (.node b2 o2 t2 k2 (.node b3 o3 t3 k3 .nil)))||hH σ.cells (.node b2 o2 t2 k2 (.node b3 o3 t3 k3 .nil))||hH σ.cells (.node b3 o3 t3 k3 .nil)):=by
     rw [hH_node,hH_node,Bool.or_assoc]
     rfl
    have s3:SameSt σ (hS E (.node b3 o3 t3 k3 .nil) (hS E (.node b2 o2 t2 k2 (.node b3 o3 t3 k3 .nil)) (hS E (.node b1 o1 t1 k1 (.node b2 o2 t2 k2 (.node b3 o3 t3 k3 .nil))) σ))):=s2.trans (exS_same E _ _)
    have okc:=s3.ok hok
    rw [eS,eH,np,ns]
    show ∃v,In32 v∧((wkX E live (.node b1 o1 t1 k1 (.node b2 o2 t2 k2 (.node b3 o3 t3 k3 .nil))) (stepS E σ live)).bind fun a=>(wkX E live (.node b2 o2 t2 k2 (.node b3 o3 t3 k3 .nil)) a.2.2).bind fun b=>(wkX E live (.node b3 o3 t3 k3 .nil) b.2.2).bind fun c=>selT a b c)=_
    rw [hm.step,ea,Option.bind_some,eb,Option.bind_some,ec,Option.bind_some]
    unfold selT
    split
    ·refine ⟨vc,hvc,?_⟩
     rw [okV_ok okc hvc]
     simp
    ·refine ⟨vb,hvb,?_⟩
     rw [okV_ok okc hvb]
     simp
   | .node _ _ _ _ (.node _ _ _ _ (.node _ _ _ _ (.node _ _ _ _ _))),hlen,_=>simp [lenE] at hlen
end Go.Proofs.YthmmgiaobakilaaGreat

set_option maxRecDepth 100000
namespace Go.Proofs.YthmmgiaobakilaaGreat
open Go.RowKit Go.Deep
theorem wf_beside {a r:Ex} (ha:WF a) (hr:WF r):WF (besideE a r):=by
 cases a with
 | nil=>trivial
 | node b o t k r'=>exact ⟨ha.1,ha.2.1,hr⟩
theorem len_beside {a r:Ex} (ha:isN a):lenE (besideE a r)=lenE r+1:=by
 cases a with
 | nil=>cases ha
 | node b o t k r'=>rfl
def NumOK (T:List Tok):Prop:=∀i,In32 (tkAt T i).num
def WFP (P:PE):Prop:=∀T i t j,NumOK T→P T i=some (.ok (t,j))→isN t∧WF t
theorem isT_op {T:List Tok} {i:Nat} {s:ByteArray} (h:isT T i s=true):isOp (tkAt T i)=true:=by
 unfold isOp
 rw [isT_leaf h]
 rfl
theorem wf_two {T:List Tok} {i:Nat} {s:ByteArray} (h:isT T i s=true) {a b:Ex} (ha:isN a∧WF a) (hb:isN b∧WF b):isN (node2 (tkAt T i) a b)∧WF (node2 (tkAt T i) a b):=
 ⟨trivial,.inr ⟨isT_op h,.inl (by rw [len_beside ha.1,len_beside hb.1];rfl)⟩,wf_beside ha.2 (wf_beside hb.2 trivial),trivial⟩
theorem chain_wf {M:PE} (hM:WFP M) (ops:List ByteArray) {T:List Tok} (hn:NumOK T) (n:Nat):∀e i t j,isN e∧WF e→pChain M ops T n e i=some (.ok (t,j))→isN t∧WF t:=by
 induction n with
 | zero=>intro e i t j _ h;cases h
 | succ n ih=>
  intro e i t j he h
  rw [pChain] at h
  split at h
  ·rename_i ha
   obtain ⟨s,_,hs⟩:=List.any_eq_true.1 ha
   obtain ⟨x,j1,h1,h2⟩:=then_ok h
   exact ih _ _ _ _ (wf_two hs he (hM T _ _ _ hn h1)) h2
  ·cases h;exact he
theorem level_wf {M:PE} (hM:WFP M) (ops:List ByteArray) (n:Nat):WFP (pLevel M ops n):=by
 intro T i t j hn h
 unfold pLevel at h
 split at h
 ·cases h
 obtain ⟨x,j1,h1,h2⟩:=then_ok h
 exact chain_wf hM ops hn n _ _ _ _ (hM T _ _ _ hn h1) h2
theorem expr_wf {M:PE} (hM:WFP M):WFP (pExpr M):=by
 intro T i t j hn h
 obtain ⟨x,j1,h1,h2⟩:=then_ok h
 unfold pPair at h2
 split at h2
 ·rename_i ha
  obtain ⟨s,_,hs⟩:=List.any_eq_true.1 ha
  obtain ⟨y,j2,h3,h4⟩:=then_ok h2
  cases h4
  exact wf_two hs (hM T _ _ _ hn h1) (hM T _ _ _ hn h3)
 ·cases h2
  exact hM T _ _ _ hn h1
theorem two_wf {X:PE} (hX:WFP X) {l r s:ByteArray} {T:List Tok} {i j:Nat} {t:Ex} (hn:NumOK T) (hs:isT T i s=true) (h:pTwo X l r T i=some (.ok (t,j))):isN t∧WF t:=by
 unfold pTwo at h
 obtain ⟨_,_,_,h⟩:=then_ok h
 obtain ⟨a,_,ha,h⟩:=then_ok h
 obtain ⟨_,_,_,h⟩:=then_ok h
 obtain ⟨b,_,hb,h⟩:=then_ok h
 obtain ⟨_,_,_,h⟩:=then_ok h
 cases h
 exact wf_two hs (hX T _ _ _ hn ha) (hX T _ _ _ hn hb)
theorem factor_wf {X F:PE} (hX:WFP X) (hF:WFP F):WFP (pFactor X F):=by
 intro T i t j hn h
 unfold pFactor at h
 have leaf:∀k:Int,(k=1∨k=2)→((tkAt T i).kind==k)=true→isN (leafE (tkAt T i))∧WF (leafE (tkAt T i)):=fun k hk hs=>by
  have e:(tkAt T i).kind=k:=by simpa using hs
  refine ⟨trivial,.inl ⟨?_,rfl,hn i⟩,trivial,trivial⟩
  unfold isOp
  rw [e]
  rcases hk with rfl | rfl <;> rfl
 split at h
 ·rename_i hs;cases h;exact leaf 2 (.inr rfl) hs
 split at h
 ·rename_i hs;cases h;exact leaf 1 (.inl rfl) hs
 split at h
 ·obtain ⟨a,_,ha,h⟩:=then_ok h
  obtain ⟨_,_,_,h⟩:=then_ok h
  cases h
  exact hX T _ _ _ hn ha
 split at h
 ·rename_i hs
  obtain ⟨a,_,ha,h⟩:=then_ok h
  cases h
  have w:=hF T _ _ _ hn ha
  refine ⟨trivial,.inr ⟨isT_op hs,.inr ⟨.inl (by rw [len_beside w.1];rfl),?_,?_⟩⟩,wf_beside w.2 trivial,trivial⟩
  ·rw [txt_of hs];simp only [ByteArray.toList_eq];decide
  ·rw [txt_of hs];simp only [ByteArray.toList_eq];decide
 split at h
 ·rename_i hs;exact two_wf hX hn hs h
 split at h
 ·rename_i hs;exact two_wf hX hn hs h
 split at h
 ·rename_i hs;exact two_wf hX hn hs h
 split at h
 ·rename_i hs;exact two_wf hX hn hs h
 split at h
 ·rename_i hs
  unfold pThree at h
  obtain ⟨_,_,_,h⟩:=then_ok h
  obtain ⟨a,_,ha,h⟩:=then_ok h
  obtain ⟨_,_,_,h⟩:=then_ok h
  obtain ⟨b,_,hb,h⟩:=then_ok h
  obtain ⟨_,_,_,h⟩:=then_ok h
  obtain ⟨c,_,hc,h⟩:=then_ok h
  obtain ⟨_,_,_,h⟩:=then_ok h
  cases h
  have wa:=hX T _ _ _ hn ha
  have wb:=hX T _ _ _ hn hb
  have wc:=hX T _ _ _ hn hc
  refine ⟨trivial,.inr ⟨isT_op hs,.inr ⟨.inr (by rw [len_beside wa.1,len_beside wb.1,len_beside wc.1];rfl),?_,?_⟩⟩,wf_beside wa.2 (wf_beside wb.2 (wf_beside wc.2 trivial)),trivial⟩
  ·rw [txt_of hs];simp only [ByteArray.toList_eq];decide
  ·rw [txt_of hs];simp only [ByteArray.toList_eq];decide
 ·cases h
theorem pXF_wf (n:Nat):WFP (pXF n).1∧WFP (pXF n).2:=by
 induction n with
 | zero=>exact ⟨fun T i t j _ h=>by (cases h),fun T i t j _ h=>by (cases h)⟩
 | succ n ih=>
  rw [pXF]
  split
  ·exact ⟨fun T i t j _ h=>by (cases h),fun T i t j _ h=>by (cases h)⟩
  have f:=factor_wf ih.1 ih.2
  exact ⟨expr_wf (level_wf (level_wf f opsT _) opsS _),f⟩
theorem tree12 {E:Env} (hm:M12 E) (live:Bool) {t:Ex} (hn:isN t) (hw:WF t) {σ:St} (hok:OkS σ):∃v,In32 v∧wkX E live t σ=some (v,hH σ.cells t,hS E t σ):=by
 cases t with
 | nil=>cases hn
 | node b o u k r=>exact head12 hm live k b o u r σ hw hok
theorem hS_same (E:Env) (t:Ex) (σ:St):SameSt σ (hS E t σ):=exS_same E _ σ
def leadT (E:Env) (σ:St) (t:Tok):St:=if (E.mode==1)&&decide (0≤usedKT σ t) && !(cellOf (usedT E σ t) (usedKT σ t)).free then wrongT (usedT E σ t) t 10 else usedT E σ t
def outT (E:Env) (σ:St) (t:Tok) (h hid:Bool):St:=if (E.mode==2)&&h && !hid then wrongT σ t 11 else σ
def assignS (E:Env) (t:Tok) (e:Ex) (σ:St):St:=outT E (hS E e (leadT E σ t)) t (hH σ.cells e) (hidName σ.cells t.text)
def addC (σ:St) (t:Tok) (hid free:Bool):St:={ σ with cells:=σ.cells++[⟨t.text,0,hid,free⟩] }
def declT (E:Env) (σ:St) (t:Tok) (hid free:Bool):St:=addC (if (E.mode==1)&&(decide (0≤findN σ.cells t.text)||decide (6 < t.text.size)) then wrongT σ t 10 else σ) t hid free
def numT (E:Env) (σ:St) (a b:Tok):St:=if (E.mode==1)&&(decide (b.num < a.num)||decide (20 < b.num)) then wrongT σ a 10 else σ
def popS (σ:St):St:={ σ with cells:=σ.cells.dropLast }
def stF (E:Env) (p:SP) (K:St→St) (σ:St):St:=
 if p.tag=0 then assignS E p.t p.e σ else
 if p.tag=1 then K (flowT E (hS E p.e σ) p.t (hH σ.cells p.e)) else
 if p.tag=2 then popS (K (numT E (declT E σ p.t false false) p.a p.b)) else
 if p.tag=3 then outT E (hS E p.e σ) p.t (hH σ.cells p.e) false else
 if p.tag=4 then outT E (hS E p.e σ) p.t (hH σ.cells p.e) true else
 K σ
def stS (E:Env):Sx→St→St
 | .nil,σ=>σ
 | .node _ _ p k r,σ=>stS E r (stF E p (stS E k) σ)
def FoundS:Sx→List CellR→Prop
 | .nil,_=>True
 | .node _ _ p k r,l=>(p.tag=0→0≤findN l p.t.text)∧((p.tag=0∨p.tag=3∨p.tag=4)∨FoundS k (if p.tag=2 then l++[⟨p.t.text,0,false,false⟩] else l))∧FoundS r l
theorem leadT_same (E:Env) (σ:St) (t:Tok):SameSt σ (leadT E σ t):=by
 unfold leadT
 split
 ·exact (usedT_same E σ t).trans (wrongT_same _ _ _)
 ·exact usedT_same E σ t
theorem outT_same (E:Env) (σ:St) (t:Tok) (h hid:Bool):SameSt σ (outT E σ t h hid):=by
 unfold outT
 split
 ·exact wrongT_same _ _ _
 ·rfl
theorem numT_same (E:Env) (σ:St) (a b:Tok):SameSt σ (numT E σ a b):=by
 unfold numT
 split
 ·exact wrongT_same _ _ _
 ·rfl
theorem declT_eq (E:Env) (σ:St) (t:Tok) (hid free:Bool):SameSt { σ with cells:=σ.cells++[⟨t.text,0,hid,free⟩] } (declT E σ t hid free):=by
 unfold declT addC
 split
 ·have:=wrongT_same σ t 10
  unfold SameSt at *
  rw [this]
 ·rfl
theorem stS_same (E:Env):∀(s:Sx) (σ:St),SameSt σ (stS E s σ)
 | .nil,_=>rfl
 | .node _ _ p k r,σ=>by
  refine SameSt.trans ?_ (stS_same E r _)
  have hk:=stS_same E k
  unfold stF
  split
  ·exact ((leadT_same E σ p.t).trans (hS_same E _ _)).trans (outT_same _ _ _ _ _)
  split
  ·exact ((hS_same E _ _).trans (flowT_same _ _ _ _)).trans (hk _)
  split
  ·have h1:=declT_eq E σ p.t false false
   have h2:=(h1.trans (numT_same E _ p.a p.b)).trans (hk _)
   unfold popS
   unfold SameSt at h2 ⊢
   rw [h2]
   simp
  split
  ·exact (hS_same E _ _).trans (outT_same _ _ _ _ _)
  split
  ·exact (hS_same E _ _).trans (outT_same _ _ _ _ _)
  ·exact hk σ
def Bnd (E:Env) (σ:St) (i:Nat):Prop:=OkS σ∧σ.cells.length+(E.toks.length-i)≤1000
theorem Bnd.same {E:Env} {σ τ:St} {i j:Nat} (h:Bnd E σ i) (hs:SameSt σ τ) (hij:i≤j):Bnd E τ j:=⟨hs.ok h.1,by have:=h.2;rw [hs.cells];omega⟩
theorem kind_okR {T:List Tok} {k:Int} {i j:Nat} {t:Tok} (h:pKind T k i=some (.ok (t,j))):((tkAt T i).kind==k)=true∧t=tkAt T i∧j=i+1:=by
 unfold pKind at h
 split at h
 ·rename_i hs;cases h;exact ⟨hs,rfl,rfl⟩
 ·cases h
def Rel12 (E:Env) (M:MS) (P:PS):Prop:=∀i t j,i < E.toks.length→P E.toks i=some (.ok (t,j))→∀σ live,Bnd E σ i→(E.mode=2→FoundS t σ.cells)→M E σ i live=some ⟨j,stS E t σ⟩
def oneS (s:Sx):Prop:=∃b o p k,s = .node b o p k .nil
section
variable {E:Env}
theorem of1 (hN:E.mode≠0) (σ:St) {i j:Nat} {k:Int} {t:Tok} (h:pKind E.toks k i=some (.ok (t,j))):ofI E σ i k=j∧ofS E σ i k=σ:=by
 obtain ⟨hk,_,rfl⟩:=kind_okR h
 have hk':((tokAt E i).kind==k)=true:=hk
 unfold ofI ofS
 rw [stop1R hN,hk']
 simp
theorem need_lt (hT:TokOK E) {i j:Nat} {s:ByteArray} {u:Unit} (hi:i < E.toks.length) (h:pNeed E.toks s i=some (.ok (u,j))):j < E.toks.length:=by
 have:=need_fwd (s:=s) hT.last hi
 rw [h] at this
 exact this.2
theorem kind_lt (hT:TokOK E) {i j:Nat} {k:Int} {t:Tok} (hk:k≠4) (hi:i < E.toks.length) (h:pKind E.toks k i=some (.ok (t,j))):j < E.toks.length:=by
 have:=kind_fwd hT.last hk hi
 rw [h] at this
 exact this.2
theorem semi1 (hN:E.mode≠0) (hT:TokOK E) {σ:St} {i j:Nat} {u:Unit} (hok:OkS σ) (hi:i < E.toks.length) (h:pNeed E.toks sSC i=some (.ok (u,j))):semiM E σ i=some ⟨j,σ⟩:=by
 unfold semiM
 rw [(need1 hN _ h).1,(need1 hN _ h).2]
 exact chkR_ok ⟨need_lt hT hi h,hok⟩
end
section
variable {X:MX} {P:PE} {B:MS} {Q:PS} {E:Env}
theorem lead12 (hN:E.mode≠0) (σ:St) (i:Nat):leadS E σ i=leadT E σ (tkAt E.toks i)∧leadK E σ i=usedKT σ (tkAt E.toks i):=by
 refine ⟨?_,?_⟩
 ·unfold leadS
  rw [if_neg (by simp [hN])]
  rfl
 ·unfold leadK
  rw [if_neg (by simp [hN])]
  rfl
theorem hid_name {l:List CellR} {s:ByteArray} (h:0≤findN l s):hidName l s=(l.getD (findN l s).toNat noCell).hid:=by
 unfold hidName
 rw [if_neg (by omega)]
theorem assign12 (hm:M12 E) (hT:TokOK E) (hn:NumOK E.toks) (hR:Rel1 E X P) (hW:WFP P) (hF:FwdP P) {i j:Nat} {t:Sx} (hi:i+1 < E.toks.length) (h:pAssign P E.toks i=some (.ok (t,j))) {σ:St} {live:Bool} (hb:Bnd E σ i) (hfd:E.mode=2→FoundS t σ.cells):assignM X E σ i live=some ⟨j,stS E t σ⟩:=by
 have hN:=hm.ne0
 unfold pAssign at h
 obtain ⟨u1,j1,h1,h⟩:=then_ok h
 obtain ⟨e,j2,h2,h⟩:=then_ok h
 obtain ⟨u3,j3,h3,h⟩:=then_ok h
 cases h
 have l1:=need_lt hT hi h1
 obtain ⟨he,hM⟩:=hR j1 e j2 l1 h2
 have hw:=(hW _ _ _ _ hn h2).2
 have l2:=(fwd_ok hF hT l1 h2).2
 have sl:=leadT_same E σ (tkAt E.toks i)
 obtain ⟨v,hv,ex⟩:=tree12 hm false he hw (sl.ok hb.1)
 have sh:=sl.trans (hS_same E e (leadT E σ (tkAt E.toks i)))
 unfold assignM
 rw [(lead12 hN σ i).1,(lead12 hN σ i).2,hm.stepB,hm.step]
 unfold assignGo
 rw [(need1 hN _ h1).1,(need1 hN _ h1).2,if_pos ⟨hi,l1⟩,hM,ex]
 show assignEnd E i false (usedKT σ (tkAt E.toks i)) ⟨v,hH (leadT E σ (tkAt E.toks i)).cells e,j2,hS E e (leadT E σ (tkAt E.toks i))⟩=_
 show _=some (⟨j,assignS E (tkAt E.toks i) e σ⟩:SR)
 unfold assignS
 rw [sl.cells]
 generalize hS E e (leadT E σ (tkAt E.toks i))=τ at *
 unfold assignEnd
 cases hg:((E.mode==2)&&hH σ.cells e)
 ·rw [if_neg (by simp),hm.lives,if_neg (by simp)]
  have o:outT E τ (tkAt E.toks i) (hH σ.cells e) (hidName σ.cells (tkAt E.toks i).text)=τ:=by
   unfold outT
   rw [hg]
   simp
  rw [o]
  exact semi1 hN hT (sh.ok hb.1) l2 h3
 ·rw [if_pos rfl]
  have hm2:E.mode=2:=by simp at hg;exact hg.1
  have hf:0≤findN σ.cells (tkAt E.toks i).text:=(hfd hm2).1 rfl
  obtain ⟨k,hk,hkl⟩:=findN_lt (l:=σ.cells) (s:=(tkAt E.toks i).text) (by omega)
  have hkl2:usedKT σ (tkAt E.toks i) < τ.cells.length:=by
   show findN _ _ < _
   rw [sh.cells,hk]
   omega
  rw [if_pos ⟨hf,hkl2⟩]
  have o:hidS E τ i (usedKT σ (tkAt E.toks i))=outT E τ (tkAt E.toks i) (hH σ.cells e) (hidName σ.cells (tkAt E.toks i).text):=by
   unfold hidS outT
   rw [hg,hid_name hf]
   have ec:cellOf τ (usedKT σ (tkAt E.toks i))=σ.cells.getD (findN σ.cells (tkAt E.toks i).text).toNat noCell:=by
    unfold cellOf
    rw [sh.cells]
    rfl
   rw [ec]
   cases (σ.cells.getD (findN σ.cells (tkAt E.toks i).text).toNat noCell).hid
   ·rfl
   ·rfl
  rw [o]
  exact semi1 hN hT (((outT_same _ _ _ _ _)).ok (sh.ok hb.1)) l2 h3
theorem put12 (hm:M12 E) (hT:TokOK E) (hn:NumOK E.toks) (hR:Rel1 E X P) (hW:WFP P) (hF:FwdP P) (hid:Bool) {tag:Nat} (htag:tag=if hid then 4 else 3) {i j:Nat} {t:Sx} (hi:i+1 < E.toks.length) (h:pPut P tag E.toks i=some (.ok (t,j))) {σ:St} {live:Bool} (hb:Bnd E σ i):putM X hid E σ i live=some ⟨j,stS E t σ⟩:=by
 have hN:=hm.ne0
 unfold pPut at h
 obtain ⟨e,j2,h2,h⟩:=then_ok h
 obtain ⟨u3,j3,h3,h⟩:=then_ok h
 cases h
 obtain ⟨he,hM⟩:=hR (i+1) e j2 hi h2
 have hw:=(hW _ _ _ _ hn h2).2
 have l2:=(fwd_ok hF hT hi h2).2
 obtain ⟨v,hv,ex⟩:=tree12 hm false he hw hb.1
 have sh:=hS_same E e σ
 unfold putM
 rw [if_pos hi,hm.stepB,hm.step,hM,ex]
 show putEnd E i false hid ⟨v,hH σ.cells e,j2,hS E e σ⟩=_
 have e2:stS E (.node 0 0 ⟨tag,tkAt E.toks i,noTok,noTok,e⟩ .nil .nil) σ=outT E (hS E e σ) (tkAt E.toks i) (hH σ.cells e) hid:=by
  rw [htag]
  cases hid <;> rfl
 rw [e2]
 unfold putEnd
 rw [hm.lives,if_neg (by simp)]
 exact semi1 hN hT ((outT_same _ _ _ _ _).ok (sh.ok hb.1)) l2 h3
theorem found_if {p:SP} {q:SP} (hq:q.tag=5) {b o b' o':Nat} {th el r:Sx} {l:List CellR} (hp:p.tag=1) (h:FoundS (.node b o p (.node b' o' q th el) r) l):FoundS th l∧FoundS el l:=by
 rcases h.2.1 with h2 | h2
 ·omega
 rw [if_neg (by rw [hp];decide)] at h2
 rcases h2.2.1 with h3 | h3
 ·omega
 rw [if_neg (by rw [hq];decide)] at h3
 exact ⟨h3,h2.2.2⟩
theorem choice12 (hm:M12 E) (hT:TokOK E) (hn:NumOK E.toks) (hR:Rel1 E X P) (hW:WFP P) (hF:FwdP P) (hB:Rel12 E B Q) (hFB:FwdP Q) {i j:Nat} {t:Sx} (hi:i+1 < E.toks.length) (h:pIf P Q E.toks i=some (.ok (t,j))) {σ:St} {live:Bool} (hb:Bnd E σ i) (hfd:E.mode=2→FoundS t σ.cells):choiceM X B E σ i live=some ⟨j,stS E t σ⟩:=by
 have hN:=hm.ne0
 unfold pIf at h
 obtain ⟨e,j1,h1,h⟩:=then_ok h
 obtain ⟨th,j2,h2,h⟩:=then_ok h
 obtain ⟨he,hM⟩:=hR (i+1) e j1 hi h1
 have hw:=(hW _ _ _ _ hn h1).2
 have f1:=fwd_ok hF hT hi h1
 have f2:j1 < j2∧j2 < E.toks.length:=by
  have:=hFB E.toks j1 hT.last f1.2
  rw [h2] at this
  exact ⟨this.1,this.2⟩
 obtain ⟨v,hv,ex⟩:=tree12 hm false he hw hb.1
 have sh:=(hS_same E e σ).trans (flowT_same E (hS E e σ) (tkAt E.toks i) (hH σ.cells e))
 unfold choiceM
 rw [if_pos hi,hm.stepB,hm.step,hM,ex]
 show (B E (flowS E (hS E e σ) i (hH σ.cells e)) j1 (false&&(v != 0))).bind (fun r=>choiceEnd B E false ⟨v,hH σ.cells e,j1,hS E e σ⟩ r)=_
 have ef:flowS E (hS E e σ) i (hH σ.cells e)=flowT E (hS E e σ) (tkAt E.toks i) (hH σ.cells e):=rfl
 rw [ef]
 have b1:=hb.same sh (by omega:i≤j1)
 unfold pElse at h
 split at h
 ·rename_i hs
  obtain ⟨el,j3,h3,h⟩:=then_ok h
  cases h
  have fd:E.mode=2→FoundS th σ.cells∧FoundS el σ.cells:=fun h2=>found_if rfl rfl (hfd h2)
  have s2:=stS_same E th (flowT E (hS E e σ) (tkAt E.toks i) (hH σ.cells e))
  rw [hB j1 th j2 f1.2 h2 _ _ b1 (fun h2=>by rw [sh.cells];exact (fd h2).1),Option.bind_some]
  unfold choiceEnd
  dsimp only
  have l3:=isT_next hT.last f2.2 hs
  rw [if_pos (by rw [is1 hN];exact hs),if_pos l3]
  rw [hB (j2+1) el j l3 h3 _ _ (b1.same s2 (by omega)) (fun h2=>by rw [s2.cells,sh.cells];exact (fd h2).2)]
  rfl
 ·rename_i hs
  cases h
  have fd:E.mode=2→FoundS th σ.cells∧FoundS .nil σ.cells:=fun h2=>found_if rfl rfl (hfd h2)
  rw [hB j1 th j f1.2 h2 _ _ b1 (fun h2=>by rw [sh.cells];exact (fd h2).1),Option.bind_some]
  unfold choiceEnd
  dsimp only
  rw [if_neg (by rw [is1 hN];exact hs)]
  rfl
theorem decl12 (hN:E.mode≠0) (σ:St) (i:Nat) (hd fr:Bool):declS E σ i hd fr=declT E σ (tkAt E.toks i) hd fr:=by
 unfold declS
 rw [if_neg (by simp [hN])]
 unfold declT addC
 have ew:declW E σ i=((E.mode==1)&&(decide (0≤findN σ.cells (tkAt E.toks i).text)||decide (6 < (tkAt E.toks i).text.size))):=rfl
 rw [ew]
 split
 ·rfl
 ·rfl
theorem loop12 (hm:M12 E) (hT:TokOK E) (hB:Rel12 E B Q) {i j:Nat} {t:Sx} (hi:i+1 < E.toks.length) (h:pFor Q E.toks i=some (.ok (t,j))) {σ:St} {live:Bool} (hb:Bnd E σ i) (hfd:E.mode=2→FoundS t σ.cells):loopM B E σ i live=some ⟨j,stS E t σ⟩:=by
 have hN:=hm.ne0
 unfold pFor at h
 obtain ⟨n,j1,h1,h⟩:=then_ok h
 obtain ⟨a,j2,h2,h⟩:=then_ok h
 obtain ⟨u,j3,h3,h⟩:=then_ok h
 obtain ⟨b,j4,h4,h⟩:=then_ok h
 obtain ⟨s,j5,h5,h⟩:=then_ok h
 cases h
 have l1:=kind_lt hT (by decide) hi h1
 have l2:=kind_lt hT (by decide) l1 h2
 have l3:=need_lt hT l2 h3
 have l4:=kind_lt hT (by decide) l3 h4
 obtain ⟨_,en,e1⟩:=kind_okR h1
 obtain ⟨_,ea,e2⟩:=kind_okR h2
 obtain ⟨_,e3⟩:=need_okR h3
 obtain ⟨_,eb,e4⟩:=kind_okR h4
 unfold loopM
 rw [if_pos hi,hm.stepB,hm.step,(of1 hN _ h1).1,(of1 hN _ h1).2]
 unfold loop2
 rw [if_pos l1,(of1 hN _ h2).1,(of1 hN _ h2).2]
 unfold loop3
 rw [(need1 hN _ h3).1,(need1 hN _ h3).2,if_pos ⟨l2,l3⟩,(of1 hN _ h4).1,(of1 hN _ h4).2]
 unfold loopTo
 rw [if_neg (by rw [stop1R hN];simp),decl12 hN,←en]
 have sd:=declT_eq E σ n false false
 have cd:(declT E σ n false false).cells=σ.cells++[⟨n.text,0,false,false⟩]:=sd.cells
 have okd:OkS (declT E σ n false false):=by
  refine sd.ok ?_
  obtain ⟨ha,hb2⟩:=hb
  exact ⟨by simp;omega,ha.2⟩
 rw [if_pos ⟨l4,okd⟩]
 have en2:loopNum E (declT E σ n false false) j1 j3=numT E (declT E σ n false false) a b:=by
  unfold loopNum numT
  rw [ea,eb]
  rfl
 rw [en2]
 unfold loopBody
 rw [if_neg (by simp)]
 have sn:=numT_same E (declT E σ n false false) a b
 have bn:Bnd E (numT E (declT E σ n false false) a b) j4:=⟨sn.ok okd,by
  rw [sn.cells,cd]
  have:=hb.2
  simp
  omega⟩
 have fd:E.mode=2→FoundS s (σ.cells++[⟨n.text,0,false,false⟩]):=fun h2=>by
  rcases (hfd h2).2.1 with h3 | h3
  ·rcases h3 with h3 | h3 | h3 <;> cases h3
  rw [if_pos rfl] at h3
  exact h3
 rw [hB j4 s j l4 h5 _ false bn (fun h2=>by rw [sn.cells,cd];exact fd h2),Option.bind_some]
 have ss:=stS_same E s (numT E (declT E σ n false false) a b)
 unfold loopEnd
 rw [if_pos (by
  show ((E.mode==0)||decide (0 < (stS E s (numT E (declT E σ n false false) a b)).cells.length))=true
  rw [ss.cells,sn.cells,cd]
  simp)]
 unfold dropS
 rw [if_neg (by simp [hN])]
 rfl
end
end Go.Proofs.YthmmgiaobakilaaGreat

set_option maxRecDepth 100000
namespace Go.Proofs.YthmmgiaobakilaaGreat
open Go.RowKit Go.Deep
theorem st_beside (E:Env) {s:Sx} (hs:oneS s) (r:Sx) (σ:St):stS E (besideS s r) σ=stS E r (stS E s σ):=by
 obtain ⟨b,o,p,k,rfl⟩:=hs
 rfl
theorem found_beside {s:Sx} (hs:oneS s) {r:Sx} {l:List CellR} (h:FoundS (besideS s r) l):FoundS s l∧FoundS r l:=by
 obtain ⟨b,o,p,k,rfl⟩:=hs
 exact ⟨⟨h.1,h.2.1,trivial⟩,h.2.2⟩
def OneP (P:PS):Prop:=∀T i t j,P T i=some (.ok (t,j))→oneS t
theorem statement_one {P:PE} {Q:PS} : OneP (pStatement P Q):=by
 intro T i t j h
 unfold pStatement at h
 split at h
 ·unfold pAssign at h
  obtain ⟨_,_,_,h⟩:=then_ok h
  obtain ⟨_,_,_,h⟩:=then_ok h
  obtain ⟨_,_,_,h⟩:=then_ok h
  cases h
  exact ⟨_,_,_,_,rfl⟩
 split at h
 ·unfold pIf at h
  obtain ⟨_,_,_,h⟩:=then_ok h
  obtain ⟨_,_,_,h⟩:=then_ok h
  unfold pElse at h
  split at h
  ·obtain ⟨_,_,_,h⟩:=then_ok h
   cases h
   exact ⟨_,_,_,_,rfl⟩
  ·cases h
   exact ⟨_,_,_,_,rfl⟩
 split at h
 ·unfold pFor at h
  obtain ⟨_,_,_,h⟩:=then_ok h
  obtain ⟨_,_,_,h⟩:=then_ok h
  obtain ⟨_,_,_,h⟩:=then_ok h
  obtain ⟨_,_,_,h⟩:=then_ok h
  obtain ⟨_,_,_,h⟩:=then_ok h
  cases h
  exact ⟨_,_,_,_,rfl⟩
 split at h
 ·unfold pPut at h
  obtain ⟨_,_,_,h⟩:=then_ok h
  obtain ⟨_,_,_,h⟩:=then_ok h
  cases h
  exact ⟨_,_,_,_,rfl⟩
 split at h
 ·unfold pPut at h
  obtain ⟨_,_,_,h⟩:=then_ok h
  obtain ⟨_,_,_,h⟩:=then_ok h
  cases h
  exact ⟨_,_,_,_,rfl⟩
 ·cases h
theorem pSB_one (n:Nat):OneP (pSB n).1:=by
 cases n with
 | zero=>intro T i t j h;cases h
 | succ n=>
  rw [pSB]
  split
  ·intro T i t j h;cases h
  ·exact statement_one
section
variable {E:Env} {S:MS} {P:PS}
theorem fwd_okS (hF:FwdP P) (hT:TokOK E) {i j:Nat} {t:Sx} (hi:i < E.toks.length) (h:P E.toks i=some (.ok (t,j))):i < j∧j < E.toks.length:=by
 have:=hF E.toks i hT.last hi
 rw [h] at this
 exact ⟨this.1,this.2⟩
theorem blockGo12 (hm:M12 E) (hT:TokOK E) (hR:Rel12 E S P) (hF:FwdP P) (hO:OneP P) {live:Bool} (m:Nat):∀σ i t j,i < E.toks.length→pItems P E.toks m i=some (.ok (t,j))→Bnd E σ i→(E.mode=2→FoundS t σ.cells)→blockGo S E live (m+1) ⟨i,σ⟩=some ⟨j,stS E t σ⟩:=by
 have hN:=hm.ne0
 induction m with
 | zero=>intro σ i t j _ h;cases h
 | succ m ih=>
  intro σ i t j hi h hb hfd
  rw [pItems] at h
  rw [blockGo]
  dsimp only
  split at h
  ·rename_i hs
   cases h
   have n1:pNeed E.toks sCC i=some (.ok ((),i+1)):=by unfold pNeed;rw [if_pos hs];rfl
   rw [if_pos (by rw [is1 hN,hs];rfl),(need1 hN _ n1).1,(need1 hN _ n1).2]
   exact chkR_ok ⟨isT_next hT.last hi hs,hb.1⟩
  ·rename_i hs
   obtain ⟨s,j1,h1,h⟩:=then_ok h
   obtain ⟨r,j2,h2,h⟩:=then_ok h
   cases h
   have f1:=fwd_okS hF hT hi h1
   have ho:=hO _ _ _ _ h1
   have fd:E.mode=2→FoundS s σ.cells∧FoundS r σ.cells:=fun h2=>found_beside ho (hfd h2)
   rw [if_neg (by rw [is1 hN,stop1R hN];simpa using hs),hR i s j1 hi h1 σ live hb (fun h2=>(fd h2).1),Option.bind_some,st_beside E ho]
   have ss:=stS_same E s σ
   exact ih _ j1 r j f1.2 h2 (hb.same ss (by omega)) (fun h2=>by rw [ss.cells];exact (fd h2).2)
theorem block12 (hm:M12 E) (hT:TokOK E) (hR:Rel12 E S P) (hF:FwdP P) (hO:OneP P) (n:Nat):Rel12 E (blockM S (n+1)) (pBlock P n):=by
 have hN:=hm.ne0
 intro i t j hi h σ live hb hfd
 unfold pBlock at h
 split at h
 ·cases h
 obtain ⟨u,j1,h1,h⟩:=then_ok h
 have l1:=need_lt hT hi h1
 obtain ⟨_,e1⟩:=need_okR h1
 unfold blockM
 rw [(need1 hN _ h1).1,(need1 hN _ h1).2,if_pos l1]
 exact blockGo12 hm hT hR hF hO n σ j1 t j l1 h (hb.same (SameSt.refl _) (by omega)) hfd
end
section
variable {E:Env}
theorem statement12 {X:MX} {P:PE} {B:MS} {Q:PS} (hm:M12 E) (hT:TokOK E) (hn:NumOK E.toks) (hR:Rel1 E X P) (hW:WFP P) (hF:FwdP P) (hB:Rel12 E B Q) (hFB:FwdP Q):Rel12 E (statementM X B) (pStatement P Q):=by
 have hN:=hm.ne0
 intro i t j hi h σ live hb hfd
 unfold statementM
 rw [stop1R hN,if_neg (by simp),is1 hN,is1 hN,is1 hN,is1 hN]
 unfold pStatement at h
 split at h
 ·rename_i hk
  have hk':((tokAt E i).kind==1)=true:=hk
  have e:(tkAt E.toks i).kind=1:=by simpa using hk
  rw [if_pos hk']
  exact assign12 hm hT hn hR hW hF (next_lt hT.last hi (by rw [e];decide)) h hb hfd
 rename_i hk
 rw [if_neg (show ¬ ((tokAt E i).kind==1)=true from hk)]
 split at h
 ·rename_i hs
  rw [if_pos hs]
  exact choice12 hm hT hn hR hW hF hB hFB (isT_next hT.last hi hs) h hb hfd
 rename_i h1
 rw [if_neg h1]
 split at h
 ·rename_i hs
  rw [if_pos hs]
  exact loop12 hm hT hB (isT_next hT.last hi hs) h hb hfd
 rename_i h2
 rw [if_neg h2]
 split at h
 ·rename_i hs
  have hne:isT E.toks i sHIDE=false:=by
   have e:=isT_text hs
   cases h0:isT E.toks i sHIDE
   ·rfl
   ·have e2:=isT_text h0
    rw [e] at e2
    exact absurd (congrArg (fun x=>x.data) e2) (by decide)
  rw [if_pos (by rw [hs];rfl),hne]
  exact put12 hm hT hn hR hW hF false rfl (isT_next hT.last hi hs) h hb
 rename_i h3
 split at h
 ·rename_i hs
  rw [if_pos (by rw [hs];simp),hs]
  exact put12 hm hT hn hR hW hF true rfl (isT_next hT.last hi hs) h hb
 ·cases h
theorem SB12 (hm:M12 E) (hT:TokOK E) (hn:NumOK E.toks) (n:Nat):Rel12 E (SBR n).1 (pSB n).1∧Rel12 E (SBR n).2 (pSB n).2:=by
 induction n with
 | zero=>exact ⟨fun i t j _ h=>by (cases h),fun i t j _ h=>by (cases h)⟩
 | succ n ih=>
  rw [pSB]
  split
  ·exact ⟨fun i t j _ h=>by (cases h),fun i t j _ h=>by (cases h)⟩
  rename_i hn2
  obtain ⟨m,rfl⟩:∃m,n=m+2:=⟨n-2,by omega⟩
  rw [SBR]
  exact ⟨statement12 hm hT hn (XF_rel1 hm.ne0 hT (m+2)).1 (pXF_wf (m+2)).1 (pXF_fwd (m+2)).1 ih.2 (pSB_fwd (m+2)).2,block12 hm hT ih.1 (pSB_fwd (m+2)).1 (pSB_one (m+2)) (m+1)⟩
def dcS (E:Env):List (Tok×Bool)→St→St
 | [],σ=>σ
 | (t,hd)::l,σ=>dcS E l (declT E σ t hd true)
theorem dcS_append (E:Env) (a b:List (Tok×Bool)) (σ:St):dcS E (a++b) σ=dcS E b (dcS E a σ):=by
 induction a generalizing σ with
 | nil=>rfl
 | cons x a ih=>exact ih _
theorem Bnd.decl {σ:St} {i j:Nat} (h:Bnd E σ i) (hij:i < j) (hj:i < E.toks.length) (t:Tok) (hd fr:Bool):Bnd E (declT E σ t hd fr) j:=by
 have sd:=declT_eq E σ t hd fr
 have:=h.2
 refine ⟨sd.ok ⟨by simp;omega,h.1.2⟩,?_⟩
 rw [sd.cells]
 simp
 omega
theorem names12 (hm:M12 E) (hT:TokOK E) (hd:Bool) (n:Nat):∀σ i l j,i < E.toks.length→pNames E.toks hd n i=some (.ok (l,j))→Bnd E σ i→declGo E hd n ⟨i,σ⟩=some ⟨j,dcS E l σ⟩∧Bnd E (dcS E l σ) j:=by
 have hN:=hm.ne0
 induction n with
 | zero=>intro σ i l j _ h;cases h
 | succ n ih=>
  intro σ i l j hi h hb
  rw [pNames] at h
  obtain ⟨t,j1,h1,h⟩:=then_ok h
  have l1:=kind_lt hT (by decide) hi h1
  obtain ⟨_,et,e1⟩:=kind_okR h1
  have b1:Bnd E (declT E σ t hd true) j1:=hb.decl (by omega) hi t hd true
  rw [declGo]
  dsimp only
  rw [(of1 hN _ h1).1,(of1 hN _ h1).2,stop1R hN,if_neg (by simp),decl12 hN,←et,if_pos ⟨l1,b1.1⟩,is1 hN]
  split at h
  ·rename_i hs
   obtain ⟨l',j2,h2,h⟩:=then_ok h
   cases h
   have l2:=isT_next hT.last l1 hs
   rw [if_pos hs,if_pos l2]
   exact ih _ (j1+1) l' j l2 h2 (b1.same (SameSt.refl _) (by omega))
  ·rename_i hs
   obtain ⟨u,j2,h2,h⟩:=then_ok h
   cases h
   rw [if_neg hs]
   have l2:=need_lt hT l1 h2
   obtain ⟨_,e2⟩:=need_okR h2
   refine ⟨?_,b1.same (SameSt.refl _) (by omega)⟩
   rw [(need1 hN _ h2).1,(need1 hN _ h2).2]
   exact chkR_ok ⟨l2,b1.1⟩
theorem decls12 (hm:M12 E) (hT:TokOK E) (f n:Nat):∀σ i l j,i < E.toks.length→pDecls E.toks f n i=some (.ok (l,j))→Bnd E σ i→declsM E f (n+1) ⟨i,σ⟩=some ⟨j,dcS E l σ⟩∧Bnd E (dcS E l σ) j:=by
 have hN:=hm.ne0
 induction n with
 | zero=>intro σ i l j _ h;cases h
 | succ n ih=>
  intro σ i l j hi h hb
  rw [pDecls] at h
  rw [declsM]
  dsimp only
  rw [is1 hN,is1 hN]
  split at h
  ·rename_i hs
   have h1:i+1 < E.toks.length:=by
    have hs':=hs
    simp only [Bool.or_eq_true] at hs'
    rcases hs' with hs' | hs' <;> exact isT_next hT.last hi hs'
   obtain ⟨a,j1,e1,h⟩:=then_ok h
   obtain ⟨b,j2,e2,h⟩:=then_ok h
   cases h
   obtain ⟨r1,b1⟩:=names12 hm hT _ f σ (i+1) a j1 h1 e1 (hb.same (SameSt.refl _) (by omega))
   have f1:=names_fwd (isT E.toks i sHIDDEN) hT.last f (i+1) h1
   rw [e1] at f1
   obtain ⟨r2,b2⟩:=ih (dcS E a σ) j1 b j f1.2 e2 b1
   rw [if_pos hs,if_pos h1,r1,Option.bind_some,dcS_append]
   exact ⟨r2,b2⟩
  ·rename_i hs
   cases h
   rw [if_neg hs]
   exact ⟨rfl,hb⟩
theorem body12 {S:MS} {P:PS} (hm:M12 E) (hT:TokOK E) (hR:Rel12 E S P) (hF:FwdP P) (hO:OneP P) (n:Nat):∀σ i t j,σ.dead=false→i < E.toks.length→pBody P E.toks n i=some (.ok (t,j))→Bnd E σ i→(E.mode=2→FoundS t σ.cells)→bodyM S E (n+1) ⟨i,σ⟩=some (stS E t σ):=by
 have hN:=hm.ne0
 induction n with
 | zero=>intro σ i t j _ _ h;cases h
 | succ n ih=>
  intro σ i t j hd hi h hb hfd
  rw [pBody] at h
  rw [bodyM]
  dsimp only
  rw [stop1R hN,hd]
  split at h
  ·rename_i hs
   cases h
   have hs':((tokAt E i).kind==4)=true:=hs
   rw [hs',if_pos (by simp)]
   rfl
  ·rename_i hs
   have hs':((tokAt E i).kind==4)=false:=Bool.eq_false_iff.2 hs
   obtain ⟨s,j1,h1,h⟩:=then_ok h
   obtain ⟨r,j2,h2,h⟩:=then_ok h
   cases h
   have f1:=fwd_okS hF hT hi h1
   have ho:=hO _ _ _ _ h1
   have fd:E.mode=2→FoundS s σ.cells∧FoundS r σ.cells:=fun h2=>found_beside ho (hfd h2)
   rw [hs',if_neg (by simp),hR i s j1 hi h1 σ true hb (fun h2=>(fd h2).1),Option.bind_some,st_beside E ho]
   have ss:=stS_same E s σ
   exact ih _ j1 r j (by rw [ss];exact hd) f1.2 h2 (hb.same ss (by omega)) (fun h2=>by rw [ss.cells];exact (fd h2).2)
theorem source12 (hm:M12 E) (hT:TokOK E) (hn:NumOK E.toks) (hlen:E.toks.length≤900) (m:Nat) {σ:St} {ds:List (Tok×Bool)} {t:Sx} {j:Nat} (hok:OkS σ) (hd:σ.dead=false) (h:pSource (m+1) E.toks=some (.ok ((ds,t),j))) (hfd:E.mode=2→FoundS t (dcS E ds (startS E σ)).cells):sourceM (m+1) E σ=some (stS E t (dcS E ds (startS E σ))):=by
 have hi:=hT.last.1
 have hs:Bnd E (startS E σ) 0:=⟨⟨by simp [startS],hok.2⟩,by simp [startS];omega⟩
 unfold pSource at h
 simp only [Nat.add_sub_cancel] at h
 obtain ⟨ds',j1,h1,h⟩:=then_ok h
 obtain ⟨t',j2,h2,h⟩:=then_ok h
 cases h
 have f1:=decls_fwd hT.last (m+1) m 0 hi
 rw [h1] at f1
 obtain ⟨r1,b1⟩:=decls12 hm hT (m+1) m (startS E σ) 0 ds j1 hi h1 hs
 unfold sourceM
 rw [if_neg (by rw [hm.ne3];simp),r1,Option.bind_some]
 have hdd:∀(l:List (Tok×Bool)) (τ:St),τ.dead=false→(dcS E l τ).dead=false:=fun l=>by
  induction l with
  | nil=>intro τ h;exact h
  | cons x l ih=>
   intro τ h
   refine ih _ ?_
   have:=declT_eq E τ x.1 x.2 true
   rw [this]
   exact h
 exact body12 hm hT (SB12 hm hT hn (m+1)).1 (pSB_fwd (m+1)).1 (pSB_one (m+1)) m _ j1 t j (hdd ds _ hd) f1.2 h2 b1 hfd
end
end Go.Proofs.YthmmgiaobakilaaGreat
