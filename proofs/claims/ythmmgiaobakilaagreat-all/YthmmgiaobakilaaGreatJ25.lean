import Derived.Test.YthmmgiaobakilaaGreatJ24
set_option maxRecDepth 100000
set_option maxHeartbeats 8000000
set_option linter.all false
namespace Go.Proofs.YthmmgiaobakilaaGreat
open Go.RowKit Go.Deep
variable {E:bB} {L:List UInt8} {T:List aH} {b:VR} {ds:List (aH×Bool)} {hid live:Bool} {i j n:Nat} {k:Int} {l:List bQ} {ops:List ByteArray} {r:Sx} {s:ByteArray} {t:aH} {u:Unit} {vs:List Int} {σ:St}
def zL (j:Nat) (x:VR):gp:=⟨x.1,x.2.1,j,x.2.2⟩
theorem vN (h:aZ T s i=some (.ok (u,j))):bJ T i s=true/\j=i+1:=by
 unfold aZ at h;split at h
 .rename_i hs;cases h;exact⟨hs,rfl⟩
 .cases h
section
variable {E:bB}
theorem sZ (hN:E.mode≠0) (σ:St):kQ E σ=false:=by simp[kQ,hN]
theorem Ez (hN:E.mode≠0) (σ:St) (i:Nat) (s:ByteArray):oF E σ i s=bJ E.toks i s:=by simp[oF,sZ hN,bJ,aT,ah]
theorem il (hN:E.mode≠0) (σ:St) (h:aZ E.toks s i=some (.ok (u,j))):eG E σ i s=j/\eO E σ i s=σ:=by
 obtain⟨hs,rfl⟩:=vN h;unfold eG eO;rw[Ez hN,hs];simp
theorem ZR (hN:E.mode≠0) (σ:St) (i:Nat) (ops:List ByteArray):ops.any (oF E σ i)=ops.any (bJ E.toks i):=by
 congr 1;funext s;exact Ez hN _ _ _
theorem Qd5 (hj:j<E.toks.length) (x:VR):chk E (zL j x)=(FQ x).map (zL j):=by
 unfold chk FQ;by_cases h:lI x.2.2/\dw x.1
 .rw[ag h,ag ⟨hj,h.1,h.2⟩];rfl
 .rw[ae h,ae (λg=>h ⟨g.2.1,g.2.2⟩)];rfl
end
theorem LC (hN:E.mode≠0) (h:ops.any (bJ E.toks i)=true):Cj E σ i ops=(ah E.toks i).text:=by
 unfold Cj
 cases hf:ops.find? (oF E σ i) with
 | none=>
  obtain⟨s,hs,ht⟩:=dD.1 h;have:=vD.1 hf s hs;rw[Ez hN,ht]at this;simp at this
 | some t=>
  have ht:=List.find?_some hf;rw[Ez hN]at ht;exact(fC ht).symm
def uY (s:ByteArray):Prop:=s.toList≠[]/\(s.toList==bf.toList)=false/\(s.toList==cz.toList)=false/\(s.toList==kU.toList)=false/\(s.toList==kI.toList)=false
theorem GL (h:uY t.text) (A B:St->Option VR) (σ:St):uN E live t A B σ=(A σ).bind λa=>(B (aC E a.2.2 live)).bind λb=>Jg t a b:=by
 unfold uN zn;rw[h.2.1,h.2.2.1,h.2.2.2.1,h.2.2.2.2];rfl
theorem Qh2:∀s∈lT,uY s:=by
 intro s hs;simp only[lT,aO,aQ,aR]at hs;rcases hs with rfl|rfl<;>(unfold uY;simp only[aJ];decide)
theorem Qg9:∀s∈lQ,uY s:=by
 intro s hs;simp only[lQ,aO,aQ,aR]at hs;rcases hs with rfl|rfl<;>(unfold uY;simp only[aJ];decide)
theorem Ql7:∀s∈sD,uY s:=by
 intro s hs;simp only[sD,aO,aQ,aR]at hs;rcases hs with rfl|rfl|rfl|rfl<;>(unfold uY;simp only[aJ];decide)
def xx (E:bB) (M:MX) (P:PE):Prop:=∀i t j,i<E.toks.length->P E.toks i=some (.ok (t,j))->Fg t/\∀σ live,M E σ i live=(tQ E live t σ).map (zL j)
section
variable {E:bB} {M:MX} {P:PE}
theorem nX (hF:dL P) (hT:bL E) {t:Ex} (hi:i<E.toks.length) (h:P E.toks i=some (.ok (t,j))):i<j/\j<E.toks.length:=by
 have:=hF E.toks i hT.last hi;rw[h]at this;exact⟨this.1,this.2⟩
theorem WI (hN:E.mode≠0) (hne:∀s∈ops,s.toList≠[]) (q:gp) (hany:ops.any (bJ E.toks q.to)=true) (hi:q.to+1<E.toks.length) :
  kC M ops E live (n+1) q=(M E (aC E q.σ live) (q.to+1) live).bind λx=>kC M ops E live n ⟨dR (ah E.toks q.to).text q.v x.v,q.h||x.h,x.to,x.σ⟩:=by
 rw[kC,AJ hne,ZR hN,hany,ae (by simp),ag hi,LC hN hany]
theorem TI (hN:E.mode≠0) (hne:∀s∈ops,s.toList≠[]) (q:gp) (hany:ops.any (bJ E.toks q.to)=false):kC M ops E live (n+1) q=some q:=by
 rw[kC,AJ hne,ZR hN,hany,ag (by simp)]
theorem Qc0 (hN:E.mode≠0) (q:gp) (hany:sD.any (bJ E.toks q.to)=true) (hi:q.to+1<E.toks.length) :
  xQ M E live q=(M E (aC E q.σ live) (q.to+1) live).bind λx=>some ⟨dR (ah E.toks q.to).text q.v x.v,q.h||x.h,x.to,x.σ⟩:=by
 rw[xQ,AJ KY,ZR hN,hany,ae (by simp),ag hi,LC hN hany]
theorem Xb (hN:E.mode≠0) (q:gp) (hany:sD.any (bJ E.toks q.to)=false):xQ M E live q=some q:=by
 rw[xQ,AJ KY,ZR hN,hany,ag (by simp)]
theorem OD (hN:E.mode≠0) (hT:bL E) (hR:xx E M P) (hF:dL P) (hp:∀s∈ops,uY s) (n:Nat):∀e i t j,i<E.toks.length->Fg e->iB P ops E.toks n e i=some (.ok (t,j)) ->
  Fg t/\∀σ live,(tQ E live e σ).bind (λx=>kC M ops E live (n+1) (zL i x))=(tQ E live t σ).map (zL j):=by
 have hne:∀s∈ops,s.toList≠[]:=λs hs=>(hp s hs).1
 induction n with
 | zero=>intro e i t j _ _ h;cases h
 | succ n ih=>
  intro e i t j hi he h;rw[iB]at h;split at h
  .rename_i hany;obtain⟨x,j1,h1,h2⟩:=au h;obtain⟨s,hs,hst⟩:=dD.1 hany;have hi1:=aD hT.last hi hst;obtain⟨hx,hMx⟩:=hR (i+1) x j1 hi1 h1;have f1:=nX hF hT hi1 h1;obtain⟨ht,hrest⟩:=ih (uf (ah E.toks i) e x) j1 t j f1.2 trivial h2;refine⟨ht,λσ live=>?_⟩;rw[<-hrest σ live,Fz _ (nW hst) he hx,GL (by rw[fC hst];exact hp s hs)];rw[vW];congr 1;funext a;rw[WI hN hne (zL i a) hany hi1];show(M E (aC E a.2.2 live) (i+1) live).bind _=_;rw[hMx,pK,vW];rfl
  .rename_i hany
   cases h;refine⟨he,λσ live=>?_⟩;have hany':ops.any (bJ E.toks i)=false:=gW.2 hany;have:(λx=>kC M ops E live (n+1+1) (zL i x))=λx=>some (zL i x):=by
    funext a;exact TI hN hne (zL i a) hany'
   rw[this]
   cases tQ E live e σ<;>rfl
theorem Gl (hN:E.mode≠0) (hT:bL E) (hR:xx E M P) (hF:dL P) (hp:∀s∈ops,uY s) (n:Nat):xx E (wu M ops (n+1)) (jk P ops n):=by
 intro i t j hi h;unfold jk at h;split at h
 .cases h
 obtain⟨x,j1,h1,h2⟩:=au h;obtain⟨hx,hMx⟩:=hR i x j1 hi h1;have f1:=nX hF hT hi h1;obtain⟨ht,hrest⟩:=OD hN hT hR hF hp n x j1 t j f1.2 hx h2;refine⟨ht,λσ live=>?_⟩;unfold wu;rw[hMx,<-hrest σ live,pK];rfl
theorem UC (hN:E.mode≠0) (hT:bL E) (hR:xx E M P) (hF:dL P):xx E (Bu M) (vV P):=by
 intro i t j hi h;unfold vV at h;obtain⟨x,j1,h1,h2⟩:=au h;obtain⟨hx,hMx⟩:=hR i x j1 hi h1;have f1:=nX hF hT hi h1;unfold wV at h2;split at h2
 .rename_i hany;obtain⟨y,j2,h3,h4⟩:=au h2
  cases h4;obtain⟨s,hs,hst⟩:=dD.1 hany;have hi1:=aD hT.last f1.2 hst;obtain⟨hy,hMy⟩:=hR (j1+1) y j hi1 h3;refine⟨trivial,λσ live=>?_⟩;rw[Fz _ (nW hst) hx hy,GL (by rw[fC hst];exact Ql7 s hs)];unfold Bu;rw[hMx,pK];rw[pG];congr 1;funext a;show xQ M E live (zL j1 a)=_;rw[Qc0 hN (zL j1 a) hany hi1];show(M E (aC E a.2.2 live) (j1+1) live).bind _=_;rw[hMy,pK];show _=Option.map (zL j) ((tQ E live y (aC E a.2.2 live)).bind λb=>Jg (ah E.toks j1) a b);rw[pG];rfl
 .rename_i hany
  cases h2;refine⟨hx,λσ live=>?_⟩;have hany':sD.any (bJ E.toks j)=false:=gW.2 hany;unfold Bu;rw[hMx,pK];have:(xQ M E live ∘ zL j)=λx=>some (zL j x):=by
   funext a;exact Xb hN (zL j a) hany'
  rw[this]
  cases tQ E live t σ<;>rfl
end
section
variable {E:bB} {X F:MX} {P Q:PE}
theorem Xj (hj:j<E.toks.length) (v:Int) (b:Bool) (σ:St):chk E ⟨v,b,j,σ⟩=(FQ (v,b,σ)).map (zL j):=Qd5 hj (v,b,σ)
theorem Wo (σ:St) (i:Nat) (live:Bool):tJ E σ i live=zL (i+1) (iN E σ (aT E i) live):=by
 unfold tJ iN;split
 .rfl
 split
 .rfl
 split
 .rename_i h;rw[ag (show jr (aC E σ live) (aT E i)<0 from h)];rfl
 .rename_i h;rw[ae (show ¬ jr (aC E σ live) (aT E i)<0 from h)];rfl
theorem Sy (hN:E.mode≠0) {a:VR} {ja jb:Nat} (hj:j<E.toks.length) (hc:aZ E.toks D9 jb=some (.ok (u,j))):yH E i live hid (zL ja a) (zL jb b)=(zf E (aT E i) live hid a b).map (zL j):=by
 unfold zf;change (if aW E (mM E (eO E b.2.2 jb D9) i (a.2.1||b.2.1)) live then
  (if 1<=E.sw/\E.sw<=6/\1<=E.sh/\E.sh<=6/\0<=mh E a.1 b.1/\mh E a.1 b.1<E.opens.length/\mh E a.1 b.1<E.hids.length then
   chk E ⟨(if hid then E.hids else E.opens).getD (mh E a.1 b.1).toNat 0,hid,eG E b.2.2 jb D9,lq (mM E (eO E b.2.2 jb D9) i (a.2.1||b.2.1)) (lF hid) (mh E a.1 b.1)⟩
  else none)
  else chk E ⟨0,hid||a.2.1||b.2.1,eG E b.2.2 jb D9,mM E (eO E b.2.2 jb D9) i (a.2.1||b.2.1)⟩)=_
 rw[(il hN _ hc).1,(il hN _ hc).2];have ef:mM E b.2.2 i (a.2.1||b.2.1)=lG E b.2.2 (aT E i) (a.2.1||b.2.1):=rfl;rw[ef]
 cases hl:aW E (lG E b.2.2 (aT E i) (a.2.1||b.2.1)) live
 .rw[ae (by simp),ae (by simp)];exact Qd5 hj (0,hid||a.2.1||b.2.1,lG E b.2.2 (aT E i) (a.2.1||b.2.1))
 .rw[ag rfl,ag rfl];split
  .exact Xj hj _ _ _
  .rfl
theorem Qb8 (q:gp) (h1:eG E q.σ q.to su=j) (h2:eO E q.σ q.to su=q.σ) (hj:j<E.toks.length):tex1 X hid E i live q=(X E q.σ j live).bind λb=>yH E i live hid q b:=by
 unfold tex1;rw[h1,h2,ag hj]
theorem IE (hN:E.mode≠0) (hT:bL E) (hR:xx E X P) (hF:dL P) (hid:Bool) {t:Ex} (hi:i+1<E.toks.length) (hl:(((ah E.toks i).kind==2)||((ah E.toks i).kind==1))=false) (h:oU P J2 D9 E.toks i=some (.ok (t,j)))
  (ht:∀(A B:St->Option VR) (live:Bool) (σ:St),uN E live (ah E.toks i) A B σ=(A (aC E σ live)).bind λa=>(B a.2.2).bind λb=>zf E (ah E.toks i) live hid a b) :
  Fg t/\∀σ live,vZ X hid E σ i live=(tQ E live t σ).map (zL j):=by
 unfold oU at h;obtain⟨u1,j1,h1,h⟩:=au h;obtain⟨a,j2,h2,h⟩:=au h;obtain⟨u3,j3,h3,h⟩:=au h;obtain⟨b,j4,h4,h⟩:=au h;obtain⟨u5,j5,h5,h⟩:=au h
 cases h;have l1:j1<E.toks.length:=by have:=bq (s:=J2) hT.last hi;rw[h1]at this;exact this.2
 obtain⟨ha,hMa⟩:=hR j1 a j2 l1 h2;have l2:=(nX hF hT l1 h2).2;have l3:j3<E.toks.length:=by have:=bq (s:=su) hT.last l2;rw[h3]at this;exact this.2
 obtain⟨hb,hMb⟩:=hR j3 b j4 l3 h4;have l4:=(nX hF hT l3 h4).2;have l5:j<E.toks.length:=by have:=bq (s:=D9) hT.last l4;rw[h5]at this;exact this.2
 refine⟨trivial,λσ live=>?_⟩;rw[Fz _ hl ha hb,ht,Mr,(il hN _ h1).1,(il hN _ h1).2,ag ⟨hi,l1⟩,hMa,pK,pG];congr 1;funext x;show tex1 X hid E i live (zL j2 x)=_;rw[Qb8 (zL j2 x) (il hN _ h3).1 (il hN _ h3).2 l3];show(X E x.2.2 j3 live).bind _=_;rw[hMb,pK];show _=Option.map (zL j) ((tQ E live b x.2.2).bind λy=>zf E (ah E.toks i) live hid x y);rw[pG];congr 1;funext y;exact Sy hN l5 h5
theorem Ir {m:Nat} {h:Bool} {a:Ex} {j2:Nat} (pre:yK E ⟨vs,h,j,σ⟩<E.toks.length) (hM:X E (A9 E ⟨vs,h,j,σ⟩) (yK E ⟨vs,h,j,σ⟩) live=(tQ E live a (A9 E ⟨vs,h,j,σ⟩)).map (zL j2)) :
  iQ X E live (m+1) ⟨vs,h,j,σ⟩=(tQ E live a (A9 E ⟨vs,h,j,σ⟩)).bind λx=>iQ X E live m ⟨vs++[x.1],h||x.2.1,j2,x.2.2⟩:=by
 rw[iQ,ag pre,hM,pK];rfl
theorem G8 (hN:E.mode≠0) {h:Bool} {j1:Nat} (hv:vs.length≠0) (hc:aZ E.toks su j=some (.ok (u,j1))):yK E ⟨vs,h,j,σ⟩=j1/\A9 E ⟨vs,h,j,σ⟩=σ:=by
 unfold yK A9;rw[ae hv,ae hv];exact il hN _ hc
theorem MQ (hN:E.mode≠0) (hT:bL E) (hR:xx E X P) (hF:dL P) {t:Ex} (hi:i+1<E.toks.length) (hl:(((ah E.toks i).kind==2)||((ah E.toks i).kind==1))=false) (h:oU P xS wF E.toks i=some (.ok (t,j)))
  (ht:∀(A B:St->Option VR) (live:Bool) (σ:St),uN E live (ah E.toks i) A B σ=(A (aC E σ live)).bind λa=>(B a.2.2).bind λb=>wX (ah E.toks i) a b) :
  Fg t/\∀σ live,(uK X 2 E σ i live).bind (zA E (ah E.toks i).text)=(tQ E live t σ).map (zL j):=by
 unfold oU at h;obtain⟨u1,j1,h1,h⟩:=au h;obtain⟨a,j2,h2,h⟩:=au h;obtain⟨u3,j3,h3,h⟩:=au h;obtain⟨b,j4,h4,h⟩:=au h;obtain⟨u5,j5,h5,h⟩:=au h
 cases h;have l1:j1<E.toks.length:=by have:=bq (s:=xS) hT.last hi;rw[h1]at this;exact this.2
 obtain⟨ha,hMa⟩:=hR j1 a j2 l1 h2;have l2:=(nX hF hT l1 h2).2;have l3:j3<E.toks.length:=by have:=bq (s:=su) hT.last l2;rw[h3]at this;exact this.2
 obtain⟨hb,hMb⟩:=hR j3 b j4 l3 h4;have l4:=(nX hF hT l3 h4).2;have l5:j<E.toks.length:=by have:=bq (s:=wF) hT.last l4;rw[h5]at this;exact this.2
 refine⟨trivial,λσ live=>?_⟩;rw[Fz _ hl ha hb,ht];unfold uK;rw[(il hN _ h1).1,(il hN _ h1).2,ag ⟨hi,l1⟩];rw[Ir (a:=a) (j2:=j2) (show yK E ⟨[],false,j1,aC E σ live⟩<E.toks.length from l1) (hMa _ _),pG];simp only[vW];show(tQ E live a (aC E σ live)).bind _=_;congr 1;funext x;have p2:=G8 (vs:=[x.1]) (h:=false||x.2.1) (σ:=x.2.2) hN (by simp) h3;show(iQ X E live 1 ⟨[x.1],false||x.2.1,j2,x.2.2⟩).bind _=Option.map (zL j) ((tQ E live b x.2.2).bind λy=>wX (ah E.toks i) x y);rw[Ir (a:=b) (j2:=j4) (by rw[p2.1];exact l3) (by rw[p2.1,p2.2];exact hMb _ _),pG,p2.2,vW];congr 1;funext y;show((some _:Option LS).bind _)=_;rw[aG];dsimp only;rw[(il hN _ h5).1,(il hN _ h5).2,aG];unfold zA;show(if([x.1]++[y.1]).length=2/\dw x.1/\dw y.1 then chk E ⟨dR (ah E.toks i).text x.1 y.1,false||x.2.1||y.2.1,j,y.2.2⟩ else none)=Option.map (zL j) (wX (ah E.toks i) x y);unfold wX;by_cases hg:dw x.1/\dw y.1
 .rw[ag ⟨rfl,hg⟩,ag hg,Bool.false_or];exact Xj l5 _ _ _
 .rw[ae (λg=>hg g.2),ae hg];rfl
theorem Qu (hN:E.mode≠0) (hT:bL E) (hR:xx E X P) (hF:dL P) {t:Ex} (hi:i+1<E.toks.length) (hl:(((ah E.toks i).kind==2)||((ah E.toks i).kind==1))=false) (h:jN P xS wF E.toks i=some (.ok (t,j))) :
  Fg t/\∀σ live,(uK X 3 E σ i live).bind (Jr E)=(tQ E live t σ).map (zL j):=by
 unfold jN at h;obtain⟨u1,j1,h1,h⟩:=au h;obtain⟨a,j2,h2,h⟩:=au h;obtain⟨u3,j3,h3,h⟩:=au h;obtain⟨b,j4,h4,h⟩:=au h;obtain⟨u5,j5,h5,h⟩:=au h;obtain⟨c,j6,h6,h⟩:=au h;obtain⟨u7,j7,h7,h⟩:=au h
 cases h;have l1:j1<E.toks.length:=by have:=bq (s:=xS) hT.last hi;rw[h1]at this;exact this.2
 obtain⟨ha,hMa⟩:=hR j1 a j2 l1 h2;have l2:=(nX hF hT l1 h2).2;have l3:j3<E.toks.length:=by have:=bq (s:=su) hT.last l2;rw[h3]at this;exact this.2
 obtain⟨hb,hMb⟩:=hR j3 b j4 l3 h4;have l4:=(nX hF hT l3 h4).2;have l5:j5<E.toks.length:=by have:=bq (s:=su) hT.last l4;rw[h5]at this;exact this.2
 obtain⟨hc,hMc⟩:=hR j5 c j6 l5 h6;have l6:=(nX hF hT l5 h6).2;have l7:j<E.toks.length:=by have:=bq (s:=wF) hT.last l6;rw[h7]at this;exact this.2
 refine⟨trivial,λσ live=>?_⟩;rw[Tf _ hl ha hb hc];unfold uK;rw[(il hN _ h1).1,(il hN _ h1).2,ag ⟨hi,l1⟩];rw[Ir (a:=a) (j2:=j2) (show yK E ⟨[],false,j1,aC E σ live⟩<E.toks.length from l1) (hMa _ _),pG];simp only[vW];show(tQ E live a (aC E σ live)).bind _=_;congr 1;funext x;have p2:=G8 (vs:=[x.1]) (h:=false||x.2.1) (σ:=x.2.2) hN (by simp) h3;show(iQ X E live 2 ⟨[x.1],false||x.2.1,j2,x.2.2⟩).bind _=Option.map (zL j) ((tQ E live b x.2.2).bind λy=>(tQ E live c y.2.2).bind λz=>yP x y z);rw[Ir (a:=b) (j2:=j4) (by rw[p2.1];exact l3) (by rw[p2.1,p2.2];exact hMb _ _),pG,p2.2,vW];congr 1;funext y;have p3:=G8 (vs:=[x.1]++[y.1]) (h:=false||x.2.1||y.2.1) (σ:=y.2.2) hN (by simp) h5;show(iQ X E live 1 ⟨[x.1]++[y.1],false||x.2.1||y.2.1,j4,y.2.2⟩).bind _=Option.map (zL j) ((tQ E live c y.2.2).bind λz=>yP x y z);rw[Ir (a:=c) (j2:=j6) (by rw[p3.1];exact l5) (by rw[p3.1,p3.2];exact hMc _ _),pG,p3.2,vW];congr 1;funext z;show((some _:Option LS).bind _)=_;rw[aG];dsimp only;rw[(il hN _ h7).1,(il hN _ h7).2,aG];have e:Jr E ⟨[x.1]++[y.1]++[z.1],false||x.2.1||y.2.1||z.2.1,j,z.2.2⟩=if x.1=0 then chk E ⟨z.1,false||x.2.1||y.2.1||z.2.1,j,z.2.2⟩ else chk E ⟨y.1,false||x.2.1||y.2.1||z.2.1,j,z.2.2⟩:=by simp[Jr]
 rw[e,Bool.false_or];show _=Option.map (zL j) (yP x y z);unfold yP;split
 .exact Xj l7 _ _ _
 .exact Xj l7 _ _ _
theorem Qn (hN:E.mode≠0) (σ:St) (i:Nat) (hs:s∈qw) (hL:s.toList=L) (hne:L≠[]):((Cj E σ i qw).toList==L)=bJ E.toks i s:=by
 rw[<-hL,Qe8 hs (by rw[hL];exact hne),Ez hN]
theorem Kc (hN:E.mode≠0) (σ:St) (i:Nat) (hs:s∈qw) (h:bJ E.toks i s=true):Cj E σ i qw=(ah E.toks i).text:=LC hN (dD.2 ⟨s,hs,h⟩)
theorem rZ {u:ByteArray} (h:bJ T i s=true):zn (ah T i) u=(s.toList==u.toList):=by
 unfold zn;rw[fC h]
theorem Nc (hN:E.mode≠0) (hT:bL E) (hR:xx E X P) (gX:ik X) (hF:dL P) (hR2:xx E F Q) (hF2:dL Q):xx E (mE X F) (iD P Q):=by
 intro i t j hi h;have fw:j<E.toks.length:=(nX (sK hF hF2) hT hi h).2;have un:∀σ live,mE X F E σ i live=if(ah E.toks i).kind==2 then chk E (tJ E σ i live) else if(ah E.toks i).kind==1 then chk E (tJ E σ i live) else F9 X F E σ i live (Cj E σ i qw):=λσ live=>by
  unfold mE;rw[ae (by rw[sZ hN];simp)];rfl
 unfold iD at h;split at h
 .rename_i hk
  cases h;refine⟨trivial,λσ live=>?_⟩;rw[un,ag hk,Wo,Qd5 fw,NU _ (by rw[hk];rfl)];rfl
 rename_i hk2;split at h
 .rename_i hk
  cases h;refine⟨trivial,λσ live=>?_⟩;rw[un,ae hk2,ag hk,Wo,Qd5 fw,NU _ (by rw[hk];simp)];rfl
 rename_i hk1;have hl:(((ah E.toks i).kind==2)||((ah E.toks i).kind==1))=false:=by simp[hk2,hk1]
 have un2:∀σ live,mE X F E σ i live=F9 X F E σ i live (Cj E σ i qw):=λσ live=>by rw[un,ae hk2,ae hk1]
 have sg:∀σ live,F9 X F E σ i live (Cj E σ i qw) =
   if bJ E.toks i xS then(if i+1<E.toks.length then(X E σ (i+1) live).bind λr=>chk E ⟨r.v,r.h,eG E r.σ r.to wF,eO E r.σ r.to wF⟩ else none) else
   if bJ E.toks i Ag then(if i+1<E.toks.length then(F E (aC E σ live) (i+1) live).bind λr=>chk E ⟨kG (-r.v),r.h,r.to,r.σ⟩ else none) else
   if bJ E.toks i bf then vZ X false E σ i live else
   if bJ E.toks i cz then vZ X true E σ i live else
   if bJ E.toks i kU then(uK X 2 E σ i live).bind (zA E (Cj E σ i qw)) else
   if bJ E.toks i kI then(uK X 2 E σ i live).bind (zA E (Cj E σ i qw)) else
   if bJ E.toks i jo then(uK X 3 E σ i live).bind (Jr E) else
   chk E ⟨0,false,E.toks.length-1,bR E σ i 9⟩:=λσ live=>by
  unfold F9;rw[Qn hN σ i (s:=xS) (by simp[qw,xS]) (by rw[aJ];rfl) (by simp),Qn hN σ i (s:=Ag) (by simp[qw,Ag]) (by rw[aJ];rfl) (by simp),
   Qn hN σ i (s:=bf) (by simp[qw,bf]) (by rw[aJ];rfl) (by simp),Qn hN σ i (s:=cz) (by simp[qw,cz]) (by rw[aJ];rfl) (by simp),
   Qn hN σ i (s:=kU) (by simp[qw,kU]) (by rw[aJ];rfl) (by simp),Qn hN σ i (s:=kI) (by simp[qw,kI]) (by rw[aJ];rfl) (by simp),
   Qn hN σ i (s:=jo) (by simp[qw,jo]) (by rw[aJ];rfl) (by simp)]
 split at h
 .rename_i hs;have h1:=aD hT.last hi hs;obtain⟨e,j1,e1,h⟩:=au h;obtain⟨u,j2,e2,h⟩:=au h
  cases h;obtain⟨he,hM⟩:=hR (i+1) t j1 h1 e1;refine⟨he,λσ live=>?_⟩;rw[un2,sg,ag hs,ag h1,hM,pK];have good:=gX E σ (i+1) live;rw[hM]at good
  cases hw:tQ E live t σ with
  | none=>rfl
  | some x=>
   rw[hw]at good;have g:=good (zL j1 x) rfl;show chk E ⟨x.1,x.2.1,eG E x.2.2 j1 wF,eO E x.2.2 j1 wF⟩=_;rw[(il hN _ e2).1,(il hN _ e2).2];exact Eu ⟨fw,g.2.1,g.2.2⟩
 rename_i hs0;split at h
 .rename_i hs;have h1:=aD hT.last hi hs;obtain⟨e,j1,e1,h⟩:=au h
  cases h;obtain⟨he,hM⟩:=hR2 (i+1) e j h1 e1;refine⟨trivial,λσ live=>?_⟩;rw[un2,sg,ae hs0,ag hs,ag h1,hM,pK,YP _ hl he,pG];congr 1;funext x;exact Xj fw _ _ _
 rename_i hs1;split at h
 .rename_i hs;have:=IE hN hT hR hF false (aD hT.last hi hs) hl h (λA B live σ=>by unfold uN;rw[ag (by rw[rZ hs];simp)]);exact⟨this.1,λσ live=>by rw[un2,sg,ae hs0,ae hs1,ag hs];exact this.2 σ live⟩
 rename_i hs2;split at h
 .rename_i hs;have:=IE hN hT hR hF true (aD hT.last hi hs) hl h (λA B live σ=>by unfold uN;rw[rZ hs,rZ hs,ae (by simp only[aJ];decide),ag (by simp)]);exact⟨this.1,λσ live=>by rw[un2,sg,ae hs0,ae hs1,ae hs2,ag hs];exact this.2 σ live⟩
 rename_i hs3;split at h
 .rename_i hs;have:=MQ hN hT hR hF (aD hT.last hi hs) hl h (λA B live σ=>by unfold uN;rw[rZ hs,rZ hs,rZ hs,ae (by simp only[aJ];decide),ae (by simp only[aJ];decide),ag (by simp)]);exact⟨this.1,λσ live=>by rw[un2,sg,ae hs0,ae hs1,ae hs2,ae hs3,ag hs,Kc hN σ i (s:=kU) (by simp[qw,kU]) hs];exact this.2 σ live⟩
 rename_i hs4;split at h
 .rename_i hs;have:=MQ hN hT hR hF (aD hT.last hi hs) hl h (λA B live σ=>by unfold uN;rw[rZ hs,rZ hs,rZ hs,rZ hs,ae (by simp only[aJ];decide),ae (by simp only[aJ];decide),ae (by simp only[aJ];decide),ag (by simp)]);exact⟨this.1,λσ live=>by rw[un2,sg,ae hs0,ae hs1,ae hs2,ae hs3,ae hs4,ag hs,Kc hN σ i (s:=kI) (by simp[qw,kI]) hs];exact this.2 σ live⟩
 rename_i hs5;split at h
 .rename_i hs;have:=Qu hN hT hR hF (aD hT.last hi hs) hl h;exact⟨this.1,λσ live=>by rw[un2,sg,ae hs0,ae hs1,ae hs2,ae hs3,ae hs4,ae hs5,ag hs];exact this.2 σ live⟩
 .cases h
theorem Rc (hN:E.mode≠0) (hT:bL E) (n:Nat):xx E (XF n).1 (yG n).1/\xx E (XF n).2 (yG n).2:=by
 induction n with
 | zero=>exact⟨λi t j _ h=>by(cases h),λi t j _ h=>by(cases h)⟩
 | succ n ih=>
  rw[yG];split
  .exact⟨λi t j _ h=>by(cases h),λi t j _ h=>by(cases h)⟩
  rename_i hn;obtain⟨m,rfl⟩:∃m,n=m+2:=⟨n-2,by omega⟩;have fw:=uU (m+2);have f:=Nc hN hT ih.1 (Qf1 (m+2)).1.2 fw.1 ih.2 fw.2;have ff:=sK fw.1 fw.2;rw[XF];have t:=Gl hN hT f ff Qh2 (m+1);have tf:=qL ff lT (m+1);have s:=Gl hN hT t tf Qg9 (m+1);have sf:=qL tf lQ (m+1);exact⟨UC hN hT s sf,f⟩
end
def E8 (E:bB):Prop:=E.mode=1∨E.mode=2
section
variable {E:bB} (h:E8 E)
theorem E8.ne0 (h:E8 E):E.mode≠0:=by rcases h with h|h<;>rw[h]<;>decide
theorem E8.ne3 (h:E8 E):(E.mode==3)=false:=by rcases h with h|h<;>rw[h]<;>rfl
theorem E8.lives (h:E8 E) (σ:St) (live:Bool):aW E σ live=false:=by simp[aW,h.ne3]
theorem E8.step (h:E8 E) (σ:St) (live:Bool):aC E σ live=σ:=by simp[aC,h.lives]
theorem E8.stepB (h:E8 E) (σ:St) (live:Bool):stepB E σ live=false:=by simp[Go.Proofs.YthmmgiaobakilaaGreat.stepB,h.lives]
end
def iW (l:List bQ) (s:ByteArray):Bool:=if aN l s<0 then false else(l.getD (aN l s).toNat kW).hid
def xM (t:aH):Bool:=!((t.kind==2)||(t.kind==1))
def Cu (l:List bQ):Ex->Bool
 | .nil=>false
 | .node _ _ t k r=>((t.kind==1)&&iW l t.text)||(xM t&&zn t cz)||Cu l k||Cu l r
def Bv (E:bB) (t:aH) (b:Bool) (σ:St):St:=if t.kind==1 then lH E σ t else if xM t&&(zn t bf||zn t cz) then lG E σ t b else σ
def zo (E:bB):Ex->St->St
 | .nil,σ=>σ
 | .node _ _ t k r,σ=>zo E r (Bv E t (Cu σ.cells k) (zo E k σ))
def WF:Ex->Prop
 | .nil=>True
 | .node _ _ t k r=>((xM t=false/\k=.nil/\dw t.num)∨(xM t=true/\(lenE k=2∨((lenE k=1∨lenE k=3)/\zn t bf=false/\zn t cz=false))))/\WF k/\WF r
def hH (l:List bQ) (e:Ex):Bool:=Cu l (bD e .nil)
def hS (E:bB) (e:Ex) (σ:St):St:=zo E (bD e .nil) σ
def dP (σ τ:St):Prop:=τ = { σ with fault:=τ.fault,place:=τ.place }
theorem dP.refl (σ:St):dP σ σ:=rfl
theorem dP.trans {a b c:St} (h1:dP a b) (h2:dP b c):dP a c:=by
 unfold dP at *;rw[h2,h1]
theorem dP.cells {a b:St} (h:dP a b):b.cells=a.cells:=by rw[h]
theorem dP.ok {a b:St} (h:dP a b) (ha:lI a):lI b:=by rw[h];exact ha
theorem qK (σ:St) (t:aH) (e:Int):dP σ (jZ σ t e):=by unfold jZ;split<;>rfl
theorem ww (E:bB) (σ:St) (t:aH):dP σ (lH E σ t):=by
 unfold lH;split
 .exact qK _ _ _
 .rfl
theorem qB (E:bB) (σ:St) (t:aH) (b:Bool):dP σ (lG E σ t b):=by
 unfold lG;split
 .exact qK _ _ _
 .rfl
theorem Di (E:bB) (t:aH) (b:Bool) (σ:St):dP σ (Bv E t b σ):=by
 unfold Bv;split
 .exact ww _ _ _
 split
 .exact qB _ _ _ _
 .rfl
theorem mY (E:bB):∀(e:Ex) (σ:St),dP σ (zo E e σ)
 | .nil,_=>rfl
 | .node _ _ t k r,σ=>((mY E k σ).trans (Di E t _ _)).trans (mY E r _)
theorem Dm (l:List bQ) (b o:Nat) (t:aH) (k r:Ex):hH l (.node b o t k r)=(((t.kind==1)&&iW l t.text)||(xM t&&zn t cz)||Cu l k):=by
 show Cu l (.node b o t k .nil)=_;rw[Cu,Cu];simp
theorem YK (E:bB) (b o:Nat) (t:aH) (k r:Ex) (σ:St):hS E (.node b o t k r) σ=Bv E t (Cu σ.cells k) (zo E k σ):=rfl
theorem D7 {k:Ex} (h:lenE k=1):∃b o t j,k=.node b o t j .nil:=by
 match k,h with
 | .node b o t j .nil,_=>exact⟨b,o,t,j,rfl⟩
 | .node _ _ _ _ (.node _ _ _ _ _),h=>simp[lenE]at h
theorem IU {k:Ex} (h:lenE k=2):∃b o t j r,k=.node b o t j r/\lenE r=1:=by
 match k,h with
 | .node b o t j r,h=>exact⟨b,o,t,j,r,rfl,by simpa[lenE] using h⟩
theorem QF {k:Ex} (h:lenE k=3):∃b o t j r,k=.node b o t j r/\lenE r=2:=by
 match k,h with
 | .node b o t j r,h=>exact⟨b,o,t,j,r,rfl,by simpa[lenE] using h⟩
theorem jI {r:VR} (h1:lI r.2.2) (h2:dw r.1):FQ r=some r:=by rw[FQ,ag ⟨h1,h2⟩]
theorem Zj (hm:E8 E) (σ:St) (t:aH) (live:Bool) (hk:t.kind=1):iN E σ t live=(0,iW σ.cells t.text,lH E σ t):=by
 unfold iN;rw[ae (by rw[hk];decide),ae (by simp[hm.ne0]),hm.step,hm.stepB];unfold iW;show(if aN σ.cells t.text<0 then _ else _)=_;split
 .rfl
 .simp only[mG,(ww E σ t).cells];rfl
theorem KZ (h:zn t bf=true):zn t cz=false:=by
 have e:t.text.toList=bf.toList:=by simpa[zn] using h
 unfold zn;rw[e];simp only[aJ];decide
theorem Qe0 (hm:E8 E) {a:VR} (hok:lI b.2.2):zf E t live hid a b=some (0,hid||a.2.1||b.2.1,lG E b.2.2 t (a.2.1||b.2.1)):=by
 unfold zf;rw[hm.lives,ae (by simp),jI ((qB _ _ _ _).ok hok) Dy]
theorem Ck {E:bB} (hm:E8 E) (live:Bool):∀(k:Ex) (b o:Nat) (t:aH) (r:Ex) (σ:St),WF (.node b o t k r)->lI σ->∃v,dw v/\tQ E live (.node b o t k r) σ=some (v,hH σ.cells (.node b o t k r),hS E (.node b o t k r) σ)
 | k,b,o,t,r,σ,hw,hok=>by
  rw[Dm,YK];obtain⟨hsh,hk,_⟩:=hw;show ∃v,dw v/\pg E live t (zt E live k) σ=_;rcases hsh with⟨ho,rfl,hn⟩|⟨ho,hlen⟩
  .have hl:((t.kind==2)||(t.kind==1))=true:=by
    unfold xM at ho
    cases h:((t.kind==2)||(t.kind==1))
    .rw[h]at ho;cases ho
    .rfl
   unfold pg;rw[ag hl];have hop:xM t=false:=ho
   cases hk2:(t.kind==2)
   .have hk1:t.kind=1:=by rw[hk2]at hl;simpa using hl
    refine⟨0,Dy,?_⟩;rw[Zj hm σ t live hk1,jI ((ww E σ t).ok hok) Dy];simp[Cu,zo,Bv,hk1,hop]
   .have hk2':t.kind=2:=by simpa using hk2
    refine⟨t.num,hn,?_⟩;have e:iN E σ t live=(t.num,false,σ):=by
     unfold iN;rw[ag hk2,hm.step]
    rw[e,jI hok hn];simp[Cu,zo,Bv,hk2',hop]
  .have hl:((t.kind==2)||(t.kind==1))=false:=by
    unfold xM at ho
    cases h:((t.kind==2)||(t.kind==1))
    .rfl
    .rw[h]at ho;cases ho
   have hk1:(t.kind==1)=false:=by
    cases h:(t.kind==1)
    .rfl
    .rw[h]at hl;simp at hl
   have hf:∀ks,pg E live t ks σ=match ks with
     | [A]=>(A (aC E σ live)).bind Js
     | [A,B]=>uN E live t A B σ
     | [A,B,C]=>(A (aC E σ live)).bind λa=>(B a.2.2).bind λb=>(C b.2.2).bind λc=>yP a b c
     | _=>none:=λks=>by
    unfold pg;rw[ae (by rw[hl];simp)]
    all_goals rfl
   rw[hf];have hd:∀bb τ,Bv E t bb τ=if zn t bf||zn t cz then lG E τ t bb else τ:=λbb τ=>by
    unfold Bv;rw[hk1,ho];simp
   rw[hd,hk1,ho]
   match k,hlen,hk with
   | .nil,hlen,_=>simp[lenE]at hlen
   | .node b1 o1 t1 k1 .nil,hlen,hk=>
    obtain⟨_,np,ns⟩:_/\zn t bf=false/\zn t cz=false:=by
     rcases hlen with h|⟨_,h⟩
     .simp[lenE]at h
     .exact⟨trivial,h⟩
    obtain⟨v,hv,e⟩:=Ck hm live k1 b1 o1 t1 .nil σ hk hok;refine⟨kG (-v),kL _,?_⟩;show(tQ E live (.node b1 o1 t1 k1 .nil) (aC E σ live)).bind Js=_;rw[hm.step,e,aG,Js,np,ns];have s1:dP σ (hS E (.node b1 o1 t1 k1 .nil) σ):=mY E _ σ;rw[jI (s1.ok hok) (kL _)];rfl
   | .node b1 o1 t1 k1 (.node b2 o2 t2 k2 .nil),hlen,hk=>
    obtain⟨va,hva,ea⟩:=Ck hm live k1 b1 o1 t1 (.node b2 o2 t2 k2 .nil) σ hk hok;have s1:dP σ (hS E (.node b1 o1 t1 k1 (.node b2 o2 t2 k2 .nil)) σ):=mY E _ σ;obtain⟨vb,hvb,eb⟩:=Ck hm live k2 b2 o2 t2 .nil (hS E (.node b1 o1 t1 k1 (.node b2 o2 t2 k2 .nil)) σ) hk.2.2 (s1.ok hok);have s2:=s1.trans (mY E (bD (.node b2 o2 t2 k2 .nil) .nil) (hS E (.node b1 o1 t1 k1 (.node b2 o2 t2 k2 .nil)) σ));rw[s1.cells]at eb;have eS:zo E (.node b1 o1 t1 k1 (.node b2 o2 t2 k2 .nil)) σ=hS E (.node b2 o2 t2 k2 .nil) (hS E (.node b1 o1 t1 k1 (.node b2 o2 t2 k2 .nil)) σ):=rfl;have eH:Cu σ.cells (.node b1 o1 t1 k1 (.node b2 o2 t2 k2 .nil))=(hH σ.cells (.node b1 o1 t1 k1 (.node b2 o2 t2 k2 .nil))||hH σ.cells (.node b2 o2 t2 k2 .nil)):=by
     rw[Dm];rfl
    rw[eS,eH];show ∃v,dw v/\uN E live t (tQ E live (.node b1 o1 t1 k1 (.node b2 o2 t2 k2 .nil))) (tQ E live (.node b2 o2 t2 k2 .nil)) σ=_;generalize hS E (.node b1 o1 t1 k1 (.node b2 o2 t2 k2 .nil)) σ=σa at *;have okb:=s2.ok hok;change lI (hS E (.node b2 o2 t2 k2 .nil) σa) at okb;generalize hS E (.node b2 o2 t2 k2 .nil) σa=σb at *;generalize hH σ.cells (.node b1 o1 t1 k1 (.node b2 o2 t2 k2 .nil))=ba at *;generalize hH σ.cells (.node b2 o2 t2 k2 .nil)=bb at *;have run:∀f:VR->VR->Option VR,((tQ E live (.node b1 o1 t1 k1 (.node b2 o2 t2 k2 .nil)) (aC E σ live)).bind λa=>(tQ E live (.node b2 o2 t2 k2 .nil) a.2.2).bind λb=>f a b)=f (va,ba,σa) (vb,bb,σb):=λf=>by
     rw[hm.step,ea,aG,eb,aG]
    have run2:((tQ E live (.node b1 o1 t1 k1 (.node b2 o2 t2 k2 .nil)) σ).bind λa=>(tQ E live (.node b2 o2 t2 k2 .nil) (aC E a.2.2 live)).bind λb=>Jg t a b)=Jg t (va,ba,σa) (vb,bb,σb):=by
     rw[ea,aG,hm.step,eb,aG]
    unfold uN
    cases hp:zn t bf
    .cases hs:zn t cz
     .have both:wX t (va,ba,σa) (vb,bb,σb)=some (dR t.text va vb,ba||bb,σb):=by
       unfold wX;rw[ag ⟨hva,hvb⟩,jI okb (iG hva hvb)]
      refine⟨dR t.text va vb,iG hva hvb,?_⟩;rw[ae (by simp),ae (by simp)];split
      .rw[run,both];simp
      split
      .rw[run,both];simp
      .rw[run2];simp[Jg]
     .refine⟨0,Dy,?_⟩;rw[ae (by simp),ag rfl,run,Qe0 hm okb];simp
    .have hs:=KZ hp;refine⟨0,Dy,?_⟩;rw[ag rfl,run,Qe0 hm okb,hs];simp
   | .node b1 o1 t1 k1 (.node b2 o2 t2 k2 (.node b3 o3 t3 k3 .nil)),hlen,hk=>
    obtain⟨_,np,ns⟩:_/\zn t bf=false/\zn t cz=false:=by
     rcases hlen with h|⟨_,h⟩
     .simp[lenE]at h
     .exact⟨trivial,h⟩
    obtain⟨va,hva,ea⟩:=Ck hm live k1 b1 o1 t1 (.node b2 o2 t2 k2 (.node b3 o3 t3 k3 .nil)) σ hk hok;have s1:dP σ (hS E (.node b1 o1 t1 k1 (.node b2 o2 t2 k2 (.node b3 o3 t3 k3 .nil))) σ):=mY E _ σ;obtain⟨vb,hvb,eb⟩:=Ck hm live k2 b2 o2 t2 (.node b3 o3 t3 k3 .nil) (hS E (.node b1 o1 t1 k1 (.node b2 o2 t2 k2 (.node b3 o3 t3 k3 .nil))) σ) hk.2.2 (s1.ok hok);have s2:dP σ (hS E (.node b2 o2 t2 k2 (.node b3 o3 t3 k3 .nil)) (hS E (.node b1 o1 t1 k1 (.node b2 o2 t2 k2 (.node b3 o3 t3 k3 .nil))) σ)):=s1.trans (mY E _ _);obtain⟨vc,hvc,ec⟩:=Ck hm live k3 b3 o3 t3 .nil (hS E (.node b2 o2 t2 k2 (.node b3 o3 t3 k3 .nil)) (hS E (.node b1 o1 t1 k1 (.node b2 o2 t2 k2 (.node b3 o3 t3 k3 .nil))) σ)) hk.2.2.2.2 (s2.ok hok);rw[s1.cells]at eb;rw[s2.cells]at ec;have eS:zo E (.node b1 o1 t1 k1 (.node b2 o2 t2 k2 (.node b3 o3 t3 k3 .nil))) σ=hS E (.node b3 o3 t3 k3 .nil) (hS E (.node b2 o2 t2 k2 (.node b3 o3 t3 k3 .nil)) (hS E (.node b1 o1 t1 k1 (.node b2 o2 t2 k2 (.node b3 o3 t3 k3 .nil))) σ)):=rfl;have eH:Cu σ.cells (.node b1 o1 t1 k1 (.node b2 o2 t2 k2 (.node b3 o3 t3 k3 .nil)))=(hH σ.cells (.node b1 o1 t1 k1 (.node b2 o2 t2 k2 (.node b3 o3 t3 k3 .nil)))||hH σ.cells (.node b2 o2 t2 k2 (.node b3 o3 t3 k3 .nil))||hH σ.cells (.node b3 o3 t3 k3 .nil)):=by
     rw[Dm,Dm,Bool.or_assoc];rfl
    have s3:dP σ (hS E (.node b3 o3 t3 k3 .nil) (hS E (.node b2 o2 t2 k2 (.node b3 o3 t3 k3 .nil)) (hS E (.node b1 o1 t1 k1 (.node b2 o2 t2 k2 (.node b3 o3 t3 k3 .nil))) σ))):=s2.trans (mY E _ _);have okc:=s3.ok hok;rw[eS,eH,np,ns];show ∃v,dw v/\((tQ E live (.node b1 o1 t1 k1 (.node b2 o2 t2 k2 (.node b3 o3 t3 k3 .nil))) (aC E σ live)).bind λa=>(tQ E live (.node b2 o2 t2 k2 (.node b3 o3 t3 k3 .nil)) a.2.2).bind λb=>(tQ E live (.node b3 o3 t3 k3 .nil) b.2.2).bind λc=>yP a b c)=_;rw[hm.step,ea,aG,eb,aG,ec,aG];unfold yP;split
    .refine⟨vc,hvc,?_⟩;rw[jI okc hvc];simp
    .refine⟨vb,hvb,?_⟩;rw[jI okc hvb];simp
   | .node _ _ _ _ (.node _ _ _ _ (.node _ _ _ _ (.node _ _ _ _ _))),hlen,_=>simp[lenE]at hlen
theorem qM {a r:Ex} (ha:WF a) (hr:WF r):WF (bD a r):=by
 cases a with
 | nil=>trivial
 | node b o t k r'=>exact⟨ha.1,ha.2.1,hr⟩
theorem tH {a r:Ex} (ha:Fg a):lenE (bD a r)=lenE r+1:=by
 cases a with
 | nil=>cases ha
 | node b o t k r'=>rfl
def zu (T:List aH):Prop:=∀i,dw (ah T i).num
def Qr (P:PE):Prop:=∀T i t j,zu T->P T i=some (.ok (t,j))->Fg t/\WF t
theorem QD (h:bJ T i s=true):xM (ah T i)=true:=by
 unfold xM;rw[nW h];rfl
theorem Qj (h:bJ T i s=true) {a b:Ex} (ha:Fg a/\WF a) (hb:Fg b/\WF b):Fg (uf (ah T i) a b)/\WF (uf (ah T i) a b):=
 ⟨trivial,.inr ⟨QD h,.inl (by rw[tH ha.1,tH hb.1];rfl)⟩,qM ha.2 (qM hb.2 trivial),trivial⟩
theorem Vi {M:PE} (hM:Qr M) (ops:List ByteArray) (hn:zu T) (n:Nat):∀e i t j,Fg e/\WF e->iB M ops T n e i=some (.ok (t,j))->Fg t/\WF t:=by
 induction n with
 | zero=>intro e i t j _ h;cases h
 | succ n ih=>
  intro e i t j he h;rw[iB]at h;split at h
  .rename_i ha;obtain⟨s,_,hs⟩:=dD.1 ha;obtain⟨x,j1,h1,h2⟩:=au h;exact ih _ _ _ _ (Qj hs he (hM T _ _ _ hn h1)) h2
  .cases h;exact he
theorem NC {M:PE} (hM:Qr M) (ops:List ByteArray) (n:Nat):Qr (jk M ops n):=by
 intro T i t j hn h;unfold jk at h;split at h
 .cases h
 obtain⟨x,j1,h1,h2⟩:=au h;exact Vi hM ops hn n _ _ _ _ (hM T _ _ _ hn h1) h2
theorem Qa7 {M:PE} (hM:Qr M):Qr (vV M):=by
 intro T i t j hn h;obtain⟨x,j1,h1,h2⟩:=au h;unfold wV at h2;split at h2
 .rename_i ha;obtain⟨s,_,hs⟩:=dD.1 ha;obtain⟨y,j2,h3,h4⟩:=au h2
  cases h4;exact Qj hs (hM T _ _ _ hn h1) (hM T _ _ _ hn h3)
 .cases h2;exact hM T _ _ _ hn h1
theorem LU {X:PE} (hX:Qr X) {l r:ByteArray} {t:Ex} (hn:zu T) (hs:bJ T i s=true) (h:oU X l r T i=some (.ok (t,j))):Fg t/\WF t:=by
 unfold oU at h;obtain⟨_,_,_,h⟩:=au h;obtain⟨a,_,ha,h⟩:=au h;obtain⟨_,_,_,h⟩:=au h;obtain⟨b,_,hb,h⟩:=au h;obtain⟨_,_,_,h⟩:=au h
 cases h;exact Qj hs (hX T _ _ _ hn ha) (hX T _ _ _ hn hb)
theorem Tm {X F:PE} (hX:Qr X) (hF:Qr F):Qr (iD X F):=by
 intro T i t j hn h;unfold iD at h;have leaf:∀k:Int,(k=1∨k=2)->((ah T i).kind==k)=true->Fg (BG (ah T i))/\WF (BG (ah T i)):=λk hk hs=>by
  have e:(ah T i).kind=k:=by simpa using hs
  refine⟨trivial,.inl ⟨?_,rfl,hn i⟩,trivial,trivial⟩;unfold xM;rw[e];rcases hk with rfl|rfl<;>rfl
 split at h
 .rename_i hs;cases h;exact leaf 2 (.inr rfl) hs
 split at h
 .rename_i hs;cases h;exact leaf 1 (.inl rfl) hs
 split at h
 .obtain⟨a,_,ha,h⟩:=au h;obtain⟨_,_,_,h⟩:=au h
  cases h;exact hX T _ _ _ hn ha
 split at h
 .rename_i hs;obtain⟨a,_,ha,h⟩:=au h
  cases h;have w:=hF T _ _ _ hn ha;refine⟨trivial,.inr ⟨QD hs,.inr ⟨.inl (by rw[tH w.1];rfl),?_,?_⟩⟩,qM w.2 trivial,trivial⟩
  .rw[rZ hs];simp only[aJ];decide
  .rw[rZ hs];simp only[aJ];decide
 split at h
 .rename_i hs;exact LU hX hn hs h
 split at h
 .rename_i hs;exact LU hX hn hs h
 split at h
 .rename_i hs;exact LU hX hn hs h
 split at h
 .rename_i hs;exact LU hX hn hs h
 split at h
 .rename_i hs;unfold jN at h;obtain⟨_,_,_,h⟩:=au h;obtain⟨a,_,ha,h⟩:=au h;obtain⟨_,_,_,h⟩:=au h;obtain⟨b,_,hb,h⟩:=au h;obtain⟨_,_,_,h⟩:=au h;obtain⟨c,_,hc,h⟩:=au h;obtain⟨_,_,_,h⟩:=au h
  cases h;have wa:=hX T _ _ _ hn ha;have wb:=hX T _ _ _ hn hb;have wc:=hX T _ _ _ hn hc;refine⟨trivial,.inr ⟨QD hs,.inr ⟨.inr (by rw[tH wa.1,tH wb.1,tH wc.1];rfl),?_,?_⟩⟩,qM wa.2 (qM wb.2 (qM wc.2 trivial)),trivial⟩
  .rw[rZ hs];simp only[aJ];decide
  .rw[rZ hs];simp only[aJ];decide
 .cases h
theorem Pg (n:Nat):Qr (yG n).1/\Qr (yG n).2:=by
 induction n with
 | zero=>exact⟨λT i t j _ h=>by(cases h),λT i t j _ h=>by(cases h)⟩
 | succ n ih=>
  rw[yG];split
  .exact⟨λT i t j _ h=>by(cases h),λT i t j _ h=>by(cases h)⟩
  have f:=Tm ih.1 ih.2;exact⟨Qa7 (NC (NC f lT _) lQ _),f⟩
theorem OP (hm:E8 E) (live:Bool) {t:Ex} (hn:Fg t) (hw:WF t) (hok:lI σ):∃v,dw v/\tQ E live t σ=some (v,hH σ.cells t,hS E t σ):=by
 cases t with
 | nil=>cases hn
 | node b o u k r=>exact Ck hm live k b o u r σ hw hok
theorem qW (E:bB) (t:Ex) (σ:St):dP σ (hS E t σ):=mY E _ σ
def rY (E:bB) (σ:St) (t:aH):St:=if(E.mode==1)&&decide (0<=jr σ t) && !(mG (lH E σ t) (jr σ t)).free then jZ (lH E σ t) t 10 else lH E σ t
def zh (E:bB) (σ:St) (t:aH) (h hid:Bool):St:=if(E.mode==2)&&h && !hid then jZ σ t 11 else σ
def Be (E:bB) (t:aH) (e:Ex) (σ:St):St:=zh E (hS E e (rY E σ t)) t (hH σ.cells e) (iW σ.cells t.text)
def qU (σ:St) (t:aH) (hid free:Bool):St:={ σ with cells:=σ.cells++[⟨t.text,0,hid,free⟩] }
def dN (E:bB) (σ:St) (t:aH) (hid free:Bool):St:=qU (if(E.mode==1)&&(decide (0<=aN σ.cells t.text)||decide (6<t.text.size)) then jZ σ t 10 else σ) t hid free
def xA (E:bB) (σ:St) (a b:aH):St:=if(E.mode==1)&&(decide (b.num<a.num)||decide (20<b.num)) then jZ σ a 10 else σ
def ZL (σ:St):St:={ σ with cells:=σ.cells.dropLast }
def uX (E:bB) (p:SP) (K:St->St) (σ:St):St:=
 if p.tag=0 then Be E p.t p.e σ else
 if p.tag=1 then K (lG E (hS E p.e σ) p.t (hH σ.cells p.e)) else
 if p.tag=2 then ZL (K (xA E (dN E σ p.t false false) p.a p.b)) else
 if p.tag=3 then zh E (hS E p.e σ) p.t (hH σ.cells p.e) false else
 if p.tag=4 then zh E (hS E p.e σ) p.t (hH σ.cells p.e) true else
 K σ
def oP (E:bB):Sx->St->St
 | .nil,σ=>σ
 | .node _ _ p k r,σ=>oP E r (uX E p (oP E k) σ)
def jl:Sx->List bQ->Prop
 | .nil,_=>True
 | .node _ _ p k r,l=>(p.tag=0->0<=aN l p.t.text)/\((p.tag=0∨p.tag=3∨p.tag=4)∨jl k (if p.tag=2 then l++[⟨p.t.text,0,false,false⟩] else l))/\jl r l
theorem yV (E:bB) (σ:St) (t:aH):dP σ (rY E σ t):=by
 unfold rY;split
 .exact(ww E σ t).trans (qK _ _ _)
 .exact ww E σ t
theorem yE (E:bB) (σ:St) (t:aH) (h hid:Bool):dP σ (zh E σ t h hid):=by
 unfold zh;split
 .exact qK _ _ _
 .rfl
theorem xP (E:bB) (σ:St) (a b:aH):dP σ (xA E σ a b):=by
 unfold xA;split
 .exact qK _ _ _
 .rfl
theorem mf (E:bB) (σ:St) (t:aH) (hid free:Bool):dP { σ with cells:=σ.cells++[⟨t.text,0,hid,free⟩] } (dN E σ t hid free):=by
 unfold dN qU;split
 .have:=qK σ t 10;unfold dP at *;rw[this]
 .rfl
theorem lS (E:bB):∀(s:Sx) (σ:St),dP σ (oP E s σ)
 | .nil,_=>rfl
 | .node _ _ p k r,σ=>by
  refine dP.trans ?_ (lS E r _);have hk:=lS E k;unfold uX;split
  .exact((yV E σ p.t).trans (qW E _ _)).trans (yE _ _ _ _ _)
  split
  .exact((qW E _ _).trans (qB _ _ _ _)).trans (hk _)
  split
  .have h1:=mf E σ p.t false false;have h2:=(h1.trans (xP E _ p.a p.b)).trans (hk _);unfold ZL;unfold dP at h2 ⊢;rw[h2];simp
  split
  .exact(qW E _ _).trans (yE _ _ _ _ _)
  split
  .exact(qW E _ _).trans (yE _ _ _ _ _)
  .exact hk σ
def rH (E:bB) (σ:St) (i:Nat):Prop:=lI σ/\σ.cells.length+(E.toks.length-i)<=1000
theorem rH.same {τ:St} (h:rH E σ i) (hs:dP σ τ) (hij:i<=j):rH E τ j:=⟨hs.ok h.1,by have:=h.2;rw[hs.cells];omega⟩
theorem qY (h:ib T k i=some (.ok (t,j))):((ah T i).kind==k)=true/\t=ah T i/\j=i+1:=by
 unfold ib at h;split at h
 .rename_i hs;cases h;exact⟨hs,rfl,rfl⟩
 .cases h
def BF (E:bB) (M:MS) (P:PS):Prop:=∀i t j,i<E.toks.length->P E.toks i=some (.ok (t,j))->∀σ live,rH E σ i->(E.mode=2->jl t σ.cells)->M E σ i live=some ⟨j,oP E t σ⟩
def Yh (s:Sx):Prop:=∃b o p k,s=.node b o p k .nil
section
variable {E:bB}
theorem Ox (hN:E.mode≠0) (σ:St) (h:ib E.toks k i=some (.ok (t,j))):D5 E σ i k=j/\Bp E σ i k=σ:=by
 obtain⟨hk,_,rfl⟩:=qY h;have hk':((aT E i).kind==k)=true:=hk;unfold D5 Bp;rw[sZ hN,hk'];simp
theorem uO (hT:bL E) (hi:i<E.toks.length) (h:aZ E.toks s i=some (.ok (u,j))):j<E.toks.length:=by
 have:=bq (s:=s) hT.last hi;rw[h]at this;exact this.2
theorem wT (hT:bL E) (hk:k≠4) (hi:i<E.toks.length) (h:ib E.toks k i=some (.ok (t,j))):j<E.toks.length:=by
 have:=qf hT.last hk hi;rw[h]at this;exact this.2
theorem Dj (hN:E.mode≠0) (hT:bL E) (hok:lI σ) (hi:i<E.toks.length) (h:aZ E.toks xE i=some (.ok (u,j))):qX E σ i=some ⟨j,σ⟩:=by
 unfold qX;rw[(il hN _ h).1,(il hN _ h).2];exact zl ⟨uO hT hi h,hok⟩
end
section
variable {X:MX} {P:PE} {B:MS} {Q:PS} {E:bB}
theorem Qk (hN:E.mode≠0) (σ:St) (i:Nat):tV E σ i=rY E σ (ah E.toks i)/\Gh E σ i=jr σ (ah E.toks i):=by
 refine⟨?_,?_⟩
 .unfold tV;rw[ae (by simp[hN])];rfl
 .unfold Gh;rw[ae (by simp[hN])];rfl
theorem VE (h:0<=aN l s):iW l s=(l.getD (aN l s).toNat kW).hid:=by
 unfold iW;rw[ae (by omega)]
theorem Y2 (hm:E8 E) (hT:bL E) (hn:zu E.toks) (hR:xx E X P) (hW:Qr P) (hF:dL P) {t:Sx} (hi:i+1<E.toks.length) (h:mi P E.toks i=some (.ok (t,j))) (hb:rH E σ i) (hfd:E.mode=2->jl t σ.cells):lM X E σ i live=some ⟨j,oP E t σ⟩:=by
 have hN:=hm.ne0;unfold mi at h;obtain⟨u1,j1,h1,h⟩:=au h;obtain⟨e,j2,h2,h⟩:=au h;obtain⟨u3,j3,h3,h⟩:=au h
 cases h;have l1:=uO hT hi h1;obtain⟨he,hM⟩:=hR j1 e j2 l1 h2;have hw:=(hW _ _ _ _ hn h2).2;have l2:=(nX hF hT l1 h2).2;have sl:=yV E σ (ah E.toks i);obtain⟨v,hv,ex⟩:=OP hm false he hw (sl.ok hb.1);have sh:=sl.trans (qW E e (rY E σ (ah E.toks i)));unfold lM;rw[(Qk hN σ i).1,(Qk hN σ i).2,hm.stepB,hm.step];unfold nQ;rw[(il hN _ h1).1,(il hN _ h1).2,ag ⟨hi,l1⟩,hM,ex];show iq E i false (jr σ (ah E.toks i)) ⟨v,hH (rY E σ (ah E.toks i)).cells e,j2,hS E e (rY E σ (ah E.toks i))⟩=_;show _=some (⟨j,Be E (ah E.toks i) e σ⟩:SR);unfold Be;rw[sl.cells];generalize hS E e (rY E σ (ah E.toks i))=τ at *;unfold iq
 cases hg:((E.mode==2)&&hH σ.cells e)
 .rw[ae (by simp),hm.lives,ae (by simp)];have o:zh E τ (ah E.toks i) (hH σ.cells e) (iW σ.cells (ah E.toks i).text)=τ:=by
   unfold zh;rw[hg];simp
  rw[o];exact Dj hN hT (sh.ok hb.1) l2 h3
 .rw[ag rfl];have hm2:E.mode=2:=by simp at hg;exact hg.1
  have hf:0<=aN σ.cells (ah E.toks i).text:=(hfd hm2).1 rfl;obtain⟨k,hk,hkl⟩:=ru (l:=σ.cells) (s:=(ah E.toks i).text) (by omega);have hkl2:jr σ (ah E.toks i)<τ.cells.length:=by
   show aN _ _<_;rw[sh.cells,hk];omega
  rw[ag ⟨hf,hkl2⟩];have o:YS E τ i (jr σ (ah E.toks i))=zh E τ (ah E.toks i) (hH σ.cells e) (iW σ.cells (ah E.toks i).text):=by
   unfold YS zh;rw[hg,VE hf];have ec:mG τ (jr σ (ah E.toks i))=σ.cells.getD (aN σ.cells (ah E.toks i).text).toNat kW:=by
    unfold mG;rw[sh.cells];rfl
   rw[ec]
   cases (σ.cells.getD (aN σ.cells (ah E.toks i).text).toNat kW).hid
   .rfl
   .rfl
  rw[o];exact Dj hN hT (((yE _ _ _ _ _)).ok (sh.ok hb.1)) l2 h3
theorem Qd9 (hm:E8 E) (hT:bL E) (hn:zu E.toks) (hR:xx E X P) (hW:Qr P) (hF:dL P) (hid:Bool) {tag:Nat} (htag:tag=if hid then 4 else 3) {t:Sx} (hi:i+1<E.toks.length) (h:wJ P tag E.toks i=some (.ok (t,j))) (hb:rH E σ i):Cq X hid E σ i live=some ⟨j,oP E t σ⟩:=by
 have hN:=hm.ne0;unfold wJ at h;obtain⟨e,j2,h2,h⟩:=au h;obtain⟨u3,j3,h3,h⟩:=au h
 cases h;obtain⟨he,hM⟩:=hR (i+1) e j2 hi h2;have hw:=(hW _ _ _ _ hn h2).2;have l2:=(nX hF hT hi h2).2;obtain⟨v,hv,ex⟩:=OP hm false he hw hb.1;have sh:=qW E e σ;unfold Cq;rw[ag hi,hm.stepB,hm.step,hM,ex];show uD E i false hid ⟨v,hH σ.cells e,j2,hS E e σ⟩=_;have e2:oP E (.node 0 0 ⟨tag,ah E.toks i,bK,bK,e⟩ .nil .nil) σ=zh E (hS E e σ) (ah E.toks i) (hH σ.cells e) hid:=by
  rw[htag]
  cases hid<;>rfl
 rw[e2];unfold uD;rw[hm.lives,ae (by simp)];exact Dj hN hT ((yE _ _ _ _ _).ok (sh.ok hb.1)) l2 h3
theorem MC {p:SP} {q:SP} (hq:q.tag=5) {b o b' o':Nat} {th el:Sx} (hp:p.tag=1) (h:jl (.node b o p (.node b' o' q th el) r) l):jl th l/\jl el l:=by
 rcases h.2.1 with h2|h2
 .omega
 rw[ae (by rw[hp];decide)]at h2;rcases h2.2.1 with h3|h3
 .omega
 rw[ae (by rw[hq];decide)]at h3;exact⟨h3,h2.2.2⟩
theorem Y0 (hm:E8 E) (hT:bL E) (hn:zu E.toks) (hR:xx E X P) (hW:Qr P) (hF:dL P) (hB:BF E B Q) (hFB:dL Q) {t:Sx} (hi:i+1<E.toks.length) (h:Pj P Q E.toks i=some (.ok (t,j))) (hb:rH E σ i) (hfd:E.mode=2->jl t σ.cells):mr X B E σ i live=some ⟨j,oP E t σ⟩:=by
 have hN:=hm.ne0;unfold Pj at h;obtain⟨e,j1,h1,h⟩:=au h;obtain⟨th,j2,h2,h⟩:=au h;obtain⟨he,hM⟩:=hR (i+1) e j1 hi h1;have hw:=(hW _ _ _ _ hn h1).2;have f1:=nX hF hT hi h1;have f2:j1<j2/\j2<E.toks.length:=by
  have:=hFB E.toks j1 hT.last f1.2;rw[h2]at this;exact⟨this.1,this.2⟩
 obtain⟨v,hv,ex⟩:=OP hm false he hw hb.1;have sh:=(qW E e σ).trans (qB E (hS E e σ) (ah E.toks i) (hH σ.cells e));unfold mr;rw[ag hi,hm.stepB,hm.step,hM,ex];show(B E (mM E (hS E e σ) i (hH σ.cells e)) j1 (false&&(v != 0))).bind (λr=>fF B E false ⟨v,hH σ.cells e,j1,hS E e σ⟩ r)=_;have ef:mM E (hS E e σ) i (hH σ.cells e)=lG E (hS E e σ) (ah E.toks i) (hH σ.cells e):=rfl;rw[ef];have b1:=hb.same sh (by omega:i<=j1);unfold uz at h;split at h
 .rename_i hs;obtain⟨el,j3,h3,h⟩:=au h
  cases h;have fd:E.mode=2->jl th σ.cells/\jl el σ.cells:=λh2=>MC rfl rfl (hfd h2);have s2:=lS E th (lG E (hS E e σ) (ah E.toks i) (hH σ.cells e));rw[hB j1 th j2 f1.2 h2 _ _ b1 (λh2=>by rw[sh.cells];exact(fd h2).1),aG];unfold fF;dsimp only;have l3:=aD hT.last f2.2 hs;rw[ag (by rw[Ez hN];exact hs),ag l3];rw[hB (j2+1) el j l3 h3 _ _ (b1.same s2 (by omega)) (λh2=>by rw[s2.cells,sh.cells];exact(fd h2).2)];rfl
 .rename_i hs
  cases h;have fd:E.mode=2->jl th σ.cells/\jl .nil σ.cells:=λh2=>MC rfl rfl (hfd h2);rw[hB j1 th j f1.2 h2 _ _ b1 (λh2=>by rw[sh.cells];exact(fd h2).1),aG];unfold fF;dsimp only;rw[ae (by rw[Ez hN];exact hs)];rfl
theorem Lv (hN:E.mode≠0) (σ:St) (i:Nat) (hd fr:Bool):oz E σ i hd fr=dN E σ (ah E.toks i) hd fr:=by
 unfold oz;rw[ae (by simp[hN])];unfold dN qU;have ew:MB E σ i=((E.mode==1)&&(decide (0<=aN σ.cells (ah E.toks i).text)||decide (6<(ah E.toks i).text.size))):=rfl;rw[ew];split
 .rfl
 .rfl
theorem Qj5 (hm:E8 E) (hT:bL E) (hB:BF E B Q) {t:Sx} (hi:i+1<E.toks.length) (h:BS Q E.toks i=some (.ok (t,j))) (hb:rH E σ i) (hfd:E.mode=2->jl t σ.cells):wW B E σ i live=some ⟨j,oP E t σ⟩:=by
 have hN:=hm.ne0;unfold BS at h;obtain⟨n,j1,h1,h⟩:=au h;obtain⟨a,j2,h2,h⟩:=au h;obtain⟨u,j3,h3,h⟩:=au h;obtain⟨b,j4,h4,h⟩:=au h;obtain⟨s,j5,h5,h⟩:=au h
 cases h;have l1:=wT hT (by decide) hi h1;have l2:=wT hT (by decide) l1 h2;have l3:=uO hT l2 h3;have l4:=wT hT (by decide) l3 h4;obtain⟨_,en,e1⟩:=qY h1;obtain⟨_,ea,e2⟩:=qY h2;obtain⟨_,e3⟩:=vN h3;obtain⟨_,eb,e4⟩:=qY h4;unfold wW;rw[ag hi,hm.stepB,hm.step,(Ox hN _ h1).1,(Ox hN _ h1).2];unfold EX;rw[ag l1,(Ox hN _ h2).1,(Ox hN _ h2).2];unfold F6;rw[(il hN _ h3).1,(il hN _ h3).2,ag ⟨l2,l3⟩,(Ox hN _ h4).1,(Ox hN _ h4).2];unfold Af;rw[ae (by rw[sZ hN];simp),Lv hN,<-en];have sd:=mf E σ n false false;have cd:(dN E σ n false false).cells=σ.cells++[⟨n.text,0,false,false⟩]:=sd.cells;have okd:lI (dN E σ n false false):=by
  refine sd.ok ?_;obtain⟨ha,hb2⟩:=hb;exact⟨by simp;omega,ha.2⟩
 rw[ag ⟨l4,okd⟩];have en2:jH E (dN E σ n false false) j1 j3=xA E (dN E σ n false false) a b:=by
  unfold jH xA;rw[ea,eb];rfl
 rw[en2];unfold oM;rw[ae (by simp)];have sn:=xP E (dN E σ n false false) a b;have bn:rH E (xA E (dN E σ n false false) a b) j4:=⟨sn.ok okd,by
  rw[sn.cells,cd];have:=hb.2;simp;omega⟩
 have fd:E.mode=2->jl s (σ.cells++[⟨n.text,0,false,false⟩]):=λh2=>by
  rcases(hfd h2).2.1 with h3|h3
  .rcases h3 with h3|h3|h3<;>cases h3
  rw[ag rfl]at h3;exact h3
 rw[hB j4 s j l4 h5 _ false bn (λh2=>by rw[sn.cells,cd];exact fd h2),aG];have ss:=lS E s (xA E (dN E σ n false false) a b);unfold nD;rw[ag (by
  show((E.mode==0)||decide (0<(oP E s (xA E (dN E σ n false false) a b)).cells.length))=true;rw[ss.cells,sn.cells,cd];simp)]
 unfold sI;rw[ae (by simp[hN])];rfl
end
theorem JA (E:bB) {s:Sx} (hs:Yh s) (r:Sx) (σ:St):oP E (kV s r) σ=oP E r (oP E s σ):=by
 obtain⟨b,o,p,k,rfl⟩:=hs;rfl
theorem De {s:Sx} (hs:Yh s) (h:jl (kV s r) l):jl s l/\jl r l:=by
 obtain⟨b,o,p,k,rfl⟩:=hs;exact⟨⟨h.1,h.2.1,trivial⟩,h.2.2⟩
def Oj (P:PS):Prop:=∀T i t j,P T i=some (.ok (t,j))->Yh t
theorem J8 {P:PE} {Q:PS} : Oj (dU P Q):=by
 intro T i t j h;unfold dU at h;split at h
 .unfold mi at h;obtain⟨_,_,_,h⟩:=au h;obtain⟨_,_,_,h⟩:=au h;obtain⟨_,_,_,h⟩:=au h
  cases h;exact⟨_,_,_,_,rfl⟩
 split at h
 .unfold Pj at h;obtain⟨_,_,_,h⟩:=au h;obtain⟨_,_,_,h⟩:=au h;unfold uz at h;split at h
  .obtain⟨_,_,_,h⟩:=au h
   cases h;exact⟨_,_,_,_,rfl⟩
  .cases h;exact⟨_,_,_,_,rfl⟩
 split at h
 .unfold BS at h;obtain⟨_,_,_,h⟩:=au h;obtain⟨_,_,_,h⟩:=au h;obtain⟨_,_,_,h⟩:=au h;obtain⟨_,_,_,h⟩:=au h;obtain⟨_,_,_,h⟩:=au h
  cases h;exact⟨_,_,_,_,rfl⟩
 split at h
 .unfold wJ at h;obtain⟨_,_,_,h⟩:=au h;obtain⟨_,_,_,h⟩:=au h
  cases h;exact⟨_,_,_,_,rfl⟩
 split at h
 .unfold wJ at h;obtain⟨_,_,_,h⟩:=au h;obtain⟨_,_,_,h⟩:=au h
  cases h;exact⟨_,_,_,_,rfl⟩
 .cases h
theorem FI (n:Nat):Oj (zB n).1:=by
 cases n with
 | zero=>intro T i t j h;cases h
 | succ n=>
  rw[zB];split
  .intro T i t j h;cases h
  .exact J8
section
variable {E:bB} {S:MS} {P:PS}
theorem FB (hF:dL P) (hT:bL E) {t:Sx} (hi:i<E.toks.length) (h:P E.toks i=some (.ok (t,j))):i<j/\j<E.toks.length:=by
 have:=hF E.toks i hT.last hi;rw[h]at this;exact⟨this.1,this.2⟩
theorem SH (hm:E8 E) (hT:bL E) (hR:BF E S P) (hF:dL P) (hO:Oj P) (m:Nat):∀σ i t j,i<E.toks.length->kz P E.toks m i=some (.ok (t,j))->rH E σ i->(E.mode=2->jl t σ.cells)->gY S E live (m+1) ⟨i,σ⟩=some ⟨j,oP E t σ⟩:=by
 have hN:=hm.ne0
 induction m with
 | zero=>intro σ i t j _ h;cases h
 | succ m ih=>
  intro σ i t j hi h hb hfd;rw[kz]at h;rw[gY];dsimp only;split at h
  .rename_i hs
   cases h;have n1:aZ E.toks DF i=some (.ok ((),i+1)):=by unfold aZ;rw[ag hs];rfl
   rw[ag (by rw[Ez hN,hs];rfl),(il hN _ n1).1,(il hN _ n1).2];exact zl ⟨aD hT.last hi hs,hb.1⟩
  .rename_i hs;obtain⟨s,j1,h1,h⟩:=au h;obtain⟨r,j2,h2,h⟩:=au h
   cases h;have f1:=FB hF hT hi h1;have ho:=hO _ _ _ _ h1;have fd:E.mode=2->jl s σ.cells/\jl r σ.cells:=λh2=>De ho (hfd h2);rw[ae (by rw[Ez hN,sZ hN];simpa using hs),hR i s j1 hi h1 σ live hb (λh2=>(fd h2).1),aG,JA E ho];have ss:=lS E s σ;exact ih _ j1 r j f1.2 h2 (hb.same ss (by omega)) (λh2=>by rw[ss.cells];exact(fd h2).2)
theorem Qd1 (hm:E8 E) (hT:bL E) (hR:BF E S P) (hF:dL P) (hO:Oj P) (n:Nat):BF E (rq S (n+1)) (r9 P n):=by
 have hN:=hm.ne0;intro i t j hi h σ live hb hfd;unfold r9 at h;split at h
 .cases h
 obtain⟨u,j1,h1,h⟩:=au h;have l1:=uO hT hi h1;obtain⟨_,e1⟩:=vN h1;unfold rq;rw[(il hN _ h1).1,(il hN _ h1).2,ag l1];exact SH hm hT hR hF hO n σ j1 t j l1 h (hb.same (dP.refl _) (by omega)) hfd
end
section
variable {E:bB}
theorem MW {X:MX} {P:PE} {B:MS} {Q:PS} (hm:E8 E) (hT:bL E) (hn:zu E.toks) (hR:xx E X P) (hW:Qr P) (hF:dL P) (hB:BF E B Q) (hFB:dL Q):BF E (jm X B) (dU P Q):=by
 have hN:=hm.ne0;intro i t j hi h σ live hb hfd;unfold jm;rw[sZ hN,ae (by simp),Ez hN,Ez hN,Ez hN,Ez hN];unfold dU at h;split at h
 .rename_i hk;have hk':((aT E i).kind==1)=true:=hk;have e:(ah E.toks i).kind=1:=by simpa using hk
  rw[ag hk'];exact Y2 hm hT hn hR hW hF (tO hT.last hi (by rw[e];decide)) h hb hfd
 rename_i hk;rw[ae (show ¬ ((aT E i).kind==1)=true from hk)];split at h
 .rename_i hs;rw[ag hs];exact Y0 hm hT hn hR hW hF hB hFB (aD hT.last hi hs) h hb hfd
 rename_i h1;rw[ae h1];split at h
 .rename_i hs;rw[ag hs];exact Qj5 hm hT hB (aD hT.last hi hs) h hb hfd
 rename_i h2;rw[ae h2];split at h
 .rename_i hs;have hne:bJ E.toks i dY=false:=by
   have e:=fC hs
   cases h0:bJ E.toks i dY
   .rfl
   .have e2:=fC h0;rw[e]at e2;exact absurd (dO (λx=>x.data) e2) (by decide)
  rw[ag (by rw[hs];rfl),hne];exact Qd9 hm hT hn hR hW hF false rfl (aD hT.last hi hs) h hb
 rename_i h3;split at h
 .rename_i hs;rw[ag (by rw[hs];simp),hs];exact Qd9 hm hT hn hR hW hF true rfl (aD hT.last hi hs) h hb
 .cases h
theorem Qr5 (hm:E8 E) (hT:bL E) (hn:zu E.toks) (n:Nat):BF E (JE n).1 (zB n).1/\BF E (JE n).2 (zB n).2:=by
 induction n with
 | zero=>exact⟨λi t j _ h=>by(cases h),λi t j _ h=>by(cases h)⟩
 | succ n ih=>
  rw[zB];split
  .exact⟨λi t j _ h=>by(cases h),λi t j _ h=>by(cases h)⟩
  rename_i hn2;obtain⟨m,rfl⟩:∃m,n=m+2:=⟨n-2,by omega⟩;rw[JE];exact⟨MW hm hT hn (Rc hm.ne0 hT (m+2)).1 (Pg (m+2)).1 (uU (m+2)).1 ih.2 (oV (m+2)).2,Qd1 hm hT ih.1 (oV (m+2)).1 (FI (m+2)) (m+1)⟩
def Av (E:bB):List (aH×Bool)->St->St
 | [],σ=>σ
 | (t,hd)::l,σ=>Av E l (dN E σ t hd true)
theorem Ic (E:bB) (a b:List (aH×Bool)) (σ:St):Av E (a++b) σ=Av E b (Av E a σ):=by
 induction a generalizing σ with
 | nil=>rfl
 | cons x a ih=>exact ih _
theorem rH.decl (h:rH E σ i) (hij:i<j) (hj:i<E.toks.length) (t:aH) (hd fr:Bool):rH E (dN E σ t hd fr) j:=by
 have sd:=mf E σ t hd fr;have:=h.2;refine⟨sd.ok ⟨by simp;omega,h.1.2⟩,?_⟩;rw[sd.cells];simp;omega
theorem ZI (hm:E8 E) (hT:bL E) (hd:Bool) (n:Nat):∀σ i l j,i<E.toks.length->jO E.toks hd n i=some (.ok (l,j))->rH E σ i->qo E hd n ⟨i,σ⟩=some ⟨j,Av E l σ⟩/\rH E (Av E l σ) j:=by
 have hN:=hm.ne0
 induction n with
 | zero=>intro σ i l j _ h;cases h
 | succ n ih=>
  intro σ i l j hi h hb;rw[jO]at h;obtain⟨t,j1,h1,h⟩:=au h;have l1:=wT hT (by decide) hi h1;obtain⟨_,et,e1⟩:=qY h1;have b1:rH E (dN E σ t hd true) j1:=hb.decl (by omega) hi t hd true;rw[qo];dsimp only;rw[(Ox hN _ h1).1,(Ox hN _ h1).2,sZ hN,ae (by simp),Lv hN,<-et,ag ⟨l1,b1.1⟩,Ez hN];split at h
  .rename_i hs;obtain⟨l',j2,h2,h⟩:=au h
   cases h;have l2:=aD hT.last l1 hs;rw[ag hs,ag l2];exact ih _ (j1+1) l' j l2 h2 (b1.same (dP.refl _) (by omega))
  .rename_i hs;obtain⟨u,j2,h2,h⟩:=au h
   cases h;rw[ae hs];have l2:=uO hT l1 h2;obtain⟨_,e2⟩:=vN h2;refine⟨?_,b1.same (dP.refl _) (by omega)⟩;rw[(il hN _ h2).1,(il hN _ h2).2];exact zl ⟨l2,b1.1⟩
theorem ZH (hm:E8 E) (hT:bL E) (f n:Nat):∀σ i l j,i<E.toks.length->jY E.toks f n i=some (.ok (l,j))->rH E σ i->pu E f (n+1) ⟨i,σ⟩=some ⟨j,Av E l σ⟩/\rH E (Av E l σ) j:=by
 have hN:=hm.ne0
 induction n with
 | zero=>intro σ i l j _ h;cases h
 | succ n ih=>
  intro σ i l j hi h hb;rw[jY]at h;rw[pu];dsimp only;rw[Ez hN,Ez hN];split at h
  .rename_i hs;have h1:i+1<E.toks.length:=by
    have hs':=hs;simp only[pU]at hs';rcases hs' with hs'|hs'<;>exact aD hT.last hi hs'
   obtain⟨a,j1,e1,h⟩:=au h;obtain⟨b,j2,e2,h⟩:=au h
   cases h;obtain⟨r1,b1⟩:=ZI hm hT _ f σ (i+1) a j1 h1 e1 (hb.same (dP.refl _) (by omega));have f1:=xI (bJ E.toks i bA) hT.last f (i+1) h1;rw[e1]at f1;obtain⟨r2,b2⟩:=ih (Av E a σ) j1 b j f1.2 e2 b1;rw[ag hs,ag h1,r1,aG,Ic];exact⟨r2,b2⟩
  .rename_i hs
   cases h;rw[ae hs];exact⟨rfl,hb⟩
theorem Qi0 {S:MS} {P:PS} (hm:E8 E) (hT:bL E) (hR:BF E S P) (hF:dL P) (hO:Oj P) (n:Nat):∀σ i t j,σ.dead=false->i<E.toks.length->mH P E.toks n i=some (.ok (t,j))->rH E σ i->(E.mode=2->jl t σ.cells)->uh S E (n+1) ⟨i,σ⟩=some (oP E t σ):=by
 have hN:=hm.ne0
 induction n with
 | zero=>intro σ i t j _ _ h;cases h
 | succ n ih=>
  intro σ i t j hd hi h hb hfd;rw[mH]at h;rw[uh];dsimp only;rw[sZ hN,hd];split at h
  .rename_i hs
   cases h;have hs':((aT E i).kind==4)=true:=hs;rw[hs',ag (by simp)];rfl
  .rename_i hs;have hs':((aT E i).kind==4)=false:=gW.2 hs;obtain⟨s,j1,h1,h⟩:=au h;obtain⟨r,j2,h2,h⟩:=au h
   cases h;have f1:=FB hF hT hi h1;have ho:=hO _ _ _ _ h1;have fd:E.mode=2->jl s σ.cells/\jl r σ.cells:=λh2=>De ho (hfd h2);rw[hs',ae (by simp),hR i s j1 hi h1 σ true hb (λh2=>(fd h2).1),aG,JA E ho];have ss:=lS E s σ;exact ih _ j1 r j (by rw[ss];exact hd) f1.2 h2 (hb.same ss (by omega)) (λh2=>by rw[ss.cells];exact(fd h2).2)
theorem MJ (hm:E8 E) (hT:bL E) (hn:zu E.toks) (hlen:E.toks.length<=900) (m:Nat) {t:Sx} (hok:lI σ) (hd:σ.dead=false) (h:dV (m+1) E.toks=some (.ok ((ds,t),j))) (hfd:E.mode=2->jl t (Av E ds (iC E σ)).cells):qi (m+1) E σ=some (oP E t (Av E ds (iC E σ))):=by
 have hi:=hT.last.1;have hs:rH E (iC E σ) 0:=⟨⟨by simp[iC],hok.2⟩,by simp[iC];omega⟩;unfold dV at h;simp only[Nat.add_sub_cancel]at h;obtain⟨ds',j1,h1,h⟩:=au h;obtain⟨t',j2,h2,h⟩:=au h
 cases h;have f1:=xF hT.last (m+1) m 0 hi;rw[h1]at f1;obtain⟨r1,b1⟩:=ZH hm hT (m+1) m (iC E σ) 0 ds j1 hi h1 hs;unfold qi;rw[ae (by rw[hm.ne3];simp),r1,aG];have hdd:∀(l:List (aH×Bool)) (τ:St),τ.dead=false->(Av E l τ).dead=false:=λl=>by
  induction l with
  | nil=>intro τ h;exact h
  | cons x l ih=>
   intro τ h;refine ih _ ?_;have:=mf E τ x.1 x.2 true;rw[this];exact h
 exact Qi0 hm hT (Qr5 hm hT hn (m+1)).1 (oV (m+1)).1 (FI (m+1)) m _ j1 t j (hdd ds _ hd) f1.2 h2 b1 hfd
end
end Go.Proofs.YthmmgiaobakilaaGreat
