import Derived.Test.YthmmgiaobakilaaGreatJ41
set_option maxRecDepth 100000
set_option maxHeartbeats 8000000
set_option linter.all false
namespace Go.Proofs.YthmmgiaobakilaaGreat
open Go.RowKit Go.Deep
variable {B:MS} {Q:PS} {T:List aH} {i j:Nat} {l:List bQ} {r s:Sx}
section
variable {E:bB} {D:PD}
theorem Qo0 (hE:E3 E D) (σ:St) (i:Nat) (hd fr:Bool):oz E σ i hd fr=qU σ (ah E.toks i) hd fr:=by
 rw[Lv hE.ne0];unfold dN;rw[hE.m];rfl
theorem Qr1 (hE:E3 E D) (σ:St) (a b:Nat):jH E σ a b=σ:=by unfold jH;rw[hE.m];rfl
theorem ZM (σ:St) (t:aH) (hd fr:Bool):({ qU σ t hd fr with cells:=(qU σ t hd fr).cells.dropLast } : St)=σ:=by
 unfold qU;simp
theorem Qg6 (hE:E3 E D) (hT:bL E) (hB:YC E D B Q) {t:Sx} (hi:i+1<E.toks.length) (h:BS Q E.toks i=some (.ok (t,j))) :
  (∀σ live,aW E σ live=false->rH E σ i->wW B E σ i live=some ⟨j,σ⟩)/\(∀l σ S,R3 E D l 0 0 σ S->rH E σ i->fE t l->∃σ',wW B E σ i true=some ⟨j,σ'⟩/\Bo E D l σ' (iA D t S)):=by
 have hN:=hE.ne0;unfold BS at h;obtain⟨n,j1,h1,h⟩:=au h;obtain⟨a,j2,h2,h⟩:=au h;obtain⟨u,j3,h3,h⟩:=au h;obtain⟨b,j4,h4,h⟩:=au h;obtain⟨s,j5,h5,h⟩:=au h
 cases h;have l1:=wT hT (by decide) hi h1;have l2:=wT hT (by decide) l1 h2;have l3:=uO hT l2 h3;have l4:=wT hT (by decide) l3 h4;obtain⟨kn,en,e1⟩:=qY h1;obtain⟨ka,ea,e2⟩:=qY h2;obtain⟨_,e3⟩:=vN h3;obtain⟨kb,eb,e4⟩:=qY h4;obtain⟨bo,bn⟩:=hB j4 s j l4 h5;have run:∀σ live,lI (qU (aC E σ live) n false false)->wW B E σ i live=(oM B E (stepB E σ live) j4 j1 j3 (qU (aC E σ live) n false false)).bind (nD E):=λσ live ho=>by
  unfold wW;rw[ag hi,(Ox hN _ h1).1,(Ox hN _ h1).2];unfold EX;rw[ag l1,(Ox hN _ h2).1,(Ox hN _ h2).2];unfold F6;rw[(il hN _ h3).1,(il hN _ h3).2,ag ⟨l2,l3⟩,(Ox hN _ h4).1,(Ox hN _ h4).2];unfold Af;rw[ae (by rw[sZ hN];simp),Qo0 hE,<-en,ag ⟨l4,ho⟩,Qr1 hE]
 have okA:∀σ,rH E σ i->lI (qU σ n false false)/\rH E (qU σ n false false) j4:=λσ hb=>by
  have h2:=hb.2;have ok:lI (qU σ n false false):=⟨by show(σ.cells++[_]).length<=1000;simp;omega,hb.1.2⟩;exact⟨ok,ok,by show(σ.cells++[_]).length+_<=1000;simp;omega⟩
 have fin:∀τ:St,0<τ.cells.length->nD E ⟨j,τ⟩=some ⟨j,{ τ with cells:=τ.cells.dropLast }⟩:=λτ hp=>by
  unfold nD sI;rw[ag (by rw[jP hp,Bool.or_true]),ae (by simp[hN])]
 have offR:∀σ,rH E σ i->(oM B E false j4 j1 j3 (qU σ n false false)).bind (nD E)=some ⟨j,σ⟩:=λσ hb=>by
  obtain⟨_,b2⟩:=okA σ hb;unfold oM;rw[ae (by decide),bo _ false (oZ _) b2,aG,fin _ (by show 0<(σ.cells++[_]).length;simp),ZM]
 refine⟨λσ live hl hb=>?_,λl σ S hR hb hf=>?_⟩
 .obtain⟨s1,s2⟩:=pR hl;rw[run σ live (by rw[s1];exact(okA σ hb).1),s1,s2];exact offR σ hb
 .rw[qP]at hf;obtain⟨d1,d2,d3,d4⟩:=hf.2.2.2.1 rfl;have d1':aN l n.text<0:=d1;have d2':a.num<=b.num:=d2;have d3':b.num<=20:=d3;have d4':fE s (l++[⟨n.text,0,false,false⟩]):=d4;have na:0<=a.num/\a.num<=65536:=by rw[ea];exact hT.nums j1
  have nb:0<=b.num/\b.num<=65536:=by rw[eb];exact hT.nums j3
  have pn:nP a=a.num/\nP b=b.num/\wP n=n.text:=by
   have ka':a.kind=2:=by rw[ea];simpa using ka
   have kb':b.kind=2:=by rw[eb];simpa using kb
   have kn':n.kind=1:=by rw[en];simpa using kn
   unfold nP wP;rw[ka',kb',kn'];exact⟨rfl,rfl,rfl⟩
  have eS:iA D (.node 0 0 ⟨2,n,a,b,.nil⟩ s .nil) S=fA (iA D s) n.text (b.num-a.num+1).toNat a.num (aK S):=by
   rw[NZ hR.lt rfl];show fA (iA D s) (wP n) (nP b-nP a+1).toNat (nP a) (aK S)=_;rw[pn.1,pn.2.1,pn.2.2]
  rw[eS];by_cases hs:σ.steps<20000
  .obtain⟨x1,x2,x3⟩:=hR.on hE hs;have r1:=x3.pay (dn _);have hb1:rH E (aC E σ true) i:=hb.cells x3.okS (by rw[x3.ce,hR.ce]) (af _);obtain⟨o1,o2⟩:=okA _ hb1;rw[run σ true o1,x2];unfold oM;rw[ag rfl];have ta:(aT E j1).num=a.num:=by rw[ea];rfl
   have tb:(aT E j3).num=b.num:=by rw[eb];rfl
   rw[ta,tb,ag ⟨by omega,by omega,by omega,by omega⟩];have ec:(qU (aC E σ true) n false false).cells=l++[⟨n.text,0,false,false⟩]:=by show(aC E σ true).cells++_=_;rw[x3.ce]
   have rr:R3 E D l 0 0 { qU (aC E σ true) n false false with cells:=l } (aK S):=by
    have:({ qU (aC E σ true) n false false with cells:=l } : St)=aC E σ true:=by
     have hc:=x3.ce;show({ aC E σ true with cells:=l } : St)=_;rw[<-hc]
    rw[this];exact r1
   obtain⟨σ',z1,l',c',z2,z3,z4,z5⟩:=Ra hE d3' i (by omega) (λσ live hl hb=>bo σ live hl hb) bn 30 a.num j4 l ⟨n.text,0,false,false⟩ (qU (aC E σ true) n false false) (aK S) (by omega) na.1 d2' ec rfl d1' rr o2 d4';rw[z1,aG,fin σ' (by rw[z2];simp),z2];have ed:(l'++[c']).dropLast=l':=by simp
   rw[ed];refine⟨_,rfl,z3,?_,?_⟩
   .refine⟨?_,z4.2⟩;have:=z4.1;rw[z2]at this;show l'.length<=1000;simp at this;omega
   .rcases z5 with⟨w1,w2⟩|⟨w1,w2⟩
    .exact .inl ⟨w1,w2⟩
    .exact .inr ⟨w1,w2⟩
  .obtain⟨x1,x2⟩:=hR.die hE hs;have hb1:rH E (aC E σ true) i:=by rw[x1];exact⟨hb.1,hb.2⟩
   rw[run σ true (okA _ hb1).1,x2,offR _ hb1];refine⟨_,rfl,?_,hb1.1,.inr ⟨?_,by rw[x1]⟩⟩
   .rw[x1];show eY l σ.cells;rw[hR.ce];exact eY.refl _
   .have h2:=hR.st;have g:=ui (body:=iA D s) (nm:=n.text) (λT=>Az D _ s (af _) T) (b.num-a.num+1).toNat a.num (aK S);have:(aK S).steps=S.steps+1:=rfl;omega
theorem Iq (hs:Yh s) (r:Sx) (S:dx):iA D (kV s r) S=iA D r (iA D s S):=by
 obtain⟨b,o,p,k,rfl⟩:=hs;by_cases h:20000<S.steps
 .rw[kK h,kK h,kK h]
 .show iA D (.node b o p k r) S=iA D r (iA D (.node b o p k .nil) S)
  cases k<;>(show(if 20000<S.steps then S else iA D r _)=iA D r (if 20000<S.steps then S else iA D .nil _);rw[ae h,ae h];rfl)
theorem BA (hs:Yh s) (h:fE (kV s r) l):fE s l/\fE r l:=by
 obtain⟨b,o,p,k,rfl⟩:=hs;have h':fE (.node b o p k r) l:=h;rw[qP]at h';refine⟨?_,h'.2.2.2.2⟩;rw[qP];exact⟨h'.1,h'.2.1,h'.2.2.1,h'.2.2.2.1,trivial⟩
theorem Bo.then {σ1:St} {S1:dx} {M:St->Option SR} (h:Bo E D l σ1 S1) (off:aW E σ1 true=false->M σ1=some ⟨j,σ1⟩) (on:R3 E D σ1.cells 0 0 σ1 S1->∃σ',M σ1=some ⟨j,σ'⟩/\Bo E D σ1.cells σ' (iA D r S1)):∃σ',M σ1=some ⟨j,σ'⟩/\Bo E D l σ' (iA D r S1):=by
 obtain⟨h1,h2,h3⟩:=h;rcases h3 with⟨a,b⟩|⟨a,b⟩
 .obtain⟨σ',e,x1,x2,x3⟩:=on b;exact⟨σ',e,h1.trans x1,x2,x3⟩
 .exact⟨σ1,off (oI b),h1,h2,.inr ⟨by rw[kK a];exact a,b⟩⟩
section
variable {M:MS} {P:PS}
theorem Yq (hE:E3 E D) (hT:bL E) (hR:YC E D M P) (hF:dL P) (hO:Oj P) (m:Nat):∀i t j,i<E.toks.length->kz P E.toks m i=some (.ok (t,j)) ->
  (∀σ live,aW E σ live=false->rH E σ i->gY M E live (m+1) ⟨i,σ⟩=some ⟨j,σ⟩)/\(∀l σ S,R3 E D l 0 0 σ S->rH E σ i->fE t l->∃σ',gY M E true (m+1) ⟨i,σ⟩=some ⟨j,σ'⟩/\Bo E D l σ' (iA D t S)):=by
 have hN:=hE.ne0
 induction m with
 | zero=>intro i t j _ h;cases h
 | succ m ih=>
  intro i t j hi h;rw[kz]at h;split at h
  .rename_i hs
   cases h;have n1:aZ E.toks DF i=some (.ok ((),i+1)):=by unfold aZ;rw[ag hs];rfl
   have e:∀σ live,lI σ->gY M E live (m+1+1) ⟨i,σ⟩=some ⟨i+1,σ⟩:=λσ live ho=>by
    rw[gY];dsimp only;rw[ag (by rw[Ez hN,hs];rfl),(il hN _ n1).1,(il hN _ n1).2];exact zl ⟨aD hT.last hi hs,ho⟩
   refine⟨λσ live _ hb=>e σ live hb.1,λl σ S hRR hb _=>⟨σ,e σ true hb.1,by rw[hRR.ce];exact eY.refl _,hb.1,.inl ⟨?_,by rw[hRR.ce];exact hRR⟩⟩⟩;have:=hRR.lt;show S.steps<=20000;omega
  .rename_i hs;obtain⟨s,j1,h1,h⟩:=au h;obtain⟨r,j2,h2,h⟩:=au h
   cases h;have f1:=FB hF hT hi h1;have ho:=hO _ _ _ _ h1;obtain⟨so,sn⟩:=hR i s j1 hi h1;obtain⟨io,in_⟩:=ih j1 r j f1.2 h2;have e:∀σ live,gY M E live (m+1+1) ⟨i,σ⟩=(M E σ i live).bind (gY M E live (m+1)):=λσ live=>by
    rw[gY];dsimp only;rw[ae (by rw[Ez hN,sZ hN];simpa using hs)]
   refine⟨λσ live hl hb=>?_,λl σ S hRR hb hf=>?_⟩
   .rw[e,so σ live hl hb,aG];exact io σ live hl (hb.cells hb.1 rfl (by omega))
   .obtain⟨fs,fr⟩:=BA ho hf;obtain⟨σ1,z1,z2⟩:=sn l σ S hRR hb fs;rw[e,z1,aG,Iq ho];have hb1:rH E σ1 j1:=hb.cells z2.2.1 (by rw[z2.1.len,hRR.ce]) (by omega);exact z2.then (M:=λσ=>gY M E true (m+1) ⟨j1,σ⟩) (λhl=>io σ1 true hl hb1) (λr1=>in_ _ σ1 _ r1 hb1 (z2.1.found fr))
theorem Qj9 (hE:E3 E D) (hT:bL E) (hR:YC E D M P) (hF:dL P) (hO:Oj P) (n:Nat):YC E D (rq M (n+1)) (r9 P n):=by
 have hN:=hE.ne0;intro i t j hi h;unfold r9 at h;split at h
 .cases h
 obtain⟨u,j1,h1,h⟩:=au h;have l1:=uO hT hi h1;obtain⟨_,e1⟩:=vN h1;obtain⟨bo,bn⟩:=Yq hE hT hR hF hO n j1 t j l1 h;have e:∀σ live,rq M (n+1) E σ i live=gY M E live (n+1) ⟨j1,σ⟩:=λσ live=>by
  unfold rq;rw[(il hN _ h1).1,(il hN _ h1).2,ag l1]
 refine⟨λσ live hl hb=>?_,λl σ S hRR hb hf=>?_⟩
 .rw[e];exact bo σ live hl (hb.cells hb.1 rfl (by omega))
 .rw[e];exact bn l σ S hRR (hb.cells hb.1 rfl (by omega)) hf
end
theorem Nt (hT:eQ T) {s:ByteArray} (hs:dI s qg=true) (h:bJ T i s=true):decide (wP (ah T i)=lD)=decide (s=lD):=by
 rw[(JU hT hs h).2]
theorem PY {X:MX} {P:PE} (hE:E3 E D) (hT:bL E) (hTW:eQ E.toks) (hR:xx E X P) (hW:OA E.toks P) (hF:dL P) (hB:YC E D B Q) (hFB:dL Q):YC E D (jm X B) (dU P Q):=by
 have hN:=hE.ne0;intro i t j hi h;have e:∀σ live,jm X B E σ i live=if((ah E.toks i).kind==1)=true then lM X E σ i live else if bJ E.toks i JG=true then mr X B E σ i live else if bJ E.toks i xZ=true then wW B E σ i live else if(bJ E.toks i lD||bJ E.toks i dY)=true then Cq X (bJ E.toks i dY) E σ i live else chkR E ⟨E.toks.length-1,bR E σ i 9⟩:=λσ live=>by
  unfold jm;rw[sZ hN,ae (by simp),Ez hN,Ez hN,Ez hN,Ez hN];rfl
 simp only[e];unfold dU at h;split at h
 .rename_i hk;have ek:(ah E.toks i).kind=1:=by simpa using hk
  simp only[ag hk];exact Zf hE hT hR hW hF (tO hT.last hi (by rw[ek];decide)) ek h
 rename_i hk;simp only[ae hk];split at h
 .rename_i hs;simp only[ag hs];exact ZQ hE hT hR hW hF hB hFB (aD hT.last hi hs) h
 rename_i h1;simp only[ae h1];split at h
 .rename_i hs;simp only[ag hs];exact Qg6 hE hT hB (aD hT.last hi hs) h
 rename_i h2;simp only[ae h2];split at h
 .rename_i hs;have hne:bJ E.toks i dY=false:=by
   have e:=fC hs
   cases h0:bJ E.toks i dY
   .rfl
   .have e2:=fC h0;rw[e]at e2;exact absurd (dO (λx=>x.data) e2) (by decide)
  have c:(bJ E.toks i lD||bJ E.toks i dY)=true:=by rw[hs];rfl
  simp only[ag c];rw[hne];exact Qn3 hE hT hR hW hF false rfl (aD hT.last hi hs) (by rw[Nt hTW (by unfold dI qg lD;simp) hs];rfl) h
 rename_i h3;split at h
 .rename_i hs;have c:(bJ E.toks i lD||bJ E.toks i dY)=true:=by rw[hs];simp
  simp only[ag c];rw[hs];exact Qn3 hE hT hR hW hF true rfl (aD hT.last hi hs) (by rw[Nt hTW (by unfold dI qg dY;simp) hs];rfl) h
 .cases h
theorem SB3 (hE:E3 E D) (hT:bL E) (hTW:eQ E.toks) (n:Nat):YC E D (JE n).1 (zB n).1/\YC E D (JE n).2 (zB n).2:=by
 induction n with
 | zero=>exact⟨λi t j _ h=>by(cases h),λi t j _ h=>by(cases h)⟩
 | succ n ih=>
  rw[zB];split
  .exact⟨λi t j _ h=>by(cases h),λi t j _ h=>by(cases h)⟩
  rename_i hn2;obtain⟨m,rfl⟩:∃m,n=m+2:=⟨n-2,by omega⟩;rw[JE];exact⟨PY hE hT hTW (Rc hE.ne0 hT (m+2)).1 (Qj8 hTW (m+2)).1 (uU (m+2)).1 ih.2 (oV (m+2)).2,Qj9 hE hT ih.1 (oV (m+2)).1 (FI (m+2)) (m+1)⟩
end
end Go.Proofs.YthmmgiaobakilaaGreat
