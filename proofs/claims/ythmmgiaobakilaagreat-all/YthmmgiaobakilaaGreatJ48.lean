import Derived.Test.YthmmgiaobakilaaGreatJ29
import Derived.Test.YthmmgiaobakilaaGreatJ47
import Derived.ArgAppend
set_option maxRecDepth 100000
set_option maxHeartbeats 8000000
set_option linter.all false
namespace Go.Proofs.YthmmgiaobakilaaGreat
open Go.RowKit Go.Deep
variable {B e n p size:Nat} {F G U:Nat->Prop} {L LI LT ns us:List Value} {P:Program} {Q:Exit->Act->World->Prop} {mk:Int->List Value} {o:Obj} {ops:Array Oper} {r:Option Nat} {rest:List Oper} {u v v4 vI vT:Value} {w w' w3 w4:World}
def rep (us:List Value) (n:Nat):List Value:=(List.replicate n us).flatten
theorem Mc (us:List Value):rep us 0=[]:=rfl
theorem qj (us:List Value) (n:Nat):(rep us n).length=n*us.length:=by simp[rep]
theorem yO (us:List Value) (n m:Nat):rep us (n+m)=rep us n++rep us m:=by
 unfold rep;rw[<-List.flatten_append,List.replicate_append_replicate]
theorem Qc2 (h:u∈rep us n):u∈us:=by
 unfold rep at h;rw[List.mem_flatten]at h;obtain⟨l,h1,h2⟩:=h;rw[(List.mem_replicate.1 h1).2]at h2;exact h2
theorem Xn (us:List Value) {k:Nat} (h:k<=n):(rep us n).take (k*us.length)=rep us k:=by
 obtain⟨m,rfl⟩:∃m,n=k+m:=⟨n-k,by omega⟩;rw[yO,List.take_append_of_le_length (by rw[qj];exact af _),oD (by rw[qj];exact af _)]
theorem I6 {g cap k:Nat} (hus:us.length=size) (h:w.ownsRow B e size (.slice (some ⟨g,0,none⟩) n cap) n (rep us n)) (hk:k<=n):w.ownsRow B e size (.slice (some ⟨g,0,none⟩) k cap) k (rep us k):=by
 refine⟨by rw[qj,hus],.inr ?_⟩;rcases h.2 with⟨h',_⟩|⟨g',cap',cur,h',hb,hg,hn,hc,hs,htk⟩
 .cases h'
 .cases h';refine⟨g,cap,cur,rfl,hb,hg,by omega,hc,hs,?_⟩;rw[<-Xn us hk,<-htk,List.take_take,hus];congr 1;have:k*size<=n*size:=Nat.mul_le_mul_right _ hk;omega
theorem RV (g j:Nat):(⟨g,0,none⟩:Addr).add j=⟨g,j,none⟩:=by
 unfold Addr.add;split
 .rename_i h;rw[h]
 .simp
def OnB (v u:Value) (k:Nat):Prop:=∀g m cap,v=.slice (some ⟨g,0,none⟩) m cap->u.ownBlock=some g->u=.slice (some ⟨g,0,none⟩) k cap
structure Ld (B e size:Nat) (us:List Value) (w w':World) (v:Value) (n:Nat) (v':Value) (m:Nat):Prop where
 own:w'.ownsRow B e size v n (rep us n)
 own':w'.ownsRow B e size v' (n+m) (rep us (n+m))
 grown:w.grownBy w' v.ownBlock
 prev:∀u k,w.ownsRow B e size u k (rep us k)->OnB v u k->k<=n+m->w'.ownsRow B e size u k (rep us k)
 on:OnB v v' (n+m)
 fresh:∀g,v'.ownBlock=some g->v.ownBlock=some g∨w.heap.size<=g
theorem iP (w:World) {o:Oper} {a:Act} (hgd:o.guard=none) (s x:Operand) (t:TypeId)
  (ho:o.op=.call { callee:=.builtin .append,args:=#[s,x],argTypes:=#[t,t] })
  (B:Nat) (e:TypeId) (i:TypeInfo) (z:Value) (size bytes:Nat) (ht:P.underlying t=some (.slice e)) (hi:P.info? e=some i) (hz:i.zero=some z)
  (hsize:i.size=size) (hby:i.bytes=bytes) (hzs:z.cells.size=size) (hsz:0<size)
  (v:Value) (n:Nat) (us:List Value) (hus:us.length=size) (hs:a.eval s=v) (hown:w.ownsRow B e size v n (rep us n))
  (ad:Addr) (m c:Nat) (hx:a.eval x=.slice (some ad) m c) (hnews:∀j u,(rep us m)[j]?=some u->w.cell? (ad.add j)=some u) (h1:∀u∈us,u.oneCell'=true)
  (hm:0<m) (h63:n+m<=maxLen) (hbytes:(n+m)*bytes<=140737488355328) (hbase:B<=w.heap.size)
  (h:∀v' w',Ld B e size us w w' v n v' m->wpList P ops Q rest (a.put o.dst v') w'):wpList P ops Q (o::rest) a w:=by
 have hl:(rep us m).length=m*size:=by rw[qj,hus]
 have h1':∀u∈rep us m,u.oneCell'=true:=λu hu=>h1 u (Qc2 hu);have grow:∀ao cap,v=.slice ao n cap->(ao=none->n=0/\cap=0)->(∀b,ao=some b->∀j u,(rep us n)[j]?=some u->w.cell? (b.add j)=some u)->cap<n+m->wpList P ops Q (o::rest) a w:=by
  intro ao cap hv hnone holds hfull;refine wpList_append_grows w hgd s x t ho e i z size bytes ht hi hz hsize hby hzs hsz ao n cap (rep us n) (hs.trans hv) hnone (by rw[qj,hus]) holds ad m c (rep us m) hx hl hnews h1' hfull h63 hbytes ?_;intro v' w' r1 r2;rw[<-yO]at r1;have keep:∀u k xs,w.ownsRow B e size u k xs->w'.ownsRow B e size u k xs:=λu k xs hu=>cu hu (λq hq=>r2.block q (hu.lt q hq).2 (by simp));refine h v' w' ⟨keep _ _ _ hown,nk r1 hbase,⟨r2.os,r2.tape,r2.output,r2.size,λk hk _=>r2.block k hk (by simp)⟩,λu k hu _ _=>keep _ _ _ hu,?_,λg hg=>.inr (r1.lt g hg).1⟩;intro g q cap' hv' hg;have a1:=(r1.lt g hg).1;have a2:=(hown.lt g (by rw[hv'];rfl)).2;omega
 rcases hown.2 with⟨hv,h0⟩|⟨g,cap,cur,hv,hb,hg,hnc,hcm,hcs,htk⟩
 .exact grow none 0 (by rw[hv,h0]) (λ_=>⟨h0,rfl⟩) (λb hb=>by cases hb) (by omega)
 .by_cases hroom:n+m<=cap
  .subst hv;refine wpList_append_fits w hgd s x t ho B e i size ht hi hsize g n cap (rep us n) hs hown ad m c (rep us m) hx hl hnews h1' hroom ?_;intro w' r1 r2;rw[<-yO]at r1;refine h _ w' ⟨I6 hus r1 (by omega),r1,r2,λu k hu hon hk=>?_,?_,λq hq=>.inl hq⟩
   .by_cases hq:u.ownBlock=some g
    .rw[hon g n cap rfl hq];exact I6 hus r1 hk
    .exact cu hu (λq hq'=>r2.block q (hu.lt q hq').2 (λe=>hq (by rw[hq',e])))
   .intro q q' cap' e _
    cases e;rfl
  .refine grow (some ⟨g,0,none⟩) cap hv (λe=>by cases e) ?_ (by omega);intro b hb' j u hj
   cases hb';subst hv;rw[RV];have hj':=(rR.1 hj).1;rw[qj,hus]at hj';exact(hown.cellAt j hj').trans hj
def zy (B e:Nat) (mk:Int->List Value) (size:Nat) (F:Nat->Prop) (w:World) (L:List Value):Prop:=
 ∀i u,L[i]?=some u->∃n,w.ownsRow B e size u n (rep (mk (1000000+((i / 4:Nat):Int))) n)/\∀g,u.ownBlock=some g->F g
theorem zy.frame {F':Nat->Prop} (h:zy B e mk size F w L) (hk:∀g,F g->w'.heap[g]?=w.heap[g]?) (hF:∀g,F g->F' g):zy B e mk size F' w' L:=by
 intro i u hu;obtain⟨n,h1,h2⟩:=h i u hu;exact⟨n,cu h1 (λk e=>hk k (h2 k e)),λg e=>hF g (h2 g e)⟩
theorem zy.app {p:Nat} (h:zy B e mk size F w L) (hL:L.length=4*p) (h4:us.length<=4)
  (hu:∀u∈us,∃n,w.ownsRow B e size u n (rep (mk (1000000+(p:Int))) n)/\∀g,u.ownBlock=some g->F g):zy B e mk size F w (L++us):=by
 intro i u hi;by_cases hlt:i<L.length
 .rw[pI hlt]at hi;exact h i u hi
 .rw[vK (by omega)]at hi;have hm:=List.mem_of_getElem? hi;have hj:=(rR.1 hi).1;have e:i / 4=p:=by omega
  rw[e];exact hu u hm
def zq (x:Int):List Value:=[.int .i64 x]
def xG (x:Int):List Value:=[.int .i64 0,.int .i64 x]
structure Yt (B mb:Nat) (F G:Nat->Prop) (w:World) (vI vT:Value) (LI LT:List Value):Prop where
 blk:w.heap[mb]?=some (.cells #[vI,vT] 31 (0,0))
 rI:w.ownsRow B 22 1 vI LI.length LI
 rT:w.ownsRow B 34 1 vT LT.length LT
 mI:zy B 3 zq 1 F w LI
 mT:zy B 61 xG 2 F w LT
 bm:B<=mb
 fm:¬F mb
 gm:G mb
 nI:vI.ownBlock≠some mb
 nT:vT.ownBlock≠some mb
 fI:∀g,vI.ownBlock=some g->¬F g/\G g/\vT.ownBlock≠some g
 fT:∀g,vT.ownBlock=some g->¬F g/\G g
 lt:∀g,F g∨G g->g<w.heap.size
def xU (B mb:Nat) (U:Nat->Prop) (w:World) (p q:Nat):Prop:=∃F G vI vT LI LT,Yt B mb F G w vI vT LI LT/\LI.length=4*p/\LT.length=4*q/\∀g,F g∨G g->U g
theorem xU.frame {B mb p q:Nat} {U U':Nat->Prop} {w w':World} (h:xU B mb U w p q) (hk:∀g,U g->w'.heap[g]?=w.heap[g]?) (hU:∀g,U g->U' g):xU B mb U' w' p q:=by
 obtain⟨F,G,vI,vT,LI,LT,b,l1,l2,hF⟩:=h;refine⟨F,G,vI,vT,LI,LT,⟨(hk mb (hF mb (.inr b.gm))).trans b.blk,cu b.rI (λk e=>hk k (hF k (.inr (b.fI k e).2.1))),cu b.rT (λk e=>hk k (hF k (.inr (b.fT k e).2))),b.mI.frame (λg hg=>hk g (hF g (.inl hg))) (λg hg=>hg),b.mT.frame (λg hg=>hk g (hF g (.inl hg))) (λg hg=>hg),b.bm,b.fm,b.gm,b.nI,b.nT,b.fI,b.fT,λg hg=>?_⟩,l1,l2,λg hg=>hU g (hF g hg)⟩;have h1:=hk g (hF g hg);rw[Array.getElem?_eq_getElem (b.lt g hg)]at h1;exact(az.1 h1).1
structure CL (B mb:Nat) (U:Nat->Prop) (w:World) (v:Value) (p q:Nat) (w':World):Prop where
 book:xU B mb (λg=>U g∨v.ownBlock=some g∨(w.heap.size<=g/\g<w'.heap.size)) w' p q
 same:∀g,g<w.heap.size->¬U g->v.ownBlock≠some g->w'.heap[g]?=w.heap[g]?
 bel:Below B w w'
theorem sM (h:w.grownBy w' r) (o:Obj):w.grownBy (w'.alloc o) r:=⟨h.os,h.tape,h.output,by rw[bE];exact Nat.le_succ_of_le h.size,λk hk hr=>(av _ _ _ (Nat.lt_of_lt_of_le hk h.size)).trans (h.block k hk hr)⟩
theorem EM {wr w1 w2:World} {v1 v2 v3:Value} {o1 o2 o3:Obj} (gr:w.grownBy wr v.ownBlock) (r1:Ld B e size us (wr.alloc o1) w1 v n v1 1) (r2:Ld B e size us (w1.alloc o2) w2 v n v2 2) (r3:Ld B e size us (w2.alloc o3) w3 v n v3 3) :
  w.grownBy w3 v.ownBlock/\∀u∈[v,v1,v2,v3],∃k,w3.ownsRow B e size u k (rep us k)/\∀g,u.ownBlock=some g->v.ownBlock=some g∨w.heap.size<=g:=by
 have g1:=dQ (sM gr o1) r1.grown;have g2:=dQ (sM g1 o2) r2.grown;have g3:=dQ (sM g2 o3) r3.grown;have z0:=(sM gr o1).size;have z1:=(sM g1 o2).size;have z2:=(sM g2 o3).size;refine⟨g3,λu hu=>?_⟩;simp only[aO,aQ,aR]at hu;rcases hu with rfl|rfl|rfl|rfl
 .exact⟨n,r3.own,λg h=>.inl h⟩
 .exact⟨n+1,r3.prev _ _ ((r2.prev _ _ (r1.own'.alloc _) r1.on (by omega)).alloc _) r1.on (by omega),λg h=>(r1.fresh g h).imp id (λh=>by omega)⟩
 .exact⟨n+2,r3.prev _ _ (r2.own'.alloc _) r2.on (by omega),λg h=>(r2.fresh g h).imp id (λh=>by omega)⟩
 .exact⟨n+3,r3.own',λg h=>(r3.fresh g h).imp id (λh=>by omega)⟩
theorem qJ (w:World) (cs:Array Value) (t:TypeId):∀j u,cs.toList[j]?=some u->(w.alloc (.cells cs t)).cell? ((⟨w.heap.size,0,none⟩:Addr).add j)=some u:=by
 intro j u hj;rw[RV];have:=aA w (.cells cs t);simp only[World.cell?];rw[this];simpa using hj
theorem Ur {mb p q:Nat} (b:Yt B mb F G w vI vT LI LT) (l1:LI.length=4*p) (l2:LT.length=4*q) (hF:∀g,F g∨G g->U g) (hU:∀g,v.ownBlock=some g->¬U g) (hvB:∀g,v.ownBlock=some g->B<=g)
  (K3:w.grownBy w3 v.ownBlock) (h4:ns.length=4) (hn:∀u∈ns,∃k,w3.ownsRow B 3 1 u k (rep (zq (1000000+(p:Int))) k)/\∀g,u.ownBlock=some g->v.ownBlock=some g∨w.heap.size<=g)
  (g4:(w3.alloc o).grownBy w4 vI.ownBlock) (o4:w4.ownsRow B 22 1 v4 (LI.length+4) (LI++ns)) (a4:v4.ownBlock=vI.ownBlock∨v4.ownBlock=some (w3.alloc o).heap.size) :
  CL B mb U w v (p+1) q (w4.setCell ⟨mb,0,none⟩ v4):=by
 have zm:=b.lt mb (.inr b.gm);have z3:=K3.size;have z4:=g4.size;rw[bE]at z4 a4;have z5:(w4.setCell ⟨mb,0,none⟩ v4).heap.size=w4.heap.size:=by simp
 have iI:∀g,vI.ownBlock=some g->g<w.heap.size:=λg e=>b.lt g (.inr (b.fI g e).2.1);have s34:∀g,g<w3.heap.size->vI.ownBlock≠some g->w4.heap[g]?=w3.heap[g]?:=λg hg hne=>(g4.block g (by rw[bE];omega) (λe=>hne e.symm)).trans (av _ _ _ hg);have s45:∀g,g≠mb->(w4.setCell ⟨mb,0,none⟩ v4).heap[g]?=w4.heap[g]?:=λg hg=>ay _ _ _ _ hg;have s05:∀g,g<w.heap.size->v.ownBlock≠some g->vI.ownBlock≠some g->g≠mb->(w4.setCell ⟨mb,0,none⟩ v4).heap[g]?=w.heap[g]?:=λg h1 h2 h3 h5=>((s45 g h5).trans (s34 g (by omega) h3)).trans (K3.block g h1 (λe=>h2 e.symm));have nU:∀g,U g->v.ownBlock≠some g:=λg hg e=>hU g e hg;have um:U mb:=hF mb (.inr b.gm);have n3:∀g,(v.ownBlock=some g∨w.heap.size<=g)->g<w3.heap.size->vI.ownBlock≠some g/\g≠mb:=λg hg _=>by
  rcases hg with hg|hg
  .exact⟨λe=>hU g hg (hF g (.inr (b.fI g e).2.1)),λe=>hU g hg (by rw[e];exact um)⟩
  .exact⟨λe=>by have:=iI g e;omega,by omega⟩
 have bk:(w4.setCell ⟨mb,0,none⟩ v4).heap[mb]?=some (.cells #[v4,vT] 31 (0,0)):=
  aM w4 mb 0 #[vI,vT] _ v4 (((s34 mb (by omega) b.nI).trans (K3.block mb zm (λe=>nU mb um e.symm))).trans b.blk)
 have q4:∀g,v4.ownBlock=some g->vI.ownBlock=some g∨g=w3.heap.size+1:=λg e=>by
  rcases a4 with a|a
  .exact .inl (a ▸ e)
  .rw[a]at e;cases e;exact .inr rfl
 have n4:v4.ownBlock≠some mb:=λe=>by
  rcases q4 mb e with h|h
  .exact b.nI h
  .omega
 refine⟨⟨λg=>F g∨((v.ownBlock=some g∨w.heap.size<=g)/\g<w3.heap.size),λg=>G g∨v4.ownBlock=some g,v4,vT,LI++ns,LT,⟨bk,?_,?_,?_,?_,b.bm,?_,.inl b.gm,n4,b.nT,?_,?_,?_⟩,?_,l2,?_⟩,?_,?_⟩
 .rw[iZ,h4];exact cu o4 (λg e=>s45 g (λh=>n4 (h ▸ e)))
 .exact cu b.rT (λg e=>s05 g (b.lt g (.inr (b.fT g e).2)) (nU g (hF g (.inr (b.fT g e).2))) (λh=>(b.fI g h).2.2 e) (λh=>b.nT (h ▸ e)))
 .refine zy.app (b.mI.frame (λg hg=>s05 g (b.lt g (.inl hg)) (nU g (hF g (.inl hg))) (λh=>(b.fI g h).1 hg) (λh=>b.fm (h ▸ hg))) (λg hg=>.inl hg)) l1 (by omega) ?_;intro u hu;obtain⟨k,h1,h2⟩:=hn u hu;exact⟨k,cu h1 (λg e=>(s45 g (n3 g (h2 g e) (h1.lt g e).2).2).trans (s34 g (h1.lt g e).2 (n3 g (h2 g e) (h1.lt g e).2).1)),λg e=>.inr ⟨h2 g e,(h1.lt g e).2⟩⟩
 .exact b.mT.frame (λg hg=>s05 g (b.lt g (.inl hg)) (nU g (hF g (.inl hg))) (λh=>(b.fI g h).1 hg) (λh=>b.fm (h ▸ hg))) (λg hg=>.inl hg)
 .rintro(h|⟨h1,h2⟩)
  .exact b.fm h
  .exact(n3 mb h1 h2).2 rfl
 .intro g e;refine⟨?_,.inr e,?_⟩
  .rintro(h|⟨h1,h2⟩)
   .rcases q4 g e with h'|h'
    .exact(b.fI g h').1 h
    .have:=b.lt g (.inl h);omega
   .rcases q4 g e with h'|h'
    .exact(n3 g h1 h2).1 h'
    .omega
  .intro hT;rcases q4 g e with h'|h'
   .exact(b.fI g h').2.2 hT
   .have:=b.lt g (.inr (b.fT g hT).2);omega
 .intro g e;refine⟨?_,.inl (b.fT g e).2⟩;rintro(h|⟨h1,h2⟩)
  .exact(b.fT g e).1 h
  .rcases h1 with h1|h1
   .exact hU g h1 (hF g (.inr (b.fT g e).2))
   .have:=b.lt g (.inr (b.fT g e).2);omega
 .rw[z5];rintro g ((h|⟨_,h⟩)|(h|h))
  .have:=b.lt g (.inl h);omega
  .omega
  .have:=b.lt g (.inr h);omega
  .exact(o4.lt g h).2
 .rw[iZ,h4,l1];omega
 .rw[z5];rintro g ((h|⟨h|h,h'⟩)|(h|h))
  .exact .inl (hF g (.inl h))
  .exact .inr (.inl h)
  .exact .inr (.inr ⟨h,by omega⟩)
  .exact .inl (hF g (.inr h))
  .rcases q4 g h with h'|h'
   .exact .inl (hF g (.inr (b.fI g h').2.1))
   .exact .inr (.inr ⟨by omega,(o4.lt g h).2⟩)
 .intro g h1 h2 h3;exact s05 g h1 h3 (λe=>h2 (hF g (.inr (b.fI g e).2.1))) (λe=>h2 (e ▸ um))
 .refine⟨g4.os.trans K3.os,g4.tape.trans K3.tape,g4.output.trans K3.output,by rw[z5];omega,λg hg=>?_⟩;have hB:=b.bm;exact s05 g (by omega) (λe=>by have:=hvB g e;omega) (λe=>by have:=(b.rI.lt g e).1;omega) (by omega)
theorem Qo9:(Tryz.prog.info? 22).map (λi=>(i.zero,i.size,i.bytes))=some (some (.slice none 0 0),1,24):=by kernel_rfl
theorem Xk (B mb:Nat) (U:Nat->Prop) (p q:Nat) (w:World) (v:Value) (n:Nat) (xs:List Value) (hB:xU B mb U w p q) (hv:w.ownsRow B 3 1 v n xs) (hU:∀g,v.ownBlock=some g->¬U g) (hn:n<=17592186043904) (hp:p<=1000) :
  Calls Tryz.prog 18 #[.pointer (some ⟨mb,0,none⟩),v] w λe w'=>e=.returned (.tuple #[])/\CL B mb U w v (p+1) q w':=by
 obtain⟨F,G,vI,vT,LI,LT,b,l1,l2,hF⟩:=hB;obtain⟨ai,ci,rfl⟩:=dJ b.rI;obtain⟨ao,c,rfl⟩:=dJ hv;rw[l1]at b;obtain⟨⟨k0,_⟩,_⟩:=yo b.blk;have OI:Hid (∀w3,w.grownBy w3 (Value.slice ao n c).ownBlock->w3.ownsRow B 22 1 (.slice ai (4*p) ci) (4*p) LI/\w3.heap[mb]?=some (.cells #[.slice ai (4*p) ci,vT] 31 (0,0))):=λw3 g3=>by
  refine⟨?_,(g3.block mb (b.lt mb (.inr b.gm)) (λe=>hU mb e.symm (hF mb (.inr b.gm)))).trans b.blk⟩;have h:=cu b.rI (λg e=>g3.block g (b.lt g (.inr (b.fI g e).2.1)) (λe'=>hU g e'.symm (hF g (.inr (b.fI g e).2.1))));rw[l1]at h;exact h
 have BW:=aj b;have HF:=aj hF;have HU:=aj hU;have L1:=aj l1;have L2:=aj l2;have OV:=aj hv;clear b hF hU l2 hv l1;go_enter Tryz.func18,Tryz.ntmps18;go_wp2;generalize hx:(1000000:Int)+(p:Int)=x;have HX:=aj hx;clear hx;obtain⟨i0,hi,hz0,hz1,hz2⟩:=dG XH;obtain⟨j0,hj,hy0,hy1,hy2⟩:=dG Qo9
 go_loopw [5] (λi wr=>∃k:Nat,k<=n/\i=.int .i64 k/\wr.ownsRow B 3 1 (.slice ao n c) n (rep (zq x) k++xs.drop k)/\w.grownBy wr (Value.slice ao n c).ownBlock) (λi _=>n-(intOf i).toNat)
 case atStart=>exact⟨0,bO _,rfl,by simpa[Mc] using aa OV,World.grownBy.refl _ _⟩
 case round=>
  obtain⟨k,hk,rfl,own,gr⟩:=hrel;by_cases hlt:k<n
  .have hsh:∃g,ao=some ⟨g,0,none⟩:=by
    rcases own.2 with⟨_,h0⟩|⟨g,cap,cur,e,_⟩
    .omega
    .exact⟨g,by cases e;rfl⟩
   obtain⟨g,rfl⟩:=hsh;have hcell:∃u,wr.cell? ⟨g,k,none⟩=some u:=by
    rw[own.cellAt k (by omega)];have:=own.1;exact⟨_,aU (by omega)⟩
   obtain⟨u,hcell⟩:=hcell;have hfz:=own.frozenAt k;obtain⟨own2,g2⟩:=own.stored k (.int .i64 x);have R:Hid ((wr.setCell ⟨g,k,none⟩ (.int .i64 x)).ownsRow B 3 1 (.slice (some ⟨g,0,none⟩) n c) n (rep (zq x) (k+1)++xs.drop (k+1))/\w.grownBy (wr.setCell ⟨g,k,none⟩ (.int .i64 x)) (Value.slice (some ⟨g,0,none⟩) n c).ownBlock):=by
    refine⟨?_,dQ gr g2⟩;have e:(rep (zq x) k++xs.drop k).set k (.int .i64 x)=rep (zq x) (k+1)++xs.drop (k+1):=by
     have hl:=(aa OV).1;rw[yn _ _ (by rw[qj];show k*1<=k;omega),qj,show k-k*(zq x).length=0 by show k-k*1=0;omega,yO,gJ,vR (by omega:k<xs.length)];rfl
    rw[<-e];exact own2
   clear own own2 g2 gr;go_wp2
   go_roundw
   case rel=>exact⟨k+1,by omega,by go_num,(aa R).1,(aa R).2⟩
   case measure=>simp[intOf];omega
  .have hkn:k=n:=by omega
   subst hkn;have own0:wr.ownsRow B 3 1 (.slice ao k c) k (rep (zq x) k):=by
    have hl:=(aa OV).1;rw[List.drop_of_length_le (by omega),eP]at own;exact own
   clear own;have one:∀u∈zq x,u.oneCell'=true:=λu hu=>by cases hu with|head=>rfl|tail _ h=>cases h
   have hBm:=(aa BW).bm;have hmz:=(aa BW).lt mb (.inr (aa BW).gm);have gz:=gr.size;go_wp2_with (first
    | (at_builtin;refine iP _ rfl (.tmp 26) (.tmp 28) 22 rfl B 3 i0 (.int .i64 0) 1 8 Tryz.underlying22 hi hz0 hz1 hz2 rfl (by decide) _ k (zq x) rfl rfl (own0.alloc _) ⟨wr.heap.size,0,none⟩ 1 1 rfl (λj u h=>qJ _ #[.int .i64 x] _ j u h) one (by decide) (by unfold maxLen;omega) (by omega) (by rw[bE];omega) ?_;intro v1 w1 r1;obtain⟨a1,c1,rfl⟩:=dJ r1.own';have z1:=r1.grown.size;rw[bE]at z1)
    | (at_builtin;refine iP _ rfl (.tmp 30) (.tmp 33) 22 rfl B 3 i0 (.int .i64 0) 1 8 Tryz.underlying22 hi hz0 hz1 hz2 rfl (by decide) _ k (zq x) rfl rfl (r1.own.alloc _) ⟨w1.heap.size,0,none⟩ 2 2 rfl (λj u h=>qJ _ #[.int .i64 x,.int .i64 x] _ j u h) one (by decide) (by unfold maxLen;omega) (by omega) (by rw[bE];omega) ?_;intro v2 w2 r2;obtain⟨a2,c2,rfl⟩:=dJ r2.own';have z2:=r2.grown.size;rw[bE]at z2)
    | (at_builtin;refine iP _ rfl (.tmp 35) (.tmp 39) 22 rfl B 3 i0 (.int .i64 0) 1 8 Tryz.underlying22 hi hz0 hz1 hz2 rfl (by decide) _ k (zq x) rfl rfl (r2.own.alloc _) ⟨w2.heap.size,0,none⟩ 3 3 rfl (λj u h=>qJ _ #[.int .i64 x,.int .i64 x,.int .i64 x] _ j u h) one (by decide) (by unfold maxLen;omega) (by omega) (by rw[bE];omega) ?_;intro v3 w3 r3;obtain⟨a3,c3,rfl⟩:=dJ r3.own';have z3:=r3.grown.size;rw[bE]at z3;have T3:=aj (EM gr r1 r2 r3);have O3:=aj (aa OI w3 (aa T3).1);obtain⟨⟨y0,_⟩,_⟩:=yo (aa O3).2;clear r1 r2 r3 own0 gr)
    | (at_builtin;refine nR _ rfl (.tmp 45) (.tmp 50) 28 rfl B 22 j0 (.slice none 0 0) 1 24 Tryz.underlying28 hj hy0 hy1 hy2 rfl (by decide) (.slice ai (4*p) ci) (4*p) LI rfl ((aa O3).1.alloc _) ⟨w3.heap.size,0,none⟩ 4 4 [.slice ao k c,.slice a1 (k+1) c1,.slice a2 (k+2) c2,.slice a3 (k+3) c3] rfl rfl (λj u h=>qJ _ #[.slice ao k c,.slice a1 (k+1) c1,.slice a2 (k+2) c2,.slice a3 (k+3) c3] _ j u h) (λu hu=>by simp only[aO,aQ,aR]at hu;rcases hu with rfl|rfl|rfl|rfl<;>rfl) (by unfold maxLen;omega) (by omega) (by rw[bE];omega) ?_;intro v4 w4 o4 g4 _ a4;obtain⟨a4',c4,rfl⟩:=dJ o4;have z4:=g4.size;rw[bE]at z4;have m4:=(g4.block mb (by rw[bE];omega) (λe=>(aa BW).nI e.symm)).trans ((av _ _ _ (by omega)).trans (aa O3).2);obtain⟨⟨q0,_⟩,fq,_⟩:=yo m4;have O4:=aj o4;have G4:=aj g4;have A4:=aj a4;clear o4 g4 a4 m4))
   have hx:=aa HX;subst hx;refine bodyPost_end (v:=.tuple #[]) (by simp[results,Tryz.results18,go_sem]) rfl ?_;exact⟨rfl,Ur (aa BW) (aa L1) (aa L2) (aa HF) (aa HU) (λg e=>((aa OV).lt g e).1) (aa T3).1 rfl (aa T3).2 (aa G4) (by rw[aa L1];exact aa O4) (aa A4)⟩
theorem LQ {mb q:Nat} (b:Yt B mb F G w vI vT LI LT) (l1:LI.length=4*p) (l2:LT.length=4*q) (hF:∀g,F g∨G g->U g) (hU:∀g,v.ownBlock=some g->¬U g) (hvB:∀g,v.ownBlock=some g->B<=g)
  (K3:w.grownBy w3 v.ownBlock) (h4:ns.length=4) (hn:∀u∈ns,∃k,w3.ownsRow B 61 2 u k (rep (xG (1000000+(q:Int))) k)/\∀g,u.ownBlock=some g->v.ownBlock=some g∨w.heap.size<=g)
  (g4:(w3.alloc o).grownBy w4 vT.ownBlock) (o4:w4.ownsRow B 34 1 v4 (LT.length+4) (LT++ns)) (a4:v4.ownBlock=vT.ownBlock∨v4.ownBlock=some (w3.alloc o).heap.size) :
  CL B mb U w v p (q+1) (w4.setCell ⟨mb,1,none⟩ v4):=by
 have zm:=b.lt mb (.inr b.gm);have z3:=K3.size;have z4:=g4.size;rw[bE]at z4 a4;have z5:(w4.setCell ⟨mb,1,none⟩ v4).heap.size=w4.heap.size:=by simp
 have iI:∀g,vT.ownBlock=some g->g<w.heap.size:=λg e=>b.lt g (.inr (b.fT g e).2);have s34:∀g,g<w3.heap.size->vT.ownBlock≠some g->w4.heap[g]?=w3.heap[g]?:=λg hg hne=>(g4.block g (by rw[bE];omega) (λe=>hne e.symm)).trans (av _ _ _ hg);have s45:∀g,g≠mb->(w4.setCell ⟨mb,1,none⟩ v4).heap[g]?=w4.heap[g]?:=λg hg=>ay _ _ _ _ hg;have s05:∀g,g<w.heap.size->v.ownBlock≠some g->vT.ownBlock≠some g->g≠mb->(w4.setCell ⟨mb,1,none⟩ v4).heap[g]?=w.heap[g]?:=λg h1 h2 h3 h5=>((s45 g h5).trans (s34 g (by omega) h3)).trans (K3.block g h1 (λe=>h2 e.symm));have nU:∀g,U g->v.ownBlock≠some g:=λg hg e=>hU g e hg;have um:U mb:=hF mb (.inr b.gm);have n3:∀g,(v.ownBlock=some g∨w.heap.size<=g)->g<w3.heap.size->vT.ownBlock≠some g/\g≠mb:=λg hg _=>by
  rcases hg with hg|hg
  .exact⟨λe=>hU g hg (hF g (.inr (b.fT g e).2)),λe=>hU g hg (by rw[e];exact um)⟩
  .exact⟨λe=>by have:=iI g e;omega,by omega⟩
 have bk:(w4.setCell ⟨mb,1,none⟩ v4).heap[mb]?=some (.cells #[vI,v4] 31 (0,0)):=
  aM w4 mb 1 #[vI,vT] _ v4 (((s34 mb (by omega) b.nT).trans (K3.block mb zm (λe=>nU mb um e.symm))).trans b.blk)
 have q4:∀g,v4.ownBlock=some g->vT.ownBlock=some g∨g=w3.heap.size+1:=λg e=>by
  rcases a4 with a|a
  .exact .inl (a ▸ e)
  .rw[a]at e;cases e;exact .inr rfl
 have n4:v4.ownBlock≠some mb:=λe=>by
  rcases q4 mb e with h|h
  .exact b.nT h
  .omega
 refine⟨⟨λg=>F g∨((v.ownBlock=some g∨w.heap.size<=g)/\g<w3.heap.size),λg=>G g∨v4.ownBlock=some g,vI,v4,LI,LT++ns,⟨bk,?_,?_,?_,?_,b.bm,?_,.inl b.gm,b.nI,n4,?_,?_,?_⟩,l1,?_,?_⟩,?_,?_⟩
 .exact cu b.rI (λg e=>s05 g (b.lt g (.inr (b.fI g e).2.1)) (nU g (hF g (.inr (b.fI g e).2.1))) (λh=>(b.fI g e).2.2 h) (λh=>b.nI (h ▸ e)))
 .rw[iZ,h4];exact cu o4 (λg e=>s45 g (λh=>n4 (h ▸ e)))
 .exact b.mI.frame (λg hg=>s05 g (b.lt g (.inl hg)) (nU g (hF g (.inl hg))) (λh=>(b.fT g h).1 hg) (λh=>b.fm (h ▸ hg))) (λg hg=>.inl hg)
 .refine zy.app (b.mT.frame (λg hg=>s05 g (b.lt g (.inl hg)) (nU g (hF g (.inl hg))) (λh=>(b.fT g h).1 hg) (λh=>b.fm (h ▸ hg))) (λg hg=>.inl hg)) l2 (by omega) ?_;intro u hu;obtain⟨k,h1,h2⟩:=hn u hu;exact⟨k,cu h1 (λg e=>(s45 g (n3 g (h2 g e) (h1.lt g e).2).2).trans (s34 g (h1.lt g e).2 (n3 g (h2 g e) (h1.lt g e).2).1)),λg e=>.inr ⟨h2 g e,(h1.lt g e).2⟩⟩
 .rintro(h|⟨h1,h2⟩)
  .exact b.fm h
  .exact(n3 mb h1 h2).2 rfl
 .intro g e;refine⟨?_,.inl (b.fI g e).2.1,?_⟩
  .rintro(h|⟨h1,h2⟩)
   .exact(b.fI g e).1 h
   .rcases h1 with h1|h1
    .exact hU g h1 (hF g (.inr (b.fI g e).2.1))
    .have:=b.lt g (.inr (b.fI g e).2.1);omega
  .intro hT;rcases q4 g hT with h'|h'
   .exact(b.fI g e).2.2 h'
   .have:=b.lt g (.inr (b.fI g e).2.1);omega
 .intro g e;refine⟨?_,.inr e⟩;rintro(h|⟨h1,h2⟩)
  .rcases q4 g e with h'|h'
   .exact(b.fT g h').1 h
   .have:=b.lt g (.inl h);omega
  .rcases q4 g e with h'|h'
   .exact(n3 g h1 h2).1 h'
   .omega
 .rw[z5];rintro g ((h|⟨_,h⟩)|(h|h))
  .have:=b.lt g (.inl h);omega
  .omega
  .have:=b.lt g (.inr h);omega
  .exact(o4.lt g h).2
 .rw[iZ,h4,l2];omega
 .rw[z5];rintro g ((h|⟨h|h,h'⟩)|(h|h))
  .exact .inl (hF g (.inl h))
  .exact .inr (.inl h)
  .exact .inr (.inr ⟨h,by omega⟩)
  .exact .inl (hF g (.inr h))
  .rcases q4 g h with h'|h'
   .exact .inl (hF g (.inr (b.fT g h').2))
   .exact .inr (.inr ⟨by omega,(o4.lt g h).2⟩)
 .intro g h1 h2 h3;exact s05 g h1 h3 (λe=>h2 (hF g (.inr (b.fT g e).2))) (λe=>h2 (e ▸ um))
 .refine⟨g4.os.trans K3.os,g4.tape.trans K3.tape,g4.output.trans K3.output,by rw[z5];omega,λg hg=>?_⟩;have hB:=b.bm;exact s05 g (by omega) (λe=>by have:=hvB g e;omega) (λe=>by have:=(b.rT.lt g e).1;omega) (by omega)
theorem Qk7:(Tryz.prog.info? 61).map (λi=>(i.zero,i.size,i.bytes))=some (some (.agg #[.int .i64 0,.int .i64 0]),2,16):=by kernel_rfl
theorem Qh6:(Tryz.prog.info? 34).map (λi=>(i.zero,i.size,i.bytes))=some (some (.slice none 0 0),1,24):=by kernel_rfl
theorem MH (B mb:Nat) (U:Nat->Prop) (p q:Nat) (w:World) (v:Value) (n:Nat) (xs:List Value) (hB:xU B mb U w p q) (hv:w.ownsRow B 61 2 v n xs) (hU:∀g,v.ownBlock=some g->¬U g) (hn:n<=2000000) (hp:q<=1000) :
  Calls Tryz.prog 19 #[.pointer (some ⟨mb,0,none⟩),v] w λe w'=>e=.returned (.tuple #[])/\CL B mb U w v p (q+1) w':=by
 obtain⟨F,G,vI,vT,LI,LT,b,l1,l2,hF⟩:=hB;obtain⟨ai,ci,rfl⟩:=dJ b.rT;obtain⟨ao,c,rfl⟩:=dJ hv;rw[l2]at b;obtain⟨⟨_,k0⟩,_⟩:=yo b.blk;have OI:Hid (∀w3,w.grownBy w3 (Value.slice ao n c).ownBlock->w3.ownsRow B 34 1 (.slice ai (4*q) ci) (4*q) LT/\w3.heap[mb]?=some (.cells #[vI,.slice ai (4*q) ci] 31 (0,0))):=λw3 g3=>by
  refine⟨?_,(g3.block mb (b.lt mb (.inr b.gm)) (λe=>hU mb e.symm (hF mb (.inr b.gm)))).trans b.blk⟩;have h:=cu b.rT (λg e=>g3.block g (b.lt g (.inr (b.fT g e).2)) (λe'=>hU g e'.symm (hF g (.inr (b.fT g e).2))));rw[l2]at h;exact h
 have BW:=aj b;have HF:=aj hF;have HU:=aj hU;have L1:=aj l1;have L2:=aj l2;have OV:=aj hv;clear b hF hU l2 hv l1;go_enter Tryz.func19,Tryz.ntmps19;go_wp2;generalize hx:(1000000:Int)+(q:Int)=x;have HX:=aj hx;clear hx;obtain⟨w0,hw0⟩:∃w0,w.alloc (.cells #[.int .i64 0,.int .i64 x] 61)=w0:=⟨_,rfl⟩;rw[hw0];have S0:Hid (w0.ownsRow B 61 2 (.slice ao n c) n xs/\w.grownBy w0 (Value.slice ao n c).ownBlock/\w0.heap[w.heap.size]?=some (.cells #[.int .i64 0,.int .i64 x] 61 (0,0))):=by
  rw[<-hw0];exact⟨(aa OV).alloc _,sM (World.grownBy.refl _ _) _,aA w _⟩
 clear hw0;obtain⟨i0,hi,hz0,hz1,hz2⟩:=dG Qk7;obtain⟨j0,hj,hy0,hy1,hy2⟩:=dG Qh6
 go_loopw [5] (λi wr=>∃k:Nat,k<=n/\i=.int .i64 k/\wr.ownsRow B 61 2 (.slice ao n c) n (rep (xG x) k++xs.drop (k*2))/\w.grownBy wr (Value.slice ao n c).ownBlock/\wr.heap[w.heap.size]?=some (.cells #[.int .i64 0,.int .i64 x] 61 (0,0))) (λi _=>n-(intOf i).toNat)
 case atStart=>exact⟨0,bO _,rfl,by simpa[Mc] using(aa S0).1,(aa S0).2⟩
 case round=>
  obtain⟨k,hk,rfl,own,gr,hxb⟩:=hrel;obtain⟨⟨x0,x1⟩,_⟩:=yo hxb;by_cases hlt:k<n
  .have hsh:∃g,ao=some ⟨g,0,none⟩:=by
    rcases own.2 with⟨_,h0⟩|⟨g,cap,cur,e,_⟩
    .omega
    .exact⟨g,by cases e;rfl⟩
   obtain⟨g,rfl⟩:=hsh;have hcell:∀j,j<2->∃u,wr.cell? ⟨g,k*2+j,none⟩=some u:=λj hj=>by
    rw[own.cellAt (k*2+j) (by omega)];have:=own.1;exact⟨_,aU (by omega)⟩
   obtain⟨u,hc0⟩:=hcell 0 (by omega);obtain⟨u',hc1⟩:=hcell 1 (by omega);rw[jA]at hc0;have hf0:=own.frozenAt (k*2);have hf1:=own.frozenAt (k*2+1);have hgz:=((aa OV).lt g rfl).2;obtain⟨own1,g1⟩:=own.stored (k*2) (.int .i64 0);obtain⟨own2,g2⟩:=own1.stored (k*2+1) (.int .i64 x);have R:Hid (((wr.setCell ⟨g,k*2,none⟩ (.int .i64 0)).setCell ⟨g,k*2+1,none⟩ (.int .i64 x)).ownsRow B 61 2 (.slice (some ⟨g,0,none⟩) n c) n (rep (xG x) (k+1)++xs.drop ((k+1)*2))/\w.grownBy ((wr.setCell ⟨g,k*2,none⟩ (.int .i64 0)).setCell ⟨g,k*2+1,none⟩ (.int .i64 x)) (Value.slice (some ⟨g,0,none⟩) n c).ownBlock/\((wr.setCell ⟨g,k*2,none⟩ (.int .i64 0)).setCell ⟨g,k*2+1,none⟩ (.int .i64 x)).heap[w.heap.size]?=some (.cells #[.int .i64 0,.int .i64 x] 61 (0,0))):=by
    refine⟨?_,dQ (dQ gr g1) g2,((ay _ _ _ _ (by show w.heap.size≠g;omega)).trans (ay _ _ _ _ (by show w.heap.size≠g;omega))).trans hxb⟩;have e:((rep (xG x) k++xs.drop (k*2)).set (k*2) (.int .i64 0)).set (k*2+1) (.int .i64 x)=rep (xG x) (k+1)++xs.drop ((k+1)*2):=by
     have hl:=(aa OV).1;have hr:(rep (xG x) k).length=k*2:=qj _ _;rw[yn _ _ (by omega),yn _ _ (by omega),hr,cZ,show k*2+1-k*2=1 by omega,yO,gJ,vR (by omega:k*2<xs.length),vR (by omega:k*2+1<xs.length)];rw[show(k+1)*2=k*2+1+1 by omega];rfl
    rw[<-e];exact own2
   have hne:g≠w.heap.size:=by omega
   clear own own1 own2 g1 g2 gr hxb hcell;go_wp2
   go_roundw
   case rel=>exact⟨k+1,by omega,by go_num,aa R⟩
   case measure=>simp[intOf];omega
  .have hkn:k=n:=by omega
   subst hkn;have own0:wr.ownsRow B 61 2 (.slice ao k c) k (rep (xG x) k):=by
    have hl:=(aa OV).1;rw[List.drop_of_length_le (by omega),eP]at own;exact own
   clear own;have one:∀u∈xG x,u.oneCell'=true:=λu hu=>by
    simp only[xG,aO,aQ,aR]at hu;rcases hu with rfl|rfl<;>rfl
   have hBm:=(aa BW).bm;have hmz:=(aa BW).lt mb (.inr (aa BW).gm);have gz:=gr.size;have hxz:w.heap.size<wr.heap.size:=(az.1 hxb).1;have hvx:some w.heap.size≠(Value.slice ao k c).ownBlock:=λe=>by have:=((aa OV).lt _ e.symm).2;omega
   go_wp2_with (first
    | (at_builtin;refine iP _ rfl (.tmp 27) (.tmp 29) 34 rfl B 61 i0 (.agg #[.int .i64 0,.int .i64 0]) 2 16 Tryz.underlying34 hi hz0 hz1 hz2 rfl (by decide) _ k (xG x) rfl rfl (own0.alloc _) ⟨wr.heap.size,0,none⟩ 1 1 rfl (λj u h=>qJ _ #[.int .i64 0,.int .i64 x] _ j u h) one (by decide) (by unfold maxLen;omega) (by omega) (by rw[bE];omega) ?_;intro v1 w1 r1;obtain⟨a1,c1,rfl⟩:=dJ r1.own';have z1:=r1.grown.size;rw[bE]at z1;have hb1:=(r1.grown.block w.heap.size (by rw[bE];omega) hvx).trans ((av _ _ _ (by omega)).trans hxb);obtain⟨⟨x10,x11⟩,_⟩:=yo hb1)
    | (at_builtin;refine iP _ rfl (.tmp 31) (.tmp 34) 34 rfl B 61 i0 (.agg #[.int .i64 0,.int .i64 0]) 2 16 Tryz.underlying34 hi hz0 hz1 hz2 rfl (by decide) _ k (xG x) rfl rfl (r1.own.alloc _) ⟨w1.heap.size,0,none⟩ 2 2 rfl (λj u h=>qJ _ #[.int .i64 0,.int .i64 x,.int .i64 0,.int .i64 x] _ j u h) one (by decide) (by unfold maxLen;omega) (by omega) (by rw[bE];omega) ?_;intro v2 w2 r2;obtain⟨a2,c2,rfl⟩:=dJ r2.own';have z2:=r2.grown.size;rw[bE]at z2;have hb2:=(r2.grown.block w.heap.size (by rw[bE];omega) hvx).trans ((av _ _ _ (by omega)).trans hb1);obtain⟨⟨x20,x21⟩,_⟩:=yo hb2)
    | (at_builtin;refine iP _ rfl (.tmp 36) (.tmp 40) 34 rfl B 61 i0 (.agg #[.int .i64 0,.int .i64 0]) 2 16 Tryz.underlying34 hi hz0 hz1 hz2 rfl (by decide) _ k (xG x) rfl rfl (r2.own.alloc _) ⟨w2.heap.size,0,none⟩ 3 3 rfl (λj u h=>qJ _ #[.int .i64 0,.int .i64 x,.int .i64 0,.int .i64 x,.int .i64 0,.int .i64 x] _ j u h) one (by decide) (by unfold maxLen;omega) (by omega) (by rw[bE];omega) ?_;intro v3 w3 r3;obtain⟨a3,c3,rfl⟩:=dJ r3.own';have z3:=r3.grown.size;rw[bE]at z3;have T3:=aj (EM gr r1 r2 r3);have O3:=aj (aa OI w3 (aa T3).1);obtain⟨⟨_,y0⟩,_⟩:=yo (aa O3).2;clear r1 r2 r3 own0 gr)
    | (at_builtin;refine nR _ rfl (.tmp 46) (.tmp 51) 29 rfl B 34 j0 (.slice none 0 0) 1 24 Tryz.underlying29 hj hy0 hy1 hy2 rfl (by decide) (.slice ai (4*q) ci) (4*q) LT rfl ((aa O3).1.alloc _) ⟨w3.heap.size,0,none⟩ 4 4 [.slice ao k c,.slice a1 (k+1) c1,.slice a2 (k+2) c2,.slice a3 (k+3) c3] rfl rfl (λj u h=>qJ _ #[.slice ao k c,.slice a1 (k+1) c1,.slice a2 (k+2) c2,.slice a3 (k+3) c3] _ j u h) (λu hu=>by simp only[aO,aQ,aR]at hu;rcases hu with rfl|rfl|rfl|rfl<;>rfl) (by unfold maxLen;omega) (by omega) (by rw[bE];omega) ?_;intro v4 w4 o4 g4 _ a4;obtain⟨a4',c4,rfl⟩:=dJ o4;have z4:=g4.size;rw[bE]at z4;have m4:=(g4.block mb (by rw[bE];omega) (λe=>(aa BW).nT e.symm)).trans ((av _ _ _ (by omega)).trans (aa O3).2);obtain⟨⟨_,q0⟩,_,fq⟩:=yo m4;have O4:=aj o4;have G4:=aj g4;have A4:=aj a4;clear o4 g4 a4 m4))
   have hx:=aa HX;subst hx;refine bodyPost_end (v:=.tuple #[]) (by simp[results,Tryz.results19,go_sem]) rfl ?_;exact⟨rfl,LQ (aa BW) (aa L1) (aa L2) (aa HF) (aa HU) (λg e=>((aa OV).lt g e).1) (aa T3).1 rfl (aa T3).2 (aa G4) (by rw[aa L2];exact aa O4) (aa A4)⟩
theorem Qj6 {j t:Nat} (hj:j<n) (ht:t<us.length):(rep us n)[j*us.length+t]?=us[t]?:=by
 obtain⟨m,rfl⟩:∃m,n=j+(1+m):=⟨n-j-1,by omega⟩;rw[yO,vK (by rw[qj];omega),qj,Nat.add_sub_cancel_left,yO,pI (by rw[qj];omega)];simp[rep]
theorem zy.cells (h:zy B e mk size F w L) (hs:∀x,(mk x).length=size) {i:Nat} (hi:i<L.length) :
  ∃ao n c,L[i]?=some (.slice ao n c)/\n<=maxLen/\∀j,j<n->∃g,ao=some ⟨g,0,none⟩/\g<w.heap.size/\∀t,t<size->w.cell? ⟨g,j*size+t,none⟩=(mk (1000000+((i / 4:Nat):Int)))[t]?:=by
 obtain⟨n,h1,_⟩:=h i _ (aU hi);rcases h1.2 with⟨e,h0⟩|⟨g,cap,cur,e,_,hg,k1,k2,_⟩
 .exact⟨none,0,0,by rw[aU hi,e],bO _,λj hj=>by omega⟩
 .refine⟨_,n,cap,by rw[aU hi,e],by omega,λj hj=>⟨g,rfl,(az.1 hg).1,λt ht=>?_⟩⟩;rw[e]at h1;have hlt:j*size+t<n*size:=by
   have:(j+1)*size<=n*size:=Nat.mul_le_mul_right _ hj;rw[Nat.add_mul]at this;omega
  rw[h1.cellAt _ hlt];have:=Qj6 (us:=mk (1000000+((i / 4:Nat):Int))) hj (t:=t) (by rw[hs];exact ht);rw[hs]at this;exact this
theorem TQ (B mb:Nat) (U:Nat->Prop) (p q:Nat) (w:World) (hB:xU B mb U w p q) (hp:p<=1000) (hq:q<=1000) :
  Calls Tryz.prog 20 #[.pointer (some ⟨mb,0,none⟩)] w λe w'=>e=.returned (.bool true)/\Below w.heap.size w w':=by
 obtain⟨F,G,vI,vT,LI,LT,b,l1,l2,hF⟩:=hB;obtain⟨ai,ci,rfl⟩:=dJ b.rI;obtain⟨at',ct,rfl⟩:=dJ b.rT;rw[l1,l2]at b;have hmz:=b.lt mb (.inr b.gm);have KB:=aj b.blk;have CI:Hid (∀k,k<4*p->∃g,ai=some ⟨g,0,none⟩/\g<w.heap.size/\∃ao n c,w.cell? ⟨g,k,none⟩=some (.slice ao n c)/\n<=maxLen/\∀j,j<n->∃g',ao=some ⟨g',0,none⟩/\g'<w.heap.size/\w.cell? ⟨g',j,none⟩=some (.int .i64 (1000000+((k / 4:Nat):Int)))):=λk hk=>by
  obtain⟨ao,n,c,h1,h2,h3⟩:=b.mI.cells (λ_=>rfl) (i:=k) (by omega);have hI:=b.rI;rw[l1]at hI;rcases hI.2 with⟨_,h0⟩|⟨g,cap,cur,e,_⟩
  .omega
  .cases e;refine⟨g,rfl,(hI.lt g rfl).2,ao,n,c,?_,h2,λj hj=>?_⟩
   .exact(hI.cellAt k (by omega)).trans h1
   .obtain⟨g',e1,e2,e3⟩:=h3 j hj;have:=e3 0 (by omega);rw[Nat.mul_one,jA]at this;exact⟨g',e1,e2,this⟩
 have CT:Hid (∀k,k<4*q->∃g,at'=some ⟨g,0,none⟩/\g<w.heap.size/\∃ao n c,w.cell? ⟨g,k,none⟩=some (.slice ao n c)/\n<=maxLen/\∀j,j<n->∃g',ao=some ⟨g',0,none⟩/\g'<w.heap.size/\w.cell? ⟨g',j*2,none⟩=some (.int .i64 0)/\w.cell? ⟨g',j*2+1,none⟩=some (.int .i64 (1000000+((k / 4:Nat):Int)))):=λk hk=>by
  obtain⟨ao,n,c,h1,h2,h3⟩:=b.mT.cells (λ_=>rfl) (i:=k) (by omega);have hI:=b.rT;rw[l2]at hI;rcases hI.2 with⟨_,h0⟩|⟨g,cap,cur,e,_⟩
  .omega
  .cases e;refine⟨g,rfl,(hI.lt g rfl).2,ao,n,c,?_,h2,λj hj=>?_⟩
   .exact(hI.cellAt k (by omega)).trans h1
   .obtain⟨g',e1,e2,e3⟩:=h3 j hj;exact⟨g',e1,e2,e3 0 (by omega),e3 1 (by omega)⟩
 clear b hF;go_enter Tryz.func20,Tryz.ntmps20;go_wp2
 go_loopw [3,4] (λok i wr=>ok=.bool true/\∃k:Nat,k<=4*p/\i=.int .i64 k/\Below w.heap.size w wr) (λ_ i _=>4*p-(intOf i).toNat)
 case atStart=>exact⟨rfl,0,bO _,rfl,ax _ _⟩
 case round=>
  obtain⟨rfl,k,hk,rfl,hnx⟩:=hrel;obtain⟨⟨m0,m1⟩,_⟩:=yo ((hnx.block mb hmz).trans (aa KB));by_cases hlt:k<4*p
  .obtain⟨g,rfl,hg,ao,n,c,hc,hn,hcs⟩:=aa CI k hlt;have hc1:=(hnx.cell (p:=⟨g,k,none⟩) hg).trans hc;have hi:(k:Int)<4*(p:Int):=by omega
   have HN:=aj hnx;have HN':=aj hnx;have HC:=aj hcs;clear hcs hnx;go_wp2;have hnn:n<=9223372036854775807:=by unfold maxLen at hn;omega
   clear hn m0 m1 hc1 HN
   go_loopw [3,5] (λok j wr'=>ok=.bool true/\∃t:Nat,t<=n/\j=.int .i64 t/\Below w.heap.size w wr') (λ_ j _=>n-(intOf j).toNat)
   case atStart=>exact⟨rfl,0,bO _,rfl,aa HN'⟩
   case round=>
    obtain⟨rfl,t,ht,rfl,hny⟩:=hrel;obtain⟨⟨m0,m1⟩,_⟩:=yo ((hny.block mb hmz).trans (aa KB));have hc2:=(hny.cell (p:=⟨g,k,none⟩) hg).trans hc;by_cases htl:t<n
    .obtain⟨g',rfl,hg',hcx⟩:=aa HC t htl;have hc3:=(hny.cell (p:=⟨g',t,none⟩) hg').trans hcx;have hti:(t:Int)<(n:Int):=by omega
     have HY:=aj hny;clear hny;go_wp2
     go_roundw
     case rel=>exact⟨rfl,t+1,by omega,by go_num,aa HY⟩
     case measure=>simp[intOf];omega
    .have HY:=aj hny;clear hny;go_wp2
     go_roundw
     case rel=>exact⟨rfl,k+1,by omega,by go_num,aa HY⟩
     case measure=>simp[intOf];omega
  .have HNX:=aj hnx;clear hnx CI;go_wp2;clear m0 m1
   go_loopw [3,6] (λok i wr=>ok=.bool true/\∃k:Nat,k<=4*q/\i=.int .i64 k/\Below w.heap.size w wr) (λ_ i _=>4*q-(intOf i).toNat)
   case atStart=>exact⟨rfl,0,bO _,rfl,aa HNX⟩
   case round=>
    obtain⟨rfl,k,hk,rfl,hnx⟩:=hrel;obtain⟨⟨m0,m1⟩,_⟩:=yo ((hnx.block mb hmz).trans (aa KB));by_cases hlt:k<4*q
    .obtain⟨g,rfl,hg,ao,n,c,hc,hn,hcs⟩:=aa CT k hlt;have hc1:=(hnx.cell (p:=⟨g,k,none⟩) hg).trans hc;have hi:(k:Int)<4*(q:Int):=by omega
     have HN':=aj hnx;have HC:=aj hcs;clear hcs hnx;go_wp2;have hnn:n<=9223372036854775807:=by unfold maxLen at hn;omega
     clear hn m0 m1 hc1
     go_loopw [3,7] (λok j wr'=>ok=.bool true/\∃t:Nat,t<=n/\j=.int .i64 t/\Below w.heap.size w wr') (λ_ j _=>n-(intOf j).toNat)
     case atStart=>exact⟨rfl,0,bO _,rfl,aa HN'⟩
     case round=>
      obtain⟨rfl,t,ht,rfl,hny⟩:=hrel;obtain⟨⟨m0,m1⟩,_⟩:=yo ((hny.block mb hmz).trans (aa KB));have hc2:=(hny.cell (p:=⟨g,k,none⟩) hg).trans hc;by_cases htl:t<n
      .obtain⟨g',rfl,hg',hcx,hcy⟩:=aa HC t htl;have hc3:=(hny.cell (p:=⟨g',t*2,none⟩) hg').trans hcx;have hc4:=(hny.cell (p:=⟨g',t*2+1,none⟩) hg').trans hcy;have hti:(t:Int)<(n:Int):=by omega
       have HY:=aj hny;clear hny;go_wp2
       go_roundw
       case rel=>exact⟨rfl,t+1,by omega,by go_num,aa HY⟩
       case measure=>simp[intOf];omega
      .have HY:=aj hny;clear hny;go_wp2
       go_roundw
       case rel=>exact⟨rfl,k+1,by omega,by go_num,aa HY⟩
       case measure=>simp[intOf];omega
    .have HN2:=aj hnx;clear hnx;go_wp2;go_ret;exact⟨rfl,aa HN2⟩
end Go.Proofs.YthmmgiaobakilaaGreat
