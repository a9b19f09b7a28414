import Derived.Test.YthmmgiaobakilaaGreatJ19
set_option maxRecDepth 100000
set_option maxHeartbeats 8000000
set_option linter.all false
namespace Go.Proofs.YthmmgiaobakilaaGreat
open Go.RowKit
variable {E:bB} {W w:World} {c:Int×Int} {l:List bQ} {s:ByteArray} {v:Value} {wb:Nat} {xs:List Value} {σ:St}
variable {HS:List (Nat×Obj)}
section
variable {w w2:World} {wb:Nat} {E:bB} {σ:St} {tv lv so sd ov hv rv x v':Value} {U:Obj}
theorem gM.grewBlk (h:gM w wb HS E σ tv lv so sd ov hv rv) (hx:∀k,x.ownBlock=some k->wb+1<=k/\k<w.heap.size) (hg:(w.alloc U).grownBy w2 x.ownBlock):w2.heap[wb]?=w.heap[wb]?:=by
 have hlt:=h.lt;exact(hg.block wb (by simp;omega) (λe=>by have:=(hx wb e.symm).1;omega)).trans (av w U wb hlt)
theorem gM.grewThaw (h:gM w wb HS E σ tv lv so sd ov hv rv) (hx:∀k,x.ownBlock=some k->wb+1<=k/\k<w.heap.size) (hg:(w.alloc U).grownBy w2 x.ownBlock) (i:Nat):w2.frozen? ⟨wb,i,none⟩=false:=by
 have e:=h.grewBlk hx hg;simp only[World.frozen?];rw[e,h.blk];simp
theorem gM.grewBelow (h:gM w wb HS E σ tv lv so sd ov hv rv) (hx:∀k,x.ownBlock=some k->wb+1<=k/\k<w.heap.size) (hg:(w.alloc U).grownBy w2 x.ownBlock) (i:Nat):Below wb w (w2.setCell ⟨wb,i,none⟩ v'):=by
 have hlt:=h.lt;exact(((ax wb w).alloc (by omega) U).grown hg (by simp;omega) (λq hq=>by have:=(hx q hq).1;omega)).setCell (af _) _
end
theorem iM {base e size:Nat} {k:Nat} (h:W.ownsRow base e size v (k+1) xs):∃g cap,v=.slice (some ⟨g,0,none⟩) (k+1) cap:=by
 rcases h.2 with⟨_,h0⟩|⟨g,cap,_,rfl,_⟩
 .omega
 .exact⟨g,cap,rfl⟩
theorem EH (w:World) (wb:Nat) (E:bB) (σ:St) (i:Nat) (hd fr:Bool) (h:Wk w wb HS E σ) (hi:i<E.toks.length) (hl:σ.cells.length<=1000) :
  Calls Tryz.prog 71 #[.pointer (some ⟨wb,0,none⟩),.int .i64 (i:Int),.bool hd,.bool fr] w λe w'=>e=.returned (.tuple #[])/\Wk w' wb HS E (oz E σ i hd fr)/\Below wb w w':=by
 have hh:=h;obtain⟨tv,lv,so,sd,ov,hv,rv,hh⟩:=hh;obtain⟨tb,cap,rfl,htb⟩:=hh.tokv;have c0:=hh.cell 0;have c1:=hh.cell 1;have c4:=hh.cell 4;simp at c0 c1 c4;obtain⟨t0,t1,t2,t3⟩:=hh.tokcell i hi;have hf:=hh.tokFew;have hwl:=hh.lt;have hii:(i:Int)<(E.toks.length:Int):=by omega
 obtain⟨i0,hi0,hz0,hz1,hz2⟩:=dG Xa;clear t0 t1 t2
 cases hm0:(E.mode==0)
 .cases hw:MB E σ i
  .have eS:oz E σ i hd fr = { σ with cells:=σ.cells++[zb E i hd fr] }:=by simp[oz,hm0,hw]
   rw[eS];have HG:=aj (λ(U:Obj) (w2:World) (v':Value)=>hh.grew (w2:=w2) (v':=v') (c:=zb E i hd fr) U);have HZ:=aj (λ(U:Obj) (w2:World) (hg:(w.alloc U).grownBy w2 lv.ownBlock)=>hh.grewThaw hh.rowL.lt hg 4);have HB:=aj (λ(U:Obj) (w2:World) (v':Value) (hg:(w.alloc U).grownBy w2 lv.ownBlock)=>hh.grewBelow (v':=v') hh.rowL.lt hg 4);have HC:=aj (λ(U:Obj) (w2:World) (hg:(w.alloc U).grownBy w2 lv.ownBlock)=>(iY (w:=w) (hh.grewBlk hh.rowL.lt hg)).trans c4);have HL:=aj hh.rowL;clear eS;unfold MB at hw;unfold zb at HG ⊢;generalize (aT E i).text=tx at *;have HW:=aj hw;clear hw hh
   cases hm1:(E.mode==1)
   .clear HW;go_enter Tryz.func71,Tryz.ntmps71;go_wp2_with fail;refine(vG _ wb E σ tx h hl).mono ?_;rintro e w1 ⟨rfl,hw1⟩;obtain rfl:=hw1.symm;go_wp2_with (at_builtin;refine nR _ rfl _ _ 57 rfl (wb+1) 91 i0 (.agg #[.string ⟨#[]⟩,.int .i64 0,.bool false,.bool false]) 4 32 Tryz.underlying57 hi0 hz0 hz1 hz2 rfl (by decide) _ _ _ rfl ((aa HL).alloc _) ⟨w.heap.size,0,none⟩ 1 1 (dF ⟨tx,0,hd,fr⟩) rfl rfl ?c1 ?c2 ?c3 ?c4 ?c5 ?_)
    case c1=>exact kZ _ _ rfl (dF ⟨tx,0,hd,fr⟩) _
    case c2=>exact Df _
    case c3=>unfold maxLen;omega
    case c4=>omega
    case c5=>simp;omega
    intro v' w2 h1 hg _ hat;obtain⟨g,cp,rfl⟩:=iM h1;have R:=aj (aa HG _ w2 _ h1 hg (by simpa using hat));have z4:=aa HZ _ w2 hg;have c4':=aa HC _ w2 hg;clear c4;have RB:=aj (λv'=>aa HB _ w2 v' hg);clear h1 hg hat HG HZ HB HC HL;go_wp2
    go_end0
    exact⟨rfl,⟨_,_,_,_,_,_,_,aa R⟩,aa RB _⟩
   .have hk:=aa HW;clear HW;rw[hm1]at hk;simp only[qZ,Bool.or_eq_false_iff]at hk;obtain⟨hk1,hk2⟩:=hk;have hk1:aN σ.cells tx<0:=by simpa using hk1
    have hk2:(tx.size:Int)<=6:=by have:=of_decide_eq_false hk2;omega
    obtain⟨kk,HK⟩:∃kk,Hid (aN σ.cells tx=kk):=⟨_,rfl⟩;rw[aa HK]at hk1
    replace hk1:decide (0<=kk)=false:=by simpa using hk1
    replace hk2:decide ((6:Int)<(tx.size:Int))=false:=by simpa using hk2
    go_enter Tryz.func71,Tryz.ntmps71;go_wp2_with fail;refine(vG _ wb E σ tx h hl).mono ?_;rintro e w1 ⟨rfl,hw1⟩;obtain rfl:=hw1.symm;rw[aa HK];clear HK;go_wp2_with (at_builtin;refine nR _ rfl _ _ 57 rfl (wb+1) 91 i0 (.agg #[.string ⟨#[]⟩,.int .i64 0,.bool false,.bool false]) 4 32 Tryz.underlying57 hi0 hz0 hz1 hz2 rfl (by decide) _ _ _ rfl ((aa HL).alloc _) ⟨w.heap.size,0,none⟩ 1 1 (dF ⟨tx,0,hd,fr⟩) rfl rfl ?c1 ?c2 ?c3 ?c4 ?c5 ?_)
    case c1=>exact kZ _ _ rfl (dF ⟨tx,0,hd,fr⟩) _
    case c2=>exact Df _
    case c3=>unfold maxLen;omega
    case c4=>omega
    case c5=>simp;omega
    intro v' w2 h1 hg _ hat;obtain⟨g,cp,rfl⟩:=iM h1;have R:=aj (aa HG _ w2 _ h1 hg (by simpa using hat));have z4:=aa HZ _ w2 hg;have c4':=aa HC _ w2 hg;clear c4;have RB:=aj (λv'=>aa HB _ w2 v' hg);clear h1 hg hat HG HZ HB HC HL;go_wp2
    go_end0
    exact⟨rfl,⟨_,_,_,_,_,_,_,aa R⟩,aa RB _⟩
  .have eS:oz E σ i hd fr = { bR E σ i 10 with cells:=(bR E σ i 10).cells++[zb E i hd fr] }:=by simp[oz,hm0,hw]
   rw[eS];clear eS;unfold MB at hw;unfold zb;generalize (aT E i).text=tx at *;simp only[dC,pU]at hw;obtain⟨hm1,hw⟩:=hw;have hwc:(bR E σ i 10).cells=σ.cells:=by unfold bR;split<;>rfl
   by_cases hk:0<=aN σ.cells tx
   .clear hw hh;go_enter Tryz.func71,Tryz.ntmps71;go_wp2_with fail;refine(vG _ wb E σ tx h hl).mono ?_;rintro e w1 ⟨rfl,hw1⟩;obtain rfl:=hw1.symm;go_wp2_with fail;refine(iR _ wb E σ i 10 h hi).mono ?_;clear c0 c1 c4 t3;rintro e w1 ⟨rfl,h1,hb1⟩;obtain⟨tv,lv,so,sd,ov,hv,rv,hh⟩:=h1;have c4:=hh.cell 4;simp at c4;have HG:=aj (λ(U:Obj) (w2:World) (v':Value)=>hh.grew (w2:=w2) (v':=v') (c:=⟨tx,0,hd,fr⟩) U);have HZ:=aj (λ(U:Obj) (w2:World) (hg:(w1.alloc U).grownBy w2 lv.ownBlock)=>hh.grewThaw hh.rowL.lt hg 4);have HB:=aj (λ(U:Obj) (w2:World) (v':Value) (hg:(w1.alloc U).grownBy w2 lv.ownBlock)=>hb1.trans (hh.grewBelow (v':=v') hh.rowL.lt hg 4));have HC:=aj (λ(U:Obj) (w2:World) (hg:(w1.alloc U).grownBy w2 lv.ownBlock)=>(iY (w:=w1) (hh.grewBlk hh.rowL.lt hg)).trans c4);have HL:=aj hh.rowL;have hwl:=hh.lt;have hl2:(bR E σ i 10).cells.length<=1000:=by rw[hwc];exact hl
    clear hh hb1 hwc h;go_wp2_with (at_builtin;refine nR _ rfl _ _ 57 rfl (wb+1) 91 i0 (.agg #[.string ⟨#[]⟩,.int .i64 0,.bool false,.bool false]) 4 32 Tryz.underlying57 hi0 hz0 hz1 hz2 rfl (by decide) _ _ _ rfl ((aa HL).alloc _) ⟨w1.heap.size,0,none⟩ 1 1 (dF ⟨tx,0,hd,fr⟩) rfl rfl ?c1 ?c2 ?c3 ?c4 ?c5 ?_)
    case c1=>exact kZ _ _ rfl (dF ⟨tx,0,hd,fr⟩) _
    case c2=>exact Df _
    case c3=>unfold maxLen;omega
    case c4=>omega
    case c5=>simp;omega
    intro v' w2 h1 hg _ hat;obtain⟨g,cp,rfl⟩:=iM h1;have R:=aj (aa HG _ w2 _ h1 hg (by simpa using hat));have z4:=aa HZ _ w2 hg;have c4':=aa HC _ w2 hg;clear c4;have RB:=aj (λv'=>aa HB _ w2 v' hg);clear h1 hg hat HG HZ HB HC HL;go_wp2
    go_end0
    exact⟨rfl,⟨_,_,_,_,_,_,_,aa R⟩,aa RB _⟩
   .have hk2:(6:Int)<(tx.size:Int):=by
     rcases hw with hw|hw
     .exact absurd (of_decide_eq_true hw) hk
     .have:=of_decide_eq_true hw;omega
    have hk1:aN σ.cells tx<0:=by omega
    clear hw hh hk;go_enter Tryz.func71,Tryz.ntmps71;go_wp2_with fail;refine(vG _ wb E σ tx h hl).mono ?_;rintro e w1 ⟨rfl,hw1⟩;obtain rfl:=hw1.symm;go_wp2_with fail;refine(iR _ wb E σ i 10 h hi).mono ?_;clear c0 c1 c4 t3;rintro e w1 ⟨rfl,h1,hb1⟩;obtain⟨tv,lv,so,sd,ov,hv,rv,hh⟩:=h1;have c4:=hh.cell 4;simp at c4;have HG:=aj (λ(U:Obj) (w2:World) (v':Value)=>hh.grew (w2:=w2) (v':=v') (c:=⟨tx,0,hd,fr⟩) U);have HZ:=aj (λ(U:Obj) (w2:World) (hg:(w1.alloc U).grownBy w2 lv.ownBlock)=>hh.grewThaw hh.rowL.lt hg 4);have HB:=aj (λ(U:Obj) (w2:World) (v':Value) (hg:(w1.alloc U).grownBy w2 lv.ownBlock)=>hb1.trans (hh.grewBelow (v':=v') hh.rowL.lt hg 4));have HC:=aj (λ(U:Obj) (w2:World) (hg:(w1.alloc U).grownBy w2 lv.ownBlock)=>(iY (w:=w1) (hh.grewBlk hh.rowL.lt hg)).trans c4);have HL:=aj hh.rowL;have hwl:=hh.lt;have hl2:(bR E σ i 10).cells.length<=1000:=by rw[hwc];exact hl
    clear hh hb1 hwc h;go_wp2_with (at_builtin;refine nR _ rfl _ _ 57 rfl (wb+1) 91 i0 (.agg #[.string ⟨#[]⟩,.int .i64 0,.bool false,.bool false]) 4 32 Tryz.underlying57 hi0 hz0 hz1 hz2 rfl (by decide) _ _ _ rfl ((aa HL).alloc _) ⟨w1.heap.size,0,none⟩ 1 1 (dF ⟨tx,0,hd,fr⟩) rfl rfl ?c1 ?c2 ?c3 ?c4 ?c5 ?_)
    case c1=>exact kZ _ _ rfl (dF ⟨tx,0,hd,fr⟩) _
    case c2=>exact Df _
    case c3=>unfold maxLen;omega
    case c4=>omega
    case c5=>simp;omega
    intro v' w2 h1 hg _ hat;obtain⟨g,cp,rfl⟩:=iM h1;have R:=aj (aa HG _ w2 _ h1 hg (by simpa using hat));have z4:=aa HZ _ w2 hg;have c4':=aa HC _ w2 hg;clear c4;have RB:=aj (λv'=>aa HB _ w2 v' hg);clear h1 hg hat HG HZ HB HC HL;go_wp2
    go_end0
    exact⟨rfl,⟨_,_,_,_,_,_,_,aa R⟩,aa RB _⟩
 .have eS:oz E σ i hd fr=σ:=by simp[oz,hm0]
  rw[eS];clear eS hh;go_enter Tryz.func71,Tryz.ntmps71;go_wp2
  (try simp only[Exit.inBlock,Exit.then])
  refine aL (pY rfl _ _ _) rfl ?_;exact⟨rfl,h,ax _ _⟩
variable {HS:List (Nat×Obj)}
theorem gM.grewR {w2:World} {tv lv so sd ov hv rv v':Value} (h:gM w wb HS E σ tv lv so sd ov hv rv) (U:Obj)
  (hown:w2.ownsRow (wb+1) 61 2 v' (σ.trace.length+1) (mF σ.trace++qm c)) (hg:(w.alloc U).grownBy w2 rv.ownBlock) (hat:v'.ownBlock=rv.ownBlock∨v'.ownBlock=some (w.heap.size+1)) :
  gM (w2.setCell ⟨wb,14,none⟩ v') wb HS E { σ with trace:=σ.trace++[c] } tv lv so sd ov hv v':=by
 have hlt:=h.lt;have hlv:∀k,rv.ownBlock=some k->wb+1<=k/\k<w.heap.size:=h.rowR.lt;have keep:∀k,k<w.heap.size->some k≠rv.ownBlock->w2.heap[k]?=w.heap[k]?:=λk hk hne=>(hg.block k (by simp;omega) hne).trans (av w U k hk);have keep2:∀k,k<w.heap.size->k≠wb->some k≠rv.ownBlock->(w2.setCell ⟨wb,14,none⟩ v').heap[k]?=w.heap[k]?:=λk hk hw hne=>(ay _ _ _ _ hw).trans (keep k hk hne);have low:∀k,k<wb->(w2.setCell ⟨wb,14,none⟩ v').heap[k]?=w.heap[k]?:=λk hk=>keep2 k (by omega) (by omega) (λe=>by have:=(hlv k e.symm).1;omega);have blk2:w2.heap[wb]?=_:=(keep wb hlt (λe=>by have:=(hlv wb e.symm).1;omega)).trans h.blk;have ap:∀(x:Value),ny rv x->(∀k,x.ownBlock=some k->wb+1<=k/\k<w.heap.size)->ny v' x:=λx hx hxb=>by
  rcases hat with e|e
  .unfold ny;rw[e];exact hx
  .right;rw[e];intro e2;have:=(hxb _ e2.symm).2;omega
 have apL:ny lv v':=by
  rcases hat with e|e
  .unfold ny;rw[e];exact h.apLR
  .right;rw[e];intro e2;have:=(h.rowL.lt _ e2).2;omega
 have own2:∀(x:Value) (e size n:Nat) (xs:List Value),w.ownsRow (wb+1) e size x n xs->(x.ownBlock=none∨x.ownBlock≠rv.ownBlock)->(w2.setCell ⟨wb,14,none⟩ v').ownsRow (wb+1) e size x n xs:=λx e size n xs hx hap=>bT hx (λk hk=>keep2 k (hx.lt k hk).2 (by have:=(hx.lt k hk).1;omega) (λe2=>by
  rcases hap with h0|h0
  .rw[h0]at hk;cases hk
  .exact h0 (by rw[<-e2,hk])))
 have flip:∀(x:Value),ny rv x->(x.ownBlock=none∨x.ownBlock≠rv.ownBlock):=λx hx=>by
  rcases hx with h0|h0
  .by_cases hx0:x.ownBlock=none
   .exact .inl hx0
   .right;rw[h0];exact hx0
  .exact .inr (λe=>h0 e.symm)
 have hold:∀p∈HS,(w2.setCell ⟨wb,14,none⟩ v').heap[p.1]?=some p.2/\p.1≠wb/\lv.ownBlock≠some p.1/\v'.ownBlock≠some p.1/\ov.ownBlock≠some p.1/\hv.ownBlock≠some p.1:=λp hp=>by
  obtain⟨a,b,c,c2,d⟩:=h.held p hp;have hpl:p.1<w.heap.size:=(az.1 a).1;refine⟨(keep2 p.1 hpl b (λe=>c2 e.symm)).trans a,b,c,?_,d⟩;rcases hat with e|e
  .rw[e];exact c2
  .rw[e];intro e2;simp at e2;omega
 refine⟨aM _ wb 14 _ _ _ blk2,bT h.tokens (λk hk=>low k (h.tokLow k hk)),h.tokLow,h.tokSome,h.tokFew,own2 _ _ _ _ _ h.rowL h.apLR,?_,own2 _ _ _ _ _ h.rowO (flip _ h.apRO),own2 _ _ _ _ _ h.rowH (flip _ h.apRH),apL,h.apLO,h.apLH,ap ov h.apRO h.rowO.lt,ap hv h.apRH h.rowH.lt,h.apOH,?_,?_,hold⟩
 .have:w2.ownsRow (wb+1) 61 2 v' (σ.trace++[c]).length (mF (σ.trace++[c])):=by rw[Cv,iZ];exact hown
  exact bT this (λk hk=>ay _ _ _ _ (by show k≠wb;have:=(this.lt k hk).1;omega))
 .obtain⟨ao,c,e,hi⟩:=h.ints1;exact⟨ao,c,e,hi.same low⟩
 .obtain⟨ao,c,e,hi⟩:=h.ints2;exact⟨ao,c,e,hi.same low⟩
def lq (σ:St) (a b:Int):St:=if σ.trace.length<100 then { σ with touched:=σ.touched+1,trace:=σ.trace++[(a,b)] } else { σ with touched:=σ.touched+1 }
theorem gM.lenR {tv lv so sd ov hv rv:Value} (h:gM w wb HS E σ tv lv so sd ov hv rv):∃ao c,rv=.slice ao σ.trace.length c:=by
 rcases h.rowR.2 with⟨h1,h0⟩|⟨g,cap,cur,rfl,_⟩
 .rw[h0];exact⟨_,_,h1⟩
 .exact⟨_,_,rfl⟩
theorem Er (w:World) (wb:Nat) (E:bB) (σ:St) (x y:Int) (h:Wk w wb HS E σ) (ht0:0<=σ.touched) (ht1:σ.touched<=1000000000000) :
  Calls Tryz.prog 104 #[.pointer (some ⟨wb,0,none⟩),.int .i64 x,.int .i64 y] w λe w'=>e=.returned (.tuple #[])/\Wk w' wb HS E (lq σ x y)/\Below wb w w':=by
 obtain⟨tv,lv,so,sd,ov,hv,rv,h⟩:=h;obtain⟨ao,cp,rfl⟩:=h.lenR;have c13:=h.cell 13;have c14:=h.cell 14;simp at c13 c14;have z13:=h.thaw 13;obtain⟨i0,hi0,hz0,hz1,hz2⟩:=dG UE;have HT:Hid (gM (w.setCell ⟨wb,13,none⟩ (.int .i64 (σ.touched+1))) wb HS E { σ with touched:=σ.touched+1 } tv lv so sd ov hv _):=h.turn { σ with touched:=σ.touched+1 } rfl rfl rfl rfl (aM _ wb 13 _ _ _ h.blk) (λk hk=>ay _ _ _ _ hk);have HB:Hid (Below wb w (w.setCell ⟨wb,13,none⟩ (.int .i64 (σ.touched+1)))):=(ax wb _).setCell (af _) _;clear h;by_cases hl:σ.trace.length<100
 .have hl':(σ.trace.length:Int)<100:=by omega
  have eS:lq σ x y = { σ with touched:=σ.touched+1,trace:=σ.trace++[(x,y)] }:=by simp[lq,hl]
  rw[eS];clear eS;go_enter Tryz.func104,Tryz.ntmps104;go_wp2_with (at_builtin;refine nR _ rfl _ _ 34 rfl (wb+1) 61 i0 (.agg #[.int .i64 0,.int .i64 0]) 2 16 Tryz.underlying34 hi0 hz0 hz1 hz2 rfl (by decide) _ _ _ rfl ((aa HT).rowR.alloc _) ⟨w.heap.size,0,none⟩ 1 1 (qm (x,y)) rfl rfl ?c1 ?c2 ?c3 ?c4 ?c5 ?_)
  case c1=>exact kZ _ _ (by simp) (qm (x,y)) _
  case c2=>exact UU _
  case c3=>unfold maxLen;simp;omega
  case c4=>omega
  case c5=>have:=(aa HT).lt;simp at this ⊢;omega
  intro v' w2 h1 hg _ hat;obtain⟨g,cp',rfl⟩:=iM h1;have R:=aj ((aa HT).grewR _ h1 hg (by simpa using hat));have z14:=(aa HT).grewThaw (aa HT).rowR.lt hg 14;have c14':=(iY (w:=_) ((aa HT).grewBlk (aa HT).rowR.lt hg)).trans ((aa HT).cell 14);have RB:=aj (λv'=>(aa HB).trans ((aa HT).grewBelow (v':=v') (aa HT).rowR.lt hg 14));simp at c14';clear h1 hg hat HT HB c14 c13;go_wp2
  go_end0
  exact⟨rfl,⟨_,_,_,_,_,_,_,aa R⟩,aa RB _⟩
 .have hl':decide ((σ.trace.length:Int)<100)=false:=by simp;omega
  have eS:lq σ x y = { σ with touched:=σ.touched+1 }:=by simp[lq,hl]
  rw[eS];clear eS;go_enter Tryz.func104,Tryz.ntmps104;go_wp2
  go_end0
  exact⟨rfl,⟨_,_,_,_,_,_,_,aa HT⟩,aa HB⟩
variable {HS:List (Nat×Obj)}
structure gp where
 v:Int
 h:Bool
 to:Nat
 σ:St
def OQ (wb:Nat) (HS:List (Nat×Obj)) (E:bB) (w:World) (r:gp) (e:Ending) (w':World):Prop:=e=.returned (.tuple #[.int .i64 r.v,.bool r.h,.int .i64 (r.to:Int)])/\Wk w' wb HS E r.σ/\Below wb w w'
theorem KW (E:bB) (σ:St) (i:Nat) (e:Int):(bR E σ i e).cells=σ.cells:=by unfold bR;split<;>rfl
theorem qI (E:bB) (σ:St) (i:Nat):(fU E σ i).cells=σ.cells:=by unfold fU;split<;>simp[KW]
theorem MO (E:bB) (σ:St) (live:Bool):(aC E σ live).cells=σ.cells:=by unfold aC;split<;>(try split)<;>rfl
theorem ru (h:¬ aN l s<0):∃k:Nat,aN l s=k/\k<l.length:=by
 unfold aN at *
 cases hf:l.findIdx? (λc=>c.name.toList==s.toList) with
 | none=>simp[hf]at h
 | some k=>
  rw[Ak]at hf;exact⟨k,rfl,hf.1⟩
def kW:bQ:=⟨⟨#[]⟩,0,false,false⟩
def mG (σ:St) (k:Int):bQ:=σ.cells.getD k.toNat kW
def tJ (E:bB) (σ:St) (i:Nat) (live:Bool):gp:=
 if(aT E i).kind==2 then⟨(aT E i).num,false,i+1,aC E σ live⟩
 else if E.mode==0 then⟨0,false,i+1,aC E σ live⟩
 else if mR E (aC E σ live) i<0 then⟨0,false,i+1,fU E (aC E σ live) i⟩
 else⟨if stepB E σ live then(mG (fU E (aC E σ live) i) (mR E (aC E σ live) i)).val else 0,(mG (fU E (aC E σ live) i) (mR E (aC E σ live) i)).hid,i+1,fU E (aC E σ live) i⟩
theorem JY (w:World) (wb:Nat) (E:bB) (σ:St) (i:Nat) (live:Bool) (h:Wk w wb HS E σ) (hi:i<E.toks.length) (hl:σ.cells.length<=1000) (hs:0<=σ.steps) :
  Calls Tryz.prog 146 #[.pointer (some ⟨wb,0,none⟩),.int .i64 (i:Int),.bool live] w (OQ wb HS E w (tJ E σ i live)):=by
 have tf:=h.some.2;have hii:(i:Int)<(E.toks.length:Int):=by omega
 obtain⟨r,HR⟩:∃r,Hid (tJ E σ i live=r):=⟨_,rfl⟩;rw[aa HR];go_enter Tryz.func146,Tryz.ntmps146;go_wp2_with fail;refine(iw _ wb E σ live h hs).mono ?_;rintro e w1 ⟨rfl,h1,hb1⟩;have hl1:(aC E σ live).cells.length<=1000:=by rw[MO];exact hl
 have hh:=h1;obtain⟨tv,lv,so,sd,ov,hv,rv,hh⟩:=hh;obtain⟨tb,cap,rfl,htb⟩:=hh.tokv;have c0:=hh.cell 0;have c1:=hh.cell 1;simp at c0 c1;obtain⟨t0,t1,t2,t3⟩:=hh.tokcell i hi;clear t2 t3 hh;have HR2:=HR;unfold tJ at HR2;clear HR
 cases hk:((aT E i).kind==2)
 .have hk':¬ ((aT E i).kind==2)=true:=by rw[hk];simp
  have HR3:=aa HR2;rw[ae hk']at HR3
  replace HR2:=aj HR3
  clear HR3 hk'
  cases hm:(E.mode==0)
  .have hm':¬ (E.mode==0)=true:=by rw[hm];simp
   have HR3:=aa HR2;rw[ae hm']at HR3
   replace HR2:=aj HR3
   clear HR3 hm';go_wp2_with fail;refine(NY _ wb E _ i h1 hi hl1).mono ?_;clear c0 c1 t0 t1;rintro e w2 ⟨rfl,h2,hb2⟩;by_cases hneg:mR E (aC E σ live) i<0
   .have HR3:=aa HR2;rw[ag hneg]at HR3
    replace HR2:=aj HR3
    clear HR3;go_wp2
    go_ret3
    rw[<-aa HR2];exact⟨rfl,h2,hb1.trans hb2⟩
   .have HR3:=aa HR2;rw[ae hneg]at HR3;obtain⟨k,hk1,hk2⟩:=ru hneg;have hneg':decide (mR E (aC E σ live) i<0)=false:=by simpa using hneg
    have hh:=h2;obtain⟨tv,lv,so,sd,ov,hv,rv,hh⟩:=hh;obtain⟨ao,cap,rfl,hcell⟩:=hh.lform;obtain⟨g,rfl,hg,x0,x1,x2,x3⟩:=hcell k (by rw[qI];exact hk2);have c4:=hh.cell 4;simp at c4;have ek:mR E (aC E σ live) i=k:=hk1;rw[ek]at HR3 hneg';have ec:mG (fU E (aC E σ live) i) k=(fU E (aC E σ live) i).cells[k]'(by rw[qI];exact hk2):=by
     simp[mG,List.getD,aU (by rw[qI];exact hk2:k<(fU E (aC E σ live) i).cells.length)]
    rw[<-ec]at x1 x2;generalize mG (fU E (aC E σ live) i) k=cc at *;have hkl:(k:Int)<((fU E (aC E σ live) i).cells.length:Int):=by rw[qI];omega
    have hll:(fU E (aC E σ live) i).cells.length<=1000:=by rw[qI];omega
    replace HR2:=aj HR3
    rw[ek];clear HR3 hcell hh x0 x3 ec hk1 ek hneg
    cases hsb:stepB E σ live
    .rw[hsb]at HR2;go_wp2
     go_quiet (fail)
     go_wp2
     go_ret3
     rw[<-aa HR2];exact⟨rfl,h2.drewN _,dX (hb1.trans hb2) _⟩
    .rw[hsb]at HR2;go_wp2
     go_quiet (fail)
     go_wp2
     go_ret3
     rw[<-aa HR2];exact⟨rfl,h2.drewN _,dX (hb1.trans hb2) _⟩
  .have HR3:=aa HR2;rw[ag hm]at HR3
   replace HR2:=aj HR3
   clear HR3;go_wp2
   go_ret3
   rw[<-aa HR2];exact⟨rfl,h1,hb1⟩
 .have HR3:=aa HR2;rw[ag hk]at HR3
  replace HR2:=aj HR3
  clear HR3;go_wp2
  go_ret3
  rw[<-aa HR2];exact⟨rfl,h1,hb1⟩
end Go.Proofs.YthmmgiaobakilaaGreat
