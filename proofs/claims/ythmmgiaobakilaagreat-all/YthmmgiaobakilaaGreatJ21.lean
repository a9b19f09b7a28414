import Derived.Test.YthmmgiaobakilaaGreatJ20
import Derived.Deep.LoopGhost
set_option maxRecDepth 100000
set_option maxHeartbeats 8000000
set_option linter.all false
namespace Go.Proofs.YthmmgiaobakilaaGreat
open Go.RowKit
variable {E:bB} {F M X:bB->St->Nat->Bool->Option gp} {HS':List (Nat×Obj)} {i wb:Nat} {l:Value} {live:Bool} {q r:gp} {s:ByteArray} {vs:List Int} {w w2:World} {σ:St}
abbrev lI (σ:St):Prop:=σ.cells.length<=1000/\0<=σ.steps/\0<=σ.touched/\σ.touched<=1000000000000
abbrev ym (E:bB) (r:gp):Prop:=r.to<E.toks.length/\lI r.σ/\dw r.v
def chk (E:bB) (r:gp):Option gp:=if ym E r then some r else none
def sF (fn:Nat) (M:bB->St->Nat->Bool->Option gp):Prop:=∀(w:World) (wb:Nat) (HS:List (Nat×Obj)) (E:bB) (σ:St) (i:Nat) (live:Bool) (r:gp),Wk w wb HS E σ->i<E.toks.length->lI σ->M E σ i live=some r ->
 Calls Tryz.prog fn #[.pointer (some ⟨wb,0,none⟩),.int .i64 (i:Int),.bool live] w (OQ wb HS E w r)
def ik (M:bB->St->Nat->Bool->Option gp):Prop:=∀E σ i live r,M E σ i live=some r->ym E r
def kC (M:bB->St->Nat->Bool->Option gp) (ops:List ByteArray) (E:bB) (live:Bool):Nat->gp->Option gp
 | 0,_=>none
 | n+1,r=>if(Cj E r.σ r.to ops).toList.isEmpty then some r else
   if r.to+1<E.toks.length then(M E (aC E r.σ live) (r.to+1) live).bind λx=>kC M ops E live n ⟨dR (Cj E r.σ r.to ops) r.v x.v,r.h||x.h,x.to,x.σ⟩ else none
def wu (M:bB->St->Nat->Bool->Option gp) (ops:List ByteArray) (n:Nat) (E:bB) (σ:St) (i:Nat) (live:Bool):Option gp:=(M E σ i live).bind (kC M ops E live n)
theorem Wk.alloc {w:World} {wb:Nat} {HS:List (Nat×Obj)} {E:bB} {σ:St} (h:Wk w wb HS E σ) (o:Obj):Wk (w.alloc o) wb HS E σ:=by
 obtain⟨tv,lv,so,sd,ov,hv,rv,h⟩:=h;have hlt:=h.lt;have keep:∀k,k<w.heap.size->(w.alloc o).heap[k]?=w.heap[k]?:=λk hk=>av w o k hk;refine⟨tv,lv,so,sd,ov,hv,rv,(keep wb hlt).trans h.blk,bT h.tokens (λk hk=>keep k (by have:=h.tokLow k hk;omega)),h.tokLow,h.tokSome,h.tokFew,h.rowL.alloc _,h.rowR.alloc _,h.rowO.alloc _,h.rowH.alloc _,h.apLR,h.apLO,h.apLH,h.apRO,h.apRH,h.apOH,?_,?_,λp hp=>⟨(keep p.1 (az.1 (h.held p hp).1).1).trans (h.held p hp).1,(h.held p hp).2⟩⟩
 .obtain⟨ao,c,e,hi⟩:=h.ints1;exact⟨ao,c,e,hi.same (λk hk=>keep k (by omega))⟩
 .obtain⟨ao,c,e,hi⟩:=h.ints2;exact⟨ao,c,e,hi.same (λk hk=>keep k (by omega))⟩
theorem jX (h:lI σ):lI (aC E σ live):=by
 obtain⟨a,b,c,d⟩:=h;unfold aC;split
 .split
  .exact⟨a,b,c,d⟩
  .exact⟨a,by show 0<=σ.steps+1;omega,c,d⟩
 .exact⟨a,b,c,d⟩
theorem XI (hsub:sF 143 M) (hgood:ik M) (n:Nat):sF 137 (wu M lT n):=by
 intro w wb HS E σ i live r h hi hok hM;obtain⟨r0,hM0,hM1⟩:=aP.1 hM;have g0:=hgood E σ i live r0 hM0;have HM:=aj hM1;have tf:=h.some.2;have hii:(i:Int)<(E.toks.length:Int):=by omega
 clear hM hM1;go_enter Tryz.func137,Tryz.ntmps137;go_wp2_with fail;refine(hsub w wb HS E σ i live r0 h hi hok hM0).mono ?_;clear hM0 h hok;rintro e w1 ⟨rfl,h1,hb1⟩;go_wp2_with fail;refine(Ah _ wb E _ r0.to (some ⟨w1.heap.size,0,none⟩) 2 lT (h1.alloc _) g0.1 (om.newAt _ lT _ _ rfl (by simp)) (by decide)).mono ?_;rintro e w2 ⟨rfl,rfl⟩;go_wp2
 go_loopg [9,10,11,12] n (λk sv sh st ss wr=>∃q:gp,sv=.int .i64 q.v/\sh=.bool q.h/\st=.int .i64 (q.to:Int)/\ss=.string (Cj E q.σ q.to lT)/\Wk wr wb HS E q.σ/\Below wb w wr/\ym E q/\kC M lT E live k q=some r)
 case atStart=>exact⟨r0,rfl,rfl,rfl,rfl,h1.alloc _,hb1.alloc (by obtain⟨_,_,_,_,_,_,_,hh⟩:=h1;have:=hh.lt;omega) _,g0,aa HM⟩
 case round=>
  clear HM h1 hb1;obtain⟨q,rfl,rfl,rfl,rfl,hq,hbq,gq,hch⟩:=hrel
  cases gk with
  | zero=>exact absurd hch (by simp[kC])
  | succ gk=>
   obtain⟨op,HO⟩:∃op,Hid (Cj E q.σ q.to lT=op):=⟨_,rfl⟩;rw[aa HO];rw[kC,aa HO]at hch
   cases hop:op.toList.isEmpty
   .have hop':¬ op.toList.isEmpty=true:=by rw[hop];simp
    rw[ae hop']at hch;by_cases hto:q.to+1<E.toks.length
    .rw[ag hto]at hch;obtain⟨x,hx,hch⟩:=aP.1 hch;have gx:=hgood _ _ _ _ _ hx;have HCH:=aj hch;clear hch hop';have hq1:(q.to:Int)+1<1000:=by omega
     go_wp2_with fail;refine(iw _ wb E q.σ live hq gq.2.1.2.1).mono ?_;rintro e w2 ⟨rfl,h2,hb2⟩;go_wp2_with fail;refine(hsub w2 wb HS E _ (q.to+1) live x h2 hto (jX gq.2.1) hx).mono ?_;clear h2 hx;rintro e w3 ⟨rfl,h3,hb3⟩;go_wp2_with fail;refine(zV op q.v x.v w3 gq.2.2 gx.2.2).mono ?_;rintro e w4 ⟨rfl,hw⟩;obtain rfl:=hw.symm;obtain⟨q2,hq2⟩:∃q2:gp,q2=⟨dR op q.v x.v,q.h||x.h,x.to,x.σ⟩:=⟨_,rfl⟩;have G2:ym E q2:=by rw[hq2];exact⟨gx.1,gx.2.1,iG gq.2.2 gx.2.2⟩
     have HQ:=aj hq2;rw[<-hq2]at HCH;have H3:Hid (Wk w3 wb HS E q2.σ):=by rw[hq2];exact h3
     have hgt:x.to<E.toks.length:=gx.1;have hBel:=aj ((hbq.trans hb2).trans hb3);clear hq2 hsub hgood h3 hbq hb2 hb3 gq gx;have hwlt:Hid (wb<=w3.heap.size):=by obtain⟨_,_,_,_,_,_,_,hh⟩:=aa H3;have:=hh.lt;show _<=_;omega
     cases hqh:q.h
     .go_wp2_with fail;refine(Ah _ wb E q2.σ x.to (some ⟨w3.heap.size,0,none⟩) 2 lT ((aa H3).alloc _) hgt (om.newAt _ lT _ _ rfl (by simp)) (by decide)).mono ?_;rintro e w4 ⟨rfl,rfl⟩;go_wp2
      go_roundg gk
      case measure=>omega
      case rel=>exact⟨q2,by rw[aa HQ],by rw[aa HQ,hqh];simp,by rw[aa HQ],by rw[aa HQ],(aa H3).alloc _,(aa hBel).alloc (aa hwlt) _,G2,aa HCH⟩
     .go_wp2_with fail;refine(Ah _ wb E q2.σ x.to (some ⟨w3.heap.size,0,none⟩) 2 lT ((aa H3).alloc _) hgt (om.newAt _ lT _ _ rfl (by simp)) (by decide)).mono ?_;rintro e w4 ⟨rfl,rfl⟩;go_wp2
      go_roundg gk
      case measure=>omega
      case rel=>exact⟨q2,by rw[aa HQ],by rw[aa HQ,hqh];simp,by rw[aa HQ],by rw[aa HQ],(aa H3).alloc _,(aa hBel).alloc (aa hwlt) _,G2,aa HCH⟩
    .rw[ae hto]at hch
     cases hch
   .rw[ag hop]at hch;have HCH:=aj (bN hch);clear hch;go_wp2
    go_ret3
    rw[<-aa HCH];exact⟨rfl,hq,hbq⟩
theorem Qc6 (hsub:sF 137 M) (hgood:ik M) (n:Nat):sF 125 (wu M lQ n):=by
 intro w wb HS E σ i live r h hi hok hM;obtain⟨r0,hM0,hM1⟩:=aP.1 hM;have g0:=hgood E σ i live r0 hM0;have HM:=aj hM1;have tf:=h.some.2;have hii:(i:Int)<(E.toks.length:Int):=by omega
 clear hM hM1;go_enter Tryz.func125,Tryz.ntmps125;go_wp2_with fail;refine(hsub w wb HS E σ i live r0 h hi hok hM0).mono ?_;clear hM0 h hok;rintro e w1 ⟨rfl,h1,hb1⟩;go_wp2_with fail;refine(Ah _ wb E _ r0.to (some ⟨w1.heap.size,0,none⟩) 2 lQ (h1.alloc _) g0.1 (om.newAt _ lQ _ _ rfl (by simp)) (by decide)).mono ?_;rintro e w2 ⟨rfl,rfl⟩;go_wp2
 go_loopg [9,10,11,12] n (λk sv sh st ss wr=>∃q:gp,sv=.int .i64 q.v/\sh=.bool q.h/\st=.int .i64 (q.to:Int)/\ss=.string (Cj E q.σ q.to lQ)/\Wk wr wb HS E q.σ/\Below wb w wr/\ym E q/\kC M lQ E live k q=some r)
 case atStart=>exact⟨r0,rfl,rfl,rfl,rfl,h1.alloc _,hb1.alloc (by obtain⟨_,_,_,_,_,_,_,hh⟩:=h1;have:=hh.lt;omega) _,g0,aa HM⟩
 case round=>
  clear HM h1 hb1;obtain⟨q,rfl,rfl,rfl,rfl,hq,hbq,gq,hch⟩:=hrel
  cases gk with
  | zero=>exact absurd hch (by simp[kC])
  | succ gk=>
   obtain⟨op,HO⟩:∃op,Hid (Cj E q.σ q.to lQ=op):=⟨_,rfl⟩;rw[aa HO];rw[kC,aa HO]at hch
   cases hop:op.toList.isEmpty
   .have hop':¬ op.toList.isEmpty=true:=by rw[hop];simp
    rw[ae hop']at hch;by_cases hto:q.to+1<E.toks.length
    .rw[ag hto]at hch;obtain⟨x,hx,hch⟩:=aP.1 hch;have gx:=hgood _ _ _ _ _ hx;have HCH:=aj hch;clear hch hop';have hq1:(q.to:Int)+1<1000:=by omega
     go_wp2_with fail;refine(iw _ wb E q.σ live hq gq.2.1.2.1).mono ?_;rintro e w2 ⟨rfl,h2,hb2⟩;go_wp2_with fail;refine(hsub w2 wb HS E _ (q.to+1) live x h2 hto (jX gq.2.1) hx).mono ?_;clear h2 hx;rintro e w3 ⟨rfl,h3,hb3⟩;go_wp2_with fail;refine(zV op q.v x.v w3 gq.2.2 gx.2.2).mono ?_;rintro e w4 ⟨rfl,hw⟩;obtain rfl:=hw.symm;obtain⟨q2,hq2⟩:∃q2:gp,q2=⟨dR op q.v x.v,q.h||x.h,x.to,x.σ⟩:=⟨_,rfl⟩;have G2:ym E q2:=by rw[hq2];exact⟨gx.1,gx.2.1,iG gq.2.2 gx.2.2⟩
     have HQ:=aj hq2;rw[<-hq2]at HCH;have H3:Hid (Wk w3 wb HS E q2.σ):=by rw[hq2];exact h3
     have hgt:x.to<E.toks.length:=gx.1;have hBel:=aj ((hbq.trans hb2).trans hb3);clear hq2 hsub hgood h3 hbq hb2 hb3 gq gx;have hwlt:Hid (wb<=w3.heap.size):=by obtain⟨_,_,_,_,_,_,_,hh⟩:=aa H3;have:=hh.lt;show _<=_;omega
     cases hqh:q.h
     .go_wp2_with fail;refine(Ah _ wb E q2.σ x.to (some ⟨w3.heap.size,0,none⟩) 2 lQ ((aa H3).alloc _) hgt (om.newAt _ lQ _ _ rfl (by simp)) (by decide)).mono ?_;rintro e w4 ⟨rfl,rfl⟩;go_wp2
      go_roundg gk
      case measure=>omega
      case rel=>exact⟨q2,by rw[aa HQ],by rw[aa HQ,hqh];simp,by rw[aa HQ],by rw[aa HQ],(aa H3).alloc _,(aa hBel).alloc (aa hwlt) _,G2,aa HCH⟩
     .go_wp2_with fail;refine(Ah _ wb E q2.σ x.to (some ⟨w3.heap.size,0,none⟩) 2 lQ ((aa H3).alloc _) hgt (om.newAt _ lQ _ _ rfl (by simp)) (by decide)).mono ?_;rintro e w4 ⟨rfl,rfl⟩;go_wp2
      go_roundg gk
      case measure=>omega
      case rel=>exact⟨q2,by rw[aa HQ],by rw[aa HQ,hqh];simp,by rw[aa HQ],by rw[aa HQ],(aa H3).alloc _,(aa hBel).alloc (aa hwlt) _,G2,aa HCH⟩
    .rw[ae hto]at hch
     cases hch
   .rw[ag hop]at hch;have HCH:=aj (bN hch);clear hch;go_wp2
    go_ret3
    rw[<-aa HCH];exact⟨rfl,hq,hbq⟩
theorem QG (hgood:ik M) (ops:List ByteArray) (E:bB) (live:Bool) (n:Nat):∀q r,ym E q->kC M ops E live n q=some r->ym E r:=by
 induction n with
 | zero=>intro q r _ h;simp[kC]at h
 | succ n ih=>
  intro q r gq h;rw[kC]at h;split at h
  .cases h;exact gq
  .split at h
   .obtain⟨x,hx,h⟩:=aP.1 h;have gx:=hgood _ _ _ _ _ hx;refine ih _ r ?_ h;exact⟨gx.1,gx.2.1,iG gq.2.2 gx.2.2⟩
   .cases h
theorem Hq (hgood:ik M) (ops:List ByteArray) (n:Nat):ik (wu M ops n):=by
 intro E σ i live r h;obtain⟨x,hx,h⟩:=aP.1 h;exact QG hgood ops E live n x r (hgood _ _ _ _ _ hx) h
def xQ (M:bB->St->Nat->Bool->Option gp) (E:bB) (live:Bool) (r:gp):Option gp:=
 if(Cj E r.σ r.to sD).toList.isEmpty then some r else
  if r.to+1<E.toks.length then(M E (aC E r.σ live) (r.to+1) live).bind λx=>some ⟨dR (Cj E r.σ r.to sD) r.v x.v,r.h||x.h,x.to,x.σ⟩ else none
def Bu (M:bB->St->Nat->Bool->Option gp) (E:bB) (σ:St) (i:Nat) (live:Bool):Option gp:=(M E σ i live).bind (xQ M E live)
theorem Sv (hgood:ik M):ik (Bu M):=by
 intro E σ i live r h;obtain⟨q,hq,h⟩:=aP.1 h;have gq:=hgood _ _ _ _ _ hq;unfold xQ at h;split at h
 .cases h;exact gq
 .split at h
  .obtain⟨x,hx,h⟩:=aP.1 h;have gx:=hgood _ _ _ _ _ hx
   cases h;exact⟨gx.1,gx.2.1,iG gq.2.2 gx.2.2⟩
  .cases h
theorem WE (hsub:sF 125 M) (hgood:ik M):sF 100 (Bu M):=by
 intro w wb HS E σ i live r h hi hok hM;obtain⟨q,hM0,hch⟩:=aP.1 hM;have gq:=hgood E σ i live q hM0;have tf:=h.some.2;have hii:(i:Int)<(E.toks.length:Int):=by omega
 clear hM;obtain⟨op,HO⟩:∃op,Hid (Cj E q.σ q.to sD=op):=⟨_,rfl⟩;rw[xQ,aa HO]at hch;have HCH:=aj hch;clear hch;go_enter Tryz.func100,Tryz.ntmps100;go_wp2_with fail;refine(hsub w wb HS E σ i live q h hi hok hM0).mono ?_;clear hM0 h hok;rintro e w1 ⟨rfl,h1,hb1⟩;go_wp2_with fail;refine(Ah _ wb E _ q.to (some ⟨w1.heap.size,0,none⟩) 4 sD (h1.alloc _) gq.1 (om.newAt _ sD _ _ rfl (by simp)) (by decide)).mono ?_;rintro e w2 ⟨rfl,hw2⟩;rw[aa HO];have h2:Wk w2 wb HS E q.σ:=by rw[hw2];exact h1.alloc _
 have hb2:Below wb w w2:=by rw[hw2];exact hb1.alloc (by obtain⟨_,_,_,_,_,_,_,hh⟩:=h1;have:=hh.lt;omega) _
 clear h1 hb1 hw2
 cases hop:op.toList.isEmpty
 .have hop':¬ op.toList.isEmpty=true:=by rw[hop];simp
  have hch:=aa HCH;clear HCH;rw[ae hop']at hch;by_cases hto:q.to+1<E.toks.length
  .rw[ag hto]at hch;obtain⟨x,hx,hch⟩:=aP.1 hch;have gx:=hgood _ _ _ _ _ hx;have HCH:=aj (bN hch);clear hch hop';have hq1:(q.to:Int)+1<1000:=by omega
   go_wp2_with fail;refine(iw _ wb E q.σ live h2 gq.2.1.2.1).mono ?_;rintro e w3 ⟨rfl,h3,hb3⟩;go_wp2_with fail;refine(hsub w3 wb HS E _ (q.to+1) live x h3 hto (jX gq.2.1) hx).mono ?_;clear h3 hx;rintro e w4 ⟨rfl,h4,hb4⟩;go_wp2_with fail;refine(zV op q.v x.v w4 gq.2.2 gx.2.2).mono ?_;rintro e w5 ⟨rfl,hw⟩;obtain rfl:=hw.symm;have HW:=aj h4;have HB:=aj ((hb2.trans hb3).trans hb4);clear hsub hgood h4 hb2 hb3 hb4 gq gx h2
   cases hqh:q.h
   .rw[hqh]at HCH;go_wp2
    go_ret3
    rw[<-aa HCH];exact⟨rfl,aa HW,aa HB⟩
   .rw[hqh]at HCH;go_wp2
    go_ret3
    rw[<-aa HCH];exact⟨rfl,aa HW,aa HB⟩
  .rw[ae hto]at hch
   cases hch
 .have hch:=aa HCH;clear HCH;rw[ag hop]at hch;have HCH:=aj (bN hch);clear hch;go_wp2
  go_ret3
  rw[<-aa HCH];exact⟨rfl,h2,hb2⟩
variable {HS:List (Nat×Obj)}
theorem ni {e:Int} (h:lI σ):lI (bR E σ i e):=by
 unfold bR;split
 .exact h
 .exact h
theorem mW (h:lI σ):lI (eO E σ i s):=by
 unfold eO;split
 .exact h
 .exact ni h
def mM (E:bB) (σ:St) (i:Nat) (b:Bool):St:=if(E.mode==2)&&b then bR E σ i 11 else σ
def mh (E:bB) (a b:Int):Int:=min (max a 0) (E.sw-1)+E.sw*min (max b 0) (E.sh-1)
def yH (E:bB) (i:Nat) (live hid:Bool) (a b:gp):Option gp:=
 let n:=eG E b.σ b.to D9
 let σ5:=mM E (eO E b.σ b.to D9) i (a.h||b.h)
 if aW E σ5 live then
  (if 1<=E.sw/\E.sw<=6/\1<=E.sh/\E.sh<=6/\0<=mh E a.v b.v/\mh E a.v b.v<E.opens.length/\mh E a.v b.v<E.hids.length then
   chk E ⟨(if hid then E.hids else E.opens).getD (mh E a.v b.v).toNat 0,hid,n,lq σ5 (lF hid) (mh E a.v b.v)⟩
  else none)
 else chk E ⟨0,hid||a.h||b.h,n,σ5⟩
def vZ (X:bB->St->Nat->Bool->Option gp) (hid:Bool) (E:bB) (σ:St) (i:Nat) (live:Bool):Option gp:=
 if i+1<E.toks.length/\eG E (aC E σ live) (i+1) J2<E.toks.length then
  (X E (eO E (aC E σ live) (i+1) J2) (eG E (aC E σ live) (i+1) J2) live).bind λa=>
   if eG E a.σ a.to su<E.toks.length then
    (X E (eO E a.σ a.to su) (eG E a.σ a.to su) live).bind λb=>yH E i live hid a b
   else none
 else none
theorem mK (h:chk E r=some q):ym E q:=by
 unfold chk at h;split at h
 .cases h;assumption
 .cases h
theorem qC (h:chk E r=some q):q=r/\ym E r:=by
 unfold chk at h;split at h
 .cases h;exact⟨rfl,by assumption⟩
 .cases h
theorem Ij (X:bB->St->Nat->Bool->Option gp) (hid:Bool):ik (vZ X hid):=by
 intro E σ i live r h;unfold vZ at h;split at h
 .obtain⟨a,_,h⟩:=aP.1 h;split at h
  .obtain⟨b,_,h⟩:=aP.1 h;unfold yH at h;simp only at h;split at h
   .split at h
    .exact mK h
    .cases h
   .exact mK h
  .cases h
 .cases h
theorem Hf (hsub:sF 100 X) (hgood:ik X) (hid:Bool) :
  ∀(w:World) (wb:Nat) (HS:List (Nat×Obj)) (E:bB) (σ:St) (i:Nat) (live:Bool) (r:gp),Wk w wb HS E σ->i<E.toks.length->lI σ->vZ X hid E σ i live=some r ->
  Calls Tryz.prog 147 #[.pointer (some ⟨wb,0,none⟩),.int .i64 (i:Int),.bool live,.bool hid] w (OQ wb HS E w r):=by
 intro w wb HS E σ i live r h hi hok hM;have tf:=h.some.2;unfold vZ at hM;split at hM
 case isFalse=>cases hM
 case isTrue hg1=>
 obtain⟨hi1,hn1⟩:=hg1;obtain⟨a,hXa,hM⟩:=aP.1 hM;have ga:=hgood _ _ _ _ _ hXa;split at hM
 case isFalse=>cases hM
 case isTrue hn2=>
 obtain⟨b,hXb,hM⟩:=aP.1 hM;have gb:=hgood _ _ _ _ _ hXb;have HM:=aj hM;clear hM;have hii:(i:Int)+1<1000:=by omega
 have hiN:((i+1:Nat):Int)=(i:Int)+1:=by omega
 go_enter Tryz.func147,Tryz.ntmps147;go_wp2_with fail;refine(iw _ wb E σ live h hok.2.1).mono ?_;clear h;rintro e w1 ⟨rfl,h1,hb1⟩;go_wp2_with fail;refine(bZ _ wb E _ (i+1) J2 h1 hi1).mono ?_;clear h1;rintro e w2 ⟨rfl,h2,hb2⟩;go_wp2_with fail;refine(hsub w2 wb HS E _ _ live a h2 hn1 (mW (jX hok)) hXa).mono ?_;clear h2 hXa;rintro e w3 ⟨rfl,h3,hb3⟩;go_wp2_with fail;refine(bZ _ wb E _ a.to su h3 ga.1).mono ?_;clear h3;rintro e w4 ⟨rfl,h4,hb4⟩;go_wp2_with fail;refine(hsub w4 wb HS E _ _ live b h4 hn2 (mW ga.2.1) hXb).mono ?_;clear h4 hXb;rintro e w5 ⟨rfl,h5,hb5⟩;go_wp2_with fail;refine(bZ _ wb E _ b.to D9 h5 gb.1).mono ?_;clear h5;rintro e w6 ⟨rfl,h6,hb6⟩;have HB:=aj (((((hb1.trans hb2).trans hb3).trans hb4).trans hb5).trans hb6);clear hb1 hb2 hb3 hb4 hb5 hb6;have HM2:=aa HM;unfold yH at HM2;simp only at HM2;clear HM;have ok6:lI (eO E b.σ b.to D9):=mW gb.2.1;obtain⟨i32a,i32b⟩:dw a.v/\dw b.v:=⟨ga.2.2,gb.2.2⟩;have HI:=aj (And.intro i32a i32b);clear i32a i32b;clear hgood hsub hn1 hn2 ga gb;generalize eG E b.σ b.to D9=nE at *;generalize eO E b.σ b.to D9=s4 at *;have hc:=h6;obtain⟨tv,lv,so,sd,ov,hv,rv,hc⟩:=hc;have c1:=hc.cell 1;simp at c1;clear hc
 cases hm:(E.mode==2)
 .have e5:mM E s4 i (a.h||b.h)=s4:=by simp[mM,hm]
  rw[e5]at HM2;have HM:=aj HM2;clear HM2 e5;obtain⟨s5,rfl⟩:∃s5,s5=s4:=⟨_,rfl⟩;go_wp2_with fail;refine(eZ _ wb E _ live h6).mono ?_;rintro e wl ⟨rfl,hw⟩;obtain rfl:=hw.symm
  cases hl:aW E s5 live
  .have hm5:=aa HM;clear HM;rw[hl,ae (by simp)]at hm5;obtain⟨rfl,_⟩:=qC hm5;clear hm5
   cases hid<;>cases hah:a.h<;>cases hbh:b.h<;>(go_wp2;go_ret3;exact⟨by simp[hah,hbh],h6,aa HB⟩)
  .have hm5:=aa HM;clear HM;rw[hl,ag rfl]at hm5;split at hm5
   case isFalse=>cases hm5
   case isTrue hg=>
   obtain⟨w0,w1,v0,v1,p0,p1,p2⟩:=hg;obtain⟨hr,gr⟩:=qC hm5;have HR:=aj hr;have HG:=aj gr;clear hr gr;have h9:=h6;obtain⟨tv,lv,so,sd,ov,hv,rv,h9⟩:=h9;have c5:=h9.cell 5;have c6:=h9.cell 6;simp at c5 c6;clear h9 hm5;have hmb0:0<=min (max b.v 0) (E.sh-1)/\min (max b.v 0) (E.sh-1)<=5:=by omega
   have hma0:0<=min (max a.v 0) (E.sw-1)/\min (max a.v 0) (E.sw-1)<=5:=by omega
   have hmul:0<=E.sw*min (max b.v 0) (E.sh-1)/\E.sw*min (max b.v 0) (E.sh-1)<=30:=by
    refine⟨Int.mul_nonneg (by omega) hmb0.1,?_⟩
    calc E.sw*min (max b.v 0) (E.sh-1)<=6*min (max b.v 0) (E.sh-1):=Int.mul_le_mul_of_nonneg_right w1 hmb0.1
     _<=30:=by omega
   obtain⟨mu0,mu1⟩:=hmul;obtain⟨mb0,mb1⟩:=hmb0;obtain⟨ma0,ma1⟩:=hma0;have HX:=aj h6;go_wp2
   go_quiet (fail)
   go_wp2_with fail;refine(yl hid _).mono ?_;rintro e wt ⟨rfl,hw⟩;obtain rfl:=hw.symm;go_wp2_with fail;obtain⟨P,hP⟩:∃P:Nat,mh E a.v b.v=(P:Int):=⟨(mh E a.v b.v).toNat,by omega⟩;have hP':min (max a.v 0) (E.sw-1)+E.sw*min (max b.v 0) (E.sh-1)=(P:Int):=hP;rw[hP'];rw[hP]at HR HG p1 p2;clear hP hP' p0 mu0 mu1 mb0 mb1 ma0 ma1 c5 c6 c1;refine(Er _ wb E s5 (lF hid) _ ((aa HX).drewN _) ok6.2.2.1 ok6.2.2.2).mono ?_;rintro e w7 ⟨rfl,h7,hb7⟩;have HB7:=aj ((dX (aa HB) _).trans hb7);clear hb7 HX;have HW7:=aj h7;obtain⟨tv,lv,so,sd,ov,hv,rv,h9⟩:=h7;obtain⟨ao1,cp1,rfl,I1⟩:=h9.ints1;obtain⟨ao2,cp2,rfl,I2⟩:=h9.ints2;have c7:=h9.cell 7;have c8:=h9.cell 8;simp at c7 c8;clear h9
   cases hid
   .rcases I1 with I1|⟨b1,off1,rfl,hb1,hcell⟩
    .simp[I1]at p1;omega
    have x1:=hcell P (by omega);have HR2:Hid (r=⟨E.opens.getD P 0,false,nE,lq s5 (lF false) P⟩):=by show _=_;rw[aa HR];simp
    clear hcell I2 HR HG;generalize E.opens.getD P 0=val at *;go_wp2
    go_ret3
    rw[aa HR2];exact⟨rfl,aa HW7,aa HB7⟩
   .rcases I2 with I2|⟨b1,off1,rfl,hb1,hcell⟩
    .simp[I2]at p2;omega
    have x1:=hcell P (by omega);have HR2:Hid (r=⟨E.hids.getD P 0,true,nE,lq s5 (lF true) P⟩):=by show _=_;rw[aa HR];simp
    clear hcell I1 HR HG;generalize E.hids.getD P 0=val at *;go_wp2
    go_ret3
    rw[aa HR2];exact⟨rfl,aa HW7,aa HB7⟩
 .have hm3:(E.mode==3)=false:=by
   have:E.mode=2:=by simpa using hm
   rw[this];rfl
  cases hah:a.h
  .cases hbh:b.h
   .have e5:mM E s4 i (a.h||b.h)=s4:=by simp[mM,hah,hbh]
    rw[e5]at HM2;clear e5;have hl:aW E s4 live=false:=by simp[aW,hm3]
    have HM:=aj HM2;clear HM2;go_wp2_with fail;refine(eZ _ wb E _ live h6).mono ?_;rintro e wl ⟨rfl,hw⟩;obtain rfl:=hw.symm;have hm5:=aa HM;clear HM;rw[hl,ae (by simp)]at hm5;obtain⟨hr,_⟩:=qC hm5;have HR:=aj hr;clear hm5 hr;rw[hl]
    cases hid
    .go_wp2
     go_ret3
     rw[aa HR];exact⟨by simp[hah,hbh],h6,aa HB⟩
    .go_wp2
     go_ret3
     rw[aa HR];exact⟨by simp[hah,hbh],h6,aa HB⟩
   .have e5:mM E s4 i (a.h||b.h)=bR E s4 i 11:=by simp[mM,hm,hbh]
    rw[e5]at HM2;clear e5;have hl:aW E (bR E s4 i 11) live=false:=by simp[aW,hm3]
    have HM:=aj HM2;clear HM2;go_wp2_with fail;refine(iR _ wb E _ i 11 h6 hi).mono ?_;clear c1;rintro e w7 ⟨rfl,h7,hb7⟩;go_wp2_with fail;refine(eZ _ wb E _ live h7).mono ?_;rintro e wl ⟨rfl,hw⟩;obtain rfl:=hw.symm;have hm5:=aa HM;clear HM;rw[hl,ae (by simp)]at hm5;obtain⟨hr,_⟩:=qC hm5;have HR:=aj hr;clear hm5 hr;rw[hl]
    cases hid
    .go_wp2
     go_ret3
     rw[aa HR];exact⟨by simp[hah,hbh],h7,(aa HB).trans hb7⟩
    .go_wp2
     go_ret3
     rw[aa HR];exact⟨by simp[hah,hbh],h7,(aa HB).trans hb7⟩
  .have e5:mM E s4 i (a.h||b.h)=bR E s4 i 11:=by simp[mM,hm,hah]
   rw[e5]at HM2;clear e5;have hl:aW E (bR E s4 i 11) live=false:=by simp[aW,hm3]
   have HM:=aj HM2;clear HM2;go_wp2_with fail;refine(iR _ wb E _ i 11 h6 hi).mono ?_;clear c1;rintro e w7 ⟨rfl,h7,hb7⟩;go_wp2_with fail;refine(eZ _ wb E _ live h7).mono ?_;rintro e wl ⟨rfl,hw⟩;obtain rfl:=hw.symm;have hm5:=aa HM;clear HM;rw[hl,ae (by simp)]at hm5;obtain⟨hr,_⟩:=qC hm5;have HR:=aj hr;clear hm5 hr;rw[hl]
   cases hid
   .go_wp2
    go_ret3
    rw[aa HR];exact⟨by simp[hah],h7,(aa HB).trans hb7⟩
   .go_wp2
    go_ret3
    rw[aa HR];exact⟨by simp[hah],h7,(aa HB).trans hb7⟩
theorem Xt:(Tryz.prog.info? 3).map (λi=>(i.zero,i.size,i.bytes))=some (some (.int .i64 0),1,8):=by kernel_rfl
theorem gM.frame {HS:List (Nat×Obj)} {tv lv so sd ov hv rv x:Value} (h:gM w wb HS' E σ tv lv so sd ov hv rv) (hsub:∀p∈HS,p∈HS') (hx:∀k,x.ownBlock=some k->wb<k/\lv.ownBlock≠some k/\rv.ownBlock≠some k/\ov.ownBlock≠some k/\hv.ownBlock≠some k)
  (hx2:∀p∈HS,x.ownBlock≠some p.1) (hg:∀k,k<w.heap.size->some k≠x.ownBlock->w2.heap[k]?=w.heap[k]?):gM w2 wb HS E σ tv lv so sd ov hv rv:=by
 have hlt:=h.lt;have low:∀k,k<=wb->w2.heap[k]?=w.heap[k]?:=λk hk=>hg k (by omega) (λe=>by have:=(hx k e.symm).1;omega);refine⟨(low wb (af _)).trans h.blk,bT h.tokens (λk hk=>low k (by have:=h.tokLow k hk;omega)),h.tokLow,h.tokSome,h.tokFew,?_,?_,?_,?_,h.apLR,h.apLO,h.apLH,h.apRO,h.apRH,h.apOH,?_,?_,?_⟩
 .exact bT h.rowL (λk hk=>hg k (h.rowL.lt k hk).2 (λe=>(hx k e.symm).2.1 hk))
 .exact bT h.rowR (λk hk=>hg k (h.rowR.lt k hk).2 (λe=>(hx k e.symm).2.2.1 hk))
 .exact bT h.rowO (λk hk=>hg k (h.rowO.lt k hk).2 (λe=>(hx k e.symm).2.2.2.1 hk))
 .exact bT h.rowH (λk hk=>hg k (h.rowH.lt k hk).2 (λe=>(hx k e.symm).2.2.2.2 hk))
 .obtain⟨ao,c,e,hi⟩:=h.ints1;exact⟨ao,c,e,hi.same (λk hk=>low k (by omega))⟩
 .obtain⟨ao,c,e,hi⟩:=h.ints2;exact⟨ao,c,e,hi.same (λk hk=>low k (by omega))⟩
 .intro p hp;obtain⟨a,b⟩:=h.held p (hsub p hp);exact⟨(hg p.1 (az.1 a).1 (λe=>hx2 p hp e.symm)).trans a,b⟩
def wL (wb:Nat) (HS:List (Nat×Obj)) (E:bB) (σ:St) (l:Value) (vs:List Int) (w:World):Prop:=
 ∃HS',Wk w wb HS' E σ/\(∀p∈HS,p∈HS')/\(∀k,l.ownBlock=some k->∃o,(k,o)∈HS')/\(∀p∈HS,l.ownBlock≠some p.1)/\w.ownsRow (wb+1) 3 1 l vs.length (vs.map (Value.int .i64))
theorem wL.snoc {HS:List (Nat×Obj)} {l':Value} {v:Int} (U:Obj) (h:wL wb HS E σ l vs w) (hown:w2.ownsRow (wb+1) 3 1 l' (vs.length+1) (vs.map (Value.int .i64)++[.int .i64 v])) (hg:(w.alloc U).grownBy w2 l.ownBlock) (hat:l'.ownBlock=l.ownBlock∨l'.ownBlock=some (w.heap.size+1)) :
  wL wb HS E σ l' (vs++[v]) w2:=by
 obtain⟨HS',hw,h1,h2,h3,h4⟩:=h;obtain⟨tv,lv,so,sd,ov,hv,rv,hw⟩:=hw;have hx:∀k,l.ownBlock=some k->wb<k/\lv.ownBlock≠some k/\rv.ownBlock≠some k/\ov.ownBlock≠some k/\hv.ownBlock≠some k:=λk hk=>by
  obtain⟨o,ho⟩:=h2 k hk;exact⟨(h4.lt k hk).1,(hw.held _ ho).2.2⟩
 have hk2:∀k,k<w.heap.size->some k≠l.ownBlock->w2.heap[k]?=w.heap[k]?:=λk hk hne=>(hg.block k (by simp;omega) hne).trans (av w U k hk);have F:=hw.frame h1 hx h3 hk2;have hp1:∀p∈HS,l'.ownBlock≠some p.1:=λp hp e=>by
  rcases hat with e2|e2
  .exact h3 p hp (e2.symm.trans e)
  .have:=(az.1 (hw.held p (h1 p hp)).1).1;rw[e2]at e;simp at e;omega
 have hown':w2.ownsRow (wb+1) 3 1 l' (vs++[v]).length ((vs++[v]).map (Value.int .i64)):=by simpa using hown
 obtain⟨g,cap,hl'⟩:=iM hown;have hgo:l'.ownBlock=some g:=by rw[hl'];rfl
 obtain⟨o,ho⟩:∃o,w2.heap[g]?=some o:=by
  have:=(hown.lt g hgo).2;exact⟨_,Array.getElem?_eq_getElem this⟩
 refine⟨(g,o)::HS,⟨tv,lv,so,sd,ov,hv,rv,{ F with held:=?_ }⟩,λp hp=>uA _ hp,λk hk=>⟨o,?_⟩,hp1,hown'⟩
 .intro p hp;rcases aO.1 hp with rfl|hp
  .refine⟨ho,by have:=(hown.lt g hgo).1;show g≠wb;omega,?_⟩;rcases hat with e2|e2
   .exact(hx g (e2.symm.trans hgo)).2
   .have hge:g=w.heap.size+1:=by rw[hgo]at e2;simpa using e2
    refine⟨λe=>?_,λe=>?_,λe=>?_,λe=>?_⟩
    .have:=(hw.rowL.lt _ e).2;simp at this;omega
    .have:=(hw.rowR.lt _ e).2;simp at this;omega
    .have:=(hw.rowO.lt _ e).2;simp at this;omega
    .have:=(hw.rowH.lt _ e).2;simp at this;omega
  .exact F.held p hp
 .rw[hgo]at hk
  cases hk;exact oq
theorem wL.later {HS:List (Nat×Obj)} {σ':St} (h:wL wb HS E σ l vs w):∃HS',Wk w wb HS' E σ/\∀w2,Wk w2 wb HS' E σ'->wL wb HS E σ' l vs w2:=by
 obtain⟨HS',hw,h1,h2,h3,h4⟩:=h;refine⟨HS',hw,λw2 hw2=>⟨HS',hw2,h1,h2,h3,bT h4 (λk hk=>?_)⟩⟩;obtain⟨o,ho⟩:=h2 k hk;obtain⟨_,_,_,_,_,_,_,a⟩:=hw;obtain⟨_,_,_,_,_,_,_,b⟩:=hw2;exact(b.held _ ho).1.trans (a.held _ ho).1.symm
structure LS where
 vs:List Int
 h:Bool
 to:Nat
 σ:St
def yK (E:bB) (q:LS):Nat:=if q.vs.length=0 then q.to else eG E q.σ q.to su
def A9 (E:bB) (q:LS):St:=if q.vs.length=0 then q.σ else eO E q.σ q.to su
def iQ (X:bB->St->Nat->Bool->Option gp) (E:bB) (live:Bool):Nat->LS->Option LS
 | 0,q=>some q
 | m+1,q=>if yK E q<E.toks.length then(X E (A9 E q) (yK E q) live).bind λx=>iQ X E live m ⟨q.vs++[x.v],q.h||x.h,x.to,x.σ⟩ else none
def uK (X:bB->St->Nat->Bool->Option gp) (n:Nat) (E:bB) (σ:St) (i:Nat) (live:Bool):Option LS:=
 if i+1<E.toks.length/\eG E (aC E σ live) (i+1) xS<E.toks.length then
  (iQ X E live n ⟨[],false,eG E (aC E σ live) (i+1) xS,eO E (aC E σ live) (i+1) xS⟩).bind λq=>some ⟨q.vs,q.h,eG E q.σ q.to wF,eO E q.σ q.to wF⟩
 else none
def Qp7 (E:bB) (q:LS):Prop:=q.to<E.toks.length/\lI q.σ/\∀v∈q.vs,dw v
def Qm9 (wb:Nat) (HS:List (Nat×Obj)) (E:bB) (w:World) (r:LS) (e:Ending) (w':World):Prop:=
 ∃l,e=.returned (.tuple #[l,.bool r.h,.int .i64 (r.to:Int)])/\wL wb HS E r.σ l r.vs w'/\Below wb w w'
theorem IY (hsub:sF 100 X) (hgood:ik X) (n:Nat) (hn:n<=3) (w:World) (wb:Nat) (HS:List (Nat×Obj)) (E:bB) (σ:St) (i:Nat) (live:Bool) (r:LS) (h:Wk w wb HS E σ) (hok:lI σ) (hM:uK X n E σ i live=some r) :
  Calls Tryz.prog 148 #[.pointer (some ⟨wb,0,none⟩),.int .i64 (i:Int),.bool live,.int .i64 (n:Int)] w (Qm9 wb HS E w r):=by
 have tf:=h.some.2;unfold uK at hM;split at hM
 case isFalse=>cases hM
 case isTrue hg1=>
 obtain⟨hi1,hn1⟩:=hg1;obtain⟨qe,hIt,hM2⟩:=aP.1 hM;have HM:=aj (bN hM2);have HI:=aj hIt;clear hM hIt hM2;have hii:(i:Int)+1<1000:=by omega
 have hiN:((i+1:Nat):Int)=(i:Int)+1:=by omega
 obtain⟨i0,hi0,hz0,hz1,hz2⟩:=dG Xt;go_enter Tryz.func148,Tryz.ntmps148;go_wp2_with fail;refine(iw _ wb E σ live h hok.2.1).mono ?_;clear h;rintro e w1 ⟨rfl,h1,hb1⟩;go_wp2_with fail;refine(bZ _ wb E _ (i+1) xS h1 hi1).mono ?_;clear h1;rintro e w2 ⟨rfl,h2,hb2⟩;have Yy:lI (eO E (aC E σ live) (i+1) xS):=mW (jX hok);have HB:=aj (hb1.trans hb2);clear hb1 hb2 hok;go_wp2
 go_loopg [11,12,13,14] n (λm st sl sh sk wr=>∃q:LS,q.vs.length+m=n/\st=.int .i64 (q.to:Int)/\sh=.bool q.h/\sk=.int .i64 (q.vs.length:Int)/\wL wb HS E q.σ sl q.vs wr/\Below wb w wr/\Qp7 E q/\iQ X E live m q=some qe)
 case atStart=>exact⟨⟨[],false,_,_⟩,by simp,rfl,rfl,rfl,⟨HS,h2,λp hp=>hp,λk hk=>by simp[Value.ownBlock]at hk,λp hp=>by simp[Value.ownBlock],⟨rfl,.inl ⟨rfl,rfl⟩⟩⟩,aa HB,⟨hn1,Yy,λv hv=>by simp at hv⟩,aa HI⟩
 case round=>
  clear HI HB h2 Yy hn1;obtain⟨q,hcnt,rfl,rfl,rfl,hl,hb,gq,hit⟩:=hrel
  cases gk with
  | zero=>
   have HQ:=aj (bN hit);clear hit;have hlt:decide ((q.vs.length:Int)<(n:Int))=false:=by simp;omega
   obtain⟨HS',hW,hlat⟩:=wL.later (σ':=eO E q.σ q.to wF) hl;have HLA:=aj hlat;clear hlat hl;go_wp2_with fail;refine(bZ _ wb E q.σ q.to wF hW gq.1).mono ?_;rintro e w3 ⟨rfl,h3,hb3⟩;have HO:=aj (aa HLA w3 h3);go_wp2
   go_ret3
   rw[<-aa HM,<-aa HQ];exact⟨_,rfl,aa HO,hb.trans hb3⟩
  | succ gk=>
   have hlt:(q.vs.length:Int)<(n:Int):=by omega
   rw[iQ]at hit;split at hit
   case isFalse=>cases hit
   case isTrue hpre=>
   obtain⟨x,hx,hit2⟩:=aP.1 hit;have HIT:=aj hit2;clear hit hit2;have gx:=hgood _ _ _ _ _ hx;by_cases hz:q.vs.length=0
   .have ei:yK E q=q.to:=by simp[yK,hz]
    have es:A9 E q=q.σ:=by simp[A9,hz]
    rw[ei]at hx hpre;rw[es]at hx;clear ei es;obtain⟨HS',hW,hlat⟩:=wL.later (σ':=x.σ) hl;have HLA:=aj hlat;clear hlat hl;go_wp2_with fail;refine(hsub _ wb HS' E q.σ q.to live x hW gq.1 gq.2.1 hx).mono ?_;clear hx hW;rintro e w4 ⟨rfl,h4,hb4⟩;have HL4:=aj (aa HLA w4 h4);have HB4:=aj (hb.trans hb4);have hw4:wb<w4.heap.size:=by obtain⟨_,_,_,_,_,_,_,hh⟩:=h4;exact hh.lt
    obtain⟨_,_,_,_,_,ho⟩:=aa HL4;have HO:=aj ho;clear ho HLA h4 hb4 hb hz;go_wp2_with (at_builtin;refine nR _ rfl _ _ 22 rfl (wb+1) 3 i0 (.int .i64 0) 1 8 Tryz.underlying22 hi0 hz0 hz1 hz2 rfl (by decide) _ _ _ rfl ((aa HO).alloc _) ⟨w4.heap.size,0,none⟩ 1 1 [.int .i64 x.v] rfl rfl ?c1 ?c2 ?c3 ?c4 ?c5 ?_)
    case c1=>exact cell_one_new _ _ _
    case c2=>exact ints_oneCell .i64 [x.v]
    case c3=>unfold maxLen;omega
    case c4=>omega
    case c5=>simp;omega
    intro l' w5 g1 hg _ hat;have R:=aj (wL.snoc _ (aa HL4) g1 hg (by simpa using hat));have RB:=aj (((aa HB4).alloc (by omega) _).grown hg (by simp;omega) (λq hq=>by have:=((aa HO).lt q hq).1;omega));clear g1 hg hat HL4 HB4 HO
    cases hqh:q.h
    .go_wp2
     go_roundg gk
     case measure=>omega
     case rel=>exact⟨⟨q.vs++[x.v],q.h||x.h,x.to,x.σ⟩,by simp;omega,rfl,by rw[hqh];rfl,by simp,aa R,aa RB,⟨gx.1,gx.2.1,λv hv=>by rcases dW.1 hv with hv|hv;exact gq.2.2 v hv;simp at hv;rw[hv];exact gx.2.2⟩,aa HIT⟩
    .go_wp2
     go_roundg gk
     case measure=>omega
     case rel=>exact⟨⟨q.vs++[x.v],q.h||x.h,x.to,x.σ⟩,by simp;omega,rfl,by rw[hqh];rfl,by simp,aa R,aa RB,⟨gx.1,gx.2.1,λv hv=>by rcases dW.1 hv with hv|hv;exact gq.2.2 v hv;simp at hv;rw[hv];exact gx.2.2⟩,aa HIT⟩
   .have ei:yK E q=eG E q.σ q.to su:=by simp[yK,hz]
    have es:A9 E q=eO E q.σ q.to su:=by simp[A9,hz]
    rw[ei]at hx hpre;rw[es]at hx;have hz':(0:Int)<(q.vs.length:Int):=by omega
    obtain⟨HS',hW,hlat⟩:=wL.later (σ':=eO E q.σ q.to su) hl;have HLA:=aj hlat;clear hlat hl ei es hz;go_wp2_with fail;refine(bZ _ wb E q.σ q.to su hW gq.1).mono ?_;rintro e w3 ⟨rfl,h3,hb3⟩;have hl3:=aa HLA w3 h3;clear HLA h3 hW;obtain⟨HS',hW,hlat⟩:=wL.later (σ':=x.σ) hl3;have HLA:=aj hlat;clear hlat hl3;go_wp2_with fail;refine(hsub _ wb HS' E _ _ live x hW hpre (mW gq.2.1) hx).mono ?_;clear hx hW;rintro e w4 ⟨rfl,h4,hb4⟩;have HL4:=aj (aa HLA w4 h4);have HB4:=aj ((hb.trans hb3).trans hb4);have hw4:wb<w4.heap.size:=by obtain⟨_,_,_,_,_,_,_,hh⟩:=h4;exact hh.lt
    obtain⟨_,_,_,_,_,ho⟩:=aa HL4;have HO:=aj ho;clear ho HLA h4 hb4 hb hb3;go_wp2_with (at_builtin;refine nR _ rfl _ _ 22 rfl (wb+1) 3 i0 (.int .i64 0) 1 8 Tryz.underlying22 hi0 hz0 hz1 hz2 rfl (by decide) _ _ _ rfl ((aa HO).alloc _) ⟨w4.heap.size,0,none⟩ 1 1 [.int .i64 x.v] rfl rfl ?c1 ?c2 ?c3 ?c4 ?c5 ?_)
    case c1=>exact cell_one_new _ _ _
    case c2=>exact ints_oneCell .i64 [x.v]
    case c3=>unfold maxLen;omega
    case c4=>omega
    case c5=>simp;omega
    intro l' w5 g1 hg _ hat;have R:=aj (wL.snoc _ (aa HL4) g1 hg (by simpa using hat));have RB:=aj (((aa HB4).alloc (by omega) _).grown hg (by simp;omega) (λq hq=>by have:=((aa HO).lt q hq).1;omega));clear g1 hg hat HL4 HB4 HO
    cases hqh:q.h
    .go_wp2
     go_roundg gk
     case measure=>omega
     case rel=>exact⟨⟨q.vs++[x.v],q.h||x.h,x.to,x.σ⟩,by simp;omega,rfl,by rw[hqh];rfl,by simp,aa R,aa RB,⟨gx.1,gx.2.1,λv hv=>by rcases dW.1 hv with hv|hv;exact gq.2.2 v hv;simp at hv;rw[hv];exact gx.2.2⟩,aa HIT⟩
    .go_wp2
     go_roundg gk
     case measure=>omega
     case rel=>exact⟨⟨q.vs++[x.v],q.h||x.h,x.to,x.σ⟩,by simp;omega,rfl,by rw[hqh];rfl,by simp,aa R,aa RB,⟨gx.1,gx.2.1,λv hv=>by rcases dW.1 hv with hv|hv;exact gq.2.2 v hv;simp at hv;rw[hv];exact gx.2.2⟩,aa HIT⟩
def qw:List ByteArray:=[⟨#[40]⟩,⟨#[45]⟩,⟨#[112,101,101,107]⟩,⟨#[115,112,121]⟩,⟨#[115,101,108]⟩,⟨#[109,105,110]⟩,⟨#[109,97,120]⟩]
def zA (E:bB) (s:ByteArray) (q:LS):Option gp:=if q.vs.length=2/\dw (q.vs.getD 0 0)/\dw (q.vs.getD 1 0) then chk E ⟨dR s (q.vs.getD 0 0) (q.vs.getD 1 0),q.h,q.to,q.σ⟩ else none
def Jr (E:bB) (q:LS):Option gp:=if q.vs.length=3 then(if q.vs.getD 0 0=0 then chk E ⟨q.vs.getD 2 0,q.h,q.to,q.σ⟩ else chk E ⟨q.vs.getD 1 0,q.h,q.to,q.σ⟩) else none
def F9 (X F:bB->St->Nat->Bool->Option gp) (E:bB) (σ:St) (i:Nat) (live:Bool) (s:ByteArray):Option gp:=
 if s.toList==[40] then(if i+1<E.toks.length then(X E σ (i+1) live).bind λr=>chk E ⟨r.v,r.h,eG E r.σ r.to wF,eO E r.σ r.to wF⟩ else none) else
 if s.toList==[45] then(if i+1<E.toks.length then(F E (aC E σ live) (i+1) live).bind λr=>chk E ⟨kG (-r.v),r.h,r.to,r.σ⟩ else none) else
 if s.toList==[112,101,101,107] then vZ X false E σ i live else
 if s.toList==[115,112,121] then vZ X true E σ i live else
 if s.toList==[109,105,110] then(uK X 2 E σ i live).bind (zA E s) else
 if s.toList==[109,97,120] then(uK X 2 E σ i live).bind (zA E s) else
 if s.toList==[115,101,108] then(uK X 3 E σ i live).bind (Jr E) else
 chk E ⟨0,false,E.toks.length-1,bR E σ i 9⟩
def mE (X F:bB->St->Nat->Bool->Option gp) (E:bB) (σ:St) (i:Nat) (live:Bool):Option gp:=
 if kQ E σ then chk E ⟨0,false,E.toks.length-1,σ⟩ else
 if(aT E i).kind==2 then chk E (tJ E σ i live) else
 if(aT E i).kind==1 then chk E (tJ E σ i live) else F9 X F E σ i live (Cj E σ i qw)
theorem NR : ik (mE X F):=by
 intro E σ i live r h;unfold mE at h;split at h
 .exact mK h
 split at h
 .exact mK h
 split at h
 .exact mK h
 unfold F9 at h;split at h
 .split at h
  .obtain⟨x,_,h⟩:=aP.1 h;exact mK h
  .cases h
 split at h
 .split at h
  .obtain⟨x,_,h⟩:=aP.1 h;exact mK h
  .cases h
 split at h
 .exact Ij X false E σ i live r h
 split at h
 .exact Ij X true E σ i live r h
 split at h
 .obtain⟨x,_,h⟩:=aP.1 h;unfold zA at h;split at h
  .exact mK h
  .cases h
 split at h
 .obtain⟨x,_,h⟩:=aP.1 h;unfold zA at h;split at h
  .exact mK h
  .cases h
 split at h
 .obtain⟨x,_,h⟩:=aP.1 h;unfold Jr at h;split at h
  .split at h
   .exact mK h
   .exact mK h
  .cases h
 .exact mK h
theorem Wk.fewer {HS:List (Nat×Obj)} (h:Wk w wb HS' E σ) (hs:∀p∈HS,p∈HS'):Wk w wb HS E σ:=by
 obtain⟨tv,lv,so,sd,ov,hv,rv,h⟩:=h;exact⟨tv,lv,so,sd,ov,hv,rv,{ h with held:=λp hp=>h.held p (hs p hp) }⟩
end Go.Proofs.YthmmgiaobakilaaGreat
