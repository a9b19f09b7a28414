import Derived.Test.YthmmgiaobakilaaGreatJ01
import Derived.RangeFuncNested
import Derived.RangeFuncBound
import Derived.RangeFuncCalls
import Derived.RangeFuncLeaves
import Derived.Shelf.Abstract
import Derived.Shelf.RegionOpen
import Derived.WalkKit
import Derived.OwnWalkIn
import Derived.TacticsInMore
import Derived.LoopNIn
import Derived.LoopIn
import Derived.WalkSmall
set_option maxRecDepth 100000
set_option maxHeartbeats 8000000
set_option linter.all false
namespace Go.Proofs.YthmmgiaobakilaaGreat
open Go.RowKit Go.Shelf
variable {W w:World} {b:Nat} {t:TypeId} {v:Value}
attribute [local go_sem] Oper.semAt_some
def BV (y n:Nat):List (Int×Int):=(List.range n).map (λ(x:Nat)=>((x:Int),(y:Int)))
def fV (n:Nat):Nat->List (Int×Int)
 | 0=>[]
 | y+1=>fV n y++BV y n
theorem EC (y x:Nat):BV y (x+1)=BV y x++[((x:Int),(y:Int))]:=by
 unfold BV;rw[List.range_succ,jc];rfl
theorem Ma (y n:Nat):(BV y n).length=n:=by simp[BV]
theorem Eg (n:Nat):∀h,(fV n h).length=n*h
 | 0=>rfl
 | h+1=>by rw[fV,iZ,Eg n h,Ma,Nat.mul_succ]
theorem Hg {n:Nat} : ∀ {y h:Nat},y<=h->fV n y <+: fV n h
 | y,0,hy=>by rw[Nat.le_zero.1 hy];exact⟨[],by simp⟩
 | y,h+1,hy=>by
  by_cases e:y=h+1
  .rw[e];exact⟨[],by simp⟩
  .obtain⟨s,hs⟩:=Hg (n:=n) (show y<=h by omega);exact⟨s++BV h n,by rw[fV,<-hs,gJ]⟩
theorem OC {y n x:Nat} (hx:x<=n):BV y x <+: BV y n:=by
 induction n with
 | zero=>rw[Nat.le_zero.1 hx];exact⟨[],by simp⟩
 | succ n ih=>
  by_cases e:x=n+1
  .rw[e];exact⟨[],by simp⟩
  .obtain⟨s,hs⟩:=ih (by omega);exact⟨s++[((n:Int),(y:Int))],by rw[EC,<-hs,gJ]⟩
theorem UY {n h y x:Nat} (hy:y<h) (hx:x<=n):fV n y++BV y x <+: fV n h:=by
 have a:fV n (y+1) <+: fV n h:=Hg (by omega);obtain⟨s,hs⟩:=OC (y:=y) hx;obtain⟨t,ht⟩:=a;exact⟨s++t,by rw[<-ht,fV,<-hs];simp[gJ]⟩
def InR (pw ph:Nat) (x:Int×Int):Prop:=0<=x.1/\x.1<pw/\0<=x.2/\x.2<ph
abbrev Pt (pw ph:Nat):Type:={ x:Int×Int // InR pw ph x }
def MM (b:Nat) (A B:World):Prop:=∀o:Obj,A.heap[b]?=some o->o.isCells=true->B.heap[b]?=some o
theorem Qi4 {A B C:World} (h:MM b A B) (k:MM b B C):MM b A C:=λo h1 h2=>k o (h o h1 h2) h2
theorem Qg3 (W:World) (l:Nat) (o o':Obj) (_:w.heap.size<=l) (h:W.heap[l]?=some o) (hc:o.isCells=false) (_:o.isWalk=false):MM b W (W.putObj l o'):=λo2 h1 h2=>by
 by_cases e:b=l
 .subst e;rw[h]at h1;cases h1;rw[hc]at h2;cases h2
 .exact(World.putObj_heap_other e).trans h1
theorem MF (h:W.heap[b]?=some (.cells #[v] t (0,0))):W.cell? ⟨b,0,none⟩=some v:=by simp[World.cell?,h]
theorem Qa (F:Fence) (n:Nat) (hF:F.fn 61) (hro:F.round=none) (hn:1<=n) (l Bh Bw:Nat) (pw ph:Nat) (hpw:pw<=6) (hph:ph<=6) (J Jx:List (Int×Int)->World->Prop) (W:World)
  (hY:∀pre x W1,InR pw ph x->J pre W1->pre.length<pw*ph->YieldAt F (n-1) Tryz.prog l #[.agg #[.int .i64 x.1,.int .i64 x.2]] W1 λe W'=>
   (e=.returned (.bool true)/\J (pre++[x]) W'/\MM Bw W1 W')∨(e=.returned (.bool false)/\Jx (pre++[x]) W'))
  (hBh:W.cell? ⟨Bh,0,none⟩=some (.int .i64 ph)) (hBw:W.heap[Bw]?=some (.cells #[.int .i64 pw] 3 (0,0))) (h0:J [] W) :
  CallsIn F n Tryz.prog 61 #[.func (.yield l) #[] #[],.pointer (some ⟨Bh,0,none⟩),.pointer (some ⟨Bw,0,none⟩)] W λe W'=>(∃v,e=.returned v) /\
   ((∃ys,ys=fV pw ph/\J ys W')∨(∃pre,pre <+: fV pw ph/\Jx pre W')):=by
 refine callsIn_of_wp Tryz.func61 rfl hF ?_ hro;simp only[Tryz.ntmps61,uu,kr,mJ,Nat.reduceAdd,Nat.reduceSub,uj,tX,uB,ut,gI,oK]
 gi_wp2
 gi_loopw [7] (λv wr=>∃y:Nat,v=.int .i64 (y:Int)/\y<=ph/\J (fV pw y) wr/\wr.heap[Bw]?=some (.cells #[.int .i64 pw] 3 (0,0))) (λv _=>ph-(intOf v).toNat)
 case atStart=>exact⟨0,rfl,bO _,h0,hBw⟩
 case round=>
  clear h0 hBw hBh;obtain⟨y,rfl,hy,hJy,hb⟩:=hrel;by_cases hlt:y<ph
  .have hlt':(y:Int)<(ph:Int):=by omega
   have hc:=MF hb
   gi_wp2
   gi_loopw [11] (λv wr=>∃x:Nat,v=.int .i64 (x:Int)/\x<=pw/\J (fV pw y++BV y x) wr/\wr.heap[Bw]?=some (.cells #[.int .i64 pw] 3 (0,0))) (λv _=>pw-(intOf v).toNat)
   case atStart=>exact⟨0,rfl,bO _,by simpa[BV] using hJy,hb⟩
   case round=>
    clear hJy hb hc;obtain⟨x,rfl,hx,hJx0,hb⟩:=hrel;by_cases hlx:x<pw
    .have hlx':(x:Int)<(pw:Int):=by omega
     have hlen:(fV pw y++BV y x).length<pw*ph:=by
      rw[iZ,Eg,Ma];have:pw*(y+1)<=pw*ph:=Nat.mul_le_mul_left pw (by omega);rw[Nat.mul_succ]at this;omega
     obtain⟨fn,tmps,assign,body,hyl,hR⟩:=hY (fV pw y++BV y x) ((x:Int),(y:Int)) wr ⟨by show(0:Int)<=x;omega,by show(x:Int)<pw;omega,by show(0:Int)<=y;omega,by show(y:Int)<ph;omega⟩ hJx0 hlen;dsimp only at hyl;clear hY hlen hJx0
     gi_wp2
     refine hR.mono ?_;rintro e W3 (⟨rfl,hJ3,hk3⟩|⟨rfl,hJx3⟩)
     .have hb3:=hk3 _ hb rfl;have fin3:∃x':Nat,Value.int .i64 ((x:Int)+1)=.int .i64 (x':Int)/\x'<=pw/\J (fV pw y++BV y x') W3/\W3.heap[Bw]?=some (.cells #[.int .i64 pw] 3 (0,0)):=⟨x+1,by congr 1,by omega,by rw[EC,<-gJ];exact hJ3,hb3⟩;clear hR hyl hJ3 hk3 hb
      gi_wp2
      go_roundw
      case rel=>exact fin3
      case measure=>simp[intOf];omega
     .have fin3:∃q,q <+: fV pw ph/\Jx q W3:=⟨_,by have:=UY (n:=pw) (h:=ph) (y:=y) (x:=x+1) hlt (by omega);rw[EC,<-gJ]at this;exact this,hJx3⟩;clear hR hyl hJx3 hb
      gi_wp2
      refine aL (pY rfl _ _ _) rfl ?_;exact⟨⟨_,rfl⟩,.inr fin3⟩
    .have hge:decide ((x:Int)<(pw:Int))=false:=by simp;omega
     have e:x=pw:=by omega
     subst e;have fin3:∃y':Nat,Value.int .i64 ((y:Int)+1)=.int .i64 (y':Int)/\y'<=ph/\J (fV x y') wr/\wr.heap[Bw]?=some (.cells #[.int .i64 x] 3 (0,0)):=⟨y+1,by congr 1,by omega,hJx0,hb⟩;clear hJx0 hb
     gi_wp2
     go_roundw
     case rel=>exact fin3
     case measure=>simp[intOf];omega
  .have hge:decide ((y:Int)<(ph:Int))=false:=by simp;omega
   have e:y=ph:=by omega
   subst e
   gi_wp2
   go_end0
   exact⟨⟨_,rfl⟩,.inl ⟨_,rfl,hJy⟩⟩
theorem Un (F:Fence) (n:Nat) (hF:F.fn 36) (hro:F.round=none) (pw ph:Int) (w:World) :
  CallsIn F n Tryz.prog 36 #[.int .i64 pw,.int .i64 ph] w λe w'=>e=.returned (.func (.func 61) #[] #[.pointer (some ⟨w.heap.size+1,0,none⟩),.pointer (some ⟨w.heap.size,0,none⟩)])/\w'=(w.alloc (.cells #[.int .i64 pw] 3)).alloc (.cells #[.int .i64 ph] 3):=by
 refine callsIn_of_wp Tryz.func36 rfl hF ?_ hro;simp only[Tryz.ntmps36,uu,kr,mJ,Nat.reduceAdd,Nat.reduceSub,uj,tX,uB,ut,gI,oK]
 gi_wp2
 go_ret;exact⟨rfl,rfl⟩
theorem KX (F:Fence) (n:Nat) (hF:F.fn 61) (hro:F.round=none) (hn:1<=n) (Bh Bw pw ph:Nat) (hpw:pw<=6) (hph:ph<=6) (w:World) (hBh:Bh<w.heap.size) (hBw:Bw<w.heap.size) (hch:w.cell? ⟨Bh,0,none⟩=some (.int .i64 ph)) (hcw:w.heap[Bw]?=some (.cells #[.int .i64 pw] 3 (0,0))) :
  SeqStopsK F n Tryz.prog 61 #[.pointer (some ⟨Bh,0,none⟩),.pointer (some ⟨Bw,0,none⟩)] (λx:Pt pw ph=>#[Value.agg #[.int .i64 x.1.1,.int .i64 x.1.2]]) (MM Bw) (λys=>ys.map (·.1)=fV pw ph) (λpre=>pre.map (·.1) <+: fV pw ph) (pw*ph) w:=λl J Jx W hW _ _ hY h0=>by
 refine(Qa F n hF hro hn l Bh Bw pw ph hpw hph (λl W=>∃l':List (Pt pw ph),l'.map (·.1)=l/\J l' W) (λl W=>∃l':List (Pt pw ph),l'.map (·.1)=l/\Jx l' W) W ?_ ((hW.cell (p:=⟨Bh,0,none⟩) hBh).trans hch) ((hW.block _ hBw).trans hcw) ⟨[],rfl,h0⟩).mono ?_
 .rintro pre x W1 hx ⟨l',e,hJ⟩ hlen;obtain⟨fn,tmps,assign,body,hy,hR⟩:=hY l' ⟨x,hx⟩ W1 hJ (by rw[<-e,tK]at hlen;exact hlen);refine⟨fn,tmps,assign,body,hy,hR.mono ?_⟩;rintro e3 W3 (⟨h1,h2,h3⟩|⟨h1,h2⟩)
  .exact .inl ⟨h1,⟨_,by rw[jc,e];rfl,h2⟩,h3⟩
  .exact .inr ⟨h1,⟨_,by rw[jc,e];rfl,h2⟩⟩
 .rintro e W' ⟨h1,⟨ys,h2,l',h3,h4⟩|⟨pre,h2,l',h3,h4⟩⟩
  .exact⟨h1,.inl ⟨l',h3.trans h2,h4⟩⟩
  .exact⟨h1,.inr ⟨l',by show l'.map (·.1) <+: fV pw ph;rw[h3];exact h2,h4⟩⟩
end Go.Proofs.YthmmgiaobakilaaGreat
