import Derived.Test.YthmmgiaobakilaaGreatJ01
import Derived.RangeFuncNested
import Derived.RangeFuncBound
import Derived.RangeFuncCalls
import Derived.RangeFuncLeaves
import Derived.Shelf.Abstract
import Derived.Shelf.RegionOpen
import Derived.WalkKit
import Derived.OwnWalkIn
import Derived.TacticsInMore
import Derived.LoopNIn
import Derived.LoopIn
import Derived.WalkSmall
import Derived.Maps.AppendAt
import Derived.Deep.AppendLies
set_option maxRecDepth 100000
set_option maxHeartbeats 8000000
set_option linter.all false
namespace Go.Proofs.YthmmgiaobakilaaGreat
open Go.RowKit Go.Shelf
variable {W W' W1 w:World} {b g j m n size:Nat} {c:Array Value} {c0 v:Value} {e ty:TypeId} {f:Nat×Nat} {k:Int} {so:Option Addr} {x:Int×Int} {xs:List Value} {ys:List (Int×Int)}
attribute [local go_sem] Oper.semAt_some
theorem SV (s:ByteArray) (p:Nat):1<=(Utf8.decode s p).2/\(Utf8.decode s p).2<=4:=by
 unfold Utf8.decode;dsimp only
 repeat' split
 all_goals exact⟨by simp,by simp⟩
def wy (s:ByteArray):Nat->Nat->List (Int×Int)
 | 0,_=>[]
 | f+1,p=>if p<s.size then((p:Int),((Utf8.decode s p).1:Int))::wy s f (p+(Utf8.decode s p).2) else []
theorem Gn (s:ByteArray):∀f p,(wy s f p).length<=f
 | 0,_=>af _
 | f+1,p=>by
  rw[wy];split
  .have:=Gn s f (p+(Utf8.decode s p).2);simp;omega
  .simp
theorem Hr (s:ByteArray) (f p:Nat) (h:¬ p<s.size):wy s f p=[]:=by
 cases f with
 | zero=>rfl
 | succ f=>rw[wy,ae h]
theorem JM (s:ByteArray) (f p:Nat) (hf:s.size<=f+p) (h:p<s.size):wy s f p=((p:Int),((Utf8.decode s p).1:Int))::wy s (f-1) (p+(Utf8.decode s p).2):=by
 cases f with
 | zero=>omega
 | succ f=>rw[wy,ag h];rfl
def mD (s:ByteArray):List (Int×Int):=wy s s.size 0
theorem Xp (w:World) (r:Nat) (s:ByteArray) (pos:Nat) (ty:TypeId) (h:w.heap[r]?=some (.stringIter s pos)) (hp:pos<s.size) :
  (Instr.next (.pointer (some ⟨r,0,none⟩)) true ty).run Tryz.prog w=.ok (.tuple #[.bool true,.int .i64 pos,.int .i32 (Utf8.decode s pos).1]) (w.putObj r (.stringIter s (pos+(Utf8.decode s pos).2))):=by
 have hr:r<w.heap.size:=(az.1 h).1;obtain⟨W',hW'⟩:∃W',W'=w.putObj r (.stringIter s (pos+(Utf8.decode s pos).2)):=⟨_,rfl⟩;rw[<-hW'];simp only[Instr.next,getObj,setObj,Sem.run_bind,Sem.run,h,Result.andThen,hp,if_true];rw[hW'];rfl
theorem TF (w:World) (r:Nat) (s:ByteArray) (pos:Nat) (ty:TypeId) (h:w.heap[r]?=some (.stringIter s pos)) (hp:¬ pos<s.size) :
  (Instr.next (.pointer (some ⟨r,0,none⟩)) true ty).run Tryz.prog w=.ok (.tuple #[.bool false]) w:=by
 simp[Instr.next,getObj,Sem.run,h,hp]
theorem Uo (F:Fence) (n:Nat) (hF:F.fn 106) (hro:F.round=none) (hn:1<=n) (l Bs:Nat) (s:ByteArray) (J Jx:List (Int×Int)->World->Prop) (W:World)
  (hJ:AbidesFrom W.heap.size J)
  (hY:∀pre x W1,J pre W1->pre.length<s.size->YieldAt F (n-1) Tryz.prog l #[.int .i64 x.1,.int .i32 x.2] W1 λe W'=>
   (e=.returned (.bool true)/\J (pre++[x]) W'/\KeepsWalks W1 W')∨(e=.returned (.bool false)/\Jx (pre++[x]) W'))
  (hB:W.cell? ⟨Bs,0,none⟩=some (.string s)) (h0:J [] W) :
  CallsIn F n Tryz.prog 106 #[.func (.yield l) #[] #[],.pointer (some ⟨Bs,0,none⟩)] W λe W'=>(∃v,e=.returned v) /\
   ((∃ys,ys=mD s/\J ys W')∨(∃pre,pre <+: mD s/\Jx pre W')):=by
 refine callsIn_of_wp Tryz.func106 rfl hF ?_ hro;simp only[Tryz.ntmps106,uu,kr,mJ,Nat.reduceAdd,Nat.reduceSub,uj,tX,uB,ut,gI,oK];have hrg:(Instr.range 9 (.string s)).run Tryz.prog W=.ok (.pointer (some ⟨W.heap.size,0,none⟩)) (W.alloc (.stringIter s 0)):=run_range_string W 9 s Tryz.underlying9
 gi_wp2
 gi_loopw [3] (λ_ wr=>∃(pos f:Nat) (pre:List (Int×Int)),wr.heap[W.heap.size]?=some (.stringIter s pos)/\s.size<=f+pos/\pre++wy s f pos=mD s/\J pre wr) (λ_ wr=>s.size-wr.iterPos W.heap.size)
 case atStart=>
  exact⟨0,s.size,[],World.iter_heap W s 0,by omega,rfl,hJ [] W _ none h0 (World.grownBy_alloc W _ none) (λr e=>by cases e)⟩
 case round=>
  obtain⟨pos,f,pre,hit,hf,hpre,hJs⟩:=hrel;have hpos:=iterPos_of hit;by_cases hlt:pos<s.size
  .have hnx:=Xp wr W.heap.size s pos;have hw:=SV s pos;obtain⟨c,hc⟩:∃c,(Utf8.decode s pos).1=c:=⟨_,rfl⟩;obtain⟨k,hk⟩:∃k,(Utf8.decode s pos).2=k:=⟨_,rfl⟩;have hmore:=JM s f pos hf hlt;rw[hc,hk]at hmore;rw[hk]at hw;have hnx:∀ty,(Instr.next (.pointer (some ⟨W.heap.size,0,none⟩)) true ty).run Tryz.prog wr=.ok (.tuple #[.bool true,.int .i64 (pos:Int),.int .i32 (c:Int)]) (wr.putObj W.heap.size (.stringIter s (pos+k))):=λty=>by
    rw[hnx ty hit hlt,hc,hk]
   have hr:W.heap.size<wr.heap.size:=(az.1 hit).1;have hJ1:J pre (wr.putObj W.heap.size (.stringIter s (pos+k))):=hJ pre wr _ (some W.heap.size) hJs (grownBy_putObj' wr W.heap.size _) (λr e=>by cases e;exact⟨af _,_,hit,rfl⟩);have hit1:(wr.putObj W.heap.size (.stringIter s (pos+k))).heap[W.heap.size]?=some (.stringIter s (pos+k)):=World.putObj_heap_same hr;obtain⟨W1,hW1⟩:∃W1,wr.putObj W.heap.size (.stringIter s (pos+k))=W1:=⟨_,rfl⟩;rw[hW1]at hnx hJ1 hit1;have hlen:pre.length<s.size:=by
    have h1:=dO List.length hpre;have h2:=Gn s s.size 0;rw[iZ,hmore,kr]at h1;unfold mD at h1;omega
   obtain⟨fn,tmps,assign,body,hy,hR⟩:=hY pre ((pos:Int),(c:Int)) W1 hJ1 hlen;dsimp only at hy;have HP:=aj hpre;have HM:=aj hmore;clear hW1 hpre hmore hc hk hJs hJ1 hY
   gi_wp2
   refine hR.mono ?_;rintro e W3 (⟨rfl,hJ3,hk3⟩|⟨rfl,hJx3⟩)
   .have hit3:=hk3.same _ _ hit1 rfl;have fin3:∃(pos' f':Nat) (pre':List (Int×Int)),W3.heap[W.heap.size]?=some (.stringIter s pos')/\s.size<=f'+pos'/\pre'++wy s f' pos'=mD s/\J pre' W3:=⟨pos+k,f-1,pre++[((pos:Int),(c:Int))],hit3,by omega,by rw[<-aa HP,aa HM];simp,hJ3⟩;have hp3:=iterPos_of hit3;clear hR hy hnx hJ3 hk3
    gi_wp2
    go_roundw
    case rel=>exact fin3
    case measure=>rw[hp3,hpos];omega
   .have fin3:∃q,q <+: mD s/\Jx q W3:=⟨pre++[((pos:Int),(c:Int))],⟨wy s (f-1) (pos+k),by rw[<-aa HP,aa HM];simp⟩,hJx3⟩
    gi_wp2
    refine aL (pY rfl _ _ _) rfl ?_;exact⟨⟨_,rfl⟩,.inr fin3⟩
  .have hnx:∀ty,(Instr.next (.pointer (some ⟨W.heap.size,0,none⟩)) true ty).run Tryz.prog wr=.ok (.tuple #[.bool false]) wr:=λty=>TF wr W.heap.size s pos ty hit hlt;have fin:mD s=pre:=by rw[<-hpre,Hr s f pos hlt];simp
   have FIN:=aj fin;clear fin hpre hY
   gi_wp2
   go_end0
   exact⟨⟨_,rfl⟩,.inl ⟨pre,(aa FIN).symm,hJs⟩⟩
theorem WP (F:Fence) (n:Nat) (hF:F.fn 82) (hro:F.round=none) (s:ByteArray) (w:World) :
  CallsIn F n Tryz.prog 82 #[.string s] w λe w'=>e=.returned (.func (.func 106) #[] #[.pointer (some ⟨w.heap.size,0,none⟩)])/\w'=w.alloc (.cells #[.string s] 9):=by
 refine callsIn_of_wp Tryz.func82 rfl hF ?_ hro;simp only[Tryz.ntmps82,uu,kr,mJ,Nat.reduceAdd,Nat.reduceSub,uj,tX,uB,ut,gI,oK]
 gi_wp2
 go_ret;exact⟨rfl,rfl⟩
theorem Me (F:Fence) (n:Nat) (hF:F.fn 106) (hro:F.round=none) (hn:1<=n) (Bs:Nat) (s:ByteArray) (w:World) (hBs:Bs<w.heap.size) (hc:w.cell? ⟨Bs,0,none⟩=some (.string s)) :
  SeqStopsK F n Tryz.prog 106 #[.pointer (some ⟨Bs,0,none⟩)] (λx:Int×Int=>#[Value.int .i64 x.1,Value.int .i32 x.2]) KeepsWalks (λys=>ys=mD s) (λpre=>pre <+: mD s) s.size w:=λl J Jx W hW hJ _ hY h0=>
 Uo F n hF hro hn l Bs s J Jx W hJ hY ((hW.cell (p:=⟨Bs,0,none⟩) hBs).trans hc) h0
structure GT where
 k:Int
 p:Int
 wd:ByteArray
 n:Int
 s:Int
variable {l:List GT} {t t':GT} {σ:List GT×Int}
def YB (t:GT):List Value:=[.int .i64 t.k,.int .i64 t.p,.string t.wd,.int .i32 t.n,.int .i32 t.s]
def uk (l:List GT):List Value:=l.flatMap YB
theorem Ao (l:List GT):(uk l).length=l.length*5:=by
 induction l with
 | nil=>rfl
 | cons a l ih=>simp only[uk,List.flatMap_cons,iZ]at ih ⊢;rw[ih];simp[YB];omega
theorem yt (l:List GT) (t:GT):uk (l++[t])=uk l++YB t:=by simp[uk]
def xO (k p:Int):GT:=⟨k,p,⟨#[]⟩,0,0⟩
def jh (t:GT) (r:Int):GT:=if t.k=2 then { t with wd:=t.wd++⟨#[r.toNat.toUInt8]⟩ } else if t.k=3 then { t with n:=10*t.n+r-48 } else { t with s:=r }
def qp (l:List GT) (t:GT) (r k:Int):Except Int (List GT×Int):=if 65535<(jh t r).n then .error (jh t r).p else .ok (l++[jh t r],k)
def Kq (l:List GT) (r k:Int):Except Int (List GT×Int):=match l.getLast? with
 | none=>.ok (l,k)
 | some t=>qp l.dropLast t r k
def kT (σ:List GT×Int) (x:Int×Int):Except Int (List GT×Int):=
 if yF x.2=0 then .error x.1 else
 if yF x.2=1 then .ok (σ.1,1) else
 if yF x.2=4∨yF x.2≠σ.2 then qp σ.1 (xO (yF x.2) x.1) x.2 (yF x.2) else Kq σ.1 x.2 (yF x.2)
def wR (a:Except Int (List GT×Int)) (x:Int×Int):Except Int (List GT×Int):=match a with
 | .error e=>.error e
 | .ok σ=>kT σ x
def pF (xs:List (Int×Int)):Except Int (List GT×Int):=xs.foldl wR (.ok ([],1))
theorem Iz (xs:List (Int×Int)) (x:Int×Int):pF (xs++[x])=wR (pF xs) x:=by simp[pF]
theorem Ap (e:Int):∀xs:List (Int×Int),xs.foldl wR (.error e)=.error e
 | []=>rfl
 | _::xs=>Ap e xs
theorem UF {xs:List (Int×Int)} {e:Int} (h:pF xs=.error e):pF (xs++ys)=.error e:=by
 unfold pF at *;rw[List.foldl_append,h];exact Ap e ys
structure OJ (σ:List GT×Int) (m:Nat):Prop where
 last:σ.2=2∨σ.2=3->∃l t,σ.1=l++[t]/\t.k=σ.2
 small:∀t∈σ.1,0<=t.n/\t.n<=65535/\t.wd.size<=m
 few:σ.1.length<=m
theorem OJ.start:OJ ([],1) 0:=⟨λh=>by simp at h,λt ht=>(by cases ht),af _⟩
theorem DV (r:Int):yF r=0∨yF r=1∨(yF r=2/\97<=r/\r<=122)∨(yF r=3/\48<=r/\r<=57)∨yF r=4:=by
 unfold yF;split
 .exact .inr (.inl rfl)
 split
 .exact .inr (.inr (.inr (.inr rfl)))
 split
 .rename_i h;exact .inr (.inr (.inl ⟨rfl,h⟩))
 split
 .rename_i h;exact .inr (.inr (.inr (.inl ⟨rfl,h⟩)))
 .exact .inl rfl
theorem Rx {r:Int} {τ:List GT×Int} (hl:∀u∈l,0<=u.n/\u.n<=65535/\u.wd.size<=m) (ht:0<=t.n/\t.n<=65535/\t.wd.size<=m) (hk:t.k=k) (hr:k=3->48<=r/\r<=57) (hln:l.length+1<=m+1) (h:qp l t r k=.ok τ):OJ τ (m+1):=by
 unfold qp at h;split at h
 .cases h
 .rename_i hn
  cases h;refine⟨λ_=>⟨l,_,rfl,?_⟩,λu hu=>?_,by simp;omega⟩
  .unfold jh;split
   .exact hk
   split
   .exact hk
   .exact hk
  .rcases dW.1 hu with hu|hu
   .have:=hl u hu;omega
   .simp at hu;subst hu;unfold jh at hn ⊢;split at hn
    .rename_i h2;rw[ag h2];refine⟨ht.1,ht.2.1,?_⟩;show(t.wd++_).size<=_;rw[ByteArray.size_append];have:(⟨#[r.toNat.toUInt8]⟩:ByteArray).size=1:=rfl;omega
    .rename_i h2;rw[ae h2];split at hn
     .rename_i h3;rw[ag h3];have:=hr (by omega);simp at hn ⊢;omega
     .rename_i h3;rw[ae h3];exact⟨ht.1,ht.2.1,by show t.wd.size<=_;omega⟩
theorem Vr {τ:List GT×Int} (hi:OJ σ m) (h:kT σ x=.ok τ):OJ τ (m+1):=by
 unfold kT at h;split at h
 .cases h
 rename_i h0;split at h
 .cases h;exact⟨λh=>by simp at h,λt ht=>by have:=hi.small t ht;omega,by have:=hi.few;show σ.1.length<=_;omega⟩
 rename_i h1;have hr:yF x.2=3->48<=x.2/\x.2<=57:=λe=>by
  rcases DV x.2 with a|a|⟨a,_⟩|⟨_,a⟩|a<;>first|omega|exact a
 split at h
 .exact Rx hi.small ⟨dn _,(by show(0:Int)<=65535;decide),bO _⟩ rfl hr (by have:=hi.few;omega) h
 .rename_i h2;have hk:yF x.2=σ.2:=by
   by_cases e:yF x.2=σ.2
   .exact e
   .exact absurd (.inr e) h2
  have h4:yF x.2≠4:=λe=>h2 (.inl e);obtain⟨l,t,e1,e2⟩:=hi.last (by rcases DV x.2 with a|a|⟨a,_⟩|⟨a,_⟩|a<;>omega);unfold Kq at h;rw[e1]at h;simp at h;have hfew:=hi.few;rw[e1]at hfew;simp at hfew;exact Rx (λu hu=>hi.small u (by rw[e1];exact List.mem_append_left _ hu)) (hi.small t (by rw[e1];simp)) (by omega) hr (by omega) h
theorem MN:∀(n:Nat) (xs:List (Int×Int)) (σ:List GT×Int),xs.length=n->pF xs=.ok σ->OJ σ xs.length:=by
 intro n
 induction n with
 | zero=>
  intro xs σ hn h;have:xs=[]:=xN.1 hn;subst this
  cases h;exact OJ.start
 | succ n ih=>
  intro xs σ hn h;obtain⟨ys,x,rfl⟩:∃ys x,xs=ys++[x]:=⟨xs.dropLast,xs.getLast (by intro e;rw[e]at hn;simp at hn),(List.dropLast_concat_getLast _).symm⟩;rw[Iz]at h
  cases hf:pF ys with
  | error e=>rw[hf]at h;cases h
  | ok τ=>
   rw[hf]at h;have:=Vr (ih ys τ (by simpa using hn) hf) h;simpa using this
theorem zP {base c:Nat} (h:w.ownsRow base 116 5 (.slice (some ⟨g,0,none⟩) m c) m (uk (l++[t]))) (hm:m=l.length+1) :
  (∀j v,(YB t)[j]?=some v->w.cell? ⟨g,l.length*5+j,none⟩=some v)/\(∀j,w.frozen? ⟨g,j,none⟩=false):=by
 constructor
 .intro j v hv;have hj:j<5:=by have:=(rR.1 hv).1;exact this
  rw[h.cellAt (l.length*5+j) (by omega),yt,vK (by rw[Ao];omega),Ao];rw[show l.length*5+j-l.length*5=j by omega];exact hv
 .intro j;rcases h.2 with⟨e,_⟩|⟨g',cap,cur,e,hb,hg,_⟩
  .cases e
  .cases e;simp[World.frozen?,hg]
theorem ZN {base c:Nat} (h:w.ownsRow base 116 5 (.slice (some ⟨g,0,none⟩) m c) m (uk (l++[t]))) (hm:m=l.length+1) (hj:j<5) (ht:(YB t).set j v=YB t') :
  (w.setCell ⟨g,l.length*5+j,none⟩ v).ownsRow base 116 5 (.slice (some ⟨g,0,none⟩) m c) m (uk (l++[t'])):=by
 refine⟨by rw[Ao];simp;omega,.inr ?_⟩;rcases h.2 with⟨e,_⟩|⟨g',cap,cur,e,hb,hg,hn,hc,hs,htk⟩
 .cases e
 .cases e;refine⟨g,c,cur.setIfInBounds (l.length*5+j) v,rfl,hb,?_,hn,hc,by simpa using hs,?_⟩
  .have:=aM w g (l.length*5+j) cur 116 v hg;exact this
  .rw[Array.toList_setIfInBounds,List.take_set,htk,yt,yt,<-ht,yn _ _ (by rw[Ao];omega),Ao];rw[show l.length*5+j-l.length*5=j by omega]
attribute [local go_sem] Oper.semAt_some
theorem SL (w:World) (a b c d:Obj) (s:ByteArray):(((((w.alloc a).alloc b).alloc c).alloc d).alloc (.cells #[.string s] 9)).cell? ⟨w.heap.size+4,0,none⟩=some (.string s):=by
 have h:=aA ((((w.alloc a).alloc b).alloc c).alloc d) (.cells #[.string s] 9);simp only[bE]at h;simp only[World.cell?];rw[show w.heap.size+4=w.heap.size+1+1+1+1 by omega,h];rfl
theorem Nk (s:ByteArray):(mD s).length<=s.size:=Gn s _ _
theorem Fs:(Tryz.prog.info? 116).map (λi=>(i.zero,i.size,i.bytes))=some (some (.agg #[.int .i64 0,.int .i64 0,.string ⟨#[]⟩,.int .i32 0,.int .i32 0]),5,40):=by kernel_rfl
theorem kN (h:w.heap[b]?=some (.cells #[c0] ty (0,0))):w.cell? ⟨b,0,none⟩=some c0/\w.frozen? ⟨b,0,none⟩=false:=by
 refine⟨?_,?_⟩<;>simp[World.cell?,World.frozen?,h]
theorem tq {c1:Value} (h:w.heap[b]?=some (.cells #[c0,c1] ty (0,0))):(w.cell? ⟨b,0,none⟩=some c0/\w.cell? ⟨b,1,none⟩=some c1)/\w.frozen? ⟨b,0,none⟩=false/\w.frozen? ⟨b,1,none⟩=false:=by
 refine⟨⟨?_,?_⟩,?_,?_⟩<;>simp[World.cell?,World.frozen?,h]
theorem FE {w':World} {base:Nat} (h:w.ownsRow base e size v n xs) (hs:∀k,v.ownBlock=some k->w'.heap[k]?=w.heap[k]?):w'.ownsRow base e size v n xs:=by
 refine⟨h.1,?_⟩;rcases h.2 with h0|⟨g,cap,cur,rfl,hb,hg,rest⟩
 .exact .inl h0
 .exact .inr ⟨g,cap,cur,rfl,hb,(hs g rfl).trans hg,rest⟩
theorem IM {base base':Nat} (h:w.ownsRow base e size v n xs) (hb:base'<=base):w.ownsRow base' e size v n xs:=by
 refine⟨h.1,?_⟩;rcases h.2 with h0|⟨g,cap,cur,rfl,hg,rest⟩
 .exact .inl h0
 .exact .inr ⟨g,cap,cur,rfl,iJ hb hg,rest⟩
structure Gz (w:World) (σ:List GT×Int) (so:Option Addr) (sl sc:Nat) (W:World):Prop where
 r0:W.heap[w.heap.size]?=some (.cells #[.slice none 0 0] 103 (0,0))
 r1:W.heap[w.heap.size+1]?=some (.cells #[.int .i64 0,.int .i64 0] 105 (0,0))
 l0:W.heap[w.heap.size+2]?=some (.cells #[.slice so sl sc] 103 (0,0))
 k0:W.heap[w.heap.size+3]?=some (.cells #[.int .i64 σ.2] 114 (0,0))
 own:W.ownsRow (w.heap.size+5) 116 5 (.slice so sl sc) σ.1.length (uk σ.1)
 bel:Below w.heap.size w W
 sz:w.heap.size+5<=W.heap.size
theorem aV {row:Option Nat} (hg:W.grownBy W' row) (hr:∀r,row=some r->∃o:Obj,W.heap[r]?=some o/\o.isCells=false) {t:TypeId} (h:W.heap[b]?=some (.cells c t f)):W'.heap[b]?=some (.cells c t f):=by
 refine(hg.block b (az.1 h).1 (λe=>?_)).trans h;obtain⟨o,ho,hc⟩:=hr b e.symm;rw[h]at ho
 cases ho
 cases hc
theorem Aq {row:Option Nat} (hg:W.grownBy W' row) (hr:∀r,row=some r->∃o:Obj,W.heap[r]?=some o/\o.isCells=false) {base:Nat} (h:W.ownsRow base e size v n xs):W'.ownsRow base e size v n xs:=by
 refine⟨h.1,?_⟩;rcases h.2 with h0|⟨g,cap,cur,rfl,hb,hgb,rest⟩
 .exact .inl h0
 .exact .inr ⟨g,cap,cur,rfl,hb,aV hg hr hgb,rest⟩
theorem Gz.grown {w W W':World} {σ:List GT×Int} {so:Option Addr} {sl sc B:Nat} {row:Option Nat} (h:Gz w σ so sl sc W) (hB:w.heap.size<=B) (hg:W.grownBy W' row) (hr:∀r,row=some r->B<=r/\∃o:Obj,W.heap[r]?=some o/\o.isCells=false):Gz w σ so sl sc W':=
 have hr':=λr e=>(hr r e).2
 ⟨aV hg hr' h.r0,aV hg hr' h.r1,aV hg hr' h.l0,aV hg hr' h.k0,Aq hg hr' h.own,h.bel.grown hg h.bel.size (λr e=>iJ hB (hr r e).1),iJ h.sz hg.size⟩
def ScI (w:World) (pre:List (Int×Int)) (W:World):Prop:=∃σ so sl sc,pF pre=.ok σ/\Gz w σ so sl sc W
def ScX (w:World) (c:Code) (pre:List (Int×Int)) (W:World):Prop:=c=.ret/\∃p,pF pre=.error p/\W.heap[w.heap.size]?=some (.cells #[.slice none 0 0] 103 (0,0))/\W.heap[w.heap.size+1]?=some (.cells #[.int .i64 8,.int .i64 p] 105 (0,0))/\Below w.heap.size w W
def Qo3 (w:World) (s:ByteArray) (e:Ending) (w':World):Prop:=Below w.heap.size w w'/\((∃p,pF (mD s)=.error p/\e=.returned (.tuple #[.slice none 0 0,.agg #[.int .i64 8,.int .i64 p]])) ∨
 (∃σ g c,pF (mD s)=.ok σ/\e=.returned (.tuple #[.slice (some ⟨g,0,none⟩) (σ.1.length+1) c,.agg #[.int .i64 0,.int .i64 0]])/\w'.ownsRow w.heap.size 116 5 (.slice (some ⟨g,0,none⟩) (σ.1.length+1) c) (σ.1.length+1) (uk (σ.1++[xO 5 s.size]))))
theorem Gp {b:Int} {c:Nat} (h:Gz w (l++[t],b) (some ⟨g,0,none⟩) (l.length+1) c W1) (hj:j<5) (ht:(YB t).set j v=YB t') :
  Gz w (l++[t'],k) (some ⟨g,0,none⟩) (l.length+1) c ((W1.setCell ⟨g,l.length*5+j,none⟩ v).setCell ⟨w.heap.size+3,0,none⟩ (.int .i64 k)):=by
 have hg:=(h.own.lt g rfl).1;have hl:(l++[t]).length=l.length+1:=by simp
 have hl':(l++[t'],k).1.length=l.length+1:=by simp
 have own:=h.own;have own1:W1.ownsRow (w.heap.size+5) 116 5 (.slice (some ⟨g,0,none⟩) (l.length+1) c) (l.length+1) (uk (l++[t])):=by simpa using own
 refine⟨?_,?_,?_,?_,?_,?_,?_⟩
 .exact(ay _ _ _ _ (by simp)).trans ((ay _ _ _ _ (by simp;omega)).trans h.r0)
 .exact(ay _ _ _ _ (by simp)).trans ((ay _ _ _ _ (by simp;omega)).trans h.r1)
 .exact(ay _ _ _ _ (by simp)).trans ((ay _ _ _ _ (by simp;omega)).trans h.l0)
 .exact aM _ (w.heap.size+3) 0 _ _ _ ((ay _ _ _ _ (by simp;omega)).trans h.k0)
 .rw[hl'];exact FE (ZN own1 rfl hj ht) (λk hk=>ay _ _ _ _ (by have e:g=k:=(by simpa[Value.ownBlock] using hk);simp;omega))
 .exact(h.bel.setCell (p:=⟨g,l.length*5+j,none⟩) (by simp;omega) _).setCell (p:=⟨w.heap.size+3,0,none⟩) (by simp) _
 .simpa using h.sz
theorem Qf {b:Int} {sl sc c:Nat} {U:Obj} (h:Gz w (l,b) so sl sc W) (hown:W1.ownsRow (w.heap.size+5) 116 5 (.slice (some ⟨g,0,none⟩) (l.length+1) c) (l.length+1) (uk l++YB t)) (hgrow:(W.alloc U).grownBy W1 (Value.slice so sl sc).ownBlock) (hW:w.heap.size+5<=W.heap.size) :
  Gz w (l++[t],b) (some ⟨g,0,none⟩) (l.length+1) c (W1.setCell ⟨w.heap.size+2,0,none⟩ (.slice (some ⟨g,0,none⟩) (l.length+1) c)):=by
 have hg:=(hown.lt g rfl).1;have far:∀k,k<w.heap.size+5->W1.heap[k]?=W.heap[k]?:=λk hk=>(hgrow.block k (by simp;omega) (λe=>by have:=(h.own.lt k e.symm).1;omega)).trans (av W U k (by omega));have hl':(l++[t],b).1.length=l.length+1:=by simp
 refine⟨?_,?_,?_,?_,?_,?_,?_⟩
 .exact(ay _ _ _ _ (by simp)).trans ((far _ (by omega)).trans h.r0)
 .exact(ay _ _ _ _ (by simp)).trans ((far _ (by omega)).trans h.r1)
 .exact aM _ (w.heap.size+2) 0 _ _ _ ((far _ (by omega)).trans h.l0)
 .exact(ay _ _ _ _ (by simp)).trans ((far _ (by omega)).trans h.k0)
 .rw[hl',yt];exact FE hown (λk hk=>ay _ _ _ _ (by have e:g=k:=(by simpa[Value.ownBlock] using hk);simp;omega))
 .exact((h.bel.alloc (by omega) U).grown hgrow (by simp;omega) (λk e=>by have:=(h.own.lt k e).1;omega)).setCell (p:=⟨w.heap.size+2,0,none⟩) (by simp) _
 .have:=hgrow.size;simp at this ⊢;omega
theorem xW {base:Nat} (h:W.ownsRow base e size v n xs):∀(j:Nat) (o:Obj),v.ownBlock=some j->W.heap[j]?=some o->o.isCells=true:=by
 intro j o hj ho;rcases h.2 with⟨rfl,_⟩|⟨g,cap,cur,rfl,_,hgb,_⟩
 .simp[Value.ownBlock]at hj
 .have:g=j:=by simpa[Value.ownBlock] using hj
  subst this;rw[hgb]at ho
  cases ho;rfl
theorem Vo (s:ByteArray) (hs:s.size<=300) (w:World):Calls Tryz.prog 57 #[.string s] w (Qo3 w s):=by
 refine(gK (n:=8)).1 ?_;refine callsIn_of_wp_marks Tryz.func57 rfl trivial ?_ rfl;simp only[Tryz.ntmps57,uu,kr,mJ,Nat.reduceAdd,Nat.reduceSub,uj,tX,uB,ut,gI,oK]
 gi_wp2_with fail
 refine⟨trivial,?_⟩;refine(WP Fence.wide _ trivial rfl s _).mono ?_;rintro e w' ⟨rfl,hw'⟩;obtain⟨W0,hW0⟩:∃W0,w'=W0:=⟨_,rfl⟩;rw[hW0]at hw' ⊢;have z0:W0.heap.size=w.heap.size+5:=by rw[hw'];simp
 have box:W0.cell? ⟨w.heap.size+4,0,none⟩=some (.string s):=by
  rw[hw'];exact SL w _ _ _ _ s
 have at0:Gz w ([],1) none 0 0 W0:=by
  have b1:∀(W:World) (o:Obj) (k:Nat),k<W.heap.size->(W.alloc o).heap[k]?=W.heap[k]?:=λW o k hk=>av W o k hk;rw[hw'];refine⟨?_,?_,?_,?_,fD _ _ _ _,?_,by simp⟩
  .rw[b1 _ _ _ (by simp;try omega),b1 _ _ _ (by simp;try omega),b1 _ _ _ (by simp;try omega),b1 _ _ _ (by simp)];exact aA w _
  .rw[b1 _ _ _ (by simp;try omega),b1 _ _ _ (by simp;try omega),b1 _ _ _ (by simp)];exact(by simpa using aA (w.alloc (.cells #[.slice none 0 0] 103)) (.cells #[.int .i64 0,.int .i64 0] 105))
  .rw[b1 _ _ _ (by simp;try omega),b1 _ _ _ (by simp)];exact(by simpa using aA ((w.alloc (.cells #[.slice none 0 0] 103)).alloc (.cells #[.int .i64 0,.int .i64 0] 105)) (.cells #[.slice none 0 0] 103))
  .rw[b1 _ _ _ (by simp)];exact(by simpa using aA (((w.alloc (.cells #[.slice none 0 0] 103)).alloc (.cells #[.int .i64 0,.int .i64 0] 105)).alloc (.cells #[.slice none 0 0] 103)) (.cells #[.int .i64 1] 114))
  .exact(((((ax _ w).alloc (af _) _).alloc (by simp) _).alloc (by simp;try omega) _).alloc (by simp;try omega) _).alloc (by simp;try omega) _
 clear hw' hW0
 gi_wp2
 refine wpIn_rangeFunc_ownG (α:=Int×Int) rfl (by omega) (gf:=106) (lb:=#[.pointer (some ⟨w.heap.size+4,0,none⟩)]) rfl trivial (enters_of Tryz.func106 (by kernel_rfl) rfl)
  (Me Fence.wide 7 trivial rfl (by omega) (w.heap.size+4) s W0 (by omega) box) walksK_t walksK_b (ax _ _) (λ_=>rfl)
  (ScI w) (ScX w) ?hI ?hIx ⟨_,_,_,_,rfl,at0⟩
  (λx=>{ tmps:=#[.string s,undef,.pointer (some ⟨w.heap.size,0,none⟩),.pointer (some ⟨w.heap.size+1,0,none⟩),.pointer (some ⟨w.heap.size+2,0,none⟩),.pointer (some ⟨w.heap.size+3,0,none⟩),.int .i64 x.1,.int .i32 x.2,undef,undef,.string s,.func (.func 106) #[] #[.pointer (some ⟨w.heap.size+4,0,none⟩)],.int .i64 x.1,.int .i32 x.2,undef,undef,undef,undef,undef,undef,undef,undef,undef,undef,undef,undef,undef,undef,undef,undef,undef,undef,undef,undef,undef,undef,undef,undef,undef,undef,undef,undef,undef,undef,undef,undef,undef,undef,undef,undef,undef,undef,undef,undef,undef,undef,undef,undef,undef,undef,undef,undef,undef,undef,undef],defers:=[] }) ?assign ?body ?done ?stop
 case hI=>
  rintro pre A B row ⟨σ,so,sl,sc,hf,hat⟩ hg hr;exact⟨σ,so,sl,sc,hf,hat.grown (by omega) hg hr⟩
 case hIx=>
  rintro c pre A B row ⟨hc,p,hf,a1,a2,a3⟩ hg hr;exact⟨hc,p,hf,aV hg (λr e=>(hr r e).2) a1,aV hg (λr e=>(hr r e).2) a2,a3.grown hg a3.size (λr e=>by have:=(hr r e).1;omega)⟩
 case assign=>
  intro l x W K hK
  gi_wp2
  exact hK
 case done=>
  rintro D xs W hD rfl ⟨σ,so,sl,sc,hf,hat⟩ hK;have few:=(MN _ _ σ rfl hf).few;have hrl:=Nk s;have hsz:=hat.sz;have r0c:=kN hat.r0;have r1c:=tq hat.r1;have l0c:W.cell? ⟨w.heap.size+1+1,0,none⟩=some (.slice so sl sc):=(kN hat.l0).1;obtain⟨i0,hi0,hz0,hz1,hz2⟩:=dG Fs;have HF:=aj hf;clear hf
  gi_wp2_with (gi_at_builtin;refine wpListIn_append_own _ rfl _ _ 103 rfl (w.heap.size+5) 116 i0 (.agg #[.int .i64 0,.int .i64 0,.string ⟨#[]⟩,.int .i32 0,.int .i32 0]) 5 40 Tryz.underlying103 hi0 hz0 hz1 hz2 rfl (by decide) (.slice so sl sc) σ.1.length (uk σ.1) rfl (hat.own.alloc _) ⟨W.heap.size,0,none⟩ 1 1 [.int .i64 5,.int .i64 s.size,.string ⟨#[]⟩,.int .i32 0,.int .i32 0] rfl rfl (World.news_of_block (aA W _)) (by simp[Value.oneCell']) (by unfold maxLen;omega) (by omega) (by simp;omega) ?_;intro v' wn hown hgrow _;obtain⟨g,c,rfl⟩:=ownsRow_succ hown;have far:∀k,k<w.heap.size+5->wn.heap[k]?=W.heap[k]?:=(λk hk=>(hgrow.block k (by simp;omega) (λe=>by have:=(hat.own.lt k e.symm).1;omega)).trans (av W _ k (by omega)));have r2:=kN ((far _ (by omega)).trans hat.r0);have q2:=tq ((far _ (by omega)).trans hat.r1);have HFAR:=aj far;clear far)
  obtain⟨W8,hW8⟩:∃W8,((wn.setCell ⟨w.heap.size,0,none⟩ (.slice (some ⟨g,0,none⟩) (σ.1.length+1) c)).setCell ⟨w.heap.size+1,0,none⟩ (.int .i64 0)).setCell ⟨w.heap.size+1,1,none⟩ (.int .i64 0)=W8:=⟨_,rfl⟩;have hDl:D<W.heap.size:=(az.1 hK).1;have hKn:wn.heap[D]?=some (.deferred (some [])):=(hgrow.block D (by simp;omega) (λe=>by have:=xW hat.own D _ e.symm hK;cases this)).trans ((av W _ D hDl).trans hK);have h8:∀k,k≠w.heap.size->k≠w.heap.size+1->W8.heap[k]?=wn.heap[k]?:=λk a b=>by rw[<-hW8];exact(ay _ _ _ _ b).trans ((ay _ _ _ _ b).trans (ay _ _ _ _ a))
  have r8:W8.heap[w.heap.size]?=some (.cells #[.slice (some ⟨g,0,none⟩) (σ.1.length+1) c] 103 (0,0)):=by
   rw[<-hW8];exact(ay _ _ _ _ (by simp)).trans ((ay _ _ _ _ (by simp)).trans (aM _ w.heap.size 0 _ _ _ ((aa HFAR _ (by omega)).trans hat.r0)))
  have q8:W8.heap[w.heap.size+1]?=some (.cells #[.int .i64 0,.int .i64 0] 105 (0,0)):=by
   rw[<-hW8];exact aM _ (w.heap.size+1) 1 _ _ _ (aM _ (w.heap.size+1) 0 _ _ _ ((ay _ _ _ _ (by simp)).trans ((aa HFAR _ (by omega)).trans hat.r1)))
  have own8:W8.ownsRow (w.heap.size+5) 116 5 (.slice (some ⟨g,0,none⟩) (σ.1.length+1) c) (σ.1.length+1) (uk σ.1++YB (xO 5 s.size)):=FE hown (λk hk=>h8 k (by have:=(hown.lt k hk).1;omega) (by have:=(hown.lt k hk).1;omega));have b8:Below w.heap.size w W8:=by
   rw[<-hW8];exact((((hat.bel.alloc (by omega) _).grown hgrow (by simp;omega) (λk e=>by have:=(hat.own.lt k e).1;omega)).setCell (p:=⟨w.heap.size,0,none⟩) (af _) _).setCell (p:=⟨w.heap.size+1,0,none⟩) (by simp) _).setCell (p:=⟨w.heap.size+1,1,none⟩) (by simp) _
  have hK8:=(h8 D (by omega) (by omega)).trans hKn;rw[hW8];refine⟨by simp,.inl ⟨_,_,rfl,run_takeDeferred hK8,?_⟩⟩;have hW9:=grownBy_putObj' W8 D (.deferred none);have ro:∀r,some D=some r->∃o:Obj,W8.heap[r]?=some o/\o.isCells=false:=λr e=>by cases e;exact⟨_,hK8,rfl⟩
  have r0':=kN (aV hW9 ro r8);have r1':=tq (aV hW9 ro q8);refine⟨.tuple #[.slice (some ⟨g,0,none⟩) (σ.1.length+1) c,.agg #[.int .i64 0,.int .i64 0]],by simp[results,Tryz.results57,go_sem,r0'.1,r1'.1.1,r1'.1.2],b8.grown hW9 b8.size (λr e=>by cases e;omega),.inr ⟨σ,g,c,aa HF,rfl,?_⟩⟩;rw[yt];exact IM (Aq hW9 ro own8) (by omega)
 case stop=>
  rintro D c pre W hD ⟨suf,hpre⟩ ⟨rfl,p,hf,r0,r1,hb⟩ hK
  gi_wp2
  refine⟨by simp,.inl ⟨_,_,rfl,run_takeDeferred hK,?_⟩⟩;have hW9:=grownBy_putObj' W D (.deferred none);have r0':=kN (aV hW9 (λr e=>by cases e;exact⟨_,hK,rfl⟩) r0);have r1':=tq (aV hW9 (λr e=>by cases e;exact⟨_,hK,rfl⟩) r1);refine⟨.tuple #[.slice none 0 0,.agg #[.int .i64 8,.int .i64 p]],by simp[results,Tryz.results57,go_sem,r0'.1,r1'.1.1,r1'.1.2],hb.grown hW9 hb.size (λr e=>by cases e;omega),.inl ⟨p,by rw[<-hpre];exact UF hf,rfl⟩⟩
 case body=>
  rintro l pre x W ⟨σ,so,sl,sc,hf,hat⟩ hlen
  gi_wp2_with fail
  refine⟨trivial,?_⟩;refine(CallsIn.inRound l (gK.2 (Qb x.2 W))).mono ?_;rintro e w' ⟨rfl,hw'⟩;have hw2:=hw'.symm;clear hw';subst hw2;have inv:=MN _ pre σ rfl hf;have hfew:=inv.few;have hfs:pF (pre++[x])=kT σ x:=by rw[Iz,hf];rfl
  have hB:W0.heap.size=w.heap.size+5:=z0;have hlW:w.heap.size+5<=W.heap.size:=hat.sz;obtain⟨r0c,r0z⟩:=kN hat.r0;obtain⟨⟨r1c,r1d⟩,r1z,r1y⟩:=tq hat.r1;obtain⟨l0c,l0z⟩:=kN hat.l0;obtain⟨k0c,k0z⟩:=kN hat.k0;rcases DV x.2 with hk|hk|⟨hk,hr⟩|⟨hk,hr⟩|hk
  .have hst:kT σ x=.error x.1:=by unfold kT;rw[ag hk]
   rw[hk];have fin:ScX w .ret (pre++[x]) (((W.setCell ⟨w.heap.size,0,none⟩ (.slice none 0 0)).setCell ⟨w.heap.size+1,0,none⟩ (.int .i64 8)).setCell ⟨w.heap.size+1,1,none⟩ (.int .i64 x.1)):=by
    refine⟨rfl,x.1,by rw[hfs,hst],?_,?_,?_⟩
    .exact(ay _ _ _ _ (by simp)).trans ((ay _ _ _ _ (by simp)).trans (aM _ w.heap.size 0 _ _ _ hat.r0))
    .exact aM _ (w.heap.size+1) 1 _ _ _ (aM _ (w.heap.size+1) 0 _ _ _ ((ay _ _ _ _ (by simp)).trans hat.r1))
    .exact((hat.bel.setCell (p:=⟨w.heap.size,0,none⟩) (af _) _).setCell (p:=⟨w.heap.size+1,0,none⟩) (by simp) _).setCell (p:=⟨w.heap.size+1,1,none⟩) (by simp) _
   clear hfs hst hf
   gi_wp2
   exact⟨(((KeepsOthers.setCell _ _ _).trans (KeepsOthers.setCell _ _ _)).trans (KeepsOthers.setCell _ _ _)).from _,fin⟩
  .have hst:kT σ x=.ok (σ.1,1):=by unfold kT;rw[ae (by omega),ag hk]
   rw[hk];have fin:ScI w (pre++[x]) (W.setCell ⟨w.heap.size+3,0,none⟩ (.int .i64 1)):=by
    refine⟨(σ.1,1),so,sl,sc,by rw[hfs,hst],?_⟩;refine⟨?_,?_,?_,aM _ (w.heap.size+3) 0 _ _ _ hat.k0,?_,hat.bel.setCell (p:=⟨w.heap.size+3,0,none⟩) (by simp) _,by simpa using hat.sz⟩
    .exact(ay _ _ _ _ (by simp)).trans hat.r0
    .exact(ay _ _ _ _ (by simp)).trans hat.r1
    .exact(ay _ _ _ _ (by simp)).trans hat.l0
    .exact FE hat.own (λk hk=>ay _ _ _ _ (by have:=(hat.own.lt k hk).1;simp;omega))
   clear hfs hst hf
   gi_wp2
   exact⟨(KeepsOthers.setCell _ _ _).from _,KeepsWalks.setCell _ _ _,fin⟩
  .by_cases hsame:σ.2=2
   .obtain⟨ls,t,e1,e2⟩:=inv.last (by omega);rw[hsame]at k0c;have hsmt:=inv.small t (by rw[e1];simp);have hst:kT σ x=qp ls t x.2 2:=by unfold kT;rw[ae (by omega),ae (by omega),ae (by intro h;rcases h with h|h<;>omega),hk];unfold Kq;rw[e1];simp
    have HFS1:Hid (pF (pre++[x])=qp ls t x.2 2):=by rw[hfs,hst];exact rfl
    have hat1:Gz w (ls++[t],σ.2) so sl sc W:=by rw[<-e1];exact hat
    have htk:t.k=2:=by omega
    have hsm:0<=t.n/\t.n<=65535/\t.wd.size<=300:=⟨hsmt.1,hsmt.2.1,by omega⟩;obtain⟨g,c,esl,hgb,hgl⟩:=hat1.own.form (by simp);have e3:(ls++[t],σ.2).1.length=ls.length+1:=by simp
    rw[e3]at esl
    cases esl;rw[hk];clear hfs hst hf;have hfl:ls.length+1<=pre.length:=by have:=inv.few;rw[e1]at this;simpa using this
    clear inv hsmt hat e1 e2 hfew hgb hgl
    gi_wp2_with fail
    obtain⟨W1,hW1⟩:∃W1,W=W1:=⟨_,rfl⟩;have ko1:KeepsOthers W W1:=by rw[<-hW1];exact KeepsOthers.refl W
    rw[hW1]at hat1 ⊢;have own1:W1.ownsRow (w.heap.size+5) 116 5 (.slice (some ⟨g,0,none⟩) (ls.length+1) sc) (ls.length+1) (uk (ls++[t])):=by simpa using hat1.own
    obtain⟨tcs,tz0⟩:=zP own1 rfl;have tc0:=tcs 0 _ rfl;have Ll:=tcs 1 _ rfl;have tc2:=tcs 2 _ rfl;have tc3:=tcs 3 _ rfl;have tc4:=tcs 4 _ rfl;rw[jA]at tc0;have tz:∀i,W1.frozen? ⟨g,ls.length*5+i,none⟩=false:=λi=>tz0 _;have hg5:=(hat1.own.lt g rfl).1;have hadd:jh t x.2 = { t with wd:=t.wd++⟨#[x.2.toNat.toUInt8]⟩ }:=by unfold jh;rw[ag htk]
    have fin:=Gp (k:=2) (t':=jh t x.2) hat1 (j:=2) (v:=(.string (t.wd++⟨#[x.2.toNat.toUInt8]⟩))) (by omega) (by rw[hadd];rfl);have HAD:=aj hadd;have HFIN:=aj fin;clear hadd fin tcs own1;refine⟨trivial,?_⟩;refine(CallsIn.inRound l (gK.2 (Mt x.2 W1 g (ls.length*5) t.wd hr (by rw[<-htk];exact tc0) tc2 (tz 2) (by have:=hsm.2.2;omega)))).mono ?_;rintro e w2 ⟨rfl,hw2⟩;obtain⟨W2,hW2⟩:∃W2,W1.setCell ⟨g,ls.length*5+2,none⟩ (.string (t.wd++⟨#[x.2.toNat.toUInt8]⟩))=W2:=⟨_,rfl⟩;rw[hW2]at hw2;have hw3:=hw2.symm;clear hw2;subst hw3;have tn:W2.cell? ⟨g,ls.length*5+3,none⟩=some (.int .i32 (jh t x.2).n):=by
     rw[<-hW2,aa HAD];exact(rP _ _ _ _ (by simp)).trans tc3
    have tp:W2.cell? ⟨g,ls.length*5+1,none⟩=some (.int .i64 t.p):=by
     rw[<-hW2];exact(rP _ _ _ _ (by simp)).trans Ll
    have blk2:∀b,b<w.heap.size+5->W2.heap[b]?=W1.heap[b]?:=λb hb=>by rw[<-hW2];exact ay _ _ _ _ (by simp;omega)
    have k2:=kN ((blk2 _ (by omega)).trans hat1.k0);have r2:=kN ((blk2 _ (by omega)).trans hat1.r0);have q2:=tq ((blk2 _ (by omega)).trans hat1.r1);have ko2:KeepsOthers W W2:=by rw[<-hW2];exact ko1.trans (KeepsOthers.setCell _ _ _)
    rw[hW2]at HFIN;have hbig:¬ 65535<(jh t x.2).n:=by rw[aa HAD];show ¬ 65535<t.n;omega
    have fin:ScI w (pre++[x]) (W2.setCell ⟨w.heap.size+3,0,none⟩ (.int .i64 2)):=⟨_,_,_,_,by rw[aa HFS1];unfold qp;rw[ae hbig],aa HFIN⟩;have hle:(jh t x.2).n<=65535:=by omega
    obtain⟨nn,hnn⟩:∃nn,(jh t x.2).n=nn:=⟨_,rfl⟩;rw[hnn]at tn hle;clear HFS1 HFIN HAD hbig
    gi_wp2
    exact⟨(ko2.trans (KeepsOthers.setCell _ _ _)).from _,(ko2.trans (KeepsOthers.setCell _ _ _)).walks,fin⟩
   .have hst:kT σ x=qp σ.1 (xO 2 x.1) x.2 2:=by unfold kT;rw[ae (by omega),ae (by omega),ag (.inr (by omega)),hk]
    have HFS1:Hid (pF (pre++[x])=qp σ.1 (xO 2 x.1) x.2 2):=by rw[hfs,hst];exact rfl
    clear hfs hst hf;rw[hk];obtain⟨i0,hi0,hz0,hz1,hz2⟩:=dG Fs
    gi_wp2_with (gi_at_builtin;refine wpListIn_append_own _ rfl _ _ 103 rfl (w.heap.size+5) 116 i0 (.agg #[.int .i64 0,.int .i64 0,.string ⟨#[]⟩,.int .i32 0,.int .i32 0]) 5 40 Tryz.underlying103 hi0 hz0 hz1 hz2 rfl (by decide) (.slice so sl sc) σ.1.length (uk σ.1) rfl (hat.own.alloc _) ⟨W.heap.size,0,none⟩ 1 1 [.int .i64 2,.int .i64 x.1,.string ⟨#[]⟩,.int .i32 0,.int .i32 0] rfl rfl (World.news_of_block (aA W _)) (by simp[Value.oneCell']) (by unfold maxLen;omega) (by omega) (by simp;omega) ?_;intro v' wn hown hgrow _;obtain⟨g,c,rfl⟩:=ownsRow_succ hown;have hat1:=Qf (t:=xO 2 x.1) hat hown hgrow hlW;have cl:wn.heap[w.heap.size+2]?=some (.cells #[.slice so sl sc] 103 (0,0)):=(hgrow.block _ (by simp;omega) (λe=>by have:=(hat.own.lt _ e.symm).1;omega)).trans ((av W _ _ (by omega)).trans hat.l0);have clc:=(kN cl).1;have clz:=(kN cl).2)
    have ko1:KeepsOthers W (wn.setCell ⟨w.heap.size+2,0,none⟩ (.slice (some ⟨g,0,none⟩) (σ.1.length+1) c)):=((KeepsOthers.alloc W _).trans (KeepsOthers.of_grownBy hgrow (xW (hat.own.alloc _)))).trans (KeepsOthers.setCell _ _ _);obtain⟨W1,hW1⟩:∃W1,wn.setCell ⟨w.heap.size+2,0,none⟩ (.slice (some ⟨g,0,none⟩) (σ.1.length+1) c)=W1:=⟨_,rfl⟩;rw[hW1]at hat1 ko1 ⊢;obtain⟨t,hte⟩:∃t,xO 2 x.1=t:=⟨_,rfl⟩;obtain⟨ls,hls⟩:∃ls,σ.1=ls:=⟨_,rfl⟩;rw[hte,hls]at hat1 HFS1;rw[hls];have htk:t.k=2:=by rw[<-hte];rfl
    have hsm:0<=t.n/\t.n<=65535/\t.wd.size<=300:=by rw[<-hte];exact⟨dn _,(by show(0:Int)<=65535;decide),bO _⟩
    clear hown hgrow cl clc clz hte hW1 hls;have own1:W1.ownsRow (w.heap.size+5) 116 5 (.slice (some ⟨g,0,none⟩) (ls.length+1) c) (ls.length+1) (uk (ls++[t])):=by simpa using hat1.own
    obtain⟨tcs,tz0⟩:=zP own1 rfl;have tc0:=tcs 0 _ rfl;have Ll:=tcs 1 _ rfl;have tc2:=tcs 2 _ rfl;have tc3:=tcs 3 _ rfl;have tc4:=tcs 4 _ rfl;rw[jA]at tc0;have tz:∀i,W1.frozen? ⟨g,ls.length*5+i,none⟩=false:=λi=>tz0 _;have hg5:=(hat1.own.lt g rfl).1;have hadd:jh t x.2 = { t with wd:=t.wd++⟨#[x.2.toNat.toUInt8]⟩ }:=by unfold jh;rw[ag htk]
    have fin:=Gp (k:=2) (t':=jh t x.2) hat1 (j:=2) (v:=(.string (t.wd++⟨#[x.2.toNat.toUInt8]⟩))) (by omega) (by rw[hadd];rfl);have HAD:=aj hadd;have HFIN:=aj fin;clear hadd fin tcs own1;refine⟨trivial,?_⟩;refine(CallsIn.inRound l (gK.2 (Mt x.2 W1 g (ls.length*5) t.wd hr (by rw[<-htk];exact tc0) tc2 (tz 2) (by have:=hsm.2.2;omega)))).mono ?_;rintro e w2 ⟨rfl,hw2⟩;obtain⟨W2,hW2⟩:∃W2,W1.setCell ⟨g,ls.length*5+2,none⟩ (.string (t.wd++⟨#[x.2.toNat.toUInt8]⟩))=W2:=⟨_,rfl⟩;rw[hW2]at hw2;have hw3:=hw2.symm;clear hw2;subst hw3;have tn:W2.cell? ⟨g,ls.length*5+3,none⟩=some (.int .i32 (jh t x.2).n):=by
     rw[<-hW2,aa HAD];exact(rP _ _ _ _ (by simp)).trans tc3
    have tp:W2.cell? ⟨g,ls.length*5+1,none⟩=some (.int .i64 t.p):=by
     rw[<-hW2];exact(rP _ _ _ _ (by simp)).trans Ll
    have blk2:∀b,b<w.heap.size+5->W2.heap[b]?=W1.heap[b]?:=λb hb=>by rw[<-hW2];exact ay _ _ _ _ (by simp;omega)
    have k2:=kN ((blk2 _ (by omega)).trans hat1.k0);have r2:=kN ((blk2 _ (by omega)).trans hat1.r0);have q2:=tq ((blk2 _ (by omega)).trans hat1.r1);have ko2:KeepsOthers W W2:=by rw[<-hW2];exact ko1.trans (KeepsOthers.setCell _ _ _)
    rw[hW2]at HFIN;have hbig:¬ 65535<(jh t x.2).n:=by rw[aa HAD];show ¬ 65535<t.n;omega
    have fin:ScI w (pre++[x]) (W2.setCell ⟨w.heap.size+3,0,none⟩ (.int .i64 2)):=⟨_,_,_,_,by rw[aa HFS1];unfold qp;rw[ae hbig],aa HFIN⟩;have hle:(jh t x.2).n<=65535:=by omega
    obtain⟨nn,hnn⟩:∃nn,(jh t x.2).n=nn:=⟨_,rfl⟩;rw[hnn]at tn hle;clear HFS1 HFIN HAD hbig
    gi_wp2
    exact⟨(ko2.trans (KeepsOthers.setCell _ _ _)).from _,(ko2.trans (KeepsOthers.setCell _ _ _)).walks,fin⟩
  .by_cases hsame:σ.2=3
   .obtain⟨ls,t,e1,e2⟩:=inv.last (by omega);rw[hsame]at k0c;have hsmt:=inv.small t (by rw[e1];simp);have hst:kT σ x=qp ls t x.2 3:=by unfold kT;rw[ae (by omega),ae (by omega),ae (by intro h;rcases h with h|h<;>omega),hk];unfold Kq;rw[e1];simp
    have HFS1:Hid (pF (pre++[x])=qp ls t x.2 3):=by rw[hfs,hst];exact rfl
    have hat1:Gz w (ls++[t],σ.2) so sl sc W:=by rw[<-e1];exact hat
    have htk:t.k=3:=by omega
    have hsm:0<=t.n/\t.n<=65535/\t.wd.size<=300:=⟨hsmt.1,hsmt.2.1,by omega⟩;obtain⟨g,c,esl,hgb,hgl⟩:=hat1.own.form (by simp);have e3:(ls++[t],σ.2).1.length=ls.length+1:=by simp
    rw[e3]at esl
    cases esl;rw[hk];clear hfs hst hf;have hfl:ls.length+1<=pre.length:=by have:=inv.few;rw[e1]at this;simpa using this
    clear inv hsmt hat e1 e2 hfew hgb hgl
    gi_wp2_with fail
    obtain⟨W1,hW1⟩:∃W1,W=W1:=⟨_,rfl⟩;have ko1:KeepsOthers W W1:=by rw[<-hW1];exact KeepsOthers.refl W
    rw[hW1]at hat1 ⊢;have own1:W1.ownsRow (w.heap.size+5) 116 5 (.slice (some ⟨g,0,none⟩) (ls.length+1) sc) (ls.length+1) (uk (ls++[t])):=by simpa using hat1.own
    obtain⟨tcs,tz0⟩:=zP own1 rfl;have tc0:=tcs 0 _ rfl;have Ll:=tcs 1 _ rfl;have tc2:=tcs 2 _ rfl;have tc3:=tcs 3 _ rfl;have tc4:=tcs 4 _ rfl;rw[jA]at tc0;have tz:∀i,W1.frozen? ⟨g,ls.length*5+i,none⟩=false:=λi=>tz0 _;have hg5:=(hat1.own.lt g rfl).1;have hadd:jh t x.2 = { t with n:=10*t.n+x.2-48 }:=by unfold jh;rw[ae (by omega),ag htk]
    have fin:=Gp (k:=3) (t':=jh t x.2) hat1 (j:=3) (v:=(.int .i32 (10*t.n+x.2-48))) (by omega) (by rw[hadd];rfl);have HAD:=aj hadd;have HFIN:=aj fin;clear hadd fin tcs own1;refine⟨trivial,?_⟩;refine(CallsIn.inRound l (gK.2 (Gy x.2 t.n W1 g (ls.length*5) hr ⟨hsm.1,hsm.2.1⟩ (by rw[<-htk];exact tc0) tc3 (tz 3)))).mono ?_;rintro e w2 ⟨rfl,hw2⟩;obtain⟨W2,hW2⟩:∃W2,W1.setCell ⟨g,ls.length*5+3,none⟩ (.int .i32 (10*t.n+x.2-48))=W2:=⟨_,rfl⟩;rw[hW2]at hw2;have hw3:=hw2.symm;clear hw2;subst hw3;have tn:W2.cell? ⟨g,ls.length*5+3,none⟩=some (.int .i32 (jh t x.2).n):=by
     rw[<-hW2,aa HAD];exact World.cell?_setCell_same' _ _ _ (by rw[tc3];rfl)
    have tp:W2.cell? ⟨g,ls.length*5+1,none⟩=some (.int .i64 t.p):=by
     rw[<-hW2];exact(rP _ _ _ _ (by simp)).trans Ll
    have blk2:∀b,b<w.heap.size+5->W2.heap[b]?=W1.heap[b]?:=λb hb=>by rw[<-hW2];exact ay _ _ _ _ (by simp;omega)
    have k2:=kN ((blk2 _ (by omega)).trans hat1.k0);have r2:=kN ((blk2 _ (by omega)).trans hat1.r0);have q2:=tq ((blk2 _ (by omega)).trans hat1.r1);have ko2:KeepsOthers W W2:=by rw[<-hW2];exact ko1.trans (KeepsOthers.setCell _ _ _)
    rw[hW2]at HFIN;by_cases hbig:65535<(jh t x.2).n
    .have ht1:(jh t x.2).p=t.p:=by rw[aa HAD]
     have fin:∀W9:World,W9=((W2.setCell ⟨w.heap.size,0,none⟩ (.slice none 0 0)).setCell ⟨w.heap.size+1,0,none⟩ (.int .i64 8)).setCell ⟨w.heap.size+1,1,none⟩ (.int .i64 t.p)->ScX w .ret (pre++[x]) W9.drew:=by
      rintro W9 rfl;refine⟨rfl,t.p,by rw[aa HFS1];unfold qp;rw[ag hbig,ht1],?_,?_,?_⟩
      .exact(ay _ _ _ _ (by simp)).trans ((ay _ _ _ _ (by simp)).trans (aM _ w.heap.size 0 _ _ _ ((blk2 _ (by omega)).trans hat1.r0)))
      .exact aM _ (w.heap.size+1) 1 _ _ _ (aM _ (w.heap.size+1) 0 _ _ _ ((ay _ _ _ _ (by simp)).trans ((blk2 _ (by omega)).trans hat1.r1)))
      .have b2:Below w.heap.size w W2:=by rw[<-hW2];exact hat1.bel.setCell (p:=⟨g,ls.length*5+3,none⟩) (by simp;omega) _
       exact(((b2.setCell (p:=⟨w.heap.size,0,none⟩) (af _) _).setCell (p:=⟨w.heap.size+1,0,none⟩) (by simp) _).setCell (p:=⟨w.heap.size+1,1,none⟩) (by simp) _).drew
     have hgt:65535<(jh t x.2).n:=hbig;obtain⟨nn,hnn⟩:∃nn,(jh t x.2).n=nn:=⟨_,rfl⟩;rw[hnn]at tn hgt;clear HFS1 HFIN HAD hbig
     gi_wp2
     gi_region
     all_goals gi_wp2
     all_goals exact⟨((((ko2.trans (KeepsOthers.setCell _ _ _)).trans (KeepsOthers.setCell _ _ _)).trans (KeepsOthers.setCell _ _ _)).trans (KeepsOthers.drew _)).from _,fin _ rfl⟩
    .have fin:ScI w (pre++[x]) (W2.setCell ⟨w.heap.size+3,0,none⟩ (.int .i64 3)):=⟨_,_,_,_,by rw[aa HFS1];unfold qp;rw[ae hbig],aa HFIN⟩;have hle:(jh t x.2).n<=65535:=by omega
     obtain⟨nn,hnn⟩:∃nn,(jh t x.2).n=nn:=⟨_,rfl⟩;rw[hnn]at tn hle;clear HFS1 HFIN HAD hbig
     gi_wp2
     exact⟨(ko2.trans (KeepsOthers.setCell _ _ _)).from _,(ko2.trans (KeepsOthers.setCell _ _ _)).walks,fin⟩
   .have hst:kT σ x=qp σ.1 (xO 3 x.1) x.2 3:=by unfold kT;rw[ae (by omega),ae (by omega),ag (.inr (by omega)),hk]
    have HFS1:Hid (pF (pre++[x])=qp σ.1 (xO 3 x.1) x.2 3):=by rw[hfs,hst];exact rfl
    clear hfs hst hf;rw[hk];obtain⟨i0,hi0,hz0,hz1,hz2⟩:=dG Fs
    gi_wp2_with (gi_at_builtin;refine wpListIn_append_own _ rfl _ _ 103 rfl (w.heap.size+5) 116 i0 (.agg #[.int .i64 0,.int .i64 0,.string ⟨#[]⟩,.int .i32 0,.int .i32 0]) 5 40 Tryz.underlying103 hi0 hz0 hz1 hz2 rfl (by decide) (.slice so sl sc) σ.1.length (uk σ.1) rfl (hat.own.alloc _) ⟨W.heap.size,0,none⟩ 1 1 [.int .i64 3,.int .i64 x.1,.string ⟨#[]⟩,.int .i32 0,.int .i32 0] rfl rfl (World.news_of_block (aA W _)) (by simp[Value.oneCell']) (by unfold maxLen;omega) (by omega) (by simp;omega) ?_;intro v' wn hown hgrow _;obtain⟨g,c,rfl⟩:=ownsRow_succ hown;have hat1:=Qf (t:=xO 3 x.1) hat hown hgrow hlW;have cl:wn.heap[w.heap.size+2]?=some (.cells #[.slice so sl sc] 103 (0,0)):=(hgrow.block _ (by simp;omega) (λe=>by have:=(hat.own.lt _ e.symm).1;omega)).trans ((av W _ _ (by omega)).trans hat.l0);have clc:=(kN cl).1;have clz:=(kN cl).2)
    have ko1:KeepsOthers W (wn.setCell ⟨w.heap.size+2,0,none⟩ (.slice (some ⟨g,0,none⟩) (σ.1.length+1) c)):=((KeepsOthers.alloc W _).trans (KeepsOthers.of_grownBy hgrow (xW (hat.own.alloc _)))).trans (KeepsOthers.setCell _ _ _);obtain⟨W1,hW1⟩:∃W1,wn.setCell ⟨w.heap.size+2,0,none⟩ (.slice (some ⟨g,0,none⟩) (σ.1.length+1) c)=W1:=⟨_,rfl⟩;rw[hW1]at hat1 ko1 ⊢;obtain⟨t,hte⟩:∃t,xO 3 x.1=t:=⟨_,rfl⟩;obtain⟨ls,hls⟩:∃ls,σ.1=ls:=⟨_,rfl⟩;rw[hte,hls]at hat1 HFS1;rw[hls];have htk:t.k=3:=by rw[<-hte];rfl
    have hsm:0<=t.n/\t.n<=65535/\t.wd.size<=300:=by rw[<-hte];exact⟨dn _,(by show(0:Int)<=65535;decide),bO _⟩
    clear hown hgrow cl clc clz hte hW1 hls;have own1:W1.ownsRow (w.heap.size+5) 116 5 (.slice (some ⟨g,0,none⟩) (ls.length+1) c) (ls.length+1) (uk (ls++[t])):=by simpa using hat1.own
    obtain⟨tcs,tz0⟩:=zP own1 rfl;have tc0:=tcs 0 _ rfl;have Ll:=tcs 1 _ rfl;have tc2:=tcs 2 _ rfl;have tc3:=tcs 3 _ rfl;have tc4:=tcs 4 _ rfl;rw[jA]at tc0;have tz:∀i,W1.frozen? ⟨g,ls.length*5+i,none⟩=false:=λi=>tz0 _;have hg5:=(hat1.own.lt g rfl).1;have hadd:jh t x.2 = { t with n:=10*t.n+x.2-48 }:=by unfold jh;rw[ae (by omega),ag htk]
    have fin:=Gp (k:=3) (t':=jh t x.2) hat1 (j:=3) (v:=(.int .i32 (10*t.n+x.2-48))) (by omega) (by rw[hadd];rfl);have HAD:=aj hadd;have HFIN:=aj fin;clear hadd fin tcs own1;refine⟨trivial,?_⟩;refine(CallsIn.inRound l (gK.2 (Gy x.2 t.n W1 g (ls.length*5) hr ⟨hsm.1,hsm.2.1⟩ (by rw[<-htk];exact tc0) tc3 (tz 3)))).mono ?_;rintro e w2 ⟨rfl,hw2⟩;obtain⟨W2,hW2⟩:∃W2,W1.setCell ⟨g,ls.length*5+3,none⟩ (.int .i32 (10*t.n+x.2-48))=W2:=⟨_,rfl⟩;rw[hW2]at hw2;have hw3:=hw2.symm;clear hw2;subst hw3;have tn:W2.cell? ⟨g,ls.length*5+3,none⟩=some (.int .i32 (jh t x.2).n):=by
     rw[<-hW2,aa HAD];exact World.cell?_setCell_same' _ _ _ (by rw[tc3];rfl)
    have tp:W2.cell? ⟨g,ls.length*5+1,none⟩=some (.int .i64 t.p):=by
     rw[<-hW2];exact(rP _ _ _ _ (by simp)).trans Ll
    have blk2:∀b,b<w.heap.size+5->W2.heap[b]?=W1.heap[b]?:=λb hb=>by rw[<-hW2];exact ay _ _ _ _ (by simp;omega)
    have k2:=kN ((blk2 _ (by omega)).trans hat1.k0);have r2:=kN ((blk2 _ (by omega)).trans hat1.r0);have q2:=tq ((blk2 _ (by omega)).trans hat1.r1);have ko2:KeepsOthers W W2:=by rw[<-hW2];exact ko1.trans (KeepsOthers.setCell _ _ _)
    rw[hW2]at HFIN;by_cases hbig:65535<(jh t x.2).n
    .have ht1:(jh t x.2).p=t.p:=by rw[aa HAD]
     have fin:∀W9:World,W9=((W2.setCell ⟨w.heap.size,0,none⟩ (.slice none 0 0)).setCell ⟨w.heap.size+1,0,none⟩ (.int .i64 8)).setCell ⟨w.heap.size+1,1,none⟩ (.int .i64 t.p)->ScX w .ret (pre++[x]) W9.drew:=by
      rintro W9 rfl;refine⟨rfl,t.p,by rw[aa HFS1];unfold qp;rw[ag hbig,ht1],?_,?_,?_⟩
      .exact(ay _ _ _ _ (by simp)).trans ((ay _ _ _ _ (by simp)).trans (aM _ w.heap.size 0 _ _ _ ((blk2 _ (by omega)).trans hat1.r0)))
      .exact aM _ (w.heap.size+1) 1 _ _ _ (aM _ (w.heap.size+1) 0 _ _ _ ((ay _ _ _ _ (by simp)).trans ((blk2 _ (by omega)).trans hat1.r1)))
      .have b2:Below w.heap.size w W2:=by rw[<-hW2];exact hat1.bel.setCell (p:=⟨g,ls.length*5+3,none⟩) (by simp;omega) _
       exact(((b2.setCell (p:=⟨w.heap.size,0,none⟩) (af _) _).setCell (p:=⟨w.heap.size+1,0,none⟩) (by simp) _).setCell (p:=⟨w.heap.size+1,1,none⟩) (by simp) _).drew
     have hgt:65535<(jh t x.2).n:=hbig;obtain⟨nn,hnn⟩:∃nn,(jh t x.2).n=nn:=⟨_,rfl⟩;rw[hnn]at tn hgt;clear HFS1 HFIN HAD hbig
     gi_wp2
     gi_region
     all_goals gi_wp2
     all_goals exact⟨((((ko2.trans (KeepsOthers.setCell _ _ _)).trans (KeepsOthers.setCell _ _ _)).trans (KeepsOthers.setCell _ _ _)).trans (KeepsOthers.drew _)).from _,fin _ rfl⟩
    .have fin:ScI w (pre++[x]) (W2.setCell ⟨w.heap.size+3,0,none⟩ (.int .i64 3)):=⟨_,_,_,_,by rw[aa HFS1];unfold qp;rw[ae hbig],aa HFIN⟩;have hle:(jh t x.2).n<=65535:=by omega
     obtain⟨nn,hnn⟩:∃nn,(jh t x.2).n=nn:=⟨_,rfl⟩;rw[hnn]at tn hle;clear HFS1 HFIN HAD hbig
     gi_wp2
     exact⟨(ko2.trans (KeepsOthers.setCell _ _ _)).from _,(ko2.trans (KeepsOthers.setCell _ _ _)).walks,fin⟩
  .have hst:kT σ x=qp σ.1 (xO 4 x.1) x.2 4:=by unfold kT;rw[ae (by omega),ae (by omega),ag (.inl hk),hk]
   have HFS1:Hid (pF (pre++[x])=qp σ.1 (xO 4 x.1) x.2 4):=by rw[hfs,hst];exact rfl
   clear hfs hst hf;rw[hk];obtain⟨i0,hi0,hz0,hz1,hz2⟩:=dG Fs
   gi_wp2_with (gi_at_builtin;refine wpListIn_append_own _ rfl _ _ 103 rfl (w.heap.size+5) 116 i0 (.agg #[.int .i64 0,.int .i64 0,.string ⟨#[]⟩,.int .i32 0,.int .i32 0]) 5 40 Tryz.underlying103 hi0 hz0 hz1 hz2 rfl (by decide) (.slice so sl sc) σ.1.length (uk σ.1) rfl (hat.own.alloc _) ⟨W.heap.size,0,none⟩ 1 1 [.int .i64 4,.int .i64 x.1,.string ⟨#[]⟩,.int .i32 0,.int .i32 0] rfl rfl (World.news_of_block (aA W _)) (by simp[Value.oneCell']) (by unfold maxLen;omega) (by omega) (by simp;omega) ?_;intro v' wn hown hgrow _;obtain⟨g,c,rfl⟩:=ownsRow_succ hown;have hat1:=Qf (t:=xO 4 x.1) hat hown hgrow hlW;have cl:wn.heap[w.heap.size+2]?=some (.cells #[.slice so sl sc] 103 (0,0)):=(hgrow.block _ (by simp;omega) (λe=>by have:=(hat.own.lt _ e.symm).1;omega)).trans ((av W _ _ (by omega)).trans hat.l0);have clc:=(kN cl).1;have clz:=(kN cl).2)
   have ko1:KeepsOthers W (wn.setCell ⟨w.heap.size+2,0,none⟩ (.slice (some ⟨g,0,none⟩) (σ.1.length+1) c)):=((KeepsOthers.alloc W _).trans (KeepsOthers.of_grownBy hgrow (xW (hat.own.alloc _)))).trans (KeepsOthers.setCell _ _ _);obtain⟨W1,hW1⟩:∃W1,wn.setCell ⟨w.heap.size+2,0,none⟩ (.slice (some ⟨g,0,none⟩) (σ.1.length+1) c)=W1:=⟨_,rfl⟩;rw[hW1]at hat1 ko1 ⊢;obtain⟨t,hte⟩:∃t,xO 4 x.1=t:=⟨_,rfl⟩;obtain⟨ls,hls⟩:∃ls,σ.1=ls:=⟨_,rfl⟩;rw[hte,hls]at hat1 HFS1;rw[hls];have htk:t.k=4:=by rw[<-hte];rfl
   have hsm:0<=t.n/\t.n<=65535/\t.wd.size<=300:=by rw[<-hte];exact⟨dn _,(by show(0:Int)<=65535;decide),bO _⟩
   clear hown hgrow cl clc clz hte hW1 hls;have own1:W1.ownsRow (w.heap.size+5) 116 5 (.slice (some ⟨g,0,none⟩) (ls.length+1) c) (ls.length+1) (uk (ls++[t])):=by simpa using hat1.own
   obtain⟨tcs,tz0⟩:=zP own1 rfl;have tc0:=tcs 0 _ rfl;have Ll:=tcs 1 _ rfl;have tc2:=tcs 2 _ rfl;have tc3:=tcs 3 _ rfl;have tc4:=tcs 4 _ rfl;rw[jA]at tc0;have tz:∀i,W1.frozen? ⟨g,ls.length*5+i,none⟩=false:=λi=>tz0 _;have hg5:=(hat1.own.lt g rfl).1;have hadd:jh t x.2 = { t with s:=x.2 }:=by unfold jh;rw[ae (by omega),ae (by omega)]
   have fin:=Gp (k:=4) (t':=jh t x.2) hat1 (j:=4) (v:=(.int .i32 x.2)) (by omega) (by rw[hadd];rfl);have HAD:=aj hadd;have HFIN:=aj fin;clear hadd fin tcs own1;refine⟨trivial,?_⟩;refine(CallsIn.inRound l (gK.2 (X0 x.2 t.s W1 g (ls.length*5) (by rw[<-htk];exact tc0) tc4 (tz 4)))).mono ?_;rintro e w2 ⟨rfl,hw2⟩;obtain⟨W2,hW2⟩:∃W2,W1.setCell ⟨g,ls.length*5+4,none⟩ (.int .i32 x.2)=W2:=⟨_,rfl⟩;rw[hW2]at hw2;have hw3:=hw2.symm;clear hw2;subst hw3;have tn:W2.cell? ⟨g,ls.length*5+3,none⟩=some (.int .i32 (jh t x.2).n):=by
    rw[<-hW2,aa HAD];exact(rP _ _ _ _ (by simp)).trans tc3
   have tp:W2.cell? ⟨g,ls.length*5+1,none⟩=some (.int .i64 t.p):=by
    rw[<-hW2];exact(rP _ _ _ _ (by simp)).trans Ll
   have blk2:∀b,b<w.heap.size+5->W2.heap[b]?=W1.heap[b]?:=λb hb=>by rw[<-hW2];exact ay _ _ _ _ (by simp;omega)
   have k2:=kN ((blk2 _ (by omega)).trans hat1.k0);have r2:=kN ((blk2 _ (by omega)).trans hat1.r0);have q2:=tq ((blk2 _ (by omega)).trans hat1.r1);have ko2:KeepsOthers W W2:=by rw[<-hW2];exact ko1.trans (KeepsOthers.setCell _ _ _)
   rw[hW2]at HFIN;have hbig:¬ 65535<(jh t x.2).n:=by rw[aa HAD];show ¬ 65535<t.n;omega
   have fin:ScI w (pre++[x]) (W2.setCell ⟨w.heap.size+3,0,none⟩ (.int .i64 4)):=⟨_,_,_,_,by rw[aa HFS1];unfold qp;rw[ae hbig],aa HFIN⟩;have hle:(jh t x.2).n<=65535:=by omega
   obtain⟨nn,hnn⟩:∃nn,(jh t x.2).n=nn:=⟨_,rfl⟩;rw[hnn]at tn hle;clear HFS1 HFIN HAD hbig
   gi_wp2
   exact⟨(ko2.trans (KeepsOthers.setCell _ _ _)).from _,(ko2.trans (KeepsOthers.setCell _ _ _)).walks,fin⟩
end Go.Proofs.YthmmgiaobakilaaGreat
