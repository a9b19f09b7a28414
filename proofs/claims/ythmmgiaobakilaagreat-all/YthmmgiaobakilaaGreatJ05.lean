import Derived.Test.YthmmgiaobakilaaGreatJ03
import Derived.Test.YthmmgiaobakilaaGreatJ04
import Derived.Deep.RegionWith
import Derived.Lib.DecodeN
set_option maxRecDepth 100000
set_option maxHeartbeats 8000000
set_option linter.all false
namespace Go.Proofs.YthmmgiaobakilaaGreat
open Go.RowKit
variable {Q:Nat->Prop} {T:List aH} {b g k o pb:Nat} {l:List ByteArray} {r:Except Nat (Unit×Nat)} {s:ByteArray} {sv:Value} {t:aH} {ty:TypeId} {w w':World}
def mo (f:Int):Int:=if f=0 then 9 else f
def nY (f pl at_:Int):Int:=if f=0 then at_ else pl
theorem IX (w:World) (k p:Int) (wd:ByteArray) (n s:Int):(Instr.field 116 (.agg #[.int .i64 k,.int .i64 p,.string wd,.int .i32 n,.int .i32 s]) 0).run Tryz.prog w=.ok (.int .i64 k) w:=by kernel_rfl
theorem Tt (w:World) (k p:Int) (wd:ByteArray) (n s:Int):(Instr.field 116 (.agg #[.int .i64 k,.int .i64 p,.string wd,.int .i32 n,.int .i32 s]) 1).run Tryz.prog w=.ok (.int .i64 p) w:=by kernel_rfl
theorem xV (w:World) (pb tb cap i:Nat) (T:List aH) (f pl:Int) (h:bg w pb tb cap T i f pl) :
  Calls Tryz.prog 89 #[.pointer (some ⟨pb,0,none⟩)] w λe w'=>e=.returned (.tuple #[])/\bg w' pb tb cap T (T.length-1) (mo f) (nY f pl (ah T i).place)/\aB pb w w':=by
 go_enter Tryz.func89,Tryz.ntmps89;have hd:bg w.drew pb tb cap T i f pl:=h.later (λ_ _=>rfl);have kd:aB pb w w.drew:=⟨af _,λ_ _ _=>rfl,⟨rfl,rfl,rfl⟩⟩;clear h;have tp:=Tt;go_wp2_with fail
 go_region_with (first
  | (go_at_call_of 85 (Value.pointer (some ⟨pb,0,none⟩));refine(dM _ pb tb cap i T f pl ?_).mono ?_;exact hd;rintro e w1 ⟨rfl,hb1⟩;have h1:=hd.below hb1 (af _);have k1:=kd.trans (aB.below (pb:=pb) hb1);clear hb1;unfold jC pE)
  | (go_at_call_of 117 (Value.pointer (some ⟨pb,1,none⟩));refine(VS _ pb tb cap i T f pl 9 _ h1).mono ?_;rintro e w2 ⟨rfl,h2,hk2⟩))
 have K2:=aj (k1.trans hk2);clear hd kd h1 k1 hk2;have c0:=h2.cell 0;have z0:=h2.thaw 0;simp at c0;have hl:=h2.lt;have hroom:=h2.room;have hfew:=h2.few;obtain⟨n,hn⟩:∃n,T.length-i=n+1:=⟨T.length-i-1,by omega⟩;obtain⟨m,hm⟩:∃m,cap-i=m:=⟨_,rfl⟩;rw[hn,hm]at c0;have hmi:((n+1:Nat):Int)-1=(n:Int):=by omega
 have hnm:n+1<=m:=by omega
 have hmx:m<=maxLen:=by omega
 have hmv:=aj ((h2.later (w':=w2.drew) (λ_ _=>rfl)).move (T.length-1) (by omega));have k3:=aj (((aa K2).trans (⟨af _,λ_ _ _=>rfl,⟨rfl,rfl,rfl⟩⟩:aB pb w2 w2.drew)).trans (aB.set pb w2.drew 0 (.slice (some ⟨tb,(T.length-1)*5,none⟩) (T.length-(T.length-1)) (cap-(T.length-1)))));rw[show(T.length-1)*5=i*5+n*5 by omega,show T.length-(T.length-1)=1 by omega,show cap-(T.length-1)=m-n by omega]at hmv k3;clear h2;go_wp2
 go_region
 go_end0
 exact⟨rfl,aa hmv,aa k3⟩
def IZ (T:List aH) (i:Nat) (r:Int):Bool:=(kP (ah T i)==4)&&(sP (ah T i)==r)
theorem fG (w:World) (r:Int):Aw (w.alloc (.cells #[.int .i32 r] 21)) w.heap.size 0 [r]:=AQ w [r]
theorem KU (w:World) (pb tb cap i:Nat) (T:List aH) (f pl r:Int) (h:bg w pb tb cap T i f pl) (hs:IZ T i r=true) (hi:i+1<T.length) :
  Calls Tryz.prog 111 #[.pointer (some ⟨pb,0,none⟩),.int .i32 r] w λe w'=>e=.returned (.tuple #[])/\bg w' pb tb cap T (i+1) f pl/\aB pb w w':=by
 go_enter Tryz.func111,Tryz.ntmps111;go_wp2_with fail;refine(dM w pb tb cap i T f pl h).mono ?_;rintro e w1 ⟨rfl,hb1⟩;have h1:=h.below hb1 (af _);have k1:aB pb w w1:=aB.below hb1;clear h hb1;go_wp2_with fail;refine(di _ (kP (ah T i)) (ah T i).place (nP (ah T i)) (sP (ah T i)) (wP (ah T i)) w1.heap.size 0 1 [r] (fG w1 r) (by simp)).mono ?_;rintro e w2 ⟨rfl,hb2⟩;have h2:=(h1.alloc _).below hb2 (af _);have k2:=(k1.trans (aB.alloc pb w1 _)).trans (aB.below hb2);have es:((kP (ah T i)==4)&&[r].any (λt=>sP (ah T i)==t))=true:=by
  rw[df,ig,gZ];exact hs
 rw[es];have K2:=aj k2;clear h1 k1 hb2 k2 es;go_wp2_with fail;refine(jB _ pb tb cap i T f pl h2 hi).mono ?_;rintro e w3 ⟨rfl,h3,k3⟩;go_wp2
 go_end0
 exact⟨rfl,h3,(aa K2).trans k3⟩
theorem EW (w:World) (pb tb cap i:Nat) (T:List aH) (f pl r:Int) (h:bg w pb tb cap T i f pl) (hs:IZ T i r=false) :
  Calls Tryz.prog 111 #[.pointer (some ⟨pb,0,none⟩),.int .i32 r] w λe w'=>e=.returned (.tuple #[])/\bg w' pb tb cap T (T.length-1) (mo f) (nY f pl (ah T i).place)/\aB pb w w':=by
 go_enter Tryz.func111,Tryz.ntmps111;go_wp2_with fail;refine(dM w pb tb cap i T f pl h).mono ?_;rintro e w1 ⟨rfl,hb1⟩;have h1:=h.below hb1 (af _);have k1:aB pb w w1:=aB.below hb1;clear h hb1;go_wp2_with fail;refine(di _ (kP (ah T i)) (ah T i).place (nP (ah T i)) (sP (ah T i)) (wP (ah T i)) w1.heap.size 0 1 [r] (fG w1 r) (by simp)).mono ?_;rintro e w2 ⟨rfl,hb2⟩;have h2:=(h1.alloc _).below hb2 (af _);have k2:=(k1.trans (aB.alloc pb w1 _)).trans (aB.below hb2);have es:((kP (ah T i)==4)&&[r].any (λt=>sP (ah T i)==t))=false:=by
  rw[df,ig,gZ];exact hs
 rw[es];have K2:=aj k2;clear h1 k1 hb2 k2 es;go_wp2_with fail;refine(xV _ pb tb cap i T f pl h2).mono ?_;rintro e w3 ⟨rfl,h3,k3⟩;go_wp2;refine aL (pY rfl _ _ _) rfl ?_;exact⟨rfl,h3,(aa K2).trans k3⟩
def Ow (T:List aH) (i:Nat):Bool:=(kP (ah T i)==2) && !uS.any (λt=>(wP (ah T i)).toList==t.toList)
theorem bg.other {tb cap i:Nat} {f pl:Int} (h:bg w pb tb cap T i f pl) (v:Value) (h1:b≠pb) (h2:b≠tb):bg (w.setCell ⟨b,k,none⟩ v) pb tb cap T i f pl:=
 ⟨(ay _ _ _ _ (λe=>h1 e.symm)).trans h.blk,h.toks.same (ay _ _ _ _ (λe=>h2 e.symm)),h.low,h.lt,h.few,h.room⟩
theorem aB.new (h:aB pb w w') (v:Value) (hb:w.heap.size<=b):aB pb w (w'.setCell ⟨b,k,none⟩ v):=
 ⟨by have:=h.1;simp;omega,λj hj hn=>(ay _ _ _ _ (by show j≠b;omega)).trans (h.2 j hj hn),h.same.set _ _⟩
theorem Dp (w:World) (pb tb cap i:Nat) (T:List aH) (f pl:Int) (h:bg w pb tb cap T i f pl) (hs:Ow T i=true) (hi:i+1<T.length) :
  Calls Tryz.prog 109 #[.pointer (some ⟨pb,0,none⟩)] w λe w'=>e=.returned (jC (ah T i))/\bg w' pb tb cap T (i+1) f pl/\aB pb w w':=by
 have hp:=h.plt;go_enter Tryz.func109,Tryz.ntmps109;go_wp2_with fail;refine(dM _ pb tb cap i T f pl (h.alloc _)).mono ?_;rintro e w1 ⟨rfl,hb1⟩;have h1:=(h.alloc _).below hb1 (af _);have k1:=(aB.alloc pb w _).trans (aB.below (pb:=pb) hb1);have q0:w1.heap[w.heap.size]?=some (.cells #[.int .i64 0,.int .i64 0,.string ⟨#[]⟩,.int .i32 0,.int .i32 0] 116 (0,0)):=(hb1.block _ (by simp)).trans (aA w _);clear h hb1;go_wp2_with fail;refine(gG _ (kP (ah T i)) (ah T i).place (nP (ah T i)) (sP (ah T i)) (wP (ah T i))).mono ?_;rintro e w2 ⟨rfl,hb2⟩;have h2:=h1.below hb2 (af _);have k2:=k1.trans (aB.below (pb:=pb) hb2);have lt1:w.heap.size<w1.heap.size:=(az.1 q0).1;have q2:=(hb2.block _ lt1).trans q0;have es:((kP (ah T i)==2) && !uS.any (λt=>(wP (ah T i)).toList==t.toList))=true:=hs;rw[es];clear h1 k1 hb2 es q0;go_wp2_with fail;refine(jB _ pb tb cap i T f pl h2 hi).mono ?_;rintro e w3 ⟨rfl,h3,k3⟩;have lt2:w.heap.size<w2.heap.size:=(az.1 q2).1;have q3:=(k3.2 _ lt2 (by omega)).trans q2;have K3:=aj (k2.trans k3);have d0:∀k,w3.cell? ⟨w.heap.size,k,none⟩=#[Value.int .i64 0,.int .i64 0,.string ⟨#[]⟩,.int .i32 0,.int .i32 0][k]?:=λk=>by simp only[World.cell?];rw[q3];simp
 have e0:∀k,w3.frozen? ⟨w.heap.size,k,none⟩=false:=λk=>by simp only[World.frozen?];rw[q3];simp
 have d1:=d0 0;have d2:=d0 1;have d3:=d0 2;have d4:=d0 3;have d5:=d0 4;have e1:=e0 0;have e2:=e0 1;have e3:=e0 2;have e4:=e0 3;have e5:=e0 4;simp at d1 d2 d3 d4 d5;clear d0 e0 k2 k3 q2 h2;have hlow:=h3.low;unfold jC pE;go_wp2;refine aL (v:=jC (ah T i)) (by simp[results,Tryz.results109,go_sem,jC,pE,d1,d2,d3,d4,d5]) rfl ⟨rfl,?_,?_⟩
 .exact((((h3.other _ (by omega) (by omega)).other _ (by omega) (by omega)).other _ (by omega) (by omega)).other _ (by omega) (by omega)).other _ (by omega) (by omega)
 .exact(((((aa K3).new _ (af _)).new _ (af _)).new _ (af _)).new _ (af _)).new _ (af _)
theorem EU (w:World) (pb tb cap i:Nat) (T:List aH) (f pl:Int) (h:bg w pb tb cap T i f pl) (hs:Ow T i=false) :
  Calls Tryz.prog 109 #[.pointer (some ⟨pb,0,none⟩)] w λe w'=>e=.returned (pE 0 0 ⟨#[]⟩ 0 0)/\bg w' pb tb cap T (T.length-1) (mo f) (nY f pl (ah T i).place)/\aB pb w w':=by
 have hp:=h.plt;go_enter Tryz.func109,Tryz.ntmps109;go_wp2_with fail;refine(dM _ pb tb cap i T f pl (h.alloc _)).mono ?_;rintro e w1 ⟨rfl,hb1⟩;have h1:=(h.alloc _).below hb1 (af _);have k1:=(aB.alloc pb w _).trans (aB.below (pb:=pb) hb1);have q0:w1.heap[w.heap.size]?=some (.cells #[.int .i64 0,.int .i64 0,.string ⟨#[]⟩,.int .i32 0,.int .i32 0] 116 (0,0)):=(hb1.block _ (by simp)).trans (aA w _);have lt1:w.heap.size<w1.heap.size:=(az.1 q0).1;clear h hb1;go_wp2_with fail;refine(gG _ (kP (ah T i)) (ah T i).place (nP (ah T i)) (sP (ah T i)) (wP (ah T i))).mono ?_;rintro e w2 ⟨rfl,hb2⟩;have h2:=h1.below hb2 (af _);have k2:=k1.trans (aB.below (pb:=pb) hb2);have q2:=(hb2.block _ lt1).trans q0;have es:((kP (ah T i)==2) && !uS.any (λt=>(wP (ah T i)).toList==t.toList))=false:=hs;rw[es];clear h1 k1 hb2 es q0;go_wp2_with fail;refine(xV _ pb tb cap i T f pl h2).mono ?_;rintro e w3 ⟨rfl,h3,k3⟩;have lt2:w.heap.size<w2.heap.size:=(az.1 q2).1;have q3:=(k3.2 _ lt2 (by omega)).trans q2;have K3:=aj (k2.trans k3);have d0:∀k,w3.cell? ⟨w.heap.size,k,none⟩=#[Value.int .i64 0,.int .i64 0,.string ⟨#[]⟩,.int .i32 0,.int .i32 0][k]?:=λk=>by simp only[World.cell?];rw[q3];simp
 have e0:∀k,w3.frozen? ⟨w.heap.size,k,none⟩=false:=λk=>by simp only[World.frozen?];rw[q3];simp
 have d1:=d0 0;have d2:=d0 1;have d3:=d0 2;have d4:=d0 3;have d5:=d0 4;have e1:=e0 0;have e2:=e0 1;have e3:=e0 2;have e4:=e0 3;have e5:=e0 4;simp at d1 d2 d3 d4 d5;clear d0 e0 k2 k3 q2 h2;have hlow:=h3.low;go_wp2;refine aL (v:=pE 0 0 ⟨#[]⟩ 0 0) (by simp[results,Tryz.results109,go_sem,jC,pE,d1,d2,d3,d4,d5]) rfl ⟨rfl,?_,?_⟩
 .exact((((h3.other _ (by omega) (by omega)).other _ (by omega) (by omega)).other _ (by omega) (by omega)).other _ (by omega) (by omega)).other _ (by omega) (by omega)
 .exact(((((aa K3).new _ (af _)).new _ (af _)).new _ (af _)).new _ (af _)).new _ (af _)
theorem GJ (w:World) (pb tb cap i:Nat) (T:List aH) (f pl:Int) (h:bg w pb tb cap T i f pl) (hs:(kP (ah T i)==3)=true) (hi:i+1<T.length) :
  Calls Tryz.prog 132 #[.pointer (some ⟨pb,0,none⟩)] w λe w'=>e=.returned (jC (ah T i))/\bg w' pb tb cap T (i+1) f pl/\aB pb w w':=by
 have hp:=h.plt;go_enter Tryz.func132,Tryz.ntmps132;go_wp2_with fail;refine(dM _ pb tb cap i T f pl (h.alloc _)).mono ?_;rintro e w1 ⟨rfl,hb1⟩;have h1:=(h.alloc _).below hb1 (af _);have k1:=(aB.alloc pb w _).trans (aB.below (pb:=pb) hb1);have q0:w1.heap[w.heap.size]?=some (.cells #[.int .i64 0,.int .i64 0,.string ⟨#[]⟩,.int .i32 0,.int .i32 0] 116 (0,0)):=(hb1.block _ (by simp)).trans (aA w _);have lt1:w.heap.size<w1.heap.size:=(az.1 q0).1;clear h hb1;have h2:=h1;have k2:=k1;have q2:=q0;obtain⟨w2,hw2⟩:∃w2,w2=w1:=⟨_,rfl⟩;rw[<-hw2]at h2 k2 q2;clear h1 k1 q0;subst hw2;have tk:=IX;unfold jC pE;go_wp2_with fail;refine(jB _ pb tb cap i T f pl h2 hi).mono ?_;rintro e w3 ⟨rfl,h3,k3⟩;have lt2:w.heap.size<w2.heap.size:=(az.1 q2).1;have q3:=(k3.2 _ lt2 (by omega)).trans q2;have K3:=aj (k2.trans k3);have d0:∀k,w3.cell? ⟨w.heap.size,k,none⟩=#[Value.int .i64 0,.int .i64 0,.string ⟨#[]⟩,.int .i32 0,.int .i32 0][k]?:=λk=>by simp only[World.cell?];rw[q3];simp
 have e0:∀k,w3.frozen? ⟨w.heap.size,k,none⟩=false:=λk=>by simp only[World.frozen?];rw[q3];simp
 have d1:=d0 0;have d2:=d0 1;have d3:=d0 2;have d4:=d0 3;have d5:=d0 4;have e1:=e0 0;have e2:=e0 1;have e3:=e0 2;have e4:=e0 3;have e5:=e0 4;simp at d1 d2 d3 d4 d5;clear d0 e0 k2 k3 q2 h2;have hlow:=h3.low;unfold jC pE;go_wp2;refine aL (v:=jC (ah T i)) (by simp[results,Tryz.results132,go_sem,jC,pE,d1,d2,d3,d4,d5]) rfl ⟨rfl,?_,?_⟩
 .exact((((h3.other _ (by omega) (by omega)).other _ (by omega) (by omega)).other _ (by omega) (by omega)).other _ (by omega) (by omega)).other _ (by omega) (by omega)
 .exact(((((aa K3).new _ (af _)).new _ (af _)).new _ (af _)).new _ (af _)).new _ (af _)
theorem Bz (w:World) (pb tb cap i:Nat) (T:List aH) (f pl:Int) (h:bg w pb tb cap T i f pl) (hs:(kP (ah T i)==3)=false) :
  Calls Tryz.prog 132 #[.pointer (some ⟨pb,0,none⟩)] w λe w'=>e=.returned (pE 0 0 ⟨#[]⟩ 0 0)/\bg w' pb tb cap T (T.length-1) (mo f) (nY f pl (ah T i).place)/\aB pb w w':=by
 have hp:=h.plt;go_enter Tryz.func132,Tryz.ntmps132;go_wp2_with fail;refine(dM _ pb tb cap i T f pl (h.alloc _)).mono ?_;rintro e w1 ⟨rfl,hb1⟩;have h1:=(h.alloc _).below hb1 (af _);have k1:=(aB.alloc pb w _).trans (aB.below (pb:=pb) hb1);have q0:w1.heap[w.heap.size]?=some (.cells #[.int .i64 0,.int .i64 0,.string ⟨#[]⟩,.int .i32 0,.int .i32 0] 116 (0,0)):=(hb1.block _ (by simp)).trans (aA w _);have lt1:w.heap.size<w1.heap.size:=(az.1 q0).1;clear h hb1;have h2:=h1;have k2:=k1;have q2:=q0;obtain⟨w2,hw2⟩:∃w2,w2=w1:=⟨_,rfl⟩;rw[<-hw2]at h2 k2 q2;clear h1 k1 q0;subst hw2;have tk:=IX;unfold jC pE;go_wp2_with fail;refine(xV _ pb tb cap i T f pl h2).mono ?_;rintro e w3 ⟨rfl,h3,k3⟩;have lt2:w.heap.size<w2.heap.size:=(az.1 q2).1;have q3:=(k3.2 _ lt2 (by omega)).trans q2;have K3:=aj (k2.trans k3);have d0:∀k,w3.cell? ⟨w.heap.size,k,none⟩=#[Value.int .i64 0,.int .i64 0,.string ⟨#[]⟩,.int .i32 0,.int .i32 0][k]?:=λk=>by simp only[World.cell?];rw[q3];simp
 have e0:∀k,w3.frozen? ⟨w.heap.size,k,none⟩=false:=λk=>by simp only[World.frozen?];rw[q3];simp
 have d1:=d0 0;have d2:=d0 1;have d3:=d0 2;have d4:=d0 3;have d5:=d0 4;have e1:=e0 0;have e2:=e0 1;have e3:=e0 2;have e4:=e0 3;have e5:=e0 4;simp at d1 d2 d3 d4 d5;clear d0 e0 k2 k3 q2 h2;have hlow:=h3.low;go_wp2;refine aL (v:=pE 0 0 ⟨#[]⟩ 0 0) (by simp[results,Tryz.results132,go_sem,pE,d1,d2,d3,d4,d5]) rfl ⟨rfl,?_,?_⟩
 .exact((((h3.other _ (by omega) (by omega)).other _ (by omega) (by omega)).other _ (by omega) (by omega)).other _ (by omega) (by omega)).other _ (by omega) (by omega)
 .exact(((((aa K3).new _ (af _)).new _ (af _)).new _ (af _)).new _ (af _)).new _ (af _)
open Go.Deep
def Cn (w:World) (g o:Nat) (t:aH) (sv:Value):Prop:=
 w.cell? ⟨g,o,none⟩=some (.int .i64 (kP t))/\w.cell? ⟨g,o+1,none⟩=some (.int .i64 t.place)/\w.cell? ⟨g,o+2,none⟩=some (.string (wP t))/\w.cell? ⟨g,o+3,none⟩=some (.int .i32 (nP t))/\w.cell? ⟨g,o+4,none⟩=some (.int .i32 (sP t))/\w.cell? ⟨g,o+5,none⟩=some sv
def xB (w:World) (Q:Nat->Prop):Ex->Nat->Nat->Prop
 | .nil,_,_=>True
 | .node _ _ t k r,g,o=>(∃sv,Cn w g (o*6) t sv/\((k=.nil/\∃ao c,sv=.slice ao 0 c)∨(k≠.nil/\∃g' c,sv=.slice (some ⟨g',0,none⟩) (lenE k) c/\Q g'/\xB w Q k g' 0)))/\xB w Q r g (o+1)
def qA (w:World) (Q:Nat->Prop) (sv:Value) (k:Ex):Prop:=(k=.nil/\∃ao c,sv=.slice ao 0 c)∨(k≠.nil/\∃g c,sv=.slice (some ⟨g,0,none⟩) (lenE k) c/\Q g/\xB w Q k g 0)
def qV (t:aH) (sv:Value):Value:=.agg #[.int .i64 (kP t),.int .i64 t.place,.string (wP t),.int .i32 (nP t),.int .i32 (sP t),sv]
def gD (w:World) (Q:Nat->Prop) (v:Value) (e:Ex):Prop:=∃b o t k r sv,e=.node b o t k r/\v=qV t sv/\qA w Q sv k
theorem qA.form {k:Ex} (h:qA w Q sv k):∃ao c,sv=.slice ao (lenE k) c:=by
 rcases h with⟨rfl,ao,c,rfl⟩|⟨_,g,c,rfl,_⟩
 .exact⟨ao,c,rfl⟩
 .exact⟨_,c,rfl⟩
theorem Cn.later (h:Cn w g o t sv) (hs:w'.heap[g]?=w.heap[g]?):Cn w' g o t sv:=by
 have e:∀o,w'.cell? ⟨g,o,none⟩=w.cell? ⟨g,o,none⟩:=λo=>by simp only[World.cell?];rw[hs]
 unfold Cn;simp only[e];exact h
theorem Cn.lt (h:Cn w g o t sv):g<w.heap.size:=fB _ _ h.1
def nz (Q:Nat->Prop) (w w':World):Prop:=∀k,Q k->k<w.heap.size->w'.heap[k]?=w.heap[k]?
theorem aB.stay (h:aB pb w w') (hb:¬ Q pb):nz Q w w':=λk hk hl=>h.2 k hl (λe=>hb (e ▸ hk))
theorem nz.trans {Q:Nat->Prop} {a b c:World} (h1:nz Q a b) (hs:a.heap.size<=b.heap.size) (h2:nz Q b c):nz Q a c:=λk hk hl=>(h2 k hk (by omega)).trans (h1 k hk hl)
theorem xB.lt {w:World} {Q:Nat->Prop} {k:Ex} {g o:Nat} (hn:k≠.nil) (h:xB w Q k g o):g<w.heap.size:=by
 cases k with
 | nil=>exact absurd rfl hn
 | node _ _ _ _ _=>obtain⟨⟨_,hc,_⟩,_⟩:=h;exact hc.lt
theorem xB.later {w w':World} {Q Q':Nat->Prop} (hk:nz Q w w') (hB:∀k,Q k->k<w.heap.size->Q' k):∀(e:Ex) (g o:Nat),Q g->xB w Q e g o->xB w' Q' e g o
 | .nil,_,_,_,_=>trivial
 | .node _ _ t k r,g,o,hg,⟨⟨sv,hc,hs⟩,hr⟩=>by
  refine⟨⟨sv,hc.later (hk g hg hc.lt),?_⟩,xB.later hk hB r g (o+1) hg hr⟩;rcases hs with hs|⟨hn,g',c,e,hg',hf⟩
  .exact .inl hs
  .exact .inr ⟨hn,g',c,e,hB _ hg' (hf.lt hn),xB.later hk hB k g' 0 hg' hf⟩
theorem qA.later {w w':World} {Q Q':Nat->Prop} (hk:nz Q w w') (hB:∀k,Q k->k<w.heap.size->Q' k) {sv:Value} {k:Ex} (h:qA w Q sv k):qA w' Q' sv k:=by
 rcases h with h|⟨hn,g,c,e,hg,hf⟩
 .exact .inl h
 .exact .inr ⟨hn,g,c,e,hB _ hg (hf.lt hn),hf.later hk hB k g 0 hg⟩
theorem gD.later {w w':World} {Q Q':Nat->Prop} (hk:nz Q w w') (hB:∀k,Q k->k<w.heap.size->Q' k) {v:Value} {e:Ex} (h:gD w Q v e):gD w' Q' v e:=by
 obtain⟨b,o,t,k,r,sv,he,hv,hr⟩:=h;exact⟨b,o,t,k,r,sv,he,hv,hr.later hk hB⟩
def nN (k p:Int) (wd:ByteArray) (n s:Int) (sv:Value):Value:=.agg #[.int .i64 k,.int .i64 p,.string wd,.int .i32 n,.int .i32 s,sv]
abbrev zT (w':World) (Q:Nat->Prop) (pb tb cap:Nat) (T:List aH) (f pl:Int) (v:Value):Except Nat (Ex×Nat)->Prop
 | .ok (t,j)=>bg w' pb tb cap T j f pl/\gD w' Q v t
 | .error x=>bg w' pb tb cap T (T.length-1) (mo f) (nY f pl (ah T x).place)
def yu (w:World) (pb tb cap:Nat) (T:List aH) (f pl:Int) (r:Except Nat (Ex×Nat)) (e:Ending) (w':World):Prop:=aB pb w w'/\∃k p wd n s ao len c,e=.returned (nN k p wd n s (.slice ao len c))/\zT w' (λg=>w.heap.size<=g) pb tb cap T f pl (nN k p wd n s (.slice ao len c)) r
structure eQ (T:List aH):Prop where
 last:bP T
 kinds:∀i,(ah T i).kind=0∨(ah T i).kind=1∨(ah T i).kind=2∨(ah T i).kind=3∨(ah T i).kind=4
 key:∀i,(ah T i).kind=0->dI (ah T i).text qg=true
 name:∀i,(ah T i).kind=1->dI (ah T i).text qg=false
 sign:∀i,(ah T i).kind=3->(ah T i).text∈aY
 nums:∀i,0<=(ah T i).num/\(ah T i).num<=65536
theorem BP:aY.map aX=ma:=by
 unfold aX;simp only[aJ];decide
theorem Y8 {a b:ByteArray} (ha:a∈aY) (hb:b∈aY) (h:aX a=aX b):a=b:=by
 obtain⟨i,hi,rfl⟩:=pV ha;obtain⟨j,hj,rfl⟩:=pV hb;have t:=BP;have e:∀k (hk:k<aY.length),aX aY[k]=ma[k]'(by rw[<-t,tK];exact hk):=λk hk=>by
  have:(aY.map aX)[k]?=ma[k]?:=by rw[t]
  rw[lY,aU hk,aU (by rw[<-t,tK];exact hk)]at this;exact bN this
 rw[e i hi,e j hj]at h;have inj:∀i,i<18->∀j,j<18->ma.getD i 0=ma.getD j 0->i=j:=by decide
 have g:∀k (hk:k<ma.length),ma.getD k 0=ma[k]:=λk hk=>by simp[List.getD,aU hk]
 have hij:i=j:=inj i hi j hj (by rw[g i hi,g j hj];exact h);subst hij;rfl
theorem Vz:uS=qg:=rfl
theorem kR:∀s∈aY,dI s qg=false:=by
 intro s hs;unfold dI;simp only[aJ];revert s;unfold aY qg;decide
section
variable {T:List aH} (hT:eQ T)
theorem wU (t:aH) (h:t.kind=0∨t.kind=1):kP t=2:=by unfold kP;rcases h with h|h<;>rw[h]<;>rfl
theorem FN (t:aH) (h:t.kind=0∨t.kind=1):wP t=t.text:=by unfold wP;rcases h with h|h<;>rw[h]<;>rfl
theorem Hd (t:aH) (h:t.kind=2):kP t=3:=by unfold kP;rw[h];rfl
theorem FV (t:aH) (h:t.kind=3):kP t=4:=by unfold kP;rw[h];rfl
theorem ZW (t:aH) (h:t.kind=3):sP t=aX t.text:=by unfold sP;rw[h];rfl
theorem Du (t:aH) (h:t.kind=4):kP t=5:=by unfold kP;rw[h];rfl
theorem JS (s:ByteArray) (l:List ByteArray):l.any (λt=>s.toList==t.toList)=dI s l:=by
 unfold dI;congr 1;funext t;exact Bool.beq_comm
theorem pq (hT:eQ T) (i:Nat) (hs:s∈aY):IZ T i (aX s)=bJ T i s:=by
 unfold IZ bJ;rcases hT.kinds i with h|h|h|h|h
 .rw[wU _ (.inl h),h];have hk:=hT.key i h;have hne:((ah T i).text.toList==s.toList)=false:=by
   cases he:((ah T i).text.toList==s.toList)
   .rfl
   .have e:=gV (by simpa using he:(ah T i).text.toList=s.toList);rw[e,kR s hs]at hk
    cases hk
  rw[hne];simp
 .rw[wU _ (.inr h),h];rfl
 .rw[Hd _ h,h];rfl
 .rw[FV _ h,ZW _ h,h]
  cases he:((ah T i).text.toList==s.toList)
  .have hne:aX (ah T i).text≠aX s:=λe=>by
    have:=Y8 (hT.sign i h) hs e;rw[this]at he;simp at he
   simp[hne]
  .have e:=gV (by simpa using he:(ah T i).text.toList=s.toList);rw[e];simp
 .rw[Du _ h,h];rfl
theorem rG (hT:eQ T) (i:Nat) (hl:∀s∈l,dI s qg=true):((kP (ah T i)==2)&&l.any (λt=>(wP (ah T i)).toList==t.toList))=l.any (bJ T i):=by
 have no:(ah T i).kind≠0->l.any (bJ T i)=false:=λhk=>by
  rw[jw];intro s hs;unfold bJ;rcases hT.kinds i with h|h|h|h|h
  .exact absurd h hk
  .rw[h];simp
  .rw[h];simp
  .rw[h];have hne:((ah T i).text.toList==s.toList)=false:=by
    cases he:((ah T i).text.toList==s.toList)
    .rfl
    .have e:=gV (by simpa using he:(ah T i).text.toList=s.toList);have a:=kR _ (hT.sign i h);rw[e,hl s hs]at a
     cases a
   rw[hne];simp
  .rw[h];simp
 rcases hT.kinds i with h|h|h|h|h
 .rw[wU _ (.inl h),FN _ (.inl h)];show l.any _=_;congr 1;funext s;unfold bJ;rw[h];simp
 .rw[no (by rw[h];decide),wU _ (.inr h),FN _ (.inr h)];have hn:=hT.name i h;show l.any _=false;rw[jw];intro s hs he;have e:=gV (by simpa using he:(ah T i).text.toList=s.toList);rw[e,hl s hs]at hn
  cases hn
 .rw[no (by rw[h];decide),Hd _ h];rfl
 .rw[no (by rw[h];decide),FV _ h];rfl
 .rw[no (by rw[h];decide),Du _ h];rfl
theorem wE (hT:eQ T) (i:Nat):Ow T i=((ah T i).kind==1):=by
 unfold Ow;rw[JS,Vz];rcases hT.kinds i with h|h|h|h|h
 .rw[wU _ (.inl h),FN _ (.inl h),hT.key i h,h];rfl
 .rw[wU _ (.inr h),FN _ (.inr h),hT.name i h,h];rfl
 .rw[Hd _ h,h];rfl
 .rw[FV _ h,h];rfl
 .rw[Du _ h,h];rfl
theorem zz (hT:eQ T) (i:Nat):(kP (ah T i)==3)=((ah T i).kind==2):=by
 rcases hT.kinds i with h|h|h|h|h
 .rw[wU _ (.inl h),h];rfl
 .rw[wU _ (.inr h),h];rfl
 .rw[Hd _ h,h];rfl
 .rw[FV _ h,h];rfl
 .rw[Du _ h,h];rfl
end
def Q3 (t:aH):Prop:=(t.kind=0/\dI t.text qg=true)∨(t.kind=1/\dI t.text qg=false)∨t.kind=2∨(t.kind=3/\t.text∈aY)
theorem Ql3 (s:ByteArray) (a:Nat):Q3 (ql s a):=by
 unfold ql
 cases h:dI (jq s a) qg
 .exact .inr (.inl ⟨by simp,h⟩)
 .exact .inl ⟨by simp,h⟩
theorem Qi6 (s:ByteArray) (a:Nat) (h:0<(iL s a).size):Q3 (yU s a):=by
 refine .inr (.inr (.inr ⟨rfl,?_⟩));show iL s a∈aY;unfold iL at *
 cases hf:aY.find? (okS s a) with
 | none=>rw[hf]at h;exact absurd h (show ¬ (0:Nat)<0 by omega)
 | some t=>exact xK hf
theorem Qe9 (s:ByteArray) (f:Nat):∀a acc l p,(∀t∈acc,Q3 t)->oN s f a acc=(some l,p)->∀t∈l,Q3 t:=by
 induction f with
 | zero=>
  intro a acc l p h1 h;simp only[oN,je,ko]at h;rw[<-h.1];exact h1
 | succ f ih=>
  intro a acc l p h1 h;rw[oN]at h;have sn:∀t:aH,Q3 t->∀u∈acc++[t],Q3 u:=λt ht u hu=>by
   rcases dW.1 hu with hu|hu
   .exact h1 u hu
   .simp at hu;rw[hu];exact ht
  split at h
  .split at h
   .exact ih _ _ l p h1 h
   split at h
   .exact ih _ _ l p (sn _ (Ql3 s a)) h
   split at h
   .split at h
    .cases h
    .exact ih _ _ l p (sn _ (.inr (.inr (.inl rfl)))) h
   split at h
   .rename_i h3;exact ih _ _ l p (sn _ (Qi6 s a h3)) h
   .cases h
  .simp only[je,ko]at h;rw[<-h.1];exact h1
theorem rF {l:List aH} {p:Nat} (hs:s.size<=300) (h:oN s s.size 0 []=(some l,p)):eQ (l++[aI p]):=by
 obtain⟨t1,t2,_⟩:=wM hs h;have hg:=Qe9 s s.size 0 [] l p (by intro t ht;cases ht) h;have all:∀i,(ah (l++[aI p]) i).kind=4∨Q3 (ah (l++[aI p]) i):=λi=>by
  unfold ah;rcases nV i (l++[aI p]).length with hi|hi
  .have hm:(l++[aI p]).getD i ⟨4,0,0,⟨#[]⟩⟩∈l++[aI p]:=by
    rw[List.getD,aU hi,rQ];exact jW hi
   rcases dW.1 hm with hm|hm
   .exact .inr (hg _ hm)
   .simp only[rJ]at hm;rw[hm];exact .inl rfl
  .rw[List.getD,ou hi,wm];exact .inl rfl
 refine⟨t1,λi=>?_,λi hk=>?_,λi hk=>?_,λi hk=>?_,t2⟩
 .rcases all i with h|⟨h,_⟩|⟨h,_⟩|h|⟨h,_⟩<;>simp[h]
 .rcases all i with h|⟨h,g⟩|⟨h,_⟩|h|⟨h,_⟩
  .rw[h]at hk;cases hk
  .exact g
  .rw[h]at hk;cases hk
  .rw[h]at hk;cases hk
  .rw[h]at hk;cases hk
 .rcases all i with h|⟨h,_⟩|⟨h,g⟩|h|⟨h,_⟩
  .rw[h]at hk;cases hk
  .rw[h]at hk;cases hk
  .exact g
  .rw[h]at hk;cases hk
  .rw[h]at hk;cases hk
 .rcases all i with h|⟨h,_⟩|⟨h,_⟩|h|⟨h,g⟩
  .rw[h]at hk;cases hk
  .rw[h]at hk;cases hk
  .rw[h]at hk;cases hk
  .rw[h]at hk;cases hk
  .exact g
open Go.Shelf
theorem zN (s:ByteArray) (i:Nat) (h:i<s.size):s.data.toList[i]?=some (s.get! i):=by
 have h':i<s.data.size:=h;rw[Array.getElem?_toList,Array.getElem?_eq_getElem h'];congr 1;show s.data[i]=s.data[i]!;rw[getElem!_pos s.data i h']
theorem Lg (s:ByteArray) (a:Nat) (g:ByteArray):okS s a g=true↔a+g.size<=s.size/\∀j,j<g.size->s.get! (a+j)=g.get! j:=by
 unfold okS;rw[dC,decide_eq_true_eq,beq_iff_eq,aJ,aJ];refine and_congr_right λhl=>?_;have hz:(s.extract a (a+g.size)).data.toList.length=g.size:=by
  have:(s.extract a (a+g.size)).size=g.size:=by rw[ug];omega
  rw[Array.length_toList];exact this
 have hx:∀j,j<g.size->(s.extract a (a+g.size)).data.toList[j]?=some (s.get! (a+j)):=by
  intro j hj;rw[<-zN s (a+j) (by omega),ByteArray.data_extract,Array.toList_extract,List.extract_eq_take_drop,List.getElem?_take,ag (by omega),rV]
 constructor
 .intro h j hj;have e:=hx j hj;rw[h,zN g j hj]at e;exact(bN e).symm
 .intro h;apply List.ext_getElem?;intro j;by_cases hj:j<g.size
  .rw[hx j hj,zN g j hj,h j hj]
  .rw[ou (by omega),ou (by rw[Array.length_toList];exact Nat.le_of_not_lt hj)]
open Go.Lib in
theorem dn1 (n b0 b1 b2 b3 r:Nat) (hr:r<128):b0=r↔decodeN n b0 b1 b2 b3=(r,1):=by
 unfold decodeN;constructor
 .rintro rfl;rw[ag hr]
 .intro h
  repeat' split at h
  all_goals (simp only[je]at h;omega)
open Go.Lib in
theorem dn2 (n b0 b1 b2 b3 r:Nat) (h1:b1<256) (hr:128<=r/\r<2048):(2<=n/\b0=192+r / 64/\b1=128+r % 64)↔decodeN n b0 b1 b2 b3=(r,2):=by
 unfold decodeN;constructor
 .rintro⟨hn,rfl,rfl⟩;rw[ae (by omega),ag (by omega),ag (by omega)];refine Prod.ext ?_ rfl;show _=r;omega
 .intro h
  repeat' split at h
  all_goals (simp only[je]at h;omega)
open Go.Lib in
theorem dn3 (n b0 b1 b2 b3 r:Nat) (h1:b1<256) (h2:b2<256) (hr:2048<=r/\r<55296):(3<=n/\b0=224+r / 4096/\b1=128+r / 64 % 64/\b2=128+r % 64)↔decodeN n b0 b1 b2 b3=(r,3):=by
 unfold decodeN;constructor
 .rintro⟨hn,rfl,rfl,rfl⟩;rw[ae (by omega),ae (by omega),ag (by omega),ag (by omega)];refine Prod.ext ?_ rfl;show _=r;omega
 .intro h
  repeat' split at h
  all_goals (simp only[je]at h;omega)
open Go.Lib in
theorem dnw (n b0 b1 b2 b3 r k:Nat) (h:decodeN n b0 b1 b2 b3=(r,k)) (hr:r<55296):k=if r<128 then 1 else if r<2048 then 2 else 3:=by
 unfold decodeN at h
 repeat' split at h
 all_goals (simp only[je]at h;repeat' split)
 all_goals omega
theorem gb (s:ByteArray) (i:Nat):(s.get! i).toNat<256:=UInt8.toNat_lt _
theorem u8n {a b:UInt8} : a=b↔a.toNat=b.toNat:=⟨λh=>by rw[h],λh=>UInt8.toNat_inj.1 h⟩
theorem qG (s:ByteArray) (a:Nat) (x:UInt8) (r:Nat) (ha:a<s.size) (hr:r<128) (hx:x.toNat=r):okS s a ⟨#[x]⟩=true↔Utf8.decode s a=(r,1):=by
 rw[Lg,Lib.decode_at,<-dn1 _ _ _ _ _ r hr,<-hx,<-u8n];constructor
 .rintro⟨_,h⟩;exact h 0 (Nat.zero_lt_one)
 .intro h;refine⟨ha,λj hj=>?_⟩;have:j=0:=by have:j<1:=hj;omega
  subst this;exact h
theorem Yy (s:ByteArray) (a:Nat) (x y:UInt8) (r:Nat) (ha:a<s.size) (hr:128<=r/\r<2048) (hx:x.toNat=192+r / 64) (hy:y.toNat=128+r % 64):okS s a ⟨#[x,y]⟩=true↔Utf8.decode s a=(r,2):=by
 rw[Lg,Lib.decode_at,<-dn2 _ _ _ _ _ r (gb _ _) hr,<-hx,<-hy,<-u8n,<-u8n];constructor
 .rintro⟨h0,h⟩;have h0':a+2<=s.size:=h0;exact⟨by omega,h 0 (show 0<2 by omega),h 1 (show 1<2 by omega)⟩
 .rintro⟨h0,h1,h2⟩;refine⟨(show a+2<=s.size by omega),λj hj=>?_⟩;have hj':j<2:=hj;rcases(show j=0∨j=1 by omega) with rfl|rfl
  .exact h1
  .exact h2
theorem ok3 (s:ByteArray) (a:Nat) (x y z:UInt8) (r:Nat) (ha:a<s.size) (hr:2048<=r/\r<55296) (hx:x.toNat=224+r / 4096) (hy:y.toNat=128+r / 64 % 64) (hz:z.toNat=128+r % 64):okS s a ⟨#[x,y,z]⟩=true↔Utf8.decode s a=(r,3):=by
 rw[Lg,Lib.decode_at,<-dn3 _ _ _ _ _ r (gb _ _) (gb _ _) hr,<-hx,<-hy,<-hz,<-u8n,<-u8n,<-u8n];constructor
 .rintro⟨h0,h⟩;have h0':a+3<=s.size:=h0;exact⟨by omega,h 0 (show 0<3 by omega),h 1 (show 1<3 by omega),h 2 (show 2<3 by omega)⟩
 .rintro⟨h0,h1,h2,h3⟩;refine⟨(show a+3<=s.size by omega),λj hj=>?_⟩;have hj':j<3:=hj;rcases(show j=0∨j=1∨j=2 by omega) with rfl|rfl|rfl
  .exact h1
  .exact h2
  .exact h3
theorem JJ (k:Nat) (hk:k<18):aX (aY.getD k ⟨#[]⟩)=ma.getD k 0:=by
 have t:=BP;have:(aY.map aX)[k]?=ma[k]?:=by rw[t]
 rw[lY]at this;simp only[List.getD];rw[<-this,aU (show k<aY.length from hk)];rfl
theorem Xd (s:ByteArray) (a:Nat) (ha:a<s.size) (g:ByteArray) (hg:g∈aY):okS s a g=true↔Utf8.decode s a=((aX g).toNat,g.size):=by
 obtain⟨k,hk,rfl⟩:=pV hg;have e:aY[k]=aY.getD k ⟨#[]⟩:=by simp[List.getD,aU hk]
 rw[e,JJ k hk];have hk':k<18:=hk;rcases(show k=0∨k=1∨k=2∨k=3∨k=4∨k=5∨k=6∨k=7∨k=8∨k=9∨k=10∨k=11∨k=12∨k=13∨k=14∨k=15∨k=16∨k=17 by omega) with rfl|rfl|rfl|rfl|rfl|rfl|rfl|rfl|rfl|rfl|rfl|rfl|rfl|rfl|rfl|rfl|rfl|rfl
 .exact ok3 s a 226 134 144 8592 ha (by decide) (by decide) (by decide) (by decide)
 .exact ok3 s a 226 128 166 8230 ha (by decide) (by decide) (by decide) (by decide)
 .exact Yy s a 195 151 215 ha (by decide) (by decide) (by decide)
 .exact Yy s a 195 183 247 ha (by decide) (by decide) (by decide)
 .exact ok3 s a 226 137 164 8804 ha (by decide) (by decide) (by decide) (by decide)
 .exact ok3 s a 226 137 160 8800 ha (by decide) (by decide) (by decide) (by decide)
 .exact qG s a 43 43 ha (by decide) (by decide)
 .exact qG s a 45 45 ha (by decide) (by decide)
 .exact qG s a 61 61 ha (by decide) (by decide)
 .exact qG s a 60 60 ha (by decide) (by decide)
 .exact qG s a 40 40 ha (by decide) (by decide)
 .exact qG s a 41 41 ha (by decide) (by decide)
 .exact qG s a 123 123 ha (by decide) (by decide)
 .exact qG s a 125 125 ha (by decide) (by decide)
 .exact qG s a 91 91 ha (by decide) (by decide)
 .exact qG s a 93 93 ha (by decide) (by decide)
 .exact qG s a 44 44 ha (by decide) (by decide)
 .exact qG s a 59 59 ha (by decide) (by decide)
theorem UQ (s:ByteArray) (a:Nat) (ha:a<s.size) (h:¬ 0<(iL s a).size):((Utf8.decode s a).1:Int) ∉ rC:=by
 intro hm;obtain⟨k,hk,e⟩:=pV hm;have hk':k<18:=hk;have hr:rC[k]=ma.getD k 0:=by
  have:rC=ma:=rfl;simp only[this,List.getD,aU (show k<ma.length from hk),rQ]
 have hw:=dnw _ _ _ _ _ (Utf8.decode s a).1 (Utf8.decode s a).2 (Lib.decode_at s a).symm;have hle:∀k,k<18->0<=ma.getD k 0/\ma.getD k 0<55296/\(aY.getD k ⟨#[]⟩).size=(if(ma.getD k 0).toNat<128 then 1 else if(ma.getD k 0).toNat<2048 then 2 else 3):=by decide
 obtain⟨l0,l1,l2⟩:=hle k hk';have e':(Utf8.decode s a).1=(ma.getD k 0).toNat:=by omega
 have hk2:k<aY.length:=hk;have hmem:aY.getD k ⟨#[]⟩∈aY:=by
  have hge:aY.getD k ⟨#[]⟩=aY[k]:=by simp[List.getD,aU hk2]
  rw[hge];exact jW hk2
 have ok:okS s a (aY.getD k ⟨#[]⟩)=true:=by
  rw[Xd s a ha _ hmem,JJ k hk',l2,<-e',<-hw (by omega)]
 apply h;unfold iL
 cases hf:aY.find? (okS s a) with
 | none=>
  have:=vD.1 hf _ hmem;exact absurd ok this
 | some g=>
  have hg:=xK hf;have:∀g∈aY,0<g.size:=by decide
  exact this g hg
theorem Uk (s:ByteArray) (a:Nat) (ha:a<s.size) (h:0<(iL s a).size):Utf8.decode s a=((aX (iL s a)).toNat,(iL s a).size)/\iL s a∈aY:=by
 unfold iL at h ⊢
 cases hf:aY.find? (okS s a) with
 | none=>rw[hf]at h;exact absurd h (by decide)
 | some g=>exact⟨(Xd s a ha g (xK hf)).1 (List.find?_some hf),xK hf⟩
def isL (d:Bool) (x:Int):Bool:=if d then oQ x else sJ x
theorem Qy (d:Bool):∀(L:List Int) (j:Nat),j<oJ d L->isL d (L.getD j 0)=true
 | [],j,h=>by simp[oJ]at h
 | x::L,j,h=>by
  unfold oJ at h;rw[List.takeWhile_cons]at h
  cases hx:isL d x with
  | false=>
   have hx':(if d=true then oQ x else sJ x)=false:=hx;rw[hx']at h;simp at h
  | true=>
   have hx':(if d=true then oQ x else sJ x)=true:=hx;rw[hx']at h
   cases j with
   | zero=>exact hx
   | succ j=>
    have:=Qy d L j (by unfold oJ;simpa using h);simpa using this
theorem CX (d:Bool):∀(L:List Int),oJ d L<L.length->isL d (L.getD (oJ d L) 0)=false
 | [],h=>by simp at h
 | x::L,h=>by
  cases hx:isL d x with
  | false=>
   have hx':(if d=true then oQ x else sJ x)=false:=hx;have:oJ d (x::L)=0:=by unfold oJ;rw[List.takeWhile_cons,hx'];rfl
   rw[this];exact hx
  | true=>
   have hx':(if d=true then oQ x else sJ x)=true:=hx;have:oJ d (x::L)=oJ d L+1:=by unfold oJ;rw[List.takeWhile_cons,hx'];rfl
   rw[this]at h ⊢;have:=CX d L (by simpa using h);simpa using this
theorem Cr (s:ByteArray) (a:Nat) (ha:a<s.size):(nums s).getD a 0=((s.get! a).toNat:Int):=by
 unfold nums;simp only[List.getD,lY,zN s a ha];rfl
theorem Sa (s:ByteArray) (a:Nat) (h:(s.get! a).toNat<128):Utf8.decode s a=((s.get! a).toNat,1):=by
 rw[Lib.decode_at];exact(dn1 _ _ _ _ _ _ h).1 rfl
theorem Qh8 (s:ByteArray) (a:Nat) (h:¬ (s.get! a).toNat<128):128<=(Utf8.decode s a).1:=by
 rw[Lib.decode_at];unfold Lib.decodeN
 repeat' split
 all_goals first|omega|(exfalso;omega)
theorem IB (s:ByteArray) (m a:Nat) (σ:List GT×Int) (hm:s.size<=m+a) (ha:a<s.size):(wy s m a).foldl wR (.ok σ)=(wy s (m-1) (a+(Utf8.decode s a).2)).foldl wR (kT σ ((a:Int),((Utf8.decode s a).1:Int))):=by
 rw[JM s m a hm ha];rfl
theorem A7 (s:ByteArray) (m a:Nat) (σ:List GT×Int) (hm:s.size<=m+a) (ha:a<s.size) (h:(s.get! a).toNat<128):(wy s m a).foldl wR (.ok σ)=(wy s (m-1) (a+1)).foldl wR (kT σ ((a:Int),((s.get! a).toNat:Int))):=by
 rw[IB s m a σ hm ha,Sa s a h]
theorem Dh (s:ByteArray) (a k:Nat) (h:a+k<s.size):s.extract a (a+(k+1))=s.extract a (a+k)++⟨#[s.get! (a+k)]⟩:=by
 apply ByteArray.ext;apply Array.toList_inj.1;rw[ByteArray.data_append,Array.toList_append,ByteArray.data_extract,ByteArray.data_extract,Array.toList_extract,Array.toList_extract,List.extract_eq_take_drop,List.extract_eq_take_drop];rw[show a+(k+1)-a=k+1 by omega,show a+k-a=k by omega,List.take_add_one,rV,zN s (a+k) h];rfl
theorem QS (r:Int) (h:sJ r=true):yF r=2:=by
 unfold sJ at h;simp only[dC,decide_eq_true_eq]at h;unfold yF;rw[ae (by omega),ae ?_,ag h];unfold rC;simp only[aO,aQ,aR,not_or];omega
theorem RL (r:Int) (h:oQ r=true):yF r=3:=by
 unfold oQ at h;simp only[dC,decide_eq_true_eq]at h;unfold yF;rw[ae (by omega),ae ?_,ae (by omega),ag h];unfold rC;simp only[aO,aQ,aR,not_or];omega
theorem JP (x:UInt8):((x.toNat:Int)).toNat.toUInt8=x:=by
 show(x.toNat).toUInt8=x;exact UInt8.ofNat_toNat
def MI (s:ByteArray) (a k:Nat):GT:=⟨2,a,s.extract a (a+k),0,0⟩
theorem NS (l:List GT) (t:GT) (r k:Int) (h:t.k=2) (hn:t.n=0):qp l t r k=.ok (l++[{ t with wd:=t.wd++⟨#[r.toNat.toUInt8]⟩ }],k):=by
 have e:jh t r = { t with wd:=t.wd++⟨#[r.toNat.toUInt8]⟩ }:=by unfold jh;rw[ag h]
 unfold qp;rw[e,ae (by show ¬ 65535<t.n;omega)]
theorem Rk (l:List GT) (t:GT) (r k:Int) (h:t.k=3):qp l t r k=if 65535<10*t.n+r-48 then .error t.p else .ok (l++[{ t with n:=10*t.n+r-48 }],k):=by
 have e:jh t r = { t with n:=10*t.n+r-48 }:=by unfold jh;rw[ae (by omega),ag h]
 unfold qp;rw[e]
theorem Vj (l:List GT) (t:GT) (r k:Int) (h:t.k=4) (hn:t.n=0):qp l t r k=.ok (l++[{ t with s:=r }],k):=by
 have e:jh t r = { t with s:=r }:=by unfold jh;rw[ae (by omega),ae (by omega)]
 unfold qp;rw[e,ae (by show ¬ 65535<t.n;omega)]
theorem Yj (l:List GT) (t:GT) (r k:Int):Kq (l++[t]) r k=qp l t r k:=by
 unfold Kq;rw[List.getLast?_concat];show qp (l++[t]).dropLast t r k=_;rw[List.dropLast_concat]
theorem GN (σ:List GT×Int) (x:Int×Int) (k:Int) (hk:yF x.2=k) (h0:k≠0) (h1:k≠1) (h:k=4∨k≠σ.2):kT σ x=qp σ.1 (xO k x.1) x.2 k:=by
 unfold kT;rw[hk,ae h0,ae h1,ag h]
theorem Kz (l:List GT) (t:GT) (x:Int×Int) (k:Int) (hk:yF x.2=k) (h0:k≠0) (h1:k≠1) (h4:k≠4):kT (l++[t],k) x=qp l t x.2 k:=by
 unfold kT;rw[hk,ae h0,ae h1,ae (by intro h;rcases h with h|h;exact h4 h;exact h rfl),Yj]
theorem KQ (s:ByteArray) (a:Nat):s.extract a (a+0)=⟨#[]⟩:=by
 apply ByteArray.ext;apply Array.toList_inj.1;rw[ByteArray.data_extract,Array.toList_extract,List.extract_eq_take_drop,show a+0-a=0 by omega,List.take_zero]
theorem Rv (s:ByteArray) (a m:Nat) (acc:List GT) (b:Int) (hb:b≠2) (hm:s.size<=m+a):∀k,1<=k->a+k<=s.size->(∀j,j<k->sJ ((nums s).getD (a+j) 0)=true) ->
  (wy s m a).foldl wR (.ok (acc,b))=(wy s (m-k) (a+k)).foldl wR (.ok (acc++[MI s a k],2))
 | 0,h,_,_=>by omega
 | 1,_,hk,hl=>by
  have h0:=hl 0 (by omega);rw[jA,Cr s a (by omega)]at h0;have hk2:=QS _ h0;have hlow:(s.get! a).toNat<128:=by unfold sJ at h0;simp only[dC,decide_eq_true_eq]at h0;omega
  rw[A7 s m a _ hm (by omega) hlow,GN _ _ 2 hk2 (by decide) (by decide) (.inr (λe=>hb e.symm)),NS _ _ _ _ rfl rfl,JP];have e1:s.extract a (a+1)=⟨#[]⟩++⟨#[s.get! a]⟩:=by
   have:=Dh s a 0 (by omega);rw[KQ]at this;exact this
  unfold MI;rw[e1];rfl
 | k+2,_,hk,hl=>by
  rw[Rv s a m acc b hb hm (k+1) (by omega) (by omega) (λj hj=>hl j (by omega))];have h0:=hl (k+1) (by omega);rw[Cr s (a+(k+1)) (by omega)]at h0;have hk2:=QS _ h0;have hlow:(s.get! (a+(k+1))).toNat<128:=by unfold sJ at h0;simp only[dC,decide_eq_true_eq]at h0;omega
  rw[A7 s _ _ _ (by omega) (by omega) hlow,show m-(k+1)-1=m-(k+2) by omega,show a+(k+1)+1=a+(k+2) by omega,Kz _ _ _ 2 hk2 (by decide) (by decide) (by decide),NS _ _ _ _ rfl rfl,JP];have e1:=Dh s a (k+1) (by omega);unfold MI;rw[e1]
def Pq (s:ByteArray) (a k:Nat):GT:=⟨3,a,⟨#[]⟩,sO (((nums s).drop a).take k),0⟩
theorem Jw (s:ByteArray) (a k:Nat) (h:a+k<s.size):sO (((nums s).drop a).take (k+1))=min (10*sO (((nums s).drop a).take k)+(((s.get! (a+k)).toNat:Int)-48)) 65536:=by
 rw[zO _ _ (by rw[jy,bU];omega)];congr 3;rw[<-Cr s (a+k) h];simp only[List.getD,rV]
theorem Yk (s:ByteArray) (a m:Nat) (acc:List GT) (b:Int) (hb:b≠3) (hm:s.size<=m+a):∀k,1<=k->a+k<=s.size->(∀j,j<k->oQ ((nums s).getD (a+j) 0)=true) ->
  (wy s m a).foldl wR (.ok (acc,b))=if 65535<sO (((nums s).drop a).take k) then .error (a:Int) else(wy s (m-k) (a+k)).foldl wR (.ok (acc++[Pq s a k],3))
 | 0,h,_,_=>by omega
 | 1,_,hk,hl=>by
  have h0:=hl 0 (by omega);rw[jA,Cr s a (by omega)]at h0;have hk2:=RL _ h0;have hd:48<=(s.get! a).toNat/\(s.get! a).toNat<=57:=by unfold oQ at h0;simp only[dC,decide_eq_true_eq]at h0;omega
  have e1:sO (((nums s).drop a).take 1)=min (10*0+(((s.get! a).toNat:Int)-48)) 65536:=Jw s a 0 (by omega);have e2:sO (((nums s).drop a).take 1)=10*0+((s.get! a).toNat:Int)-48:=by rw[e1];omega
  rw[A7 s m a _ hm (by omega) (by omega),GN _ _ 3 hk2 (by decide) (by decide) (.inr (λe=>hb e.symm)),Rk _ _ _ _ rfl];unfold Pq;rw[e2,ae (show ¬ 65535<10*(xO 3 (a:Int)).n+((s.get! a).toNat:Int)-48 from(by show ¬ 65535<10*(0:Int)+((s.get! a).toNat:Int)-48;omega)),ae (by omega)];rfl
 | k+2,_,hk,hl=>by
  rw[Yk s a m acc b hb hm (k+1) (by omega) (by omega) (λj hj=>hl j (by omega))];have h0:=hl (k+1) (by omega);rw[Cr s (a+(k+1)) (by omega)]at h0;have hk2:=RL _ h0;have hd:48<=(s.get! (a+(k+1))).toNat/\(s.get! (a+(k+1))).toNat<=57:=by unfold oQ at h0;simp only[dC,decide_eq_true_eq]at h0;omega
  have e1:=Jw s a (k+1) (by omega);by_cases hbig:65535<sO (((nums s).drop a).take (k+1))
  .rw[ag hbig,ag (by rw[e1];omega)]
  .rw[ae hbig];rw[A7 s _ _ _ (by omega) (by omega) (by omega),show m-(k+1)-1=m-(k+2) by omega,show a+(k+1)+1=a+(k+2) by omega,Kz _ _ _ 3 hk2 (by decide) (by decide) (by decide),Rk _ _ _ _ rfl];by_cases hb2:65535<10*sO (((nums s).drop a).take (k+1))+((s.get! (a+(k+1))).toNat:Int)-48
   .rw[ag (show 65535<sO (((nums s).drop a).take (k+2)) by rw[e1];omega),ag (show 65535<10*(Pq s a (k+1)).n+_-48 from hb2)];exact Ap _ _
   .have e2:sO (((nums s).drop a).take (k+2))=10*sO (((nums s).drop a).take (k+1))+((s.get! (a+(k+1))).toNat:Int)-48:=by rw[e1];omega
    rw[ae (show ¬ 65535<sO (((nums s).drop a).take (k+2)) by rw[e2];exact hb2),ae (show ¬ 65535<10*(Pq s a (k+1)).n+_-48 from hb2)];unfold Pq;rw[e2]
def F4 (t:aH):GT:=⟨kP t,t.place,wP t,nP t,sP t⟩
theorem Yv (s:ByteArray) (a:Nat) (ha:a<=s.size):F4 (ql s a)=MI s a (jq s a).size:=by
 have e:s.extract a (a+(jq s a).size)=jq s a:=by rw[(xY s a ha).1];rfl
 unfold F4 MI;rw[e];unfold ql
 cases dI (jq s a) qg<;>rfl
theorem Zi (s:ByteArray) (a:Nat) (ha:a<=s.size):F4 (DJ s a)=Pq s a (gL s a).size:=by
 have e:nums (gL s a)=((nums s).drop a).take (gL s a).size:=by
  rw[(Ai s a ha).1,gL,jK,show a+oJ true ((nums s).drop a)-a=oJ true ((nums s).drop a) by omega]
 unfold Pq;rw[<-e];rfl
def Rm (s:ByteArray) (x:Except Int (List GT×Int)):Option (List aH)×Nat->Prop
 | (some l,p)=>p=s.size/\∃b,x=.ok (l.map F4,b)
 | (none,p)=>x=.error (p:Int)
theorem zU (s:ByteArray):∀(f a m:Nat) (acc:List aH) (b:Int),s.size<=f+a->s.size<=m+a->a<=s.size->(b=2->a<s.size->sJ ((nums s).getD a 0)=false)->(b=3->a<s.size->oQ ((nums s).getD a 0)=false) ->
  Rm s ((wy s m a).foldl wR (.ok (acc.map F4,b))) (oN s f a acc)
 | 0,a,m,acc,b,hf,hm,ha,_,_=>by
  rw[Hr s m a (by omega)];exact⟨by omega,b,rfl⟩
 | f+1,a,m,acc,b,hf,hm,ha,h2,h3=>by
  rw[oN];by_cases hlt:a<s.size
  .rw[ag hlt];have ws:=xY s a ha;have ns:=Ai s a ha;have dl:∀j,((nums s).drop a).getD j 0=(nums s).getD (a+j) 0:=λj=>by simp only[List.getD,rV]
   have ll:((nums s).drop a).length=s.size-a:=by rw[jy,bU]
   cases hbl:nG s a with
   | true=>
    rw[ag rfl];unfold nG at hbl;rw[Cr s a hlt]at hbl;simp only[pU,beq_iff_eq]at hbl;have hk1:yF ((s.get! a).toNat:Int)=1:=by unfold yF;rw[ag hbl]
    rw[A7 s m a _ hm hlt (by omega)];have hst:kT (acc.map F4,b) ((a:Int),((s.get! a).toNat:Int))=.ok (acc.map F4,1):=by unfold kT;rw[hk1];rfl
    rw[hst];exact zU s f (a+1) (m-1) acc 1 (by omega) (by omega) (by omega) (λh=>by omega) (λh=>by omega)
   | false=>
    rw[ae (by simp)];by_cases hw:0<(jq s a).size
    .rw[ag hw];have hl:∀j,j<(jq s a).size->sJ ((nums s).getD (a+j) 0)=true:=λj hj=>by
      rw[<-dl j];exact Qy false _ j (by rw[<-ws.1];exact hj)
     have hb2:b≠2:=λe=>by
      have:=hl 0 hw;rw[jA,h2 e hlt]at this
      cases this
     rw[Rv s a m _ b hb2 hm _ hw ws.2 hl,<-Yv s a ha,show acc.map F4++[F4 (ql s a)]=(acc++[ql s a]).map F4 by simp];refine zU s f _ _ _ 2 (by omega) (by omega) ws.2 (λ_ hx=>?_) (λh=>by omega);have:=CX false ((nums s).drop a) (by rw[<-ws.1,ll];omega);rw[<-ws.1,dl]at this;exact this
    .rw[ae hw];have hnl:sJ ((nums s).getD a 0)=false:=by
      have h0:oJ false ((nums s).drop a)=0:=by rw[<-ws.1];omega
      have:=CX false ((nums s).drop a) (by rw[h0,ll];omega);rw[h0,dl,jA]at this;exact this
     by_cases hn:0<(gL s a).size
     .rw[ag hn];have hl:∀j,j<(gL s a).size->oQ ((nums s).getD (a+j) 0)=true:=λj hj=>by
       rw[<-dl j];exact Qy true _ j (by rw[<-ns.1];exact hj)
      have hb3:b≠3:=λe=>by
       have:=hl 0 hn;rw[jA,h3 e hlt]at this
       cases this
      have e:nums (gL s a)=((nums s).drop a).take (gL s a).size:=by
       rw[ns.1,gL,jK,show a+oJ true ((nums s).drop a)-a=oJ true ((nums s).drop a) by omega]
      rw[Yk s a m _ b hb3 hm _ hn ns.2 hl,<-e];by_cases hbig:65535<sO (nums (gL s a))
      .rw[ag hbig,ag hbig];rfl
      .rw[ae hbig,ae hbig,<-Zi s a ha,show acc.map F4++[F4 (DJ s a)]=(acc++[DJ s a]).map F4 by simp];refine zU s f _ _ _ 3 (by omega) (by omega) ns.2 (λh=>by omega) (λ_ hx=>?_);have:=CX true ((nums s).drop a) (by rw[<-ns.1,ll];omega);rw[<-ns.1,dl]at this;exact this
     .rw[ae hn];have hnd:oQ ((nums s).getD a 0)=false:=by
       have h0:oJ true ((nums s).drop a)=0:=by rw[<-ns.1];omega
       have:=CX true ((nums s).drop a) (by rw[h0,ll];omega);rw[h0,dl,jA]at this;exact this
      by_cases hs:0<(iL s a).size
      .rw[ag hs];obtain⟨hd,hmem⟩:=Uk s a hlt hs;have sz:=Bg s a;have hrp:0<=aX (iL s a)/\aX (iL s a)∈rC:=by
        have:∀g∈aY,0<=aX g/\aX g∈rC:=by
         intro g hg;have hm2:aX g∈aY.map aX:=List.mem_map.2 ⟨g,hg,rfl⟩;rw[BP]at hm2;have:∀r∈ma,0<=r:=by decide
         exact⟨this _ hm2,hm2⟩
        exact this _ hmem
       have hk4:yF (aX (iL s a))=4:=by
        have:∀r∈rC,yF r=4:=by decide
        exact this _ hrp.2
       rw[IB s m a _ hm hlt,hd];have hc:(((aX (iL s a)).toNat:Nat):Int)=aX (iL s a):=Int.toNat_of_nonneg hrp.1;show Rm s ((wy s (m-1) (a+(iL s a).size)).foldl wR (kT (acc.map F4,b) ((a:Int),((aX (iL s a)).toNat:Int)))) _;rw[hc,GN _ _ 4 hk4 (by decide) (by decide) (.inl rfl),Vj _ _ _ _ rfl rfl];have e:(acc.map F4++[{ xO 4 (a:Int) with s:=aX (iL s a) }])=(acc++[yU s a]).map F4:=by rw[jc];rfl
       show Rm s ((wy s (m-1) (a+(iL s a).size)).foldl wR (.ok ((acc.map F4++[{ xO 4 (a:Int) with s:=aX (iL s a) }]),4))) _;rw[e];exact zU s f _ _ _ 4 (by omega) (by omega) (sz.2 hs) (λh=>by omega) (λh=>by omega)
      .rw[ae hs];have hns:=UQ s a hlt hs;have hk0:yF ((Utf8.decode s a).1:Int)=0:=by
        unfold nG at hbl;rw[Cr s a hlt]at hbl hnl hnd;unfold sJ at hnl;unfold oQ at hnd;simp only[Bool.or_eq_false_iff,beq_eq_false_iff_ne,ne_eq,Bool.and_eq_false_iff,decide_eq_false_iff_not]at hbl hnl hnd;unfold yF;by_cases hlow:(s.get! a).toNat<128
        .rw[Sa s a hlow]at hns ⊢;simp only at hns ⊢;rw[ae (by omega),ae hns,ae (by omega),ae (by omega)]
        .have:=Qh8 s a hlow;rw[ae (by omega),ae hns,ae (by omega),ae (by omega)]
       rw[IB s m a _ hm hlt];have hst:kT (acc.map F4,b) ((a:Int),((Utf8.decode s a).1:Int))=.error (a:Int):=by unfold kT;rw[hk0];rfl
       rw[hst];exact Ap _ _
  .rw[ae hlt,Hr s m a hlt];exact⟨by omega,b,rfl⟩
theorem Yi (s:ByteArray):Rm s (pF (mD s)) (oN s s.size 0 []):=zU s s.size 0 s.size [] 1 (by omega) (by omega) (by omega) (λh=>by omega) (λh=>by omega)
theorem Qk0 (T:List aH) (j i:Nat) (hj:j<T.length) (hi:i<5):(uk (T.map F4))[j*5+i]?=(Cf T[j])[i]?:=by
 induction T generalizing j with
 | nil=>simp at hj
 | cons t T ih=>
  have e:uk ((t::T).map F4)=Cf t++uk (T.map F4):=rfl;rw[e];have h5:(Cf t).length=5:=rfl
  cases j with
  | zero=>rw[pI (by omega)];simp
  | succ j=>
   rw[vK (by omega),h5,show(j+1)*5+i-5=j*5+i by omega,ih j (by simpa using hj)];rfl
theorem YM {base c:Nat} {m:Nat} (h:w.ownsRow base 116 5 (.slice (some ⟨g,0,none⟩) m c) m (uk (T.map F4))) (hm:m=T.length):uH w g T:=by
 subst hm;intro j hj;have f:∀i (hi:i<5),w.cell? ⟨g,j*5+i,none⟩=(Cf T[j])[i]?:=λi hi=>(h.cellAt (j*5+i) (by omega)).trans (Qk0 T j i hj hi);exact⟨f 0 (by omega),f 1 (by omega),f 2 (by omega),f 3 (by omega),f 4 (by omega)⟩
def Qp9 (w:World) (s:ByteArray) (e:Ending) (w':World):Option (List aH)×Nat->Prop
 | (none,p)=>e=.returned (.tuple #[.slice none 0 0,.agg #[.int .i64 8,.int .i64 p]])
 | (some l,p)=>p=s.size/\∃g c,(w.heap.size<=g/\g<w'.heap.size)/\((l++[aI p]).length<=c/\c<=maxLen)/\e=.returned (.tuple #[.slice (some ⟨g,0,none⟩) (l++[aI p]).length c,.agg #[.int .i64 0,.int .i64 0]])/\uH w' g (l++[aI p])
theorem Mq (s:ByteArray) (hs:s.size<=300) (w:World):Calls Tryz.prog 57 #[.string s] w λe w'=>Below w.heap.size w w'/\Qp9 w s e w' (oN s s.size 0 []):=by
 refine(Vo s hs w).mono ?_;rintro e w' ⟨hb,hout⟩;refine⟨hb,?_⟩;have hl:=Yi s
 cases hx:oN s s.size 0 [] with
 | mk o p=>
  rw[hx]at hl
  cases o with
  | none=>
   have hl':pF (mD s)=.error (p:Int):=hl;rcases hout with⟨q,hq,rfl⟩|⟨σ,g,c,hq,_⟩
   .rw[hl']at hq
    cases hq;rfl
   .rw[hl']at hq
    cases hq
  | some l=>
   obtain⟨hp,b,hl'⟩:p=s.size/\∃b,pF (mD s)=.ok (l.map F4,b):=hl;rcases hout with⟨q,hq,_⟩|⟨σ,g,c,hq,rfl,hown⟩
   .rw[hl']at hq
    cases hq
   .rw[hl']at hq
    cases hq;have e1:l.map F4++[xO 5 (s.size:Int)]=(l++[aI p]).map F4:=by rw[jc,hp];rfl
    have e2:(l.map F4,b).1.length+1=(l++[aI p]).length:=by simp
    rw[e2]at hown ⊢;rw[e1]at hown;refine⟨hp,g,c,hown.lt g rfl,?_,rfl,YM hown rfl⟩;rcases hown.2 with⟨h0,_⟩|⟨g',cap,cur,h0,_,_,hn,hc,_⟩
    .cases h0
    .cases h0;exact⟨hn,hc⟩
theorem Sl (f:Int):mo f≠0:=by unfold mo;split<;>omega
theorem CR (f:Int):mo (mo f)=mo f:=by have:=Sl f;rw[mo,ae this]
theorem CQ (f pl x y:Int):nY (mo f) (nY f pl x) y=nY f pl x:=by have:=Sl f;rw[nY,ae this]
theorem ku (h:bP T) (s:ByteArray):bJ T (T.length-1) s=false:=by unfold bJ;rw[h.2];rfl
def Qd3 {α:Type} (w:World) (pb tb cap:Nat) (T:List aH) (f pl:Int) (r:Except Nat (α×Nat)) (e:Ending) (w':World):Prop:=e=.returned (.tuple #[])/\aB pb w w'/\match r with
 | .ok (_,j)=>bg w' pb tb cap T j f pl
 | .error k=>bg w' pb tb cap T (T.length-1) (mo f) (nY f pl (ah T k).place)
theorem oW (hT:eQ T) (w:World) (pb tb cap i:Nat) (f pl c:Int) (s:ByteArray) (hs:s∈aY) (hc:aX s=c) (h:bg w pb tb cap T i f pl) (hr:aZ T s i=some r) :
  Calls Tryz.prog 111 #[.pointer (some ⟨pb,0,none⟩),.int .i32 c] w (Qd3 w pb tb cap T f pl r):=by
 unfold aZ at hr;split at hr
 .rename_i hi
  cases hr;refine(KU w pb tb cap i T f pl c h (by rw[<-hc,pq hT i hs];exact hi) (aD hT.last h.lt hi)).mono ?_;rintro e w' ⟨he,h1,k1⟩;exact⟨he,k1,h1⟩
 .rename_i hi
  cases hr;refine(EW w pb tb cap i T f pl c h (by rw[<-hc,pq hT i hs];exact gW.2 hi)).mono ?_;rintro e w' ⟨he,h1,k1⟩;exact⟨he,k1,h1⟩
theorem Dt (hT:eQ T) (w:World) (pb tb cap:Nat) (f pl c x:Int) (s:ByteArray) (hs:s∈aY) (hc:aX s=c) (h:bg w pb tb cap T (T.length-1) (mo f) (nY f pl x)) :
  Calls Tryz.prog 111 #[.pointer (some ⟨pb,0,none⟩),.int .i32 c] w λe w'=>e=.returned (.tuple #[])/\aB pb w w'/\bg w' pb tb cap T (T.length-1) (mo f) (nY f pl x):=by
 refine(EW w pb tb cap _ T _ _ c h (by rw[<-hc,pq hT _ hs];exact ku hT.last s)).mono ?_;rintro e w' ⟨he,h1,k1⟩;rw[CR,CQ]at h1;exact⟨he,k1,h1⟩
theorem Gb {α β:Type} (hT:eQ T) (w:World) (pb tb cap:Nat) (f pl c:Int) (s:ByteArray) (hs:s∈aY) (hc:aX s=c) {r1:Except Nat (α×Nat)} {g:α->β} {r:Except Nat (β×Nat)}
  (h:match r1 with | .ok (_,j)=>bg w pb tb cap T j f pl | .error x=>bg w pb tb cap T (T.length-1) (mo f) (nY f pl (ah T x).place))
  (hr:andThen (some r1) (λe j=>andThen (aZ T s j) λ_ j=>kF (g e) j)=some r) :
  Calls Tryz.prog 111 #[.pointer (some ⟨pb,0,none⟩),.int .i32 c] w (Qd3 w pb tb cap T f pl r):=by
 cases r1 with
 | error x=>
  cases hr;refine(Dt hT w pb tb cap f pl c _ s hs hc h).mono ?_;rintro e w' ⟨he,k,h1⟩;exact⟨he,k,h1⟩
 | ok xj=>
  obtain⟨x,j⟩:=xj;obtain⟨r2,e2⟩:=dK T s j;simp only[andThen]at hr;rw[e2]at hr;refine(oW hT w pb tb cap j f pl c s hs hc h e2).mono ?_;rintro e w' ⟨he,k,h1⟩
  cases r2 with
  | error y=>cases hr;exact⟨he,k,h1⟩
  | ok yj=>obtain⟨_,j2⟩:=yj;cases hr;exact⟨he,k,h1⟩
theorem rW:aX xS=40:=by unfold aX;simp only[aJ];decide
theorem KL:aX wF=41:=by unfold aX;simp only[aJ];decide
theorem Qb4:aX J2=91:=by unfold aX;simp only[aJ];decide
theorem YJ:aX D9=93:=by unfold aX;simp only[aJ];decide
theorem Ri:aX su=44:=by unfold aX;simp only[aJ];decide
theorem LJ:aX xE=59:=by unfold aX;simp only[aJ];decide
theorem Qa3:aX Oy=8592:=by unfold aX;simp only[aJ];decide
theorem Qd0:aX M3=8230:=by unfold aX;simp only[aJ];decide
theorem ZE:aX Oz=123:=by unfold aX;simp only[aJ];decide
theorem ZG:aX DF=125:=by unfold aX;simp only[aJ];decide
theorem vX:aX Ag=45:=by unfold aX;simp only[aJ];decide
theorem fH:xS∈aY/\wF∈aY/\J2∈aY/\D9∈aY/\su∈aY/\xE∈aY/\Oy∈aY/\M3∈aY/\Oz∈aY/\DF∈aY/\Ag∈aY:=by
 simp[aY,xS,wF,J2,D9,su,xE,Oy,M3,Oz,DF,Ag]
def gP (fn:Nat) (P:PE):Prop:=∀(w:World) (pb tb cap i:Nat) (T:List aH) (f pl:Int) (r:Except Nat (Ex×Nat)),eQ T->bg w pb tb cap T i f pl->P T i=some r->Calls Tryz.prog fn #[.pointer (some ⟨pb,0,none⟩)] w (yu w pb tb cap T f pl r)
theorem iy {c0 c1 c2 c3 c4 c5:Value} (h:w.heap[b]?=some (.cells #[c0,c1,c2,c3,c4,c5] ty (0,0))) :
  (w.cell? ⟨b,0,none⟩=some c0/\w.cell? ⟨b,1,none⟩=some c1/\w.cell? ⟨b,2,none⟩=some c2/\w.cell? ⟨b,3,none⟩=some c3/\w.cell? ⟨b,4,none⟩=some c4/\w.cell? ⟨b,5,none⟩=some c5) /\
  (w.frozen? ⟨b,0,none⟩=false/\w.frozen? ⟨b,1,none⟩=false/\w.frozen? ⟨b,2,none⟩=false/\w.frozen? ⟨b,3,none⟩=false/\w.frozen? ⟨b,4,none⟩=false/\w.frozen? ⟨b,5,none⟩=false):=by
 refine⟨⟨?_,?_,?_,?_,?_,?_⟩,?_,?_,?_,?_,?_,?_⟩<;>simp[World.cell?,World.frozen?,h]
def put6 (w:World) (b:Nat) (k p:Int) (wd:ByteArray) (n s:Int) (sv:Value):World:=(((((w.setCell ⟨b,0,none⟩ (.int .i64 k)).setCell ⟨b,1,none⟩ (.int .i64 p)).setCell ⟨b,2,none⟩ (.string wd)).setCell ⟨b,3,none⟩ (.int .i32 n)).setCell ⟨b,4,none⟩ (.int .i32 s)).setCell ⟨b,5,none⟩ sv
theorem bg.put6 {w:World} {pb tb cap i:Nat} {T:List aH} {f pl:Int} (h:bg w pb tb cap T i f pl) {b:Nat} (h1:b≠pb) (h2:b≠tb) {k p n s:Int} {wd:ByteArray} {sv:Value} : bg (put6 w b k p wd n s sv) pb tb cap T i f pl:=
 (((((h.other _ h1 h2).other _ h1 h2).other _ h1 h2).other _ h1 h2).other _ h1 h2).other _ h1 h2
theorem aB.put6 {pb:Nat} {w w':World} (h:aB pb w w') {b:Nat} (hb:w.heap.size<=b) {k p n s:Int} {wd:ByteArray} {sv:Value} : aB pb w (put6 w' b k p wd n s sv):=
 (((((h.new _ hb).new _ hb).new _ hb).new _ hb).new _ hb).new _ hb
theorem Om {X:PE} (hX:gP 130 X) (w:World) (pb tb cap i:Nat) (T:List aH) (f pl:Int) (r:Except Nat (Ex×Nat)) (hT:eQ T) (h:bg w pb tb cap T i f pl) (hi:bJ T i xS=true)
  (hr:(andThen (X T (i+1)) λe j=>andThen (aZ T wF j) λ_ j=>kF e j)=some r) :
  Calls Tryz.prog 150 #[.pointer (some ⟨pb,0,none⟩)] w (yu w pb tb cap T f pl r):=by
 have hp:=h.plt;have hlow:=h.low
 cases hx:X T (i+1) with
 | none=>rw[hx]at hr;cases hr
 | some r1=>
 rw[hx]at hr;have hx1:=aj hx;clear hx;have HR:=aj hr;clear hr;go_enter Tryz.func150,Tryz.ntmps150;go_wp2_with fail;refine(oW hT _ pb tb cap i f pl 40 xS fH.1 rW (h.alloc _) (r:=.ok ((),i+1)) (by unfold aZ;rw[ag hi];rfl)).mono ?_;rintro e w1 ⟨rfl,k1,h1⟩;have q1:w1.heap[w.heap.size]?=some (.cells #[.int .i64 0,.int .i64 0,.string ⟨#[]⟩,.int .i32 0,.int .i32 0,.slice none 0 0] 119 (0,0)):=(k1.2 _ (by simp) (by omega)).trans (aA w _);have K1:=(aB.alloc pb w _).trans k1;clear h k1;go_wp2_with fail;refine(hX w1 pb tb cap (i+1) T f pl r1 hT h1 (aa hx1)).mono ?_;rintro e w2 ⟨k2,a0,a1,a2,a3,a4,ao,len,c,rfl,h2⟩;have lt1:w.heap.size<w1.heap.size:=(az.1 q1).1;have q2:=(k2.2 _ lt1 (by omega)).trans q1;have K2:=K1.trans k2;have lt2:w.heap.size<w2.heap.size:=(az.1 q2).1;clear K1 k2 q1 h1 hx1;unfold nN;go_wp2_with fail;refine(Gb hT _ pb tb cap f pl 41 wF fH.2.1 KL (r1:=r1) (g:=λe=>e) (r:=r) ?_ (aa HR)).mono ?_
 .cases r1 with
  | error x=>exact bg.alloc h2 _
  | ok xj=>exact h2.1.alloc _
 rintro e w3 ⟨rfl,k3,h3⟩;have q3:=(k3.2 _ (by simp;omega) (by omega)).trans ((av w2 _ _ lt2).trans q2);have lt3:=k3.1;have p3:w3.heap[w2.heap.size]?=some (.cells #[.int .i64 a0,.int .i64 a1,.string a2,.int .i32 a3,.int .i32 a4,.slice ao len c] 119 (0,0)):=(k3.2 _ (by simp) (by have:=K2.1;omega)).trans (aA w2 _);obtain⟨⟨d0,d1,d2,d3,d4,d5⟩,z0,z1,z2,z3,z4,z5⟩:=iy q3;obtain⟨⟨x0,x1,x2,x3,x4,x5⟩,_⟩:=iy p3;have K3:=aj ((K2.trans (aB.alloc pb w2 _)).trans k3);have st:nz (λg=>w1.heap.size<=g) w2 (put6 w3 w.heap.size a0 a1 a2 a3 a4 (.slice ao len c)):=λk hk hl=>by
  have hk:w1.heap.size<=k:=hk;have e0:(put6 w3 w.heap.size a0 a1 a2 a3 a4 (.slice ao len c)).heap[k]?=w3.heap[k]?:=by
   unfold put6;have hne:k≠w.heap.size:=by omega
   exact(ay _ _ _ _ hne).trans ((ay _ _ _ _ hne).trans ((ay _ _ _ _ hne).trans ((ay _ _ _ _ hne).trans ((ay _ _ _ _ hne).trans (ay _ _ _ _ hne)))))
  exact e0.trans ((k3.2 k (by simp;omega) (by omega)).trans (av w2 _ k hl))
 have ST:=aj st;have hne2:w.heap.size≠w2.heap.size:=by omega
 have H2:=aj h2;have H3:=aj h3;clear h2 h3 st q3 p3 k3 K2 q2;go_wp2;refine aL (v:=nN a0 a1 a2 a3 a4 (.slice ao len c)) (by simp[results,Tryz.results150,go_sem,nN,d0,d1,d2,d3,d4,d5]) rfl ⟨(aa K3).put6 (af _),a0,a1,a2,a3,a4,ao,len,c,rfl,?_⟩;have h3:=aa H3;have h2:=aa H2;have hr:=aa HR
 cases r with
 | error x=>exact h3.put6 (by omega) (by omega)
 | ok xj=>
  obtain⟨t,j⟩:=xj
  cases r1 with
  | error x=>cases hr
  | ok yj=>
   obtain⟨t1,j1⟩:=yj;obtain⟨_,_,e1,hr2⟩:=au hr
   cases e1;obtain⟨_,_,_,hr3⟩:=au hr2
   cases hr3;exact⟨h3.put6 (by omega) (by omega),h2.2.later (aa ST) (λk hk _=>by show _<=_;have:w1.heap.size<=k:=hk;omega)⟩
end Go.Proofs.YthmmgiaobakilaaGreat
