import Derived.Test.YthmmgiaobakilaaGreatJ01
set_option maxRecDepth 100000
set_option maxHeartbeats 8000000
set_option linter.all false
namespace Go.Proofs.YthmmgiaobakilaaGreat
open Go.RowKit
theorem TW (W H:Int) (ao bo:Option Addr) (c d:Nat) (xs ys:List Int) (src:ByteArray) (w:World) (hx:aF w.heap.size w ao xs) (hy:aF w.heap.size w bo ys) (hlx:xs.length<=maxLen) (hly:ys.length<=maxLen) (he:¬ bi W H xs ys=0) :
  Calls Tryz.prog 48 #[.agg #[.int .i64 W,.int .i64 H,.slice ao xs.length c,.slice bo ys.length d,.string src]] w λe w'=>e=.returned (.tuple #[.string ByteArray.empty,.int .i64 (bi W H xs ys)])/\Below w.heap.size w w':=by
 have hb:∀o,Below w.heap.size w (w.alloc o):=λo=>(ax _ _).alloc (af _) o;have hne:(bi W H xs ys != 0)=true:=by simpa using he
 go_enter Tryz.func48,Tryz.ntmps48;go_wp2_with fail;refine(vg W H ao bo c d xs ys src _ w.heap.size (by simp) (hx.later (hb _) (af _)) (hy.later (hb _) (af _)) hlx hly).mono ?_;rintro e w' ⟨rfl,hw⟩;go_wp2
 go_ret2
 exact⟨rfl,(hb _).trans (hw.mono (by simp))⟩
theorem QE (W H:Int) (ao bo:Option Addr) (c d:Nat) (xs ys:List Int) (src:ByteArray) (w:World) (hx:aF w.heap.size w ao xs) (hy:aF w.heap.size w bo ys) (hlx:xs.length<=maxLen) (hly:ys.length<=maxLen) (he:bi W H xs ys=0) (hs:src.size<=maxLen) (h300:300<src.size) :
  Calls Tryz.prog 48 #[.agg #[.int .i64 W,.int .i64 H,.slice ao xs.length c,.slice bo ys.length d,.string src]] w λe w'=>e=.returned (.tuple #[.string ByteArray.empty,.int .i64 7])/\Below w.heap.size w w':=by
 have hb:∀o,Below w.heap.size w (w.alloc o):=λo=>(ax _ _).alloc (af _) o;have HE:Hid (bi W H xs ys=0):=he;clear he;go_enter Tryz.func48,Tryz.ntmps48;go_wp2_with fail;refine(vg W H ao bo c d xs ys src _ w.heap.size (by simp) (hx.later (hb _) (af _)) (hy.later (hb _) (af _)) hlx hly).mono ?_;rintro e w' ⟨rfl,hw⟩;rw[HE.out];obtain⟨k0,k1,k2,k3,k4,hz⟩:=Vx hw;have hw':=(hb _).trans (hw.mono (by simp));clear hw hx hy;unfold maxLen at hs;go_wp2
 go_ret2
 exact⟨rfl,hw'⟩
theorem Qd (W H:Int) (ao bo:Option Addr) (c d:Nat) (xs ys:List Int) (src:ByteArray) (w:World) (hx:aF w.heap.size w ao xs) (hy:aF w.heap.size w bo ys) (hlx:xs.length<=maxLen) (hly:ys.length<=maxLen) (he:bi W H xs ys=0) (h300:src.size<=300) :
  Calls Tryz.prog 48 #[.agg #[.int .i64 W,.int .i64 H,.slice ao xs.length c,.slice bo ys.length d,.string src]] w λe w'=>e=.returned (.tuple #[.string (strOfNums (Jd W H xs ys src)),.int .i64 0])/\Below w.heap.size w w':=by
 obtain⟨i0,hi,hz0,hz1,hz2⟩:=dG Gw;obtain⟨sW,sH,lx,ly,tx,ty⟩:=I4 he;obtain⟨b1,b2,b3,b4,b5,b6⟩:=pO sW sH;have hxl:xs.length<=36:=by omega
 have hyl:ys.length<=36:=by omega
 clear lx ly sW sH;have hb:∀o,Below w.heap.size w (w.alloc o):=λo=>(ax _ _).alloc (af _) o;have HE:Hid (bi W H xs ys=0):=he;have TX:Hid (xs.all bS=true):=tx;have TY:Hid (ys.all bS=true):=ty;clear he tx ty;go_enter Tryz.func48,Tryz.ntmps48;go_wp2_with fail;refine(vg W H ao bo c d xs ys src _ w.heap.size (by simp) (hx.later (hb _) (af _)) (hy.later (hb _) (af _)) hlx hly).mono ?_;rintro e w' ⟨rfl,hw⟩;rw[HE.out];obtain⟨k0,k1,k2,k3,k4,hz⟩:=Vx hw;have hw':=(hb _).trans (hw.mono (by simp));have hx':=hx.later hw' (af _);have hy':=hy.later hw' (af _);clear hw hx hy;go_wp2_with fail;have ha:=λo=>(ax (w.heap.size+1) w').alloc (by omega) o;refine(IC _ 3 [.int .u8 85,.int .u8 W,.int .u8 H] ao c xs _ (w.heap.size+1) (World.ownsRow_lit w' #[.int .u8 85,.int .u8 W,.int .u8 H] 3 (by omega) (by decide) rfl) ((hx'.mono (by omega)).later (ha _) (af _)) (by omega) (by omega) (by simp;omega) TX.out).mono ?_;rintro e w2 ⟨v2,rfl,own2,bel2⟩;have B2:Below (w.heap.size+1) w' w2:=(ha _).trans bel2
 replace k3:=jM k3 B2
 replace k4:=jM k4 B2
 replace hz:w.heap.size<w2.heap.size:=by have:=B2.size;omega
 replace hw':=hw'.trans (B2.mono (by omega))
 replace hy':=hy'.later B2 (by omega)
 clear k0 k1 k2 hx' bel2 B2 ha;go_wp2_with fail;refine(IC v2 (3+xs.length) _ bo d ys _ (w.heap.size+1) own2 (hy'.mono (by omega)) (by omega) (by omega) (by omega) TY.out).mono ?_;rintro e w3 ⟨v3,rfl,own3,bel3⟩
 replace k4:=jM k4 bel3
 replace hz:w.heap.size<w3.heap.size:=by have:=bel3.size;omega
 replace hw':=hw'.trans (bel3.mono (by omega))
 clear k3 hy' own2 bel3;go_wp2_with (at_builtin;refine pX _ rfl (.tmp 30) (.tmp 40) 94 rfl (w.heap.size+1) 5 i0 (.int .u8 0) 1 1 Tryz.underlying94 hi hz0 hz1 hz2 rfl (by decide) _ _ _ rfl (own3.alloc _) ⟨w3.heap.size,0,none⟩ 2 2 [.int .u8 ((src.size:Int) / 256),.int .u8 ((src.size:Int) % 256)] rfl rfl ?c1 ?c2 ?c3 ?c4 ?c5 ?_)
 case c1=>exact Ho w3 [.int .u8 ((src.size:Int) / 256),.int .u8 ((src.size:Int) % 256)] 5
 case c2=>intro u hu;simp at hu;rcases hu with rfl|rfl<;>rfl
 case c3=>unfold maxLen;omega
 case c4=>omega
 case c5=>simp;omega
 intro v4 w4 own4 hg4 _;have B4:Below (w.heap.size+1) w3 w4:=((ax _ _).alloc (by omega) _).grown hg4 (by simp;omega) (λq hq=>(own3.lt q hq).1)
 replace k4:=jM k4 B4
 replace hz:w.heap.size<w4.heap.size:=by have:=B4.size;omega
 replace hw':=hw'.trans (B4.mono (by omega))
 clear own3 hg4 B4;go_wp2_with (at_builtin;refine Lib.wpList_append_own_string _ rfl (.tmp 42) (.tmp 44) 94 9 rfl (w.heap.size+1) 5 i0 Tryz.underlying94 Tryz.underlying9 hi hz0 hz1 hz2 _ _ _ rfl own4 src rfl ?c1 ?c2 ?c3 ?_)
 case c1=>unfold maxLen;omega
 case c2=>omega
 case c3=>omega
 intro v5 w5 own5 hg5 _;have B5:Below (w.heap.size+1) w4 w5:=(ax _ _).grown hg5 (by omega) (λq hq=>(own4.lt q hq).1)
 replace hw':=hw'.trans (B5.mono (by omega))
 have hcv:(convert 94 9 v5).run Tryz.prog w5=.ok (.string (strOfNums (Jd W H xs ys src))) w5:=by
  refine Hw (base:=w.heap.size+1) (n:=3+xs.length+ys.length+2+src.size) ?_;rw[Jn]at own5;simpa[Jd] using own5
 clear own4 own5 hg5 B5;go_wp2
 go_ret2
 exact⟨rfl,hw'⟩
theorem Tp (W H:Int) (ao bo:Option Addr) (c d:Nat) (xs ys:List Int) (src:ByteArray) (w:World) (hx:aF w.heap.size w ao xs) (hy:aF w.heap.size w bo ys) (hlx:xs.length<=maxLen) (hly:ys.length<=maxLen) (hs:src.size<=maxLen) :
  Calls Tryz.prog 48 #[.agg #[.int .i64 W,.int .i64 H,.slice ao xs.length c,.slice bo ys.length d,.string src]] w λe w'=>e=.returned (.tuple #[.string (Bq W H xs ys src),.int .i64 (Ac W H xs ys src)])/\Below w.heap.size w w':=by
 by_cases he:bi W H xs ys=0
 .by_cases h300:300<src.size
  .have e1:Ac W H xs ys src=7:=by simp[Ac,he,h300]
   have e2:Bq W H xs ys src=ByteArray.empty:=by simp[Bq,e1]
   rw[e1,e2];exact QE W H ao bo c d xs ys src w hx hy hlx hly he hs h300
  .have e1:Ac W H xs ys src=0:=by simp[Ac,he,h300]
   have e2:Bq W H xs ys src=strOfNums (Jd W H xs ys src):=by simp[Bq,e1]
   rw[e1,e2];exact Qd W H ao bo c d xs ys src w hx hy hlx hly he (by omega)
 .have e1:Ac W H xs ys src=bi W H xs ys:=by simp[Ac,he]
  have e2:Bq W H xs ys src=ByteArray.empty:=by simp[Bq,e1,he]
  rw[e1,e2];exact TW W H ao bo c d xs ys src w hx hy hlx hly he
theorem Qx (W H:Int) (ao bo:Option Addr) (c d:Nat) (xs ys:List Int) (src:ByteArray) (w:World) (hx:aF w.heap.size w ao xs) (hy:aF w.heap.size w bo ys) (hlx:xs.length<=maxLen) (hly:ys.length<=maxLen) (hs:src.size<=maxLen) :
  Calls Tryz.prog 27 #[.agg #[.int .i64 W,.int .i64 H,.slice ao xs.length c,.slice bo ys.length d,.string src]] w λe w'=>e=.returned (.tuple #[.string (Bq W H xs ys src),.int .i64 (Ac W H xs ys src)])/\Below w.heap.size w w':=by
 have hb:∀o,Below w.heap.size w (w.alloc o):=λo=>(ax _ _).alloc (af _) o;go_enter Tryz.func27,Tryz.ntmps27;go_wp2_with fail;refine(Tp W H ao bo c d xs ys src _ ((hx.later (hb _) (af _)).mono (by simp)) ((hy.later (hb _) (af _)).mono (by simp)) hlx hly hs).mono ?_;rintro e w' ⟨rfl,hw⟩;go_wp2
 go_ret2
 exact⟨rfl,(hb _).trans (hw.mono (by simp))⟩
end Go.Proofs.YthmmgiaobakilaaGreat
