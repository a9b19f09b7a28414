import Derived.Test.YthmmgiaobakilaaGreatJ01
set_option maxRecDepth 100000
set_option maxHeartbeats 8000000
set_option linter.all false
namespace Go.Proofs.YthmmgiaobakilaaGreat
open Go.RowKit
theorem LB (W H:Int) (ao bo:Option Addr) (c d:Nat) (xs ys:List Int) (src:ByteArray) (w:World) (hx:aF w.heap.size w ao xs) (hy:aF w.heap.size w bo ys) (hlx:xs.length<=maxLen) (hly:ys.length<=maxLen) (he:¬ bi W H xs ys=0) :
  Calls Tryz.prog 28 #[.agg #[.int .i64 W,.int .i64 H,.slice ao xs.length c,.slice bo ys.length d,.string src]] w λe w'=>e=.returned (.tuple #[.string ByteArray.empty,.int .i64 (bi W H xs ys)])/\Below w.heap.size w w':=by
 have hb:∀o,Below w.heap.size w (w.alloc o):=λo=>(ax _ _).alloc (af _) o;have hne:(bi W H xs ys != 0)=true:=by simpa using he
 go_enter Tryz.func28,Tryz.ntmps28;go_wp2_with fail;refine(CK W H ao bo c d xs ys (.string src) _ ((hx.later (hb _) (af _)).mono (by simp)) ((hy.later (hb _) (af _)).mono (by simp)) hlx hly).mono ?_;rintro e w' ⟨rfl,hw⟩;go_wp2
 go_ret2
 exact⟨rfl,(hb _).trans (hw.mono (by simp))⟩
theorem Jo (W H:Int) (ao bo:Option Addr) (c d:Nat) (xs ys:List Int) (src:ByteArray) (w:World) (hx:aF w.heap.size w ao xs) (hy:aF w.heap.size w bo ys) (hlx:xs.length<=maxLen) (hly:ys.length<=maxLen) (he:bi W H xs ys=0) (hs:src.size<=maxLen) (h300:300<src.size) :
  Calls Tryz.prog 28 #[.agg #[.int .i64 W,.int .i64 H,.slice ao xs.length c,.slice bo ys.length d,.string src]] w λe w'=>e=.returned (.tuple #[.string ByteArray.empty,.int .i64 7])/\Below w.heap.size w w':=by
 have hb:∀o,Below w.heap.size w (w.alloc o):=λo=>(ax _ _).alloc (af _) o;have HE:Hid (bi W H xs ys=0):=he;clear he;go_enter Tryz.func28,Tryz.ntmps28;go_wp2_with fail;refine(CK W H ao bo c d xs ys (.string src) _ ((hx.later (hb _) (af _)).mono (by simp)) ((hy.later (hb _) (af _)).mono (by simp)) hlx hly).mono ?_;rintro e w' ⟨rfl,hw⟩;rw[HE.out];obtain⟨k0,k1,k2,k3,k4,hz⟩:=Vx hw;have hw':=(hb _).trans (hw.mono (by simp));clear hw hx hy;unfold maxLen at hs;go_wp2
 go_ret2
 exact⟨rfl,hw'⟩
theorem Jc (W H:Int) (ao bo:Option Addr) (c d:Nat) (xs ys:List Int) (src:ByteArray) (w:World) (hx:aF w.heap.size w ao xs) (hy:aF w.heap.size w bo ys) (hlx:xs.length<=maxLen) (hly:ys.length<=maxLen) (he:bi W H xs ys=0) (h300:src.size<=300) :
  Calls Tryz.prog 28 #[.agg #[.int .i64 W,.int .i64 H,.slice ao xs.length c,.slice bo ys.length d,.string src]] w λe w'=>e=.returned (.tuple #[.string (strOfNums (Jd W H xs ys src)),.int .i64 0])/\Below w.heap.size w w':=by
 obtain⟨i0,hi,hz0,hz1,hz2⟩:=dG Gw;obtain⟨sW,sH,lx,ly,tx,ty⟩:=I4 he;obtain⟨b1,b2,b3,b4,b5,b6⟩:=pO sW sH;have hxl:xs.length<=36:=by omega
 have hyl:ys.length<=36:=by omega
 have LX:Hid ((xs.length:Int)=W*H):=lx;have LY:Hid ((ys.length:Int)=W*H):=ly;clear lx ly sW sH;have hb:∀o,Below w.heap.size w (w.alloc o):=λo=>(ax _ _).alloc (af _) o;have HE:Hid (bi W H xs ys=0):=he;have TX:Hid (xs.all bS=true):=tx;have TY:Hid (ys.all bS=true):=ty;clear he tx ty;go_enter Tryz.func28,Tryz.ntmps28;go_wp2_with fail;refine(CK W H ao bo c d xs ys (.string src) _ ((hx.later (hb _) (af _)).mono (by simp)) ((hy.later (hb _) (af _)).mono (by simp)) hlx hly).mono ?_;rintro e w' ⟨rfl,hw⟩;rw[HE.out];obtain⟨k0,k1,k2,k3,k4,hz⟩:=Vx hw;have hw':=(hb _).trans (hw.mono (by simp));have hx':=hx.later hw' (af _);have hy':=hy.later hw' (af _);clear hw hx hy;go_wp2_with fail;have ha:=λo=>(ax (w.heap.size+1) w').alloc (by omega) o
 go_loopw [5,6] (λv i wr=>∃k:Nat,(k:Int)<=W*H/\i=.int .i64 k/\wr.ownsRow (w.heap.size+1) 5 1 v (3+k) ([.int .u8 85,.int .u8 W,.int .u8 H]++(xs.take k).map (Value.int .u8))/\Below (w.heap.size+1) w' wr) (λ_ i _=>(W*H-intOf i).toNat)
 case atStart=>exact⟨0,by omega,rfl,by simpa using World.ownsRow_lit w' #[.int .u8 85,.int .u8 W,.int .u8 H] 3 (by omega) (by decide) rfl,ha _⟩
 case round=>
  obtain⟨j,hj,rfl,own,hnx⟩:=hrel;have r0:=jM k0 hnx;have r1:=jM k1 hnx;have rz:w.heap.size<wr.heap.size:=by have:=hnx.size;omega
  by_cases hlt:(j:Int)<W*H
  .have hkx:j<xs.length:=by have:=LX.out;omega
   have r2:=jM k2 hnx;rcases hx' with hx'|⟨b,off,rfl,hbB,hcell⟩
   .simp[hx']at hkx
   have hc1:=(hnx.cell (p:=⟨b,off+j,none⟩) (by show b<_;omega)).trans (hcell j hkx);clear hcell;have hbnd:bS (xs.getD j 0)=true:=by
    have:=wC.1 TX.out (xs[j]) (jW hkx);simpa[List.getD,aU hkx] using this
   have HSN:Hid (∀(u:World) (v':Value),u.ownsRow (w.heap.size+1) 5 1 v' (3+j+1) ([.int .u8 85,.int .u8 W,.int .u8 H]++(xs.take j).map (Value.int .u8)++[.int .u8 (xs.getD j 0)])->u.ownsRow (w.heap.size+1) 5 1 v' (3+(j+1)) ([.int .u8 85,.int .u8 W,.int .u8 H]++(xs.take (j+1)).map (Value.int .u8))):=λu v' h=>GM hkx h;generalize xs.getD j 0=x at hc1 hbnd HSN;simp[bS]at hbnd;obtain⟨x0,x1⟩:=hbnd;clear k0 k1 k2 k3 k4 hy';go_wp2_with (at_builtin;refine pX _ rfl (.tmp 35) (.tmp 42) 94 rfl (w.heap.size+1) 5 i0 (.int .u8 0) 1 1 Tryz.underlying94 hi hz0 hz1 hz2 rfl (by decide) _ _ _ rfl (own.alloc _) ⟨wr.heap.size,0,none⟩ 1 1 [.int .u8 x] rfl rfl ?c1 ?c2 ?c3 ?c4 ?c5 ?_)
   case c1=>exact cell_one_new _ _ _
   case c2=>intro u hu;simp at hu;subst hu;rfl
   case c3=>unfold maxLen;omega
   case c4=>omega
   case c5=>simp;omega
   intro v' w1 h1 hg _;have R:w1.ownsRow (w.heap.size+1) 5 1 v' (3+(j+1)) ([.int .u8 85,.int .u8 W,.int .u8 H]++(xs.take (j+1)).map (Value.int .u8)):=HSN.out w1 v' (by simpa using h1);have R2:Below (w.heap.size+1) w' w1:=(hnx.alloc (by omega) _).grown hg (by simp;omega) (λq hq=>(own.lt q hq).1);clear h1 hg own hnx hc1 HSN r0 r1 r2;go_wp2
   go_roundw
   case rel=>exact⟨j+1,by omega,by go_num,R,R2⟩
   case measure=>simp[intOf];omega
  .have hjx:j=xs.length:=by have:=LX.out;omega
   subst hjx;rw[List.take_length]at own;have r3:=jM k3 hnx;have r4:=jM k4 hnx;have hwr:=hw'.trans (hnx.mono (by omega));have hyr:=hy'.later hnx (by omega);clear k0 k1 k2 k3 k4 hx' hy' hnx hw' hz ha;go_wp2_with fail;obtain⟨wa,hwa⟩:∃wa,wa=wr:=⟨_,rfl⟩;subst hwa
   go_loopw [5,7] (λv i wq=>∃k:Nat,(k:Int)<=W*H/\i=.int .i64 k/\wq.ownsRow (w.heap.size+1) 5 1 v (3+xs.length+k) ([.int .u8 85,.int .u8 W,.int .u8 H]++xs.map (Value.int .u8)++(ys.take k).map (Value.int .u8))/\Below (w.heap.size+1) wa wq) (λ_ i _=>(W*H-intOf i).toNat)
   case atStart=>exact⟨0,by omega,rfl,by simpa using own,ax _ _⟩
   case round=>
    clear own;obtain⟨j,hj,rfl,own,hnx⟩:=hrel;have q0:=jM r0 hnx;have q1:=jM r1 hnx;have qz:w.heap.size<wr.heap.size:=by have:=hnx.size;omega
    by_cases hlt:(j:Int)<W*H
    .have hky:j<ys.length:=by have:=LY.out;omega
     have q3:=jM r3 hnx;rcases hyr with hyr|⟨b,off,rfl,hbB,hcell⟩
     .simp[hyr]at hky
     have hc1:=(hnx.cell (p:=⟨b,off+j,none⟩) (by show b<_;omega)).trans (hcell j hky);clear hcell;have hbnd:bS (ys.getD j 0)=true:=by
      have:=wC.1 TY.out (ys[j]) (jW hky);simpa[List.getD,aU hky] using this
     have HSN:Hid (∀(u:World) (v':Value),u.ownsRow (w.heap.size+1) 5 1 v' (3+xs.length+j+1) (([.int .u8 85,.int .u8 W,.int .u8 H]++xs.map (Value.int .u8))++(ys.take j).map (Value.int .u8)++[.int .u8 (ys.getD j 0)])->u.ownsRow (w.heap.size+1) 5 1 v' (3+xs.length+(j+1)) (([.int .u8 85,.int .u8 W,.int .u8 H]++xs.map (Value.int .u8))++(ys.take (j+1)).map (Value.int .u8))):=λu v' h=>GM hky h;generalize ys.getD j 0=x at hc1 hbnd HSN;simp[bS]at hbnd;obtain⟨x0,x1⟩:=hbnd;clear r0 r1 r3 r4;go_wp2_with (at_builtin;refine pX _ rfl (.tmp 53) (.tmp 60) 94 rfl (w.heap.size+1) 5 i0 (.int .u8 0) 1 1 Tryz.underlying94 hi hz0 hz1 hz2 rfl (by decide) _ _ _ rfl (own.alloc _) ⟨wr.heap.size,0,none⟩ 1 1 [.int .u8 x] rfl rfl ?c1 ?c2 ?c3 ?c4 ?c5 ?_)
     case c1=>exact cell_one_new _ _ _
     case c2=>intro u hu;simp at hu;subst hu;rfl
     case c3=>unfold maxLen;omega
     case c4=>omega
     case c5=>simp;omega
     intro v' w1 h1 hg _;have R:w1.ownsRow (w.heap.size+1) 5 1 v' (3+xs.length+(j+1)) ([.int .u8 85,.int .u8 W,.int .u8 H]++xs.map (Value.int .u8)++(ys.take (j+1)).map (Value.int .u8)):=HSN.out w1 v' (by simpa using h1);have R2:Below (w.heap.size+1) wa w1:=(hnx.alloc (by omega) _).grown hg (by simp;omega) (λq hq=>(own.lt q hq).1);clear h1 hg own hnx hc1 HSN q0 q1 q3;go_wp2
     go_roundw
     case rel=>exact⟨j+1,by omega,by go_num,R,R2⟩
     case measure=>simp[intOf];omega
    .have hjy:j=ys.length:=by have:=LY.out;omega
     subst hjy;rw[List.take_length]at own;have q4:=jM r4 hnx;have hwq:=hwr.trans (hnx.mono (by omega));have hcv:(convert 94 9 u5).run Tryz.prog wr=.ok (.string (strOfNums ([85,W,H]++xs++ys))) wr:=by
      refine Hw (base:=w.heap.size+1) (n:=3+xs.length+ys.length) ?_;simpa using own
     have hcv2:(convert 94 9 (.slice (some ⟨wr.heap.size,0,none⟩) 2 2)).run Tryz.prog (wr.alloc (.cells #[.int .u8 ((src.size:Int) / 256),.int .u8 ((src.size:Int) % 256)] 5))=.ok (.string (strOfNums [(src.size:Int) / 256,(src.size:Int) % 256])) (wr.alloc (.cells #[.int .u8 ((src.size:Int) / 256),.int .u8 ((src.size:Int) % 256)] 5)):=
      Hw (base:=w.heap.size+1) (n:=2) (World.ownsRow_lit wr #[.int .u8 ((src.size:Int) / 256),.int .u8 ((src.size:Int) % 256)] 2 (by omega) (by decide) rfl)
     have HP:Hid (strOfNums ([85,W,H]++xs++ys)++strOfNums [(src.size:Int) / 256,(src.size:Int) % 256]++src=strOfNums (Jd W H xs ys src)):=Q8 W H xs ys src _ _ rfl rfl;have z1:(strOfNums ([85,W,H]++xs++ys)).size<=100:=by rw[strOfNums_size];simp;omega
     have z2:(strOfNums [(src.size:Int) / 256,(src.size:Int) % 256]).size<=2:=by rw[strOfNums_size];simp
     generalize strOfNums ([85,W,H]++xs++ys)=S1 at hcv HP z1;generalize strOfNums [(src.size:Int) / 256,(src.size:Int) % 256]=S2 at hcv2 HP z2;clear r0 r1 r3 r4 hyr hnx own hwr;go_wp2
     go_ret2
     exact⟨Za HP.out,hwq.alloc (by omega) _⟩
theorem Jb (W H:Int) (ao bo:Option Addr) (c d:Nat) (xs ys:List Int) (src:ByteArray) (w:World) (hx:aF w.heap.size w ao xs) (hy:aF w.heap.size w bo ys) (hlx:xs.length<=maxLen) (hly:ys.length<=maxLen) (hs:src.size<=maxLen) :
  Calls Tryz.prog 28 #[.agg #[.int .i64 W,.int .i64 H,.slice ao xs.length c,.slice bo ys.length d,.string src]] w λe w'=>e=.returned (.tuple #[.string (Bq W H xs ys src),.int .i64 (Ac W H xs ys src)])/\Below w.heap.size w w':=by
 by_cases he:bi W H xs ys=0
 .by_cases h300:300<src.size
  .have e1:Ac W H xs ys src=7:=by simp[Ac,he,h300]
   have e2:Bq W H xs ys src=ByteArray.empty:=by simp[Bq,e1]
   rw[e1,e2];exact Jo W H ao bo c d xs ys src w hx hy hlx hly he hs h300
  .have e1:Ac W H xs ys src=0:=by simp[Ac,he,h300]
   have e2:Bq W H xs ys src=strOfNums (Jd W H xs ys src):=by simp[Bq,e1]
   rw[e1,e2];exact Jc W H ao bo c d xs ys src w hx hy hlx hly he (by omega)
 .have e1:Ac W H xs ys src=bi W H xs ys:=by simp[Ac,he]
  have e2:Bq W H xs ys src=ByteArray.empty:=by simp[Bq,e1,he]
  rw[e1,e2];exact LB W H ao bo c d xs ys src w hx hy hlx hly he
end Go.Proofs.YthmmgiaobakilaaGreat
