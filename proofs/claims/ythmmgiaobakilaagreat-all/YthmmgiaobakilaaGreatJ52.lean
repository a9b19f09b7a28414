import Derived.Test.YthmmgiaobakilaaGreatJ50
import Derived.Test.YthmmgiaobakilaaGreatJ51
set_option maxRecDepth 100000
set_option maxHeartbeats 8000000
set_option linter.all false
namespace Go.Proofs.YthmmgiaobakilaaGreat
open Go.RowKit
theorem NG (W H:Int) (ao bo:Option Addr) (c d:Nat) (xs ys:List Int) (src:ByteArray) (w:World) (hx:aF w.heap.size w ao xs) (hy:aF w.heap.size w bo ys) (hlx:xs.length<=maxLen) (hly:ys.length<=maxLen) (hs:src.size<=maxLen) :
  Calls Tryz.prog 13 #[.agg #[.int .i64 W,.int .i64 H,.slice ao xs.length c,.slice bo ys.length d,.string src]] w λe w'=>e=.returned (.bool true)/\Below w.heap.size w w':=by
 have hb:∀o,Below w.heap.size w (w.alloc o):=λo=>(ax _ _).alloc (af _) o;go_enter Tryz.func13,Tryz.ntmps13;go_wp2_with fail;refine(Qx W H ao bo c d xs ys src _ ((hx.later (hb _) (af _)).mono (by simp)) ((hy.later (hb _) (af _)).mono (by simp)) hlx hly hs).mono ?_;rintro e w' ⟨rfl,hw⟩;obtain⟨k0,k1,k2,k3,k4,hz⟩:=Vx hw;have hw':=(hb _).trans (hw.mono (by simp));have hx':=(hx.later hw' (af _)).mono (Nat.le_of_lt hz);have hy':=(hy.later hw' (af _)).mono (Nat.le_of_lt hz);clear hw hx hy;go_wp2_with fail;refine(Jb W H ao bo c d xs ys src _ hx' hy' hlx hly hs).mono ?_;rintro e w2 ⟨rfl,hw2⟩;have hw3:=hw'.trans (hw2.mono (Nat.le_of_lt hz));clear k0 k1 k2 k3 k4 hx' hy' hw2;generalize Bq W H xs ys src=S;generalize Ac W H xs ys src=E;go_wp2;go_ret;exact⟨rfl,hw3⟩
end Go.Proofs.YthmmgiaobakilaaGreat
