import Derived.Test.YthmmgiaobakilaaGreatJ31
import Derived.Laws.FloatArith
import Derived.Laws.Externs
set_option maxRecDepth 100000
set_option maxHeartbeats 8000000
set_option linter.all false
namespace Go.Proofs.YthmmgiaobakilaaGreat
open Go.RowKit Go.Deep
def Kr (n:Nat):Nat:=((List.range 256).filter (λk=>decide ((2*k+1)*(2*k+1)<4*n))).length
def Qp2:Nat:=4602678819172646912
def Qe6 (c:Nat):Option Int:=(FloatKind.f64.format.sqrt (floatOfInt FloatKind.f64 (255*(c:Int)))).bind λs=>(floatBits .add .f64 s Qp2).bind λm=>floatToIntVal .f64 m .i64
theorem Py:∀c∈List.range 256,Qe6 c=some (Kr (255*c):Int):=by decide +kernel
def Ca (v:Int):Int:=min (max v 0) 255
def rU (v:Int):Int:=(Kr (255*(Ca v).toNat):Int)
theorem Xr (x r:Nat) (h:FloatKind.f64.format.sqrt x=some r) (w:World):(callFunc 136 #[.float .f64 x]).run Tryz.prog w=.ok (.value (.float .f64 r)) w:=by
 rw[run_callFunc_extern (e:=Extern.MathSqrt.sqrt) Tryz.func136 (by kernel_rfl) (by kernel_rfl) (by kernel_rfl) (by kernel_rfl)];change (Sem.run Tryz.prog (match FloatKind.f64.format.sqrt x with
  | some r=>(pure (.float .f64 r):Sem Value)
  | none=>do pure (.float .f64 (<-choose (.nanBits .f64 x x)))) w).andThen (λv w'=>.ok (Next.value v) w')=_
 rw[h];rfl
theorem WS (w:World) (v:Int):Calls Tryz.prog 95 #[.int .i32 v] w λe w'=>e=.returned (.int .i64 (rU v))/\w'=w:=by
 obtain⟨c,hc⟩:∃c:Nat,Ca v=(c:Int):=⟨(Ca v).toNat,by unfold Ca;omega⟩;have hc2:c<256:=by unfold Ca at hc;omega
 have ht:=Py c (List.mem_range.2 hc2);unfold Qe6 at ht;obtain⟨s,h1,ht⟩:=aP.1 ht;obtain⟨m,h2,h3⟩:=aP.1 ht;have e1:rU v=(Kr (255*c):Int):=by unfold rU;rw[hc,gU]
 rw[e1];rw[<-hc]at h1;unfold Ca at h1;have q1:=λw=>Xr _ _ h1 w;have q2:∀w,(binOp BinOp.add 190 (Value.float FloatKind.f64 s) (Value.float FloatKind.f64 4602678819172646912)).run Tryz.prog w=.ok (.float .f64 m) w:=λw=>run_float_arith w .add 190 .f64 s Qp2 m h2;have q3:∀w,(convert 190 3 (.float .f64 m)).run Tryz.prog w=.ok (.int .i64 (Kr (255*c):Int)) w:=λw=>run_convert_float_int w 190 3 .f64 .i64 m _ (by kernel_rfl) Tryz.underlying3 h3;clear h1 h2 h3 ht hc e1;obtain⟨r,hr⟩:∃r:Int,(Kr (255*c):Int)=r:=⟨_,rfl⟩;rw[hr]at q3 ⊢;clear hr;go_enter Tryz.func95,Tryz.ntmps95;go_wp2;go_ret;exact⟨rfl,rfl⟩
end Go.Proofs.YthmmgiaobakilaaGreat
