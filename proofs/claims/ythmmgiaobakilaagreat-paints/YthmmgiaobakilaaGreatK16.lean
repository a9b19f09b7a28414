import Derived.Test.YthmmgiaobakilaaGreatK13
import Derived.Laws.FloatArith
import Derived.Laws.Externs
set_option maxRecDepth 100000
namespace Go.Proofs.YthmmgiaobakilaaGreat
open Go.RowKit Go.Deep
def rootN (n:Nat):Nat:=((List.range 256).filter (fun k=>decide ((2*k+1)*(2*k+1) < 4*n))).length
def half:Nat:=4602678819172646912
def toneF (c:Nat):Option Int:=(FloatKind.f64.format.sqrt (floatOfInt FloatKind.f64 (255*(c:Int)))).bind fun s=>(floatBits .add .f64 s half).bind fun m=>floatToIntVal .f64 m .i64
theorem tone_table:∀c∈List.range 256,toneF c=some (rootN (255*c):Int):=by decide +kernel
def clampV (v:Int):Int:=min (max v 0) 255
def toneV (v:Int):Int:=(rootN (255*(clampV v).toNat):Int)
theorem sqrt_run (x r:Nat) (h:FloatKind.f64.format.sqrt x=some r) (w:World):(callFunc 136 #[.float .f64 x]).run Tryz.prog w = .ok (.value (.float .f64 r)) w:=by
 rw [run_callFunc_extern (e:=Extern.MathSqrt.sqrt) Tryz.func136 (by kernel_rfl) (by kernel_rfl) (by kernel_rfl) (by kernel_rfl)]
 change (Sem.run Tryz.prog (match FloatKind.f64.format.sqrt x with
  | some r=>(pure (.float .f64 r):Sem Value)
  | none=>do pure (.float .f64 (←choose (.nanBits .f64 x x)))) w).andThen (fun v w'=>.ok (Next.value v) w')=_
 rw [h]
 rfl
set_option maxHeartbeats 1000000 in
theorem tone_any (w:World) (v:Int):Calls Tryz.prog 95 #[.int .i32 v] w fun e w'=>e = .returned (.int .i64 (toneV v))∧w'=w:=by
 obtain ⟨c,hc⟩:∃c:Nat,clampV v=(c:Int):=⟨(clampV v).toNat,by unfold clampV;omega⟩
 have hc2:c < 256:=by unfold clampV at hc;omega
 have ht:=tone_table c (List.mem_range.2 hc2)
 unfold toneF at ht
 obtain ⟨s,h1,ht⟩:=Option.bind_eq_some_iff.1 ht
 obtain ⟨m,h2,h3⟩:=Option.bind_eq_some_iff.1 ht
 have e1:toneV v=(rootN (255*c):Int):=by unfold toneV;rw [hc,Int.toNat_natCast]
 rw [e1]
 rw [←hc] at h1
 unfold clampV at h1
 have q1:=fun w=>sqrt_run _ _ h1 w
 have q2:∀w,(binOp BinOp.add 190 (Value.float FloatKind.f64 s) (Value.float FloatKind.f64 4602678819172646912)).run Tryz.prog w = .ok (.float .f64 m) w:=fun w=>run_float_arith w .add 190 .f64 s half m h2
 have q3:∀w,(convert 190 3 (.float .f64 m)).run Tryz.prog w = .ok (.int .i64 (rootN (255*c):Int)) w:=fun w=>run_convert_float_int w 190 3 .f64 .i64 m _ (by kernel_rfl) Tryz.underlying3 h3
 clear h1 h2 h3 ht hc e1
 obtain ⟨r,hr⟩:∃r:Int,(rootN (255*c):Int)=r:=⟨_,rfl⟩
 rw [hr] at q3 ⊢
 clear hr
 go_enter Tryz.func95,Tryz.ntmps95
 go_wp2
 go_ret
 exact ⟨rfl,rfl⟩
end Go.Proofs.YthmmgiaobakilaaGreat
