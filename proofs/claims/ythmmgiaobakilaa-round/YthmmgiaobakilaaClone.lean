/- strings.Clone answers the same text, and turns nothing old. The text has at most 300 bytes here. -/
import Derived.Test.YthmmgiaobakilaaPlain
import Derived.Shelf.Pu.Clone
set_option maxRecDepth 100000
namespace Go.Proofs.Ythmmgiaobakilaa
open Go.RowKit

/-- The library's own contract of stringslite.Clone, at this program's numbers. -/
def cloneRen : Go.Shelf.Ren := ⟨fun _ => 98, fun n => if n = 0 then 0 else if n = 3 then 3 else if n = 4 then 4 else if n = 5 then 5 else if n = 9 then 9 else if n = 37 then 58 else if n = 47 then 189 else n, fun n => n⟩
theorem cloneLays : LaysPu.n25 Try.prog cloneRen := by
  constructor
  all_goals first | (intro w; kernel_rfl) | kernel_rfl

theorem lite_clone (s : ByteArray) (w : World) (hs : s.size ≤ 300) :
    Calls Try.prog 98 #[.string s] w fun e w' => e = .returned (.string s) ∧ Below w.heap.size w w' :=
  AnyPu.stringslite_Clone cloneLays s w (by omega)

theorem clone_any (s : ByteArray) (w : World) (hs : s.size ≤ 300) :
    Calls Try.prog 69 #[.string s] w fun e w' => e = .returned (.string s) ∧ Below w.heap.size w w' := by
  go_enter Try.func69, Try.ntmps69
  go_wp2_with (go_at_call 98; refine (lite_clone s _ hs).mono ?_; rintro e w' ⟨rfl, hb⟩)
  go_ret
  exact ⟨rfl, hb⟩

end Go.Proofs.Ythmmgiaobakilaa
