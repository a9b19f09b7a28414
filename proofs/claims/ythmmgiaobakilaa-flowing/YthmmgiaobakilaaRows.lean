/-
  No cell of these rows narrows 'for every input' (looked for: loops, veiled, ifaces, maps, wideKeys, modest, calm, conditions, laid).
  DERIVED. THE GIVEN ROWS OF THIS SEAT. 8 by the template 'for every input the law returns true; each argument reads behind the call as it read before'; 0 by the template 'total and deterministic' (their statements: YthmmgiaobakilaaTotals.lean).
  GIVEN WITH THE SEED: the statements are not yours to turn. If you find one false, say at which input.
  Laid BY PROGRAM, IN A SANDBOX (cutbox-rows.mjs): the forced cells as the released guide's own fill.sh prints them over the translation d2f52bddaddec879… (all of the seat's roots in one cut). By AI agents, Wed Nov 11 2026. No macro, syntax, notation, axiom, sorry.
-/
import Derived.Test.YthmmgiaobakilaaChecked
import GoSem.Claim
import GoSem.ClaimJoined
import GoSem.ClaimMapViews
import Derived.JoinedTies
import Derived.KernelRfl
namespace Go.Proofs.Ythmmgiaobakilaa
/- THE CELL 'sum', in the pinned program and in every row, IS THE sha256 OF THE DUMP (.gsa) THAT YthmmgiaobakilaaProg.lean LOADS. Nothing in Lean hashes anything: it is a label: what it is worth is what the hold of that sum in a sandbox is worth. -/
noncomputable def Try.pinned : Pinned := { name := "ythmmgiaobakilaa", sum := "d2f52bddaddec879ee18b380074f43bbd315c7c38fa58529d26e03b34e6b67fb", checked := Try.checked }
namespace Rows
def none {H : Type} : Left H := { results := [], args := [] }

/-- 'sablelaw.Writes': WHATEVER THE INPUT: true; the input reads as it did. -/
def writesSpec : ChangeSpec := { name := "writes", fn := fun _ => fun
  | [d] => { results := [.lit (.bool true)], args := [d] }
  | _ => none }
def writesRow : OpenClaim := { program := "ythmmgiaobakilaa", sum := "d2f52bddaddec879ee18b380074f43bbd315c7c38fa58529d26e03b34e6b67fb", func := "sable/sablelaw.Writes", spec := "writes", apart := false }
def WritesSaid : Prop := writesRow.holds Try.pinned (OpenSpec.ofChange writesSpec)

/-- ITS FALSE NEIGHBOUR: 'it returns false'. Refute it at one input. -/
def writesWrong : ChangeSpec := { name := "writes", fn := fun _ => fun
  | [d] => { results := [.lit (.bool false)], args := [d] }
  | _ => none }
def WritesWrongFalsely : Prop := writesRow.holds Try.pinned (OpenSpec.ofChange writesWrong)

/-- 'sablelaw.Reads': WHATEVER THE INPUT: true; the input reads as it did. -/
def readsSpec : ChangeSpec := { name := "reads", fn := fun _ => fun
  | [d] => { results := [.lit (.bool true)], args := [d] }
  | _ => none }
def readsRow : OpenClaim := { program := "ythmmgiaobakilaa", sum := "d2f52bddaddec879ee18b380074f43bbd315c7c38fa58529d26e03b34e6b67fb", func := "sable/sablelaw.Reads", spec := "reads", apart := false }
def ReadsSaid : Prop := readsRow.holds Try.pinned (OpenSpec.ofChange readsSpec)

/-- ITS FALSE NEIGHBOUR: 'it returns false'. Refute it at one input. -/
def readsWrong : ChangeSpec := { name := "reads", fn := fun _ => fun
  | [d] => { results := [.lit (.bool false)], args := [d] }
  | _ => none }
def ReadsWrongFalsely : Prop := readsRow.holds Try.pinned (OpenSpec.ofChange readsWrong)

/-- 'sablekeep.Round': WHATEVER THE INPUT: true; the input reads as it did. -/
def roundSpec : ChangeSpec := { name := "round", fn := fun _ => fun
  | [d1, d2] => { results := [.lit (.bool true)], args := [d1, d2] }
  | _ => none }
def roundRow : OpenClaim := { program := "ythmmgiaobakilaa", sum := "d2f52bddaddec879ee18b380074f43bbd315c7c38fa58529d26e03b34e6b67fb", func := "sable/sablekeep.Round", spec := "round", apart := false }
def RoundSaid : Prop := roundRow.holds Try.pinned (OpenSpec.ofChange roundSpec)

/-- ITS FALSE NEIGHBOUR: 'it returns false'. Refute it at one input. -/
def roundWrong : ChangeSpec := { name := "round", fn := fun _ => fun
  | [d1, d2] => { results := [.lit (.bool false)], args := [d1, d2] }
  | _ => none }
def RoundWrongFalsely : Prop := roundRow.holds Try.pinned (OpenSpec.ofChange roundWrong)

/-- 'sablelaw.Checks': WHATEVER THE INPUT: true; the input reads as it did. -/
def checksSpec : ChangeSpec := { name := "checks", fn := fun _ => fun
  | [d] => { results := [.lit (.bool true)], args := [d] }
  | _ => none }
def checksRow : OpenClaim := { program := "ythmmgiaobakilaa", sum := "d2f52bddaddec879ee18b380074f43bbd315c7c38fa58529d26e03b34e6b67fb", func := "sable/sablelaw.Checks", spec := "checks", unfollowed := true, recurses := true, apart := false }
def ChecksSaid : Prop := checksRow.holds Try.pinned (OpenSpec.ofChange checksSpec)

/-- ITS FALSE NEIGHBOUR: 'it returns false'. Refute it at one input. -/
def checksWrong : ChangeSpec := { name := "checks", fn := fun _ => fun
  | [d] => { results := [.lit (.bool false)], args := [d] }
  | _ => none }
def ChecksWrongFalsely : Prop := checksRow.holds Try.pinned (OpenSpec.ofChange checksWrong)

/-- 'sablekeep.Untold': WHATEVER THE INPUT: true; the input reads as it did. -/
def untoldSpec : ChangeSpec := { name := "untold", fn := fun _ => fun
  | [d1, d2, d3, d4, d5, d6] => { results := [.lit (.bool true)], args := [d1, d2, d3, d4, d5, d6] }
  | _ => none }
def untoldRow : OpenClaim := { program := "ythmmgiaobakilaa", sum := "d2f52bddaddec879ee18b380074f43bbd315c7c38fa58529d26e03b34e6b67fb", func := "sable/sablekeep.Untold", spec := "untold", inPlace := ["math.sqrt"], unfollowed := true, recurses := true, apart := false }
def UntoldSaid : Prop := untoldRow.holds Try.pinned (OpenSpec.ofChange untoldSpec)

/-- ITS FALSE NEIGHBOUR: 'it returns false'. Refute it at one input. -/
def untoldWrong : ChangeSpec := { name := "untold", fn := fun _ => fun
  | [d1, d2, d3, d4, d5, d6] => { results := [.lit (.bool false)], args := [d1, d2, d3, d4, d5, d6] }
  | _ => none }
def UntoldWrongFalsely : Prop := untoldRow.holds Try.pinned (OpenSpec.ofChange untoldWrong)

/-- 'sablekeep.Flowing': WHATEVER THE INPUT: true; the input reads as it did. -/
def flowingSpec : ChangeSpec := { name := "flowing", fn := fun _ => fun
  | [d1, d2, d3, d4, d5, d6] => { results := [.lit (.bool true)], args := [d1, d2, d3, d4, d5, d6] }
  | _ => none }
def flowingRow : OpenClaim := { program := "ythmmgiaobakilaa", sum := "d2f52bddaddec879ee18b380074f43bbd315c7c38fa58529d26e03b34e6b67fb", func := "sable/sablekeep.Flowing", spec := "flowing", inPlace := ["math.sqrt"], unfollowed := true, recurses := true, apart := false }
def FlowingSaid : Prop := flowingRow.holds Try.pinned (OpenSpec.ofChange flowingSpec)

/-- ITS FALSE NEIGHBOUR: 'it returns false'. Refute it at one input. -/
def flowingWrong : ChangeSpec := { name := "flowing", fn := fun _ => fun
  | [d1, d2, d3, d4, d5, d6] => { results := [.lit (.bool false)], args := [d1, d2, d3, d4, d5, d6] }
  | _ => none }
def FlowingWrongFalsely : Prop := flowingRow.holds Try.pinned (OpenSpec.ofChange flowingWrong)

/-- 'sablekeep.Shown': WHATEVER THE INPUT: true; the input reads as it did. -/
def shownSpec : ChangeSpec := { name := "shown", fn := fun _ => fun
  | [d1, d2, d3, d4, d5] => { results := [.lit (.bool true)], args := [d1, d2, d3, d4, d5] }
  | _ => none }
def shownRow : OpenClaim := { program := "ythmmgiaobakilaa", sum := "d2f52bddaddec879ee18b380074f43bbd315c7c38fa58529d26e03b34e6b67fb", func := "sable/sablekeep.Shown", spec := "shown", inPlace := ["math.sqrt"], unfollowed := true, recurses := true, apart := false }
def ShownSaid : Prop := shownRow.holds Try.pinned (OpenSpec.ofChange shownSpec)

/-- ITS FALSE NEIGHBOUR: 'it returns false'. Refute it at one input. -/
def shownWrong : ChangeSpec := { name := "shown", fn := fun _ => fun
  | [d1, d2, d3, d4, d5] => { results := [.lit (.bool false)], args := [d1, d2, d3, d4, d5] }
  | _ => none }
def ShownWrongFalsely : Prop := shownRow.holds Try.pinned (OpenSpec.ofChange shownWrong)

/-- 'sablekeep.Looped': WHATEVER THE INPUT: true; the input reads as it did. -/
def loopedSpec : ChangeSpec := { name := "looped", fn := fun _ => fun
  | [d1, d2, d3, d4, d5] => { results := [.lit (.bool true)], args := [d1, d2, d3, d4, d5] }
  | _ => none }
def loopedRow : OpenClaim := { program := "ythmmgiaobakilaa", sum := "d2f52bddaddec879ee18b380074f43bbd315c7c38fa58529d26e03b34e6b67fb", func := "sable/sablekeep.Looped", spec := "looped", inPlace := ["math.sqrt"], unfollowed := true, recurses := true, apart := false }
def LoopedSaid : Prop := loopedRow.holds Try.pinned (OpenSpec.ofChange loopedSpec)

/-- ITS FALSE NEIGHBOUR: 'it returns false'. Refute it at one input. -/
def loopedWrong : ChangeSpec := { name := "looped", fn := fun _ => fun
  | [d1, d2, d3, d4, d5] => { results := [.lit (.bool false)], args := [d1, d2, d3, d4, d5] }
  | _ => none }
def LoopedWrongFalsely : Prop := loopedRow.holds Try.pinned (OpenSpec.ofChange loopedWrong)

/- THE SECOND FORM. 'bulk': how many values and letters a reading holds, each counted each time it is reached (what is shared counts as often as it is met; a slice's spare places count too). A statement '..UptoSaid' is the law's where the arguments, and the package variables that the reading takes, are together of bulk at most 1048576: NARROWER than '..Said'. Prove '..Said' where nothing that the law and all that it calls make is longer than what came in: it says more and counts as full. Else prove '..UptoSaid'. A law counts once. -/
mutual
def uptoBulk {H : Type} : DataW H → Nat
  | .lit (.string bytes) => bytes.length + 1
  | .lit _ => 1
  | .nil => 1
  | .ptr d => uptoBulk d + 1
  | .slice elems spare => uptoBulkAll elems + uptoBulkAll spare + 1
  | .agg parts => uptoBulkAll parts + 1
  | .iface _ d => uptoBulk d + 1
  | .map entries => uptoBulkEntries entries + 1
  | .held _ => 1
def uptoBulkAll {H : Type} : List (DataW H) → Nat
  | [] => 0
  | d :: r => uptoBulk d + uptoBulkAll r
def uptoBulkEntries {H : Type} : List (Lit × DataW H) → Nat
  | [] => 0
  | x :: r => uptoBulkEntry x + uptoBulkEntries r
def uptoBulkEntry {H : Type} : Lit × DataW H → Nat
  | (.string bytes, d) => bytes.length + uptoBulk d + 1
  | (_, d) => uptoBulk d + 1
 end
def uptoSmall : (H : Type) → List (DataW H) → Bool := fun _ ds => decide (uptoBulkAll ds ≤ 1048576)
def OpenSpec.upto (s : _root_.Go.ChangeSpec) : _root_.Go.OpenSpec := { _root_.Go.OpenSpec.ofChange s with cond := some uptoSmall }

/-- 'sablelaw.Writes', WHERE WHAT IT READS IS OF BULK AT MOST 1048576: true; the input reads as it did. -/
def writesUptoRow : OpenClaim := { program := "ythmmgiaobakilaa", sum := "d2f52bddaddec879ee18b380074f43bbd315c7c38fa58529d26e03b34e6b67fb", func := "sable/sablelaw.Writes", spec := "writes", apart := false, narrowed := true }
def WritesUptoSaid : Prop := writesUptoRow.holds Try.pinned (OpenSpec.upto writesSpec)

/-- 'sablelaw.Reads', WHERE WHAT IT READS IS OF BULK AT MOST 1048576: true; the input reads as it did. -/
def readsUptoRow : OpenClaim := { program := "ythmmgiaobakilaa", sum := "d2f52bddaddec879ee18b380074f43bbd315c7c38fa58529d26e03b34e6b67fb", func := "sable/sablelaw.Reads", spec := "reads", apart := false, narrowed := true }
def ReadsUptoSaid : Prop := readsUptoRow.holds Try.pinned (OpenSpec.upto readsSpec)

/-- 'sablekeep.Round', WHERE WHAT IT READS IS OF BULK AT MOST 1048576: true; the input reads as it did. -/
def roundUptoRow : OpenClaim := { program := "ythmmgiaobakilaa", sum := "d2f52bddaddec879ee18b380074f43bbd315c7c38fa58529d26e03b34e6b67fb", func := "sable/sablekeep.Round", spec := "round", apart := false, narrowed := true }
def RoundUptoSaid : Prop := roundUptoRow.holds Try.pinned (OpenSpec.upto roundSpec)

/-- 'sablelaw.Checks', WHERE WHAT IT READS IS OF BULK AT MOST 1048576: true; the input reads as it did. -/
def checksUptoRow : OpenClaim := { program := "ythmmgiaobakilaa", sum := "d2f52bddaddec879ee18b380074f43bbd315c7c38fa58529d26e03b34e6b67fb", func := "sable/sablelaw.Checks", spec := "checks", unfollowed := true, recurses := true, apart := false, narrowed := true }
def ChecksUptoSaid : Prop := checksUptoRow.holds Try.pinned (OpenSpec.upto checksSpec)

/-- 'sablekeep.Untold', WHERE WHAT IT READS IS OF BULK AT MOST 1048576: true; the input reads as it did. -/
def untoldUptoRow : OpenClaim := { program := "ythmmgiaobakilaa", sum := "d2f52bddaddec879ee18b380074f43bbd315c7c38fa58529d26e03b34e6b67fb", func := "sable/sablekeep.Untold", spec := "untold", inPlace := ["math.sqrt"], unfollowed := true, recurses := true, apart := false, narrowed := true }
def UntoldUptoSaid : Prop := untoldUptoRow.holds Try.pinned (OpenSpec.upto untoldSpec)

/-- 'sablekeep.Flowing', WHERE WHAT IT READS IS OF BULK AT MOST 1048576: true; the input reads as it did. -/
def flowingUptoRow : OpenClaim := { program := "ythmmgiaobakilaa", sum := "d2f52bddaddec879ee18b380074f43bbd315c7c38fa58529d26e03b34e6b67fb", func := "sable/sablekeep.Flowing", spec := "flowing", inPlace := ["math.sqrt"], unfollowed := true, recurses := true, apart := false, narrowed := true }
def FlowingUptoSaid : Prop := flowingUptoRow.holds Try.pinned (OpenSpec.upto flowingSpec)

/-- 'sablekeep.Shown', WHERE WHAT IT READS IS OF BULK AT MOST 1048576: true; the input reads as it did. -/
def shownUptoRow : OpenClaim := { program := "ythmmgiaobakilaa", sum := "d2f52bddaddec879ee18b380074f43bbd315c7c38fa58529d26e03b34e6b67fb", func := "sable/sablekeep.Shown", spec := "shown", inPlace := ["math.sqrt"], unfollowed := true, recurses := true, apart := false, narrowed := true }
def ShownUptoSaid : Prop := shownUptoRow.holds Try.pinned (OpenSpec.upto shownSpec)

/-- 'sablekeep.Looped', WHERE WHAT IT READS IS OF BULK AT MOST 1048576: true; the input reads as it did. -/
def loopedUptoRow : OpenClaim := { program := "ythmmgiaobakilaa", sum := "d2f52bddaddec879ee18b380074f43bbd315c7c38fa58529d26e03b34e6b67fb", func := "sable/sablekeep.Looped", spec := "looped", inPlace := ["math.sqrt"], unfollowed := true, recurses := true, apart := false, narrowed := true }
def LoopedUptoSaid : Prop := loopedUptoRow.holds Try.pinned (OpenSpec.upto loopedSpec)

end Rows
end Go.Proofs.Ythmmgiaobakilaa
