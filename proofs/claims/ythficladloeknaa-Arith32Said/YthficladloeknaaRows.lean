/-
  No cell of these rows narrows 'for every input' (looked for: loops, veiled, ifaces, maps, wideKeys, modest, calm, conditions, laid).
  DERIVED. THE GIVEN ROWS OF THIS SEAT. 6 by the template 'for every input the law returns true; each argument reads behind the call as it read before'; 0 by the template 'total and deterministic' (their statements: YthficladloeknaaTotals.lean).
  GIVEN WITH THE SEED: the statements are not yours to turn. If you find one false, say at which input.
  Laid BY PROGRAM, IN A SANDBOX (cutbox-rows.mjs): the forced cells as the released guide's own fill.sh prints them over the translation 5a83d5bc88be54f0… (all of the seat's roots in one cut). By AI agents, Wed Nov 11 2026. No macro, syntax, notation, axiom, sorry.
-/
import Derived.Test.YthficladloeknaaChecked
import GoSem.Claim
import GoSem.ClaimJoined
import GoSem.ClaimMapViews
import Derived.JoinedTies
import Derived.KernelRfl
namespace Go.Proofs.Ythficladloeknaa
/- THE CELL 'sum', in the pinned program and in every row, IS THE sha256 OF THE DUMP (.gsa) THAT YthficladloeknaaProg.lean LOADS. Nothing in Lean hashes anything: it is a label: what it is worth is what the hold of that sum in a sandbox is worth. -/
noncomputable def Try.pinned : Pinned := { name := "ythficladloeknaa", sum := "5a83d5bc88be54f0579b4376e52fd27db2f72cd533ae3d870f372b803564f5e1", checked := Try.checked }
namespace Rows
def none {H : Type} : Left H := { results := [], args := [] }

/-- 'chrysalislaw11.ArithDoes': WHATEVER THE INPUT: true; the input reads as it did. -/
def arithDoesSpec : ChangeSpec := { name := "arithDoes", fn := fun _ => fun
  | [d1, d2, d3] => { results := [.lit (.bool true)], args := [d1, d2, d3] }
  | _ => none }
def arithDoesRow : OpenClaim := { program := "ythficladloeknaa", sum := "5a83d5bc88be54f0579b4376e52fd27db2f72cd533ae3d870f372b803564f5e1", func := "chrysalis/chrysalislaw11.ArithDoes", spec := "arithDoes", apart := false }
def ArithDoesSaid : Prop := arithDoesRow.holds Try.pinned (OpenSpec.ofChange arithDoesSpec)

/-- ITS FALSE NEIGHBOUR: 'it returns false'. Refute it at one input. -/
def arithDoesWrong : ChangeSpec := { name := "arithDoes", fn := fun _ => fun
  | [d1, d2, d3] => { results := [.lit (.bool false)], args := [d1, d2, d3] }
  | _ => none }
def ArithDoesWrongFalsely : Prop := arithDoesRow.holds Try.pinned (OpenSpec.ofChange arithDoesWrong)

/-- 'chrysalislaw11.ArithRound': WHATEVER THE INPUT: true; the input reads as it did. -/
def arithRoundSpec : ChangeSpec := { name := "arithRound", fn := fun _ => fun
  | [d1, d2] => { results := [.lit (.bool true)], args := [d1, d2] }
  | _ => none }
def arithRoundRow : OpenClaim := { program := "ythficladloeknaa", sum := "5a83d5bc88be54f0579b4376e52fd27db2f72cd533ae3d870f372b803564f5e1", func := "chrysalis/chrysalislaw11.ArithRound", spec := "arithRound", apart := false }
def ArithRoundSaid : Prop := arithRoundRow.holds Try.pinned (OpenSpec.ofChange arithRoundSpec)

/-- ITS FALSE NEIGHBOUR: 'it returns false'. Refute it at one input. -/
def arithRoundWrong : ChangeSpec := { name := "arithRound", fn := fun _ => fun
  | [d1, d2] => { results := [.lit (.bool false)], args := [d1, d2] }
  | _ => none }
def ArithRoundWrongFalsely : Prop := arithRoundRow.holds Try.pinned (OpenSpec.ofChange arithRoundWrong)

/-- 'chrysalislaw11.ArithTwist': WHATEVER THE INPUT: true; the input reads as it did. -/
def arithTwistSpec : ChangeSpec := { name := "arithTwist", fn := fun _ => fun
  | [d1, d2] => { results := [.lit (.bool true)], args := [d1, d2] }
  | _ => none }
def arithTwistRow : OpenClaim := { program := "ythficladloeknaa", sum := "5a83d5bc88be54f0579b4376e52fd27db2f72cd533ae3d870f372b803564f5e1", func := "chrysalis/chrysalislaw11.ArithTwist", spec := "arithTwist", apart := false }
def ArithTwistSaid : Prop := arithTwistRow.holds Try.pinned (OpenSpec.ofChange arithTwistSpec)

/-- ITS FALSE NEIGHBOUR: 'it returns false'. Refute it at one input. -/
def arithTwistWrong : ChangeSpec := { name := "arithTwist", fn := fun _ => fun
  | [d1, d2] => { results := [.lit (.bool false)], args := [d1, d2] }
  | _ => none }
def ArithTwistWrongFalsely : Prop := arithTwistRow.holds Try.pinned (OpenSpec.ofChange arithTwistWrong)

/-- 'chrysalislaw11.ArithShifts': WHATEVER THE INPUT: true; the input reads as it did. -/
def arithShiftsSpec : ChangeSpec := { name := "arithShifts", fn := fun _ => fun
  | [d1, d2] => { results := [.lit (.bool true)], args := [d1, d2] }
  | _ => none }
def arithShiftsRow : OpenClaim := { program := "ythficladloeknaa", sum := "5a83d5bc88be54f0579b4376e52fd27db2f72cd533ae3d870f372b803564f5e1", func := "chrysalis/chrysalislaw11.ArithShifts", spec := "arithShifts", apart := false }
def ArithShiftsSaid : Prop := arithShiftsRow.holds Try.pinned (OpenSpec.ofChange arithShiftsSpec)

/-- ITS FALSE NEIGHBOUR: 'it returns false'. Refute it at one input. -/
def arithShiftsWrong : ChangeSpec := { name := "arithShifts", fn := fun _ => fun
  | [d1, d2] => { results := [.lit (.bool false)], args := [d1, d2] }
  | _ => none }
def ArithShiftsWrongFalsely : Prop := arithShiftsRow.holds Try.pinned (OpenSpec.ofChange arithShiftsWrong)

/-- 'chrysalislaw11.Arith32': WHATEVER THE INPUT: true; the input reads as it did. -/
def arith32Spec : ChangeSpec := { name := "arith32", fn := fun _ => fun
  | [d1, d2, d3] => { results := [.lit (.bool true)], args := [d1, d2, d3] }
  | _ => none }
def arith32Row : OpenClaim := { program := "ythficladloeknaa", sum := "5a83d5bc88be54f0579b4376e52fd27db2f72cd533ae3d870f372b803564f5e1", func := "chrysalis/chrysalislaw11.Arith32", spec := "arith32", apart := false }
def Arith32Said : Prop := arith32Row.holds Try.pinned (OpenSpec.ofChange arith32Spec)

/-- ITS FALSE NEIGHBOUR: 'it returns false'. Refute it at one input. -/
def arith32Wrong : ChangeSpec := { name := "arith32", fn := fun _ => fun
  | [d1, d2, d3] => { results := [.lit (.bool false)], args := [d1, d2, d3] }
  | _ => none }
def Arith32WrongFalsely : Prop := arith32Row.holds Try.pinned (OpenSpec.ofChange arith32Wrong)

/-- 'chrysalislaw11.ArithOrder': WHATEVER THE INPUT: true; the input reads as it did. -/
def arithOrderSpec : ChangeSpec := { name := "arithOrder", fn := fun _ => fun
  | [d1, d2, d3] => { results := [.lit (.bool true)], args := [d1, d2, d3] }
  | _ => none }
def arithOrderRow : OpenClaim := { program := "ythficladloeknaa", sum := "5a83d5bc88be54f0579b4376e52fd27db2f72cd533ae3d870f372b803564f5e1", func := "chrysalis/chrysalislaw11.ArithOrder", spec := "arithOrder", apart := false }
def ArithOrderSaid : Prop := arithOrderRow.holds Try.pinned (OpenSpec.ofChange arithOrderSpec)

/-- ITS FALSE NEIGHBOUR: 'it returns false'. Refute it at one input. -/
def arithOrderWrong : ChangeSpec := { name := "arithOrder", fn := fun _ => fun
  | [d1, d2, d3] => { results := [.lit (.bool false)], args := [d1, d2, d3] }
  | _ => none }
def ArithOrderWrongFalsely : Prop := arithOrderRow.holds Try.pinned (OpenSpec.ofChange arithOrderWrong)

/- THE SECOND FORM. 'bulk': how many values and letters a reading holds, each counted each time it is reached (what is shared counts as often as it is met; a slice's spare places count too). A statement '..UptoSaid' is the law's where the arguments, and the package variables that the reading takes, are together of bulk at most 1048576: NARROWER than '..Said'. Prove '..Said' where nothing that the law and all that it calls make is longer than what came in: it says more and counts as full. Else prove '..UptoSaid'. A law counts once. -/
mutual
def uptoBulk {H : Type} : DataW H → Nat
  | .lit (.string bytes) => bytes.length + 1
  | .lit _ => 1
  | .nil => 1
  | .ptr d => uptoBulk d + 1
  | .slice elems spare => uptoBulkAll elems + uptoBulkAll spare + 1
  | .agg parts => uptoBulkAll parts + 1
  | .iface _ d => uptoBulk d + 1
  | .map entries => uptoBulkEntries entries + 1
  | .held _ => 1
def uptoBulkAll {H : Type} : List (DataW H) → Nat
  | [] => 0
  | d :: r => uptoBulk d + uptoBulkAll r
def uptoBulkEntries {H : Type} : List (Lit × DataW H) → Nat
  | [] => 0
  | x :: r => uptoBulkEntry x + uptoBulkEntries r
def uptoBulkEntry {H : Type} : Lit × DataW H → Nat
  | (.string bytes, d) => bytes.length + uptoBulk d + 1
  | (_, d) => uptoBulk d + 1
 end
def uptoSmall : (H : Type) → List (DataW H) → Bool := fun _ ds => decide (uptoBulkAll ds ≤ 1048576)
def OpenSpec.upto (s : _root_.Go.ChangeSpec) : _root_.Go.OpenSpec := { _root_.Go.OpenSpec.ofChange s with cond := some uptoSmall }

/-- 'chrysalislaw11.ArithDoes', WHERE WHAT IT READS IS OF BULK AT MOST 1048576: true; the input reads as it did. -/
def arithDoesUptoRow : OpenClaim := { program := "ythficladloeknaa", sum := "5a83d5bc88be54f0579b4376e52fd27db2f72cd533ae3d870f372b803564f5e1", func := "chrysalis/chrysalislaw11.ArithDoes", spec := "arithDoes", apart := false, narrowed := true }
def ArithDoesUptoSaid : Prop := arithDoesUptoRow.holds Try.pinned (OpenSpec.upto arithDoesSpec)

/-- 'chrysalislaw11.ArithRound', WHERE WHAT IT READS IS OF BULK AT MOST 1048576: true; the input reads as it did. -/
def arithRoundUptoRow : OpenClaim := { program := "ythficladloeknaa", sum := "5a83d5bc88be54f0579b4376e52fd27db2f72cd533ae3d870f372b803564f5e1", func := "chrysalis/chrysalislaw11.ArithRound", spec := "arithRound", apart := false, narrowed := true }
def ArithRoundUptoSaid : Prop := arithRoundUptoRow.holds Try.pinned (OpenSpec.upto arithRoundSpec)

/-- 'chrysalislaw11.ArithTwist', WHERE WHAT IT READS IS OF BULK AT MOST 1048576: true; the input reads as it did. -/
def arithTwistUptoRow : OpenClaim := { program := "ythficladloeknaa", sum := "5a83d5bc88be54f0579b4376e52fd27db2f72cd533ae3d870f372b803564f5e1", func := "chrysalis/chrysalislaw11.ArithTwist", spec := "arithTwist", apart := false, narrowed := true }
def ArithTwistUptoSaid : Prop := arithTwistUptoRow.holds Try.pinned (OpenSpec.upto arithTwistSpec)

/-- 'chrysalislaw11.ArithShifts', WHERE WHAT IT READS IS OF BULK AT MOST 1048576: true; the input reads as it did. -/
def arithShiftsUptoRow : OpenClaim := { program := "ythficladloeknaa", sum := "5a83d5bc88be54f0579b4376e52fd27db2f72cd533ae3d870f372b803564f5e1", func := "chrysalis/chrysalislaw11.ArithShifts", spec := "arithShifts", apart := false, narrowed := true }
def ArithShiftsUptoSaid : Prop := arithShiftsUptoRow.holds Try.pinned (OpenSpec.upto arithShiftsSpec)

/-- 'chrysalislaw11.Arith32', WHERE WHAT IT READS IS OF BULK AT MOST 1048576: true; the input reads as it did. -/
def arith32UptoRow : OpenClaim := { program := "ythficladloeknaa", sum := "5a83d5bc88be54f0579b4376e52fd27db2f72cd533ae3d870f372b803564f5e1", func := "chrysalis/chrysalislaw11.Arith32", spec := "arith32", apart := false, narrowed := true }
def Arith32UptoSaid : Prop := arith32UptoRow.holds Try.pinned (OpenSpec.upto arith32Spec)

/-- 'chrysalislaw11.ArithOrder', WHERE WHAT IT READS IS OF BULK AT MOST 1048576: true; the input reads as it did. -/
def arithOrderUptoRow : OpenClaim := { program := "ythficladloeknaa", sum := "5a83d5bc88be54f0579b4376e52fd27db2f72cd533ae3d870f372b803564f5e1", func := "chrysalis/chrysalislaw11.ArithOrder", spec := "arithOrder", apart := false, narrowed := true }
def ArithOrderUptoSaid : Prop := arithOrderUptoRow.holds Try.pinned (OpenSpec.upto arithOrderSpec)

end Rows
end Go.Proofs.Ythficladloeknaa
