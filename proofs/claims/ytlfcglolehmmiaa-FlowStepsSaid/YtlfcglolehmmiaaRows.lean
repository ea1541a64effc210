/-
  No cell of these rows narrows 'for every input' (looked for: loops, veiled, ifaces, maps, wideKeys, modest, calm, conditions, laid).
  DERIVED. THE GIVEN ROWS OF THIS SEAT. 5 by the template 'for every input the law returns true; each argument reads behind the call as it read before'; 0 by the template 'total and deterministic' (their statements: YtlfcglolehmmiaaTotals.lean).
  GIVEN WITH THE SEED: the statements are not yours to turn. If you find one false, say at which input.
  Laid BY PROGRAM, IN A SANDBOX (cutbox-rows.mjs): the forced cells as the released guide's own fill.sh prints them over the translation fc166082c7fb3822… (all of the seat's roots in one cut). By AI agents, Wed Nov 11 2026. No macro, syntax, notation, axiom, sorry.
-/
import Derived.Test.YtlfcglolehmmiaaChecked
import GoSem.Claim
import GoSem.ClaimJoined
import GoSem.ClaimMapViews
import Derived.JoinedTies
import Derived.KernelRfl
namespace Go.Proofs.Ytlfcglolehmmiaa
/- THE CELL 'sum', in the pinned program and in every row, IS THE sha256 OF THE DUMP (.gsa) THAT YtlfcglolehmmiaaProg.lean LOADS. Nothing in Lean hashes anything: it is a label: what it is worth is what the hold of that sum in a sandbox is worth. -/
noncomputable def Try.pinned : Pinned := { name := "ytlfcglolehmmiaa", sum := "fc166082c7fb3822d7e959647bac334e8f25d1ead8419b4f808c3abdccff5814", checked := Try.checked }
namespace Rows
def none {H : Type} : Left H := { results := [], args := [] }

/-- 'chrysalislaw08.FlowSteps': WHATEVER THE INPUT: true; the input reads as it did. -/
def flowStepsSpec : ChangeSpec := { name := "flowSteps", fn := fun _ => fun
  | [d1, d2, d3, d4] => { results := [.lit (.bool true)], args := [d1, d2, d3, d4] }
  | _ => none }
def flowStepsRow : OpenClaim := { program := "ytlfcglolehmmiaa", sum := "fc166082c7fb3822d7e959647bac334e8f25d1ead8419b4f808c3abdccff5814", func := "chrysalis/chrysalislaw08.FlowSteps", spec := "flowSteps", unfollowed := true, recurses := true, apart := false }
def FlowStepsSaid : Prop := flowStepsRow.holds Try.pinned (OpenSpec.ofChange flowStepsSpec)

/-- ITS FALSE NEIGHBOUR: 'it returns false'. Refute it at one input. -/
def flowStepsWrong : ChangeSpec := { name := "flowSteps", fn := fun _ => fun
  | [d1, d2, d3, d4] => { results := [.lit (.bool false)], args := [d1, d2, d3, d4] }
  | _ => none }
def FlowStepsWrongFalsely : Prop := flowStepsRow.holds Try.pinned (OpenSpec.ofChange flowStepsWrong)

/-- 'chrysalislaw08.FlowLocals': WHATEVER THE INPUT: true; the input reads as it did. -/
def flowLocalsSpec : ChangeSpec := { name := "flowLocals", fn := fun _ => fun
  | [d1, d2] => { results := [.lit (.bool true)], args := [d1, d2] }
  | _ => none }
def flowLocalsRow : OpenClaim := { program := "ytlfcglolehmmiaa", sum := "fc166082c7fb3822d7e959647bac334e8f25d1ead8419b4f808c3abdccff5814", func := "chrysalis/chrysalislaw08.FlowLocals", spec := "flowLocals", unfollowed := true, recurses := true, apart := false }
def FlowLocalsSaid : Prop := flowLocalsRow.holds Try.pinned (OpenSpec.ofChange flowLocalsSpec)

/-- ITS FALSE NEIGHBOUR: 'it returns false'. Refute it at one input. -/
def flowLocalsWrong : ChangeSpec := { name := "flowLocals", fn := fun _ => fun
  | [d1, d2] => { results := [.lit (.bool false)], args := [d1, d2] }
  | _ => none }
def FlowLocalsWrongFalsely : Prop := flowLocalsRow.holds Try.pinned (OpenSpec.ofChange flowLocalsWrong)

/-- 'chrysalislaw08.FlowBelow': WHATEVER THE INPUT: true; the input reads as it did. -/
def flowBelowSpec : ChangeSpec := { name := "flowBelow", fn := fun _ => fun
  | [d1, d2, d3, d4, d5] => { results := [.lit (.bool true)], args := [d1, d2, d3, d4, d5] }
  | _ => none }
def flowBelowRow : OpenClaim := { program := "ytlfcglolehmmiaa", sum := "fc166082c7fb3822d7e959647bac334e8f25d1ead8419b4f808c3abdccff5814", func := "chrysalis/chrysalislaw08.FlowBelow", spec := "flowBelow", unfollowed := true, recurses := true, apart := false }
def FlowBelowSaid : Prop := flowBelowRow.holds Try.pinned (OpenSpec.ofChange flowBelowSpec)

/-- ITS FALSE NEIGHBOUR: 'it returns false'. Refute it at one input. -/
def flowBelowWrong : ChangeSpec := { name := "flowBelow", fn := fun _ => fun
  | [d1, d2, d3, d4, d5] => { results := [.lit (.bool false)], args := [d1, d2, d3, d4, d5] }
  | _ => none }
def FlowBelowWrongFalsely : Prop := flowBelowRow.holds Try.pinned (OpenSpec.ofChange flowBelowWrong)

/-- 'chrysalislaw08.FlowHeights': WHATEVER THE INPUT: true; the input reads as it did. -/
def flowHeightsSpec : ChangeSpec := { name := "flowHeights", fn := fun _ => fun
  | [d1, d2, d3, d4] => { results := [.lit (.bool true)], args := [d1, d2, d3, d4] }
  | _ => none }
def flowHeightsRow : OpenClaim := { program := "ytlfcglolehmmiaa", sum := "fc166082c7fb3822d7e959647bac334e8f25d1ead8419b4f808c3abdccff5814", func := "chrysalis/chrysalislaw08.FlowHeights", spec := "flowHeights", unfollowed := true, recurses := true, apart := false }
def FlowHeightsSaid : Prop := flowHeightsRow.holds Try.pinned (OpenSpec.ofChange flowHeightsSpec)

/-- ITS FALSE NEIGHBOUR: 'it returns false'. Refute it at one input. -/
def flowHeightsWrong : ChangeSpec := { name := "flowHeights", fn := fun _ => fun
  | [d1, d2, d3, d4] => { results := [.lit (.bool false)], args := [d1, d2, d3, d4] }
  | _ => none }
def FlowHeightsWrongFalsely : Prop := flowHeightsRow.holds Try.pinned (OpenSpec.ofChange flowHeightsWrong)

/-- 'chrysalislaw08.FlowOwn': WHATEVER THE INPUT: true; the input reads as it did. -/
def flowOwnSpec : ChangeSpec := { name := "flowOwn", fn := fun _ => fun
  | [d1, d2, d3, d4] => { results := [.lit (.bool true)], args := [d1, d2, d3, d4] }
  | _ => none }
def flowOwnRow : OpenClaim := { program := "ytlfcglolehmmiaa", sum := "fc166082c7fb3822d7e959647bac334e8f25d1ead8419b4f808c3abdccff5814", func := "chrysalis/chrysalislaw08.FlowOwn", spec := "flowOwn", unfollowed := true, recurses := true, apart := false }
def FlowOwnSaid : Prop := flowOwnRow.holds Try.pinned (OpenSpec.ofChange flowOwnSpec)

/-- ITS FALSE NEIGHBOUR: 'it returns false'. Refute it at one input. -/
def flowOwnWrong : ChangeSpec := { name := "flowOwn", fn := fun _ => fun
  | [d1, d2, d3, d4] => { results := [.lit (.bool false)], args := [d1, d2, d3, d4] }
  | _ => none }
def FlowOwnWrongFalsely : Prop := flowOwnRow.holds Try.pinned (OpenSpec.ofChange flowOwnWrong)

/- THE SECOND FORM. 'bulk': how many values and letters a reading holds, each counted each time it is reached (what is shared counts as often as it is met; a slice's spare places count too). A statement '..UptoSaid' is the law's where the arguments, and the package variables that the reading takes, are together of bulk at most 1048576: NARROWER than '..Said'. Prove '..Said' where nothing that the law and all that it calls make is longer than what came in: it says more and counts as full. Else prove '..UptoSaid'. A law counts once. -/
mutual
def uptoBulk {H : Type} : DataW H → Nat
  | .lit (.string bytes) => bytes.length + 1
  | .lit _ => 1
  | .nil => 1
  | .ptr d => uptoBulk d + 1
  | .slice elems spare => uptoBulkAll elems + uptoBulkAll spare + 1
  | .agg parts => uptoBulkAll parts + 1
  | .iface _ d => uptoBulk d + 1
  | .map entries => uptoBulkEntries entries + 1
  | .held _ => 1
def uptoBulkAll {H : Type} : List (DataW H) → Nat
  | [] => 0
  | d :: r => uptoBulk d + uptoBulkAll r
def uptoBulkEntries {H : Type} : List (Lit × DataW H) → Nat
  | [] => 0
  | x :: r => uptoBulkEntry x + uptoBulkEntries r
def uptoBulkEntry {H : Type} : Lit × DataW H → Nat
  | (.string bytes, d) => bytes.length + uptoBulk d + 1
  | (_, d) => uptoBulk d + 1
 end
def uptoSmall : (H : Type) → List (DataW H) → Bool := fun _ ds => decide (uptoBulkAll ds ≤ 1048576)
def OpenSpec.upto (s : _root_.Go.ChangeSpec) : _root_.Go.OpenSpec := { _root_.Go.OpenSpec.ofChange s with cond := some uptoSmall }

/-- 'chrysalislaw08.FlowSteps', WHERE WHAT IT READS IS OF BULK AT MOST 1048576: true; the input reads as it did. -/
def flowStepsUptoRow : OpenClaim := { program := "ytlfcglolehmmiaa", sum := "fc166082c7fb3822d7e959647bac334e8f25d1ead8419b4f808c3abdccff5814", func := "chrysalis/chrysalislaw08.FlowSteps", spec := "flowSteps", unfollowed := true, recurses := true, apart := false, narrowed := true }
def FlowStepsUptoSaid : Prop := flowStepsUptoRow.holds Try.pinned (OpenSpec.upto flowStepsSpec)

/-- 'chrysalislaw08.FlowLocals', WHERE WHAT IT READS IS OF BULK AT MOST 1048576: true; the input reads as it did. -/
def flowLocalsUptoRow : OpenClaim := { program := "ytlfcglolehmmiaa", sum := "fc166082c7fb3822d7e959647bac334e8f25d1ead8419b4f808c3abdccff5814", func := "chrysalis/chrysalislaw08.FlowLocals", spec := "flowLocals", unfollowed := true, recurses := true, apart := false, narrowed := true }
def FlowLocalsUptoSaid : Prop := flowLocalsUptoRow.holds Try.pinned (OpenSpec.upto flowLocalsSpec)

/-- 'chrysalislaw08.FlowBelow', WHERE WHAT IT READS IS OF BULK AT MOST 1048576: true; the input reads as it did. -/
def flowBelowUptoRow : OpenClaim := { program := "ytlfcglolehmmiaa", sum := "fc166082c7fb3822d7e959647bac334e8f25d1ead8419b4f808c3abdccff5814", func := "chrysalis/chrysalislaw08.FlowBelow", spec := "flowBelow", unfollowed := true, recurses := true, apart := false, narrowed := true }
def FlowBelowUptoSaid : Prop := flowBelowUptoRow.holds Try.pinned (OpenSpec.upto flowBelowSpec)

/-- 'chrysalislaw08.FlowHeights', WHERE WHAT IT READS IS OF BULK AT MOST 1048576: true; the input reads as it did. -/
def flowHeightsUptoRow : OpenClaim := { program := "ytlfcglolehmmiaa", sum := "fc166082c7fb3822d7e959647bac334e8f25d1ead8419b4f808c3abdccff5814", func := "chrysalis/chrysalislaw08.FlowHeights", spec := "flowHeights", unfollowed := true, recurses := true, apart := false, narrowed := true }
def FlowHeightsUptoSaid : Prop := flowHeightsUptoRow.holds Try.pinned (OpenSpec.upto flowHeightsSpec)

/-- 'chrysalislaw08.FlowOwn', WHERE WHAT IT READS IS OF BULK AT MOST 1048576: true; the input reads as it did. -/
def flowOwnUptoRow : OpenClaim := { program := "ytlfcglolehmmiaa", sum := "fc166082c7fb3822d7e959647bac334e8f25d1ead8419b4f808c3abdccff5814", func := "chrysalis/chrysalislaw08.FlowOwn", spec := "flowOwn", unfollowed := true, recurses := true, apart := false, narrowed := true }
def FlowOwnUptoSaid : Prop := flowOwnUptoRow.holds Try.pinned (OpenSpec.upto flowOwnSpec)

end Rows
end Go.Proofs.Ytlfcglolehmmiaa
