/-
  No cell of these rows narrows 'for every input' (looked for: loops, veiled, ifaces, maps, wideKeys, modest, calm, conditions, laid).
  DERIVED. THE GIVEN ROWS OF THIS SEAT. 3 by the template 'for every input the law returns true; each argument reads behind the call as it read before'; 0 by the template 'total and deterministic' (their statements: YtpjanfkliaaflaaTotals.lean).
  GIVEN WITH THE SEED: the statements are not yours to turn. If you find one false, say at which input.
  Laid BY PROGRAM, IN A SANDBOX (cutbox-rows.mjs): the forced cells as the released guide's own fill.sh prints them over the translation b65c34d2dab7e837… (all of the seat's roots in one cut). By AI agents, Wed Nov 11 2026. No macro, syntax, notation, axiom, sorry.
-/
import Derived.Test.YtpjanfkliaaflaaChecked
import GoSem.Claim
import GoSem.ClaimJoined
import GoSem.ClaimMapViews
import Derived.JoinedTies
import Derived.KernelRfl
namespace Go.Proofs.Ytpjanfkliaaflaa
/- THE CELL 'sum', in the pinned program and in every row, IS THE sha256 OF THE DUMP (.gsa) THAT YtpjanfkliaaflaaProg.lean LOADS. Nothing in Lean hashes anything: it is a label: what it is worth is what the hold of that sum in a sandbox is worth. -/
noncomputable def Try.pinned : Pinned := { name := "ytpjanfkliaaflaa", sum := "b65c34d2dab7e8371f8a4057332989a129422396e161fcafb0d3b770d80b9df8", checked := Try.checked }
namespace Rows
def none {H : Type} : Left H := { results := [], args := [] }

/-- 'chrysalislaw09.VerifyLoops': WHATEVER THE INPUT: true; the input reads as it did. -/
def verifyLoopsSpec : ChangeSpec := { name := "verifyLoops", fn := fun _ => fun
  | [d1, d2] => { results := [.lit (.bool true)], args := [d1, d2] }
  | _ => none }
def verifyLoopsRow : OpenClaim := { program := "ytpjanfkliaaflaa", sum := "b65c34d2dab7e8371f8a4057332989a129422396e161fcafb0d3b770d80b9df8", func := "chrysalis/chrysalislaw09.VerifyLoops", spec := "verifyLoops", unfollowed := true, recurses := true, apart := false }
def VerifyLoopsSaid : Prop := verifyLoopsRow.holds Try.pinned (OpenSpec.ofChange verifyLoopsSpec)

/-- ITS FALSE NEIGHBOUR: 'it returns false'. Refute it at one input. -/
def verifyLoopsWrong : ChangeSpec := { name := "verifyLoops", fn := fun _ => fun
  | [d1, d2] => { results := [.lit (.bool false)], args := [d1, d2] }
  | _ => none }
def VerifyLoopsWrongFalsely : Prop := verifyLoopsRow.holds Try.pinned (OpenSpec.ofChange verifyLoopsWrong)

/-- 'chrysalislaw09.VerifyJoins': WHATEVER THE INPUT: true; the input reads as it did. -/
def verifyJoinsSpec : ChangeSpec := { name := "verifyJoins", fn := fun _ => fun
  | [d1, d2] => { results := [.lit (.bool true)], args := [d1, d2] }
  | _ => none }
def verifyJoinsRow : OpenClaim := { program := "ytpjanfkliaaflaa", sum := "b65c34d2dab7e8371f8a4057332989a129422396e161fcafb0d3b770d80b9df8", func := "chrysalis/chrysalislaw09.VerifyJoins", spec := "verifyJoins", unfollowed := true, recurses := true, apart := false }
def VerifyJoinsSaid : Prop := verifyJoinsRow.holds Try.pinned (OpenSpec.ofChange verifyJoinsSpec)

/-- ITS FALSE NEIGHBOUR: 'it returns false'. Refute it at one input. -/
def verifyJoinsWrong : ChangeSpec := { name := "verifyJoins", fn := fun _ => fun
  | [d1, d2] => { results := [.lit (.bool false)], args := [d1, d2] }
  | _ => none }
def VerifyJoinsWrongFalsely : Prop := verifyJoinsRow.holds Try.pinned (OpenSpec.ofChange verifyJoinsWrong)

/-- 'chrysalislaw09.VerifyOwn': WHATEVER THE INPUT: true; the input reads as it did. -/
def verifyOwnSpec : ChangeSpec := { name := "verifyOwn", fn := fun _ => fun
  | [d] => { results := [.lit (.bool true)], args := [d] }
  | _ => none }
def verifyOwnRow : OpenClaim := { program := "ytpjanfkliaaflaa", sum := "b65c34d2dab7e8371f8a4057332989a129422396e161fcafb0d3b770d80b9df8", func := "chrysalis/chrysalislaw09.VerifyOwn", spec := "verifyOwn", unfollowed := true, recurses := true, apart := false }
def VerifyOwnSaid : Prop := verifyOwnRow.holds Try.pinned (OpenSpec.ofChange verifyOwnSpec)

/-- ITS FALSE NEIGHBOUR: 'it returns false'. Refute it at one input. -/
def verifyOwnWrong : ChangeSpec := { name := "verifyOwn", fn := fun _ => fun
  | [d] => { results := [.lit (.bool false)], args := [d] }
  | _ => none }
def VerifyOwnWrongFalsely : Prop := verifyOwnRow.holds Try.pinned (OpenSpec.ofChange verifyOwnWrong)

/- THE SECOND FORM. 'bulk': how many values and letters a reading holds, each counted each time it is reached (what is shared counts as often as it is met; a slice's spare places count too). A statement '..UptoSaid' is the law's where the arguments, and the package variables that the reading takes, are together of bulk at most 1048576: NARROWER than '..Said'. Prove '..Said' where nothing that the law and all that it calls make is longer than what came in: it says more and counts as full. Else prove '..UptoSaid'. A law counts once. -/
mutual
def uptoBulk {H : Type} : DataW H → Nat
  | .lit (.string bytes) => bytes.length + 1
  | .lit _ => 1
  | .nil => 1
  | .ptr d => uptoBulk d + 1
  | .slice elems spare => uptoBulkAll elems + uptoBulkAll spare + 1
  | .agg parts => uptoBulkAll parts + 1
  | .iface _ d => uptoBulk d + 1
  | .map entries => uptoBulkEntries entries + 1
  | .held _ => 1
def uptoBulkAll {H : Type} : List (DataW H) → Nat
  | [] => 0
  | d :: r => uptoBulk d + uptoBulkAll r
def uptoBulkEntries {H : Type} : List (Lit × DataW H) → Nat
  | [] => 0
  | x :: r => uptoBulkEntry x + uptoBulkEntries r
def uptoBulkEntry {H : Type} : Lit × DataW H → Nat
  | (.string bytes, d) => bytes.length + uptoBulk d + 1
  | (_, d) => uptoBulk d + 1
 end
def uptoSmall : (H : Type) → List (DataW H) → Bool := fun _ ds => decide (uptoBulkAll ds ≤ 1048576)
def OpenSpec.upto (s : _root_.Go.ChangeSpec) : _root_.Go.OpenSpec := { _root_.Go.OpenSpec.ofChange s with cond := some uptoSmall }

/-- 'chrysalislaw09.VerifyLoops', WHERE WHAT IT READS IS OF BULK AT MOST 1048576: true; the input reads as it did. -/
def verifyLoopsUptoRow : OpenClaim := { program := "ytpjanfkliaaflaa", sum := "b65c34d2dab7e8371f8a4057332989a129422396e161fcafb0d3b770d80b9df8", func := "chrysalis/chrysalislaw09.VerifyLoops", spec := "verifyLoops", unfollowed := true, recurses := true, apart := false, narrowed := true }
def VerifyLoopsUptoSaid : Prop := verifyLoopsUptoRow.holds Try.pinned (OpenSpec.upto verifyLoopsSpec)

/-- 'chrysalislaw09.VerifyJoins', WHERE WHAT IT READS IS OF BULK AT MOST 1048576: true; the input reads as it did. -/
def verifyJoinsUptoRow : OpenClaim := { program := "ytpjanfkliaaflaa", sum := "b65c34d2dab7e8371f8a4057332989a129422396e161fcafb0d3b770d80b9df8", func := "chrysalis/chrysalislaw09.VerifyJoins", spec := "verifyJoins", unfollowed := true, recurses := true, apart := false, narrowed := true }
def VerifyJoinsUptoSaid : Prop := verifyJoinsUptoRow.holds Try.pinned (OpenSpec.upto verifyJoinsSpec)

/-- 'chrysalislaw09.VerifyOwn', WHERE WHAT IT READS IS OF BULK AT MOST 1048576: true; the input reads as it did. -/
def verifyOwnUptoRow : OpenClaim := { program := "ytpjanfkliaaflaa", sum := "b65c34d2dab7e8371f8a4057332989a129422396e161fcafb0d3b770d80b9df8", func := "chrysalis/chrysalislaw09.VerifyOwn", spec := "verifyOwn", unfollowed := true, recurses := true, apart := false, narrowed := true }
def VerifyOwnUptoSaid : Prop := verifyOwnUptoRow.holds Try.pinned (OpenSpec.upto verifyOwnSpec)

end Rows
end Go.Proofs.Ytpjanfkliaaflaa
