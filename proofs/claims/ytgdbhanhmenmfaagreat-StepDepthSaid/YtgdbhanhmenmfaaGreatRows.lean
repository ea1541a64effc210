/-
  No cell of these rows narrows 'for every input' (looked for: loops, veiled, ifaces, maps, wideKeys, modest, calm, conditions, laid).
  DERIVED. THE GIVEN ROWS OF THIS SEAT. 5 by the template 'for every input the law returns true; each argument reads behind the call as it read before'; 0 by the template 'total and deterministic' (their statements: YtgdbhanhmenmfaaGreatTotals.lean).
  GIVEN WITH THE SEED: the statements are not yours to turn. If you find one false, say at which input.
  Laid BY PROGRAM, IN A SANDBOX (cutbox-rows.mjs): the forced cells as the released guide's own fill.sh prints them over the translation 207832afac0b6f6a… (all of the seat's roots in one cut). By AI agents, Wed Nov 11 2026. No macro, syntax, notation, axiom, sorry.
-/
import Derived.Test.YtgdbhanhmenmfaaGreatChecked
import GoSem.Claim
import GoSem.ClaimJoined
import GoSem.ClaimMapViews
import Derived.JoinedTies
import Derived.KernelRfl
namespace Go.Proofs.YtgdbhanhmenmfaaGreat
/- THE CELL 'sum', in the pinned program and in every row, IS THE sha256 OF THE DUMP (.gsa) THAT YtgdbhanhmenmfaaGreatProg.lean LOADS. Nothing in Lean hashes anything: it is a label: what it is worth is what the hold of that sum in a sandbox is worth. -/
noncomputable def Tryz.pinned : Pinned := { name := "ytgdbhanhmenmfaagreat", sum := "207832afac0b6f6a1af52a9d0cfe3645ad3864bbd4fa26bdd7cf88d2ab65f823", checked := Tryz.checked }
namespace Rows
def none {H : Type} : Left H := { results := [], args := [] }

/-- 'chrysalislaw15.StepLoads': WHATEVER THE INPUT: true; the input reads as it did. -/
def stepLoadsSpec : ChangeSpec := { name := "stepLoads", fn := fun _ => fun
  | [d1, d2, d3] => { results := [.lit (.bool true)], args := [d1, d2, d3] }
  | _ => none }
def stepLoadsRow : OpenClaim := { program := "ytgdbhanhmenmfaagreat", sum := "207832afac0b6f6a1af52a9d0cfe3645ad3864bbd4fa26bdd7cf88d2ab65f823", func := "chrysalis/chrysalislaw15.StepLoads", spec := "stepLoads", unfollowed := true, recurses := true, apart := false }
def StepLoadsSaid : Prop := stepLoadsRow.holds Tryz.pinned (OpenSpec.ofChange stepLoadsSpec)

/-- ITS FALSE NEIGHBOUR: 'it returns false'. Refute it at one input. -/
def stepLoadsWrong : ChangeSpec := { name := "stepLoads", fn := fun _ => fun
  | [d1, d2, d3] => { results := [.lit (.bool false)], args := [d1, d2, d3] }
  | _ => none }
def StepLoadsWrongFalsely : Prop := stepLoadsRow.holds Tryz.pinned (OpenSpec.ofChange stepLoadsWrong)

/-- 'chrysalislaw15.StepNone': WHATEVER THE INPUT: true; the input reads as it did. -/
def stepNoneSpec : ChangeSpec := { name := "stepNone", fn := fun _ => fun
  | [d] => { results := [.lit (.bool true)], args := [d] }
  | _ => none }
def stepNoneRow : OpenClaim := { program := "ytgdbhanhmenmfaagreat", sum := "207832afac0b6f6a1af52a9d0cfe3645ad3864bbd4fa26bdd7cf88d2ab65f823", func := "chrysalis/chrysalislaw15.StepNone", spec := "stepNone", unfollowed := true, recurses := true, apart := false }
def StepNoneSaid : Prop := stepNoneRow.holds Tryz.pinned (OpenSpec.ofChange stepNoneSpec)

/-- ITS FALSE NEIGHBOUR: 'it returns false'. Refute it at one input. -/
def stepNoneWrong : ChangeSpec := { name := "stepNone", fn := fun _ => fun
  | [d] => { results := [.lit (.bool false)], args := [d] }
  | _ => none }
def StepNoneWrongFalsely : Prop := stepNoneRow.holds Tryz.pinned (OpenSpec.ofChange stepNoneWrong)

/-- 'chrysalislaw15.StepTraps': WHATEVER THE INPUT: true; the input reads as it did. -/
def stepTrapsSpec : ChangeSpec := { name := "stepTraps", fn := fun _ => fun
  | [d1, d2] => { results := [.lit (.bool true)], args := [d1, d2] }
  | _ => none }
def stepTrapsRow : OpenClaim := { program := "ytgdbhanhmenmfaagreat", sum := "207832afac0b6f6a1af52a9d0cfe3645ad3864bbd4fa26bdd7cf88d2ab65f823", func := "chrysalis/chrysalislaw15.StepTraps", spec := "stepTraps", unfollowed := true, recurses := true, apart := false }
def StepTrapsSaid : Prop := stepTrapsRow.holds Tryz.pinned (OpenSpec.ofChange stepTrapsSpec)

/-- ITS FALSE NEIGHBOUR: 'it returns false'. Refute it at one input. -/
def stepTrapsWrong : ChangeSpec := { name := "stepTraps", fn := fun _ => fun
  | [d1, d2] => { results := [.lit (.bool false)], args := [d1, d2] }
  | _ => none }
def StepTrapsWrongFalsely : Prop := stepTrapsRow.holds Tryz.pinned (OpenSpec.ofChange stepTrapsWrong)

/-- 'chrysalislaw15.StepDepth': WHATEVER THE INPUT: true; the input reads as it did. -/
def stepDepthSpec : ChangeSpec := { name := "stepDepth", fn := fun _ => fun
  | [d] => { results := [.lit (.bool true)], args := [d] }
  | _ => none }
def stepDepthRow : OpenClaim := { program := "ytgdbhanhmenmfaagreat", sum := "207832afac0b6f6a1af52a9d0cfe3645ad3864bbd4fa26bdd7cf88d2ab65f823", func := "chrysalis/chrysalislaw15.StepDepth", spec := "stepDepth", unfollowed := true, recurses := true, apart := false }
def StepDepthSaid : Prop := stepDepthRow.holds Tryz.pinned (OpenSpec.ofChange stepDepthSpec)

/-- ITS FALSE NEIGHBOUR: 'it returns false'. Refute it at one input. -/
def stepDepthWrong : ChangeSpec := { name := "stepDepth", fn := fun _ => fun
  | [d] => { results := [.lit (.bool false)], args := [d] }
  | _ => none }
def StepDepthWrongFalsely : Prop := stepDepthRow.holds Tryz.pinned (OpenSpec.ofChange stepDepthWrong)

/-- 'chrysalislaw15.StepMoves': WHATEVER THE INPUT: true; the input reads as it did. -/
def stepMovesSpec : ChangeSpec := { name := "stepMoves", fn := fun _ => fun
  | [d1, d2, d3, d4] => { results := [.lit (.bool true)], args := [d1, d2, d3, d4] }
  | _ => none }
def stepMovesRow : OpenClaim := { program := "ytgdbhanhmenmfaagreat", sum := "207832afac0b6f6a1af52a9d0cfe3645ad3864bbd4fa26bdd7cf88d2ab65f823", func := "chrysalis/chrysalislaw15.StepMoves", spec := "stepMoves", unfollowed := true, recurses := true, apart := false }
def StepMovesSaid : Prop := stepMovesRow.holds Tryz.pinned (OpenSpec.ofChange stepMovesSpec)

/-- ITS FALSE NEIGHBOUR: 'it returns false'. Refute it at one input. -/
def stepMovesWrong : ChangeSpec := { name := "stepMoves", fn := fun _ => fun
  | [d1, d2, d3, d4] => { results := [.lit (.bool false)], args := [d1, d2, d3, d4] }
  | _ => none }
def StepMovesWrongFalsely : Prop := stepMovesRow.holds Tryz.pinned (OpenSpec.ofChange stepMovesWrong)

/- THE SECOND FORM. 'bulk': how many values and letters a reading holds, each counted each time it is reached (what is shared counts as often as it is met; a slice's spare places count too). A statement '..UptoSaid' is the law's where the arguments, and the package variables that the reading takes, are together of bulk at most 1048576: NARROWER than '..Said'. Prove '..Said' where nothing that the law and all that it calls make is longer than what came in: it says more and counts as full. Else prove '..UptoSaid'. A law counts once. -/
mutual
def uptoBulk {H : Type} : DataW H → Nat
  | .lit (.string bytes) => bytes.length + 1
  | .lit _ => 1
  | .nil => 1
  | .ptr d => uptoBulk d + 1
  | .slice elems spare => uptoBulkAll elems + uptoBulkAll spare + 1
  | .agg parts => uptoBulkAll parts + 1
  | .iface _ d => uptoBulk d + 1
  | .map entries => uptoBulkEntries entries + 1
  | .held _ => 1
def uptoBulkAll {H : Type} : List (DataW H) → Nat
  | [] => 0
  | d :: r => uptoBulk d + uptoBulkAll r
def uptoBulkEntries {H : Type} : List (Lit × DataW H) → Nat
  | [] => 0
  | x :: r => uptoBulkEntry x + uptoBulkEntries r
def uptoBulkEntry {H : Type} : Lit × DataW H → Nat
  | (.string bytes, d) => bytes.length + uptoBulk d + 1
  | (_, d) => uptoBulk d + 1
 end
def uptoSmall : (H : Type) → List (DataW H) → Bool := fun _ ds => decide (uptoBulkAll ds ≤ 1048576)
def OpenSpec.upto (s : _root_.Go.ChangeSpec) : _root_.Go.OpenSpec := { _root_.Go.OpenSpec.ofChange s with cond := some uptoSmall }

/-- 'chrysalislaw15.StepLoads', WHERE WHAT IT READS IS OF BULK AT MOST 1048576: true; the input reads as it did. -/
def stepLoadsUptoRow : OpenClaim := { program := "ytgdbhanhmenmfaagreat", sum := "207832afac0b6f6a1af52a9d0cfe3645ad3864bbd4fa26bdd7cf88d2ab65f823", func := "chrysalis/chrysalislaw15.StepLoads", spec := "stepLoads", unfollowed := true, recurses := true, apart := false, narrowed := true }
def StepLoadsUptoSaid : Prop := stepLoadsUptoRow.holds Tryz.pinned (OpenSpec.upto stepLoadsSpec)

/-- 'chrysalislaw15.StepNone', WHERE WHAT IT READS IS OF BULK AT MOST 1048576: true; the input reads as it did. -/
def stepNoneUptoRow : OpenClaim := { program := "ytgdbhanhmenmfaagreat", sum := "207832afac0b6f6a1af52a9d0cfe3645ad3864bbd4fa26bdd7cf88d2ab65f823", func := "chrysalis/chrysalislaw15.StepNone", spec := "stepNone", unfollowed := true, recurses := true, apart := false, narrowed := true }
def StepNoneUptoSaid : Prop := stepNoneUptoRow.holds Tryz.pinned (OpenSpec.upto stepNoneSpec)

/-- 'chrysalislaw15.StepTraps', WHERE WHAT IT READS IS OF BULK AT MOST 1048576: true; the input reads as it did. -/
def stepTrapsUptoRow : OpenClaim := { program := "ytgdbhanhmenmfaagreat", sum := "207832afac0b6f6a1af52a9d0cfe3645ad3864bbd4fa26bdd7cf88d2ab65f823", func := "chrysalis/chrysalislaw15.StepTraps", spec := "stepTraps", unfollowed := true, recurses := true, apart := false, narrowed := true }
def StepTrapsUptoSaid : Prop := stepTrapsUptoRow.holds Tryz.pinned (OpenSpec.upto stepTrapsSpec)

/-- 'chrysalislaw15.StepDepth', WHERE WHAT IT READS IS OF BULK AT MOST 1048576: true; the input reads as it did. -/
def stepDepthUptoRow : OpenClaim := { program := "ytgdbhanhmenmfaagreat", sum := "207832afac0b6f6a1af52a9d0cfe3645ad3864bbd4fa26bdd7cf88d2ab65f823", func := "chrysalis/chrysalislaw15.StepDepth", spec := "stepDepth", unfollowed := true, recurses := true, apart := false, narrowed := true }
def StepDepthUptoSaid : Prop := stepDepthUptoRow.holds Tryz.pinned (OpenSpec.upto stepDepthSpec)

/-- 'chrysalislaw15.StepMoves', WHERE WHAT IT READS IS OF BULK AT MOST 1048576: true; the input reads as it did. -/
def stepMovesUptoRow : OpenClaim := { program := "ytgdbhanhmenmfaagreat", sum := "207832afac0b6f6a1af52a9d0cfe3645ad3864bbd4fa26bdd7cf88d2ab65f823", func := "chrysalis/chrysalislaw15.StepMoves", spec := "stepMoves", unfollowed := true, recurses := true, apart := false, narrowed := true }
def StepMovesUptoSaid : Prop := stepMovesUptoRow.holds Tryz.pinned (OpenSpec.upto stepMovesSpec)

end Rows
end Go.Proofs.YtgdbhanhmenmfaaGreat
