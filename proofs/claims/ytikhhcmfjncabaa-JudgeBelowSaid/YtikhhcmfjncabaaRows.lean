/-
  No cell of these rows narrows 'for every input' (looked for: loops, veiled, ifaces, maps, wideKeys, modest, calm, conditions, laid).
  DERIVED. THE GIVEN ROWS OF THIS SEAT. 2 by the template 'for every input the law returns true; each argument reads behind the call as it read before'; 0 by the template 'total and deterministic' (their statements: YtikhhcmfjncabaaTotals.lean).
  GIVEN WITH THE SEED: the statements are not yours to turn. If you find one false, say at which input.
  Laid BY PROGRAM, IN A SANDBOX (cutbox-rows.mjs): the forced cells as the released guide's own fill.sh prints them over the translation 6b4beb9347ce4474… (all of the seat's roots in one cut). By AI agents, Wed Nov 11 2026. No macro, syntax, notation, axiom, sorry.
-/
import Derived.Test.YtikhhcmfjncabaaChecked
import GoSem.Claim
import GoSem.ClaimJoined
import GoSem.ClaimMapViews
import Derived.JoinedTies
import Derived.KernelRfl
namespace Go.Proofs.Ytikhhcmfjncabaa
/- THE CELL 'sum', in the pinned program and in every row, IS THE sha256 OF THE DUMP (.gsa) THAT YtikhhcmfjncabaaProg.lean LOADS. Nothing in Lean hashes anything: it is a label: what it is worth is what the hold of that sum in a sandbox is worth. -/
noncomputable def Try.pinned : Pinned := { name := "ytikhhcmfjncabaa", sum := "6b4beb9347ce4474d68278fbd39e1cf2424b9af475831877eef2b5fd4510b50e", checked := Try.checked }
namespace Rows
def none {H : Type} : Left H := { results := [], args := [] }

/-- 'chrysalislaw10.JudgeBelow': WHATEVER THE INPUT: true; the input reads as it did. -/
def judgeBelowSpec : ChangeSpec := { name := "judgeBelow", fn := fun _ => fun
  | [d1, d2, d3] => { results := [.lit (.bool true)], args := [d1, d2, d3] }
  | _ => none }
def judgeBelowRow : OpenClaim := { program := "ytikhhcmfjncabaa", sum := "6b4beb9347ce4474d68278fbd39e1cf2424b9af475831877eef2b5fd4510b50e", func := "chrysalis/chrysalislaw10.JudgeBelow", spec := "judgeBelow", unfollowed := true, recurses := true, apart := false }
def JudgeBelowSaid : Prop := judgeBelowRow.holds Try.pinned (OpenSpec.ofChange judgeBelowSpec)

/-- ITS FALSE NEIGHBOUR: 'it returns false'. Refute it at one input. -/
def judgeBelowWrong : ChangeSpec := { name := "judgeBelow", fn := fun _ => fun
  | [d1, d2, d3] => { results := [.lit (.bool false)], args := [d1, d2, d3] }
  | _ => none }
def JudgeBelowWrongFalsely : Prop := judgeBelowRow.holds Try.pinned (OpenSpec.ofChange judgeBelowWrong)

/-- 'chrysalislaw10.JudgeWider': WHATEVER THE INPUT: true; the input reads as it did. -/
def judgeWiderSpec : ChangeSpec := { name := "judgeWider", fn := fun _ => fun
  | [d] => { results := [.lit (.bool true)], args := [d] }
  | _ => none }
def judgeWiderRow : OpenClaim := { program := "ytikhhcmfjncabaa", sum := "6b4beb9347ce4474d68278fbd39e1cf2424b9af475831877eef2b5fd4510b50e", func := "chrysalis/chrysalislaw10.JudgeWider", spec := "judgeWider", unfollowed := true, recurses := true, apart := false }
def JudgeWiderSaid : Prop := judgeWiderRow.holds Try.pinned (OpenSpec.ofChange judgeWiderSpec)

/-- ITS FALSE NEIGHBOUR: 'it returns false'. Refute it at one input. -/
def judgeWiderWrong : ChangeSpec := { name := "judgeWider", fn := fun _ => fun
  | [d] => { results := [.lit (.bool false)], args := [d] }
  | _ => none }
def JudgeWiderWrongFalsely : Prop := judgeWiderRow.holds Try.pinned (OpenSpec.ofChange judgeWiderWrong)

/- THE SECOND FORM. 'bulk': how many values and letters a reading holds, each counted each time it is reached (what is shared counts as often as it is met; a slice's spare places count too). A statement '..UptoSaid' is the law's where the arguments, and the package variables that the reading takes, are together of bulk at most 1048576: NARROWER than '..Said'. Prove '..Said' where nothing that the law and all that it calls make is longer than what came in: it says more and counts as full. Else prove '..UptoSaid'. A law counts once. -/
mutual
def uptoBulk {H : Type} : DataW H → Nat
  | .lit (.string bytes) => bytes.length + 1
  | .lit _ => 1
  | .nil => 1
  | .ptr d => uptoBulk d + 1
  | .slice elems spare => uptoBulkAll elems + uptoBulkAll spare + 1
  | .agg parts => uptoBulkAll parts + 1
  | .iface _ d => uptoBulk d + 1
  | .map entries => uptoBulkEntries entries + 1
  | .held _ => 1
def uptoBulkAll {H : Type} : List (DataW H) → Nat
  | [] => 0
  | d :: r => uptoBulk d + uptoBulkAll r
def uptoBulkEntries {H : Type} : List (Lit × DataW H) → Nat
  | [] => 0
  | x :: r => uptoBulkEntry x + uptoBulkEntries r
def uptoBulkEntry {H : Type} : Lit × DataW H → Nat
  | (.string bytes, d) => bytes.length + uptoBulk d + 1
  | (_, d) => uptoBulk d + 1
 end
def uptoSmall : (H : Type) → List (DataW H) → Bool := fun _ ds => decide (uptoBulkAll ds ≤ 1048576)
def OpenSpec.upto (s : _root_.Go.ChangeSpec) : _root_.Go.OpenSpec := { _root_.Go.OpenSpec.ofChange s with cond := some uptoSmall }

/-- 'chrysalislaw10.JudgeBelow', WHERE WHAT IT READS IS OF BULK AT MOST 1048576: true; the input reads as it did. -/
def judgeBelowUptoRow : OpenClaim := { program := "ytikhhcmfjncabaa", sum := "6b4beb9347ce4474d68278fbd39e1cf2424b9af475831877eef2b5fd4510b50e", func := "chrysalis/chrysalislaw10.JudgeBelow", spec := "judgeBelow", unfollowed := true, recurses := true, apart := false, narrowed := true }
def JudgeBelowUptoSaid : Prop := judgeBelowUptoRow.holds Try.pinned (OpenSpec.upto judgeBelowSpec)

/-- 'chrysalislaw10.JudgeWider', WHERE WHAT IT READS IS OF BULK AT MOST 1048576: true; the input reads as it did. -/
def judgeWiderUptoRow : OpenClaim := { program := "ytikhhcmfjncabaa", sum := "6b4beb9347ce4474d68278fbd39e1cf2424b9af475831877eef2b5fd4510b50e", func := "chrysalis/chrysalislaw10.JudgeWider", spec := "judgeWider", unfollowed := true, recurses := true, apart := false, narrowed := true }
def JudgeWiderUptoSaid : Prop := judgeWiderUptoRow.holds Try.pinned (OpenSpec.upto judgeWiderSpec)

end Rows
end Go.Proofs.Ytikhhcmfjncabaa
