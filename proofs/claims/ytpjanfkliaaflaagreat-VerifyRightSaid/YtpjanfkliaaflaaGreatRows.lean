/-
  No cell of these rows narrows 'for every input' (looked for: loops, veiled, ifaces, maps, wideKeys, modest, calm, conditions, laid).
  DERIVED. THE GIVEN ROWS OF THIS SEAT. 3 by the template 'for every input the law returns true; each argument reads behind the call as it read before'; 0 by the template 'total and deterministic' (their statements: YtpjanfkliaaflaaGreatTotals.lean).
  GIVEN WITH THE SEED: the statements are not yours to turn. If you find one false, say at which input.
  Laid BY PROGRAM, IN A SANDBOX (cutbox-rows.mjs): the forced cells as the released guide's own fill.sh prints them over the translation 77bf003b86a4c115… (all of the seat's roots in one cut). By AI agents, Wed Nov 11 2026. No macro, syntax, notation, axiom, sorry.
-/
import Derived.Test.YtpjanfkliaaflaaGreatChecked
import GoSem.Claim
import GoSem.ClaimJoined
import GoSem.ClaimMapViews
import Derived.JoinedTies
import Derived.KernelRfl
namespace Go.Proofs.YtpjanfkliaaflaaGreat
/- THE CELL 'sum', in the pinned program and in every row, IS THE sha256 OF THE DUMP (.gsa) THAT YtpjanfkliaaflaaGreatProg.lean LOADS. Nothing in Lean hashes anything: it is a label: what it is worth is what the hold of that sum in a sandbox is worth. -/
noncomputable def Tryz.pinned : Pinned := { name := "ytpjanfkliaaflaagreat", sum := "77bf003b86a4c1155e8a1e01bb9490fd7449a834b1a007943a230bf707e69e87", checked := Tryz.checked }
namespace Rows
def none {H : Type} : Left H := { results := [], args := [] }

/-- 'chrysalislaw09.VerifyMaps': WHATEVER THE INPUT: true; the input reads as it did. -/
def verifyMapsSpec : ChangeSpec := { name := "verifyMaps", fn := fun _ => fun
  | [d] => { results := [.lit (.bool true)], args := [d] }
  | _ => none }
def verifyMapsRow : OpenClaim := { program := "ytpjanfkliaaflaagreat", sum := "77bf003b86a4c1155e8a1e01bb9490fd7449a834b1a007943a230bf707e69e87", func := "chrysalis/chrysalislaw09.VerifyMaps", spec := "verifyMaps", unfollowed := true, recurses := true, apart := false }
def VerifyMapsSaid : Prop := verifyMapsRow.holds Tryz.pinned (OpenSpec.ofChange verifyMapsSpec)

/-- ITS FALSE NEIGHBOUR: 'it returns false'. Refute it at one input. -/
def verifyMapsWrong : ChangeSpec := { name := "verifyMaps", fn := fun _ => fun
  | [d] => { results := [.lit (.bool false)], args := [d] }
  | _ => none }
def VerifyMapsWrongFalsely : Prop := verifyMapsRow.holds Tryz.pinned (OpenSpec.ofChange verifyMapsWrong)

/-- 'chrysalislaw09.VerifyRight': WHATEVER THE INPUT: true; the input reads as it did. -/
def verifyRightSpec : ChangeSpec := { name := "verifyRight", fn := fun _ => fun
  | [d1, d2] => { results := [.lit (.bool true)], args := [d1, d2] }
  | _ => none }
def verifyRightRow : OpenClaim := { program := "ytpjanfkliaaflaagreat", sum := "77bf003b86a4c1155e8a1e01bb9490fd7449a834b1a007943a230bf707e69e87", func := "chrysalis/chrysalislaw09.VerifyRight", spec := "verifyRight", unfollowed := true, recurses := true, apart := false }
def VerifyRightSaid : Prop := verifyRightRow.holds Tryz.pinned (OpenSpec.ofChange verifyRightSpec)

/-- ITS FALSE NEIGHBOUR: 'it returns false'. Refute it at one input. -/
def verifyRightWrong : ChangeSpec := { name := "verifyRight", fn := fun _ => fun
  | [d1, d2] => { results := [.lit (.bool false)], args := [d1, d2] }
  | _ => none }
def VerifyRightWrongFalsely : Prop := verifyRightRow.holds Tryz.pinned (OpenSpec.ofChange verifyRightWrong)

/-- 'chrysalislaw09.VerifyNever': WHATEVER THE INPUT: true; the input reads as it did. -/
def verifyNeverSpec : ChangeSpec := { name := "verifyNever", fn := fun _ => fun
  | [d1, d2] => { results := [.lit (.bool true)], args := [d1, d2] }
  | _ => none }
def verifyNeverRow : OpenClaim := { program := "ytpjanfkliaaflaagreat", sum := "77bf003b86a4c1155e8a1e01bb9490fd7449a834b1a007943a230bf707e69e87", func := "chrysalis/chrysalislaw09.VerifyNever", spec := "verifyNever", unfollowed := true, recurses := true, apart := false }
def VerifyNeverSaid : Prop := verifyNeverRow.holds Tryz.pinned (OpenSpec.ofChange verifyNeverSpec)

/-- ITS FALSE NEIGHBOUR: 'it returns false'. Refute it at one input. -/
def verifyNeverWrong : ChangeSpec := { name := "verifyNever", fn := fun _ => fun
  | [d1, d2] => { results := [.lit (.bool false)], args := [d1, d2] }
  | _ => none }
def VerifyNeverWrongFalsely : Prop := verifyNeverRow.holds Tryz.pinned (OpenSpec.ofChange verifyNeverWrong)

/- THE SECOND FORM. 'bulk': how many values and letters a reading holds, each counted each time it is reached (what is shared counts as often as it is met; a slice's spare places count too). A statement '..UptoSaid' is the law's where the arguments, and the package variables that the reading takes, are together of bulk at most 1048576: NARROWER than '..Said'. Prove '..Said' where nothing that the law and all that it calls make is longer than what came in: it says more and counts as full. Else prove '..UptoSaid'. A law counts once. -/
mutual
def uptoBulk {H : Type} : DataW H → Nat
  | .lit (.string bytes) => bytes.length + 1
  | .lit _ => 1
  | .nil => 1
  | .ptr d => uptoBulk d + 1
  | .slice elems spare => uptoBulkAll elems + uptoBulkAll spare + 1
  | .agg parts => uptoBulkAll parts + 1
  | .iface _ d => uptoBulk d + 1
  | .map entries => uptoBulkEntries entries + 1
  | .held _ => 1
def uptoBulkAll {H : Type} : List (DataW H) → Nat
  | [] => 0
  | d :: r => uptoBulk d + uptoBulkAll r
def uptoBulkEntries {H : Type} : List (Lit × DataW H) → Nat
  | [] => 0
  | x :: r => uptoBulkEntry x + uptoBulkEntries r
def uptoBulkEntry {H : Type} : Lit × DataW H → Nat
  | (.string bytes, d) => bytes.length + uptoBulk d + 1
  | (_, d) => uptoBulk d + 1
 end
def uptoSmall : (H : Type) → List (DataW H) → Bool := fun _ ds => decide (uptoBulkAll ds ≤ 1048576)
def OpenSpec.upto (s : _root_.Go.ChangeSpec) : _root_.Go.OpenSpec := { _root_.Go.OpenSpec.ofChange s with cond := some uptoSmall }

/-- 'chrysalislaw09.VerifyMaps', WHERE WHAT IT READS IS OF BULK AT MOST 1048576: true; the input reads as it did. -/
def verifyMapsUptoRow : OpenClaim := { program := "ytpjanfkliaaflaagreat", sum := "77bf003b86a4c1155e8a1e01bb9490fd7449a834b1a007943a230bf707e69e87", func := "chrysalis/chrysalislaw09.VerifyMaps", spec := "verifyMaps", unfollowed := true, recurses := true, apart := false, narrowed := true }
def VerifyMapsUptoSaid : Prop := verifyMapsUptoRow.holds Tryz.pinned (OpenSpec.upto verifyMapsSpec)

/-- 'chrysalislaw09.VerifyRight', WHERE WHAT IT READS IS OF BULK AT MOST 1048576: true; the input reads as it did. -/
def verifyRightUptoRow : OpenClaim := { program := "ytpjanfkliaaflaagreat", sum := "77bf003b86a4c1155e8a1e01bb9490fd7449a834b1a007943a230bf707e69e87", func := "chrysalis/chrysalislaw09.VerifyRight", spec := "verifyRight", unfollowed := true, recurses := true, apart := false, narrowed := true }
def VerifyRightUptoSaid : Prop := verifyRightUptoRow.holds Tryz.pinned (OpenSpec.upto verifyRightSpec)

/-- 'chrysalislaw09.VerifyNever', WHERE WHAT IT READS IS OF BULK AT MOST 1048576: true; the input reads as it did. -/
def verifyNeverUptoRow : OpenClaim := { program := "ytpjanfkliaaflaagreat", sum := "77bf003b86a4c1155e8a1e01bb9490fd7449a834b1a007943a230bf707e69e87", func := "chrysalis/chrysalislaw09.VerifyNever", spec := "verifyNever", unfollowed := true, recurses := true, apart := false, narrowed := true }
def VerifyNeverUptoSaid : Prop := verifyNeverUptoRow.holds Tryz.pinned (OpenSpec.upto verifyNeverSpec)

end Rows
end Go.Proofs.YtpjanfkliaaflaaGreat
