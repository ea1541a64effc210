/-
  No cell of these rows narrows 'for every input' (looked for: loops, veiled, ifaces, maps, wideKeys, modest, calm, conditions, laid).
  DERIVED. THE GIVEN ROWS OF THIS SEAT. 4 by the template 'for every input the law returns true; each argument reads behind the call as it read before'; 0 by the template 'total and deterministic' (their statements: YthahfhmkgkfoaaaTotals.lean).
  GIVEN WITH THE SEED: the statements are not yours to turn. If you find one false, say at which input.
  Laid BY PROGRAM, IN A SANDBOX (cutbox-rows.mjs): the forced cells as the released guide's own fill.sh prints them over the translation 978e63ba3cd77dab… (all of the seat's roots in one cut). By AI agents, Wed Nov 11 2026. No macro, syntax, notation, axiom, sorry.
-/
import Derived.Test.YthahfhmkgkfoaaaChecked
import GoSem.Claim
import GoSem.ClaimJoined
import GoSem.ClaimMapViews
import Derived.JoinedTies
import Derived.KernelRfl
namespace Go.Proofs.Ythahfhmkgkfoaaa
/- THE CELL 'sum', in the pinned program and in every row, IS THE sha256 OF THE DUMP (.gsa) THAT YthahfhmkgkfoaaaProg.lean LOADS. Nothing in Lean hashes anything: it is a label: what it is worth is what the hold of that sum in a sandbox is worth. -/
noncomputable def Try.pinned : Pinned := { name := "ythahfhmkgkfoaaa", sum := "978e63ba3cd77daba37e9d1e83a0d59f8a5e7909de3f15b4e7273defd2c279b6", checked := Try.checked }
namespace Rows
def none {H : Type} : Left H := { results := [], args := [] }

/-- 'chrysalislaw13.HansPlays': WHATEVER THE INPUT: true; the input reads as it did. -/
def hansPlaysSpec : ChangeSpec := { name := "hansPlays", fn := fun _ => fun
  | [d1, d2] => { results := [.lit (.bool true)], args := [d1, d2] }
  | _ => none }
def hansPlaysRow : OpenClaim := { program := "ythahfhmkgkfoaaa", sum := "978e63ba3cd77daba37e9d1e83a0d59f8a5e7909de3f15b4e7273defd2c279b6", func := "chrysalis/chrysalislaw13.HansPlays", spec := "hansPlays", apart := false }
def HansPlaysSaid : Prop := hansPlaysRow.holds Try.pinned (OpenSpec.ofChange hansPlaysSpec)

/-- ITS FALSE NEIGHBOUR: 'it returns false'. Refute it at one input. -/
def hansPlaysWrong : ChangeSpec := { name := "hansPlays", fn := fun _ => fun
  | [d1, d2] => { results := [.lit (.bool false)], args := [d1, d2] }
  | _ => none }
def HansPlaysWrongFalsely : Prop := hansPlaysRow.holds Try.pinned (OpenSpec.ofChange hansPlaysWrong)

/-- 'chrysalislaw13.HansNone': WHATEVER THE INPUT: true; the input reads as it did. -/
def hansNoneSpec : ChangeSpec := { name := "hansNone", fn := fun _ => fun
  | [d1, d2] => { results := [.lit (.bool true)], args := [d1, d2] }
  | _ => none }
def hansNoneRow : OpenClaim := { program := "ythahfhmkgkfoaaa", sum := "978e63ba3cd77daba37e9d1e83a0d59f8a5e7909de3f15b4e7273defd2c279b6", func := "chrysalis/chrysalislaw13.HansNone", spec := "hansNone", apart := false }
def HansNoneSaid : Prop := hansNoneRow.holds Try.pinned (OpenSpec.ofChange hansNoneSpec)

/-- ITS FALSE NEIGHBOUR: 'it returns false'. Refute it at one input. -/
def hansNoneWrong : ChangeSpec := { name := "hansNone", fn := fun _ => fun
  | [d1, d2] => { results := [.lit (.bool false)], args := [d1, d2] }
  | _ => none }
def HansNoneWrongFalsely : Prop := hansNoneRow.holds Try.pinned (OpenSpec.ofChange hansNoneWrong)

/-- 'chrysalislaw13.HansFull': WHATEVER THE INPUT: true; the input reads as it did. -/
def hansFullSpec : ChangeSpec := { name := "hansFull", fn := fun _ => fun
  | [d1, d2] => { results := [.lit (.bool true)], args := [d1, d2] }
  | _ => none }
def hansFullRow : OpenClaim := { program := "ythahfhmkgkfoaaa", sum := "978e63ba3cd77daba37e9d1e83a0d59f8a5e7909de3f15b4e7273defd2c279b6", func := "chrysalis/chrysalislaw13.HansFull", spec := "hansFull", apart := false }
def HansFullSaid : Prop := hansFullRow.holds Try.pinned (OpenSpec.ofChange hansFullSpec)

/-- ITS FALSE NEIGHBOUR: 'it returns false'. Refute it at one input. -/
def hansFullWrong : ChangeSpec := { name := "hansFull", fn := fun _ => fun
  | [d1, d2] => { results := [.lit (.bool false)], args := [d1, d2] }
  | _ => none }
def HansFullWrongFalsely : Prop := hansFullRow.holds Try.pinned (OpenSpec.ofChange hansFullWrong)

/-- 'chrysalislaw13.HansOwn': WHATEVER THE INPUT: true; the input reads as it did. -/
def hansOwnSpec : ChangeSpec := { name := "hansOwn", fn := fun _ => fun
  | [d] => { results := [.lit (.bool true)], args := [d] }
  | _ => none }
def hansOwnRow : OpenClaim := { program := "ythahfhmkgkfoaaa", sum := "978e63ba3cd77daba37e9d1e83a0d59f8a5e7909de3f15b4e7273defd2c279b6", func := "chrysalis/chrysalislaw13.HansOwn", spec := "hansOwn", apart := false }
def HansOwnSaid : Prop := hansOwnRow.holds Try.pinned (OpenSpec.ofChange hansOwnSpec)

/-- ITS FALSE NEIGHBOUR: 'it returns false'. Refute it at one input. -/
def hansOwnWrong : ChangeSpec := { name := "hansOwn", fn := fun _ => fun
  | [d] => { results := [.lit (.bool false)], args := [d] }
  | _ => none }
def HansOwnWrongFalsely : Prop := hansOwnRow.holds Try.pinned (OpenSpec.ofChange hansOwnWrong)

/- THE SECOND FORM. 'bulk': how many values and letters a reading holds, each counted each time it is reached (what is shared counts as often as it is met; a slice's spare places count too). A statement '..UptoSaid' is the law's where the arguments, and the package variables that the reading takes, are together of bulk at most 1048576: NARROWER than '..Said'. Prove '..Said' where nothing that the law and all that it calls make is longer than what came in: it says more and counts as full. Else prove '..UptoSaid'. A law counts once. -/
mutual
def uptoBulk {H : Type} : DataW H → Nat
  | .lit (.string bytes) => bytes.length + 1
  | .lit _ => 1
  | .nil => 1
  | .ptr d => uptoBulk d + 1
  | .slice elems spare => uptoBulkAll elems + uptoBulkAll spare + 1
  | .agg parts => uptoBulkAll parts + 1
  | .iface _ d => uptoBulk d + 1
  | .map entries => uptoBulkEntries entries + 1
  | .held _ => 1
def uptoBulkAll {H : Type} : List (DataW H) → Nat
  | [] => 0
  | d :: r => uptoBulk d + uptoBulkAll r
def uptoBulkEntries {H : Type} : List (Lit × DataW H) → Nat
  | [] => 0
  | x :: r => uptoBulkEntry x + uptoBulkEntries r
def uptoBulkEntry {H : Type} : Lit × DataW H → Nat
  | (.string bytes, d) => bytes.length + uptoBulk d + 1
  | (_, d) => uptoBulk d + 1
 end
def uptoSmall : (H : Type) → List (DataW H) → Bool := fun _ ds => decide (uptoBulkAll ds ≤ 1048576)
def OpenSpec.upto (s : _root_.Go.ChangeSpec) : _root_.Go.OpenSpec := { _root_.Go.OpenSpec.ofChange s with cond := some uptoSmall }

/-- 'chrysalislaw13.HansPlays', WHERE WHAT IT READS IS OF BULK AT MOST 1048576: true; the input reads as it did. -/
def hansPlaysUptoRow : OpenClaim := { program := "ythahfhmkgkfoaaa", sum := "978e63ba3cd77daba37e9d1e83a0d59f8a5e7909de3f15b4e7273defd2c279b6", func := "chrysalis/chrysalislaw13.HansPlays", spec := "hansPlays", apart := false, narrowed := true }
def HansPlaysUptoSaid : Prop := hansPlaysUptoRow.holds Try.pinned (OpenSpec.upto hansPlaysSpec)

/-- 'chrysalislaw13.HansNone', WHERE WHAT IT READS IS OF BULK AT MOST 1048576: true; the input reads as it did. -/
def hansNoneUptoRow : OpenClaim := { program := "ythahfhmkgkfoaaa", sum := "978e63ba3cd77daba37e9d1e83a0d59f8a5e7909de3f15b4e7273defd2c279b6", func := "chrysalis/chrysalislaw13.HansNone", spec := "hansNone", apart := false, narrowed := true }
def HansNoneUptoSaid : Prop := hansNoneUptoRow.holds Try.pinned (OpenSpec.upto hansNoneSpec)

/-- 'chrysalislaw13.HansFull', WHERE WHAT IT READS IS OF BULK AT MOST 1048576: true; the input reads as it did. -/
def hansFullUptoRow : OpenClaim := { program := "ythahfhmkgkfoaaa", sum := "978e63ba3cd77daba37e9d1e83a0d59f8a5e7909de3f15b4e7273defd2c279b6", func := "chrysalis/chrysalislaw13.HansFull", spec := "hansFull", apart := false, narrowed := true }
def HansFullUptoSaid : Prop := hansFullUptoRow.holds Try.pinned (OpenSpec.upto hansFullSpec)

/-- 'chrysalislaw13.HansOwn', WHERE WHAT IT READS IS OF BULK AT MOST 1048576: true; the input reads as it did. -/
def hansOwnUptoRow : OpenClaim := { program := "ythahfhmkgkfoaaa", sum := "978e63ba3cd77daba37e9d1e83a0d59f8a5e7909de3f15b4e7273defd2c279b6", func := "chrysalis/chrysalislaw13.HansOwn", spec := "hansOwn", apart := false, narrowed := true }
def HansOwnUptoSaid : Prop := hansOwnUptoRow.holds Try.pinned (OpenSpec.upto hansOwnSpec)

end Rows
end Go.Proofs.Ythahfhmkgkfoaaa
