/-
  Of the program as a whole.
  Conditions: none.
-/
import Derived.Test.YthahfhmkgkfoaaaRows
import Derived.WalkKit
import Derived.ProofKit
import Derived.OpenShut
import Derived.ShutString
import Derived.Deep.Slices
import Derived.Test.YthahfhmkgkfoaaaW0
namespace Go.Proofs.Ythahfhmkgkfoaaa
open Go.ChangeShapes Go.WideShapes Go.ChangeAt Go.RowKit

theorem own : ownKnob Try.prog.godebug = none := by kernel_rfl
theorem laidOut : laidOutB Try.prog = true := by kernel_rfl
end Go.Proofs.Ythahfhmkgkfoaaa
