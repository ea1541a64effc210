/-
  The law's own answers: what a program that does nothing does not answer.
  Conditions: none.
-/
import Derived.Test.YthficladloeknaaAd
import Derived.Deep.RegionWith
namespace Go.Proofs.Ythficladloeknaa
open Go.RowKit
set_option linter.unusedSimpArgs false
set_option linter.unusedVariables false

theorem answers11 (w : World) : Calls Try.prog 11 #[] w fun e w' => e = .returned (.bool true) ∧ w = w' := by
  have h1 := fun W => do_twist 65536 65536 (by decide) (by decide) W
  rw [show cxRe 65536 65536 = 18446744073709551615 by decide, show cxIm 65536 65536 = 0 by decide] at h1
  have h2 := fun W => do_any 8 2 3 (by decide) (by decide) (by decide) W
  rw [show arV (arN 8 2 3) = .tuple #[.int .u64 5, .int .u64 0, .bool true] from rfl] at h2
  go_enter Try.func11, Try.ntmps11
  go_wp2_with fail
  refine (h1 w).mono ?_
  rintro e w1 ⟨rfl, rfl⟩
  go_wp2_with fail
  refine (h2 w).mono ?_
  rintro e w1 ⟨rfl, rfl⟩
  go_wp2_with fail
  go_ret
  exact ⟨rfl, rfl⟩
end Go.Proofs.Ythficladloeknaa
