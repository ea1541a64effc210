/-
  The walk of the law ArithTwist.
  Conditions: none.
-/
import Derived.Test.YthficladloeknaaAk
namespace Go.Proofs.Ythficladloeknaa
open Go.RowKit
set_option linter.unusedSimpArgs false
set_option linter.unusedVariables false

theorem cx_comm (a b : Nat) : cxRe b a = cxRe a b ∧ cxIm b a = cxIm a b := by
  unfold cxRe cxIm
  refine ⟨?_, ?_⟩
  · rw [Int.mul_comm (sx b) (sx a), Int.mul_comm (sx (b / 65536)) (sx (a / 65536))]
  · rw [Int.mul_comm (sx b) (sx (a / 65536)), Int.mul_comm (sx (b / 65536)) (sx a), Int.add_comm]
theorem cx_one (a : Nat) : cxRe a 1 = tw (sx a) ∧ cxIm a 1 = tw (sx (a / 65536)) := by
  unfold cxRe cxIm
  rw [show sx 1 = 1 by decide, show sx (1 / 65536) = 0 by decide, Int.mul_one, Int.mul_zero, Int.mul_zero, Int.mul_one, Int.sub_zero, Int.zero_add]
  exact ⟨rfl, rfl⟩
theorem twist_walk (a b : Nat) (ha : a < 4294967296) (hb : b < 4294967296) (w : World) : Calls Try.prog 5 #[.int .u32 (a : Int), .int .u32 (b : Int)] w fun e w' => e = .returned (.bool true) ∧ Grown w w' := by
  have h1 := fun W => do_twist a b (by omega) (by omega) W
  have h2 := fun W => do_twist b a (by omega) (by omega) W
  have h3 := fun W => do_twist a 1 (by omega) (by omega) W
  rw [(cx_comm a b).1, (cx_comm a b).2] at h2
  rw [(cx_one a).1, (cx_one a).2] at h3
  generalize cxRe a b = x at h1 h2
  generalize cxIm a b = y at h1 h2
  have b1 := sx_bounds a
  have b2 := sx_bounds (a / 65536)
  have e1 := sx_wrap a
  have e2 : IntKind.i16.wrap ((a : Int) / 65536) = sx (a / 65536) := by rw [← sx_wrap, Int.natCast_ediv]; rfl
  have e3 := tw_u64 (sx a)
  have e4 := tw_u64 (sx (a / 65536))
  generalize sx a = p at *
  generalize sx (a / 65536) = q at *
  generalize tw p = u at *
  generalize tw q = v at *
  have e5 : IntKind.i64.wrap p = p := IntWalk.i64_in _ (by omega)
  have e6 : IntKind.i64.wrap q = q := IntWalk.i64_in _ (by omega)
  clear b1 b2
  go_enter Try.func5, Try.ntmps5
  go_wp2_with fail
  refine (h1 w).mono ?_
  rintro e w1 ⟨rfl, rfl⟩
  go_wp2_with fail
  refine (h2 w).mono ?_
  rintro e w1 ⟨rfl, rfl⟩
  go_wp2_with fail
  refine (h3 w).mono ?_
  rintro e w1 ⟨rfl, rfl⟩
  go_wp2_with fail
  refine (answers11 _).mono ?_
  rintro e w1 ⟨rfl, rfl⟩
  go_wp2_with (simp only [e1, e2, e3, e4, e5, e6])
  go_ret
  exact ⟨rfl, Grown.refl w⟩
end Go.Proofs.Ythficladloeknaa
