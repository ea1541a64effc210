/-
  The walk of the law ArithDoes.
  Conditions: none.
-/
import Derived.Test.YthficladloeknaaAk
import Derived.Test.YthficladloeknaaAe
namespace Go.Proofs.Ythficladloeknaa
open Go.RowKit
set_option linter.unusedSimpArgs false
set_option linter.unusedVariables false

theorem does_walk (op : Int) (a b : Nat) (ha : a < 18446744073709551616) (hb : b < 18446744073709551616) (w : World) : Calls Try.prog 3 #[.int .i64 op, .int .u64 (a : Int), .int .u64 (b : Int)] w fun e w' => e = .returned (.bool true) ∧ Grown w w' := by
  have hpq : ∃ x y ok, (∀ W, Calls Try.prog 9 #[.int .i64 op, .int .u64 (a : Int), .int .u64 (b : Int)] W fun e w' => e = .returned (.tuple #[.int .u64 x, .int .u64 y, .bool ok]) ∧ W = w') ∧
      ∀ W, Calls Try.prog 10 #[.int .i64 op, .int .u64 (a : Int), .int .u64 (b : Int)] W fun e w' => e = .returned (.tuple #[.int .u64 x, .int .u64 y, .bool ok]) ∧ ∃ q, w' = W.drewN q := by
    by_cases h : op = 22
    · subst h
      exact ⟨_, _, _, fun W => do_twist a b ha hb W, fun W => rar_twist a b ha hb W⟩
    · exact ⟨_, _, _, fun W => do_any op a b h ha hb W, fun W => rarith_any op a b h ha hb W⟩
  obtain ⟨x, y, ok, h1, h2⟩ := hpq
  go_enter Try.func3, Try.ntmps3
  go_wp2_with fail
  refine (h1 w).mono ?_
  rintro e w1 ⟨rfl, rfl⟩
  go_wp2_with fail
  refine (h2 w).mono ?_
  rintro e w1 ⟨rfl, q, rfl⟩
  go_wp2_with fail
  refine (answers11 _).mono ?_
  rintro e w1 ⟨rfl, rfl⟩
  go_wp2_with fail
  go_ret
  exact ⟨rfl, grown_drewN w q⟩
end Go.Proofs.Ythficladloeknaa
