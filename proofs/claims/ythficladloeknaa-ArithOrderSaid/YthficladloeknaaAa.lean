/-
  What arith's small functions on whole numbers do.
  Conditions: none.
-/
import Derived.Test.YthficladloeknaaChecked
import Derived.Lib.Hide
import Derived.Laws.BitsAllLaws
import Derived.WalkKit
import Derived.ProofKit
namespace Go.Proofs.Ythficladloeknaa
open Go.RowKit
set_option linter.unusedSimpArgs false
set_option linter.unusedVariables false

theorem oneIf_any (y : Bool) (w : World) : Calls Try.prog 19 #[.bool y] w fun e w' => e = .returned (.int .u64 (if y then 1 else 0)) ∧ w = w' := by
  cases y
  all_goals
    go_enter Try.func19, Try.ntmps19
    go_wp2_with fail
    go_ret
    exact ⟨rfl, rfl⟩
theorem oneIf_at (y : Bool) (x : Nat) (h : (if y = true then 1 else 0) = x) (w : World) : Calls Try.prog 19 #[.bool y] w fun e w' => e = .returned (.int .u64 (x : Int)) ∧ w = w' := by
  refine (oneIf_any y w).mono ?_
  rintro e w1 ⟨rfl, rfl⟩
  subst h
  cases y
  · exact ⟨rfl, rfl⟩
  · exact ⟨rfl, rfl⟩
theorem sixBits_any (b : Nat) (hb : b < 18446744073709551616) (w : World) : Calls Try.prog 18 #[.int .u64 (b : Int)] w fun e w' => e = .returned (.int .u64 ((b % 64 : Nat) : Int)) ∧ w = w' := by
  go_enter Try.func18, Try.ntmps18
  go_wp2_with fail
  go_ret
  refine ⟨?_, rfl⟩
  show Ending.returned (.int .u64 (bits .and .u64 (b : Int) 63)) = _
  rw [show (63 : Int) = ((63 : Nat) : Int) from rfl, u64_and_nat b 63 hb (by omega), show b &&& 63 = b % 64 from Nat.and_two_pow_sub_one_eq_mod b 6]
theorem divide_none (op : Int) (a b : Nat) (ha : a < 18446744073709551616) (w : World) : Calls Try.prog 17 #[.int .i64 op, .int .u64 (a : Int), .int .u64 0] w fun e w' => e = .returned (.tuple #[.int .u64 0, .bool false]) ∧ w = w' := by
  go_enter Try.func17, Try.ntmps17
  go_wp2_with fail
  go_ret2
  exact ⟨rfl, rfl⟩
theorem divide_rem (a b : Nat) (ha : a < 18446744073709551616) (hb : b < 18446744073709551616) (h0 : 0 < b) (w : World) : Calls Try.prog 17 #[.int .i64 12, .int .u64 (a : Int), .int .u64 (b : Int)] w fun e w' => e = .returned (.tuple #[.int .u64 ((a % b : Nat) : Int), .bool true]) ∧ w = w' := by
  go_enter Try.func17, Try.ntmps17
  go_wp2_with fail
  go_ret2
  exact ⟨rfl, rfl⟩
theorem divide_quo (op : Int) (hop : op ≠ 12) (a b : Nat) (ha : a < 18446744073709551616) (hb : b < 18446744073709551616) (h0 : 0 < b) (w : World) : Calls Try.prog 17 #[.int .i64 op, .int .u64 (a : Int), .int .u64 (b : Int)] w fun e w' => e = .returned (.tuple #[.int .u64 ((a / b : Nat) : Int), .bool true]) ∧ w = w' := by
  go_enter Try.func17, Try.ntmps17
  go_wp2_with fail
  go_ret2
  refine ⟨?_, rfl⟩
  show Ending.returned (.tuple #[.int .u64 (IntKind.u64.wrap ((a : Int) / (b : Int))), .bool true]) = _
  have hq : a / b ≤ a := Nat.div_le_self a b
  rw [← Int.natCast_ediv]
  generalize a / b = q at hq ⊢
  rw [IntWalk.u64_in _ (by omega)]
end Go.Proofs.Ythficladloeknaa
