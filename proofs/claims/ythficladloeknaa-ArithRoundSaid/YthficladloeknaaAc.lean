/-
  What arith's Do does, of all but the complex product.
  Conditions: none.
-/
import Derived.Test.YthficladloeknaaAb
import Derived.Test.YthficladloeknaaAr
namespace Go.Proofs.Ythficladloeknaa
open Go.RowKit
set_option linter.unusedSimpArgs false
set_option linter.unusedVariables false

theorem single_any (op : Int) (a b : Nat) (ha : a < 18446744073709551616) (hb : b < 18446744073709551616) (w : World) : Calls Try.prog 13 #[.int .i64 op, .int .u64 (a : Int), .int .u64 (b : Int)] w fun e w' => e = .returned (.tuple #[.int .u64 (((arN op a b).getD 0 : Nat) : Int), .bool (arN op a b).isSome]) ∧ w = w' := by
  rcases ar_ops op with rfl | rfl | rfl | rfl | rfl | rfl | rfl | rfl | rfl | rfl | rfl | rfl | h | h
  · rw [ar_add]; exact single_add a b ha hb w
  · rw [ar_sub]; exact single_sub a b ha hb w
  · rw [ar_mul]; exact single_mul a b ha hb w
  · rw [ar_and]; exact single_and a b ha hb w
  · rw [ar_or]; exact single_or a b ha hb w
  · rw [ar_xor]; exact single_xor a b ha hb w
  · rw [ar_shl]; exact single_shl a b ha hb w
  · rw [ar_shr]; exact single_shr a b ha hb w
  · rw [ar_add32]; exact single_add32 a b ha hb w
  · rw [ar_mul32]; exact single_mul32 a b ha hb w
  · rw [ar_eq]; exact single_eq a b ha hb w
  · rw [ar_lt]; exact single_lt a b ha hb w
  · rcases Nat.eq_zero_or_pos b with rfl | h0
    · rw [ar_div0 op h]; exact single_div0 op h a ha w
    · rw [ar_div op h a b h0]; exact single_div op h _ a b ha hb h0 rfl w
  · rw [ar_no op h]; exact single_no op h a b w
theorem do_any (op : Int) (a b : Nat) (hop : op ≠ 22) (ha : a < 18446744073709551616) (hb : b < 18446744073709551616) (w : World) : Calls Try.prog 9 #[.int .i64 op, .int .u64 (a : Int), .int .u64 (b : Int)] w fun e w' => e = .returned (arV (arN op a b)) ∧ w = w' := by
  have hs := fun W => single_any op a b ha hb W
  generalize arN op a b = o at hs ⊢
  unfold arV
  go_enter Try.func9, Try.ntmps9
  go_wp2_with fail
  refine (hs w).mono ?_
  rintro e w1 ⟨rfl, rfl⟩
  go_wp2_with fail
  go_ret3
  exact ⟨rfl, rfl⟩
theorem do_some (op : Int) (a b x : Nat) (hop : op ≠ 22) (ha : a < 18446744073709551616) (hb : b < 18446744073709551616) (h : arN op a b = some x) (w : World) : Calls Try.prog 9 #[.int .i64 op, .int .u64 (a : Int), .int .u64 (b : Int)] w fun e w' => e = .returned (.tuple #[.int .u64 (x : Int), .int .u64 0, .bool true]) ∧ w = w' := by
  have := do_any op a b hop ha hb w
  rw [h] at this
  exact this
theorem do_none (op : Int) (a b : Nat) (hop : op ≠ 22) (ha : a < 18446744073709551616) (hb : b < 18446744073709551616) (h : arN op a b = none) (w : World) : Calls Try.prog 9 #[.int .i64 op, .int .u64 (a : Int), .int .u64 (b : Int)] w fun e w' => e = .returned (.tuple #[.int .u64 0, .int .u64 0, .bool false]) ∧ w = w' := by
  have := do_any op a b hop ha hb w
  rw [h] at this
  exact this
end Go.Proofs.Ythficladloeknaa
