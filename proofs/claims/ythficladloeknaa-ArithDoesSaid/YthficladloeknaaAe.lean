/-
  What the document's answer for arithmetic does.
  Conditions: none.
-/
import Derived.Test.YthficladloeknaaChecked
import Derived.Test.YthficladloeknaaAr
import Derived.Lib.Hide
import Derived.WalkKit
import Derived.ProofKit
import Derived.Deep.Draws
import Derived.Deep.RegionWith
namespace Go.Proofs.Ythficladloeknaa
open Go.RowKit
set_option linter.unusedSimpArgs false
set_option linter.unusedVariables false

theorem rpart_any (v : Nat) (hv : v < 18446744073709551616) (w : World) : Calls Try.prog 14 #[.int .u64 (v : Int)] w fun e w' => e = .returned (.int .i64 (sx v)) ∧ w = w' := by
  obtain ⟨m, hm⟩ : ∃ m, v % 65536 = m := ⟨_, rfl⟩
  have hml : m < 65536 := by omega
  have e1 : (v : Int) % 65536 = (m : Int) := by omega
  by_cases h : m < 32768
  · have hs : sx v = (m : Int) := by unfold sx; rw [hm, if_pos h]
    rw [hs]
    have t1 : decide ((32768 : Int) ≤ (m : Int)) = false := by simp; omega
    clear hm hs
    go_enter Try.func14, Try.ntmps14
    go_wp2_with (simp only [e1])
    go_ret
    exact ⟨rfl, rfl⟩
  · have hs : sx v = (m : Int) - 65536 := by unfold sx; rw [hm, if_neg h]
    rw [hs]
    have t1 : decide ((32768 : Int) ≤ (m : Int)) = true := by simp; omega
    clear hm hs
    go_enter Try.func14, Try.ntmps14
    go_wp2_with (simp only [e1])
    go_ret
    exact ⟨rfl, rfl⟩
theorem mul32_eq (a b : Nat) : (IntKind.u64.wrap ((a : Int) % 4294967296 * ((b : Int) % 4294967296))).tmod 4294967296 = ((a % 4294967296 * (b % 4294967296) % 4294967296 : Nat) : Int) := by
  have hm : a % 4294967296 ≤ 4294967295 := by omega
  have hn : b % 4294967296 ≤ 4294967295 := by omega
  rw [show (a : Int) % 4294967296 = ((a % 4294967296 : Nat) : Int) by omega, show (b : Int) % 4294967296 = ((b % 4294967296 : Nat) : Int) by omega]
  generalize a % 4294967296 = m at *
  generalize b % 4294967296 = n at *
  have hp : m * n ≤ 4294967295 * 4294967295 := Nat.mul_le_mul hm hn
  rw [← Int.natCast_mul]
  generalize m * n = p at *
  rw [IntWalk.u64_in _ (by omega), Int.tmod_eq_emod_of_nonneg (by omega)]
  omega
theorem rem_eq (a b : Nat) (ha : a < 18446744073709551616) (hb : b < 18446744073709551616) : IntKind.u64.wrap ((a : Int) - IntKind.u64.wrap (IntKind.u64.wrap ((a : Int) / (b : Int)) * (b : Int))) = ((a % b : Nat) : Int) := by
  have h1 : a / b ≤ a := Nat.div_le_self a b
  have h2 : a % b = a - a / b * b := by
    have := Nat.div_add_mod a b
    rw [Nat.mul_comm] at this
    omega
  have h3 : a / b * b ≤ a := Nat.div_mul_le_self a b
  rw [← Int.natCast_ediv, h2]
  generalize a / b = q at *
  rw [IntWalk.u64_in (q : Int) (by omega), ← Int.natCast_mul]
  generalize q * b = p at *
  rw [IntWalk.u64_in (p : Int) (by omega), IntWalk.u64_in _ (by omega)]
  omega
def RAns (w : World) (v : Value) (e : Ending) (w' : World) : Prop := e = .returned v ∧ ∃ q, w' = w.drewN q
theorem RAns.same (w : World) (v : Value) : RAns w v (.returned v) w := ⟨rfl, 0, rfl⟩
theorem rar_add (a b : Nat) (ha : a < 18446744073709551616) (hb : b < 18446744073709551616) (w : World) : Calls Try.prog 10 #[.int .i64 8, .int .u64 (a : Int), .int .u64 (b : Int)] w (RAns w (.tuple #[.int .u64 (((a + b) % 18446744073709551616 : Nat) : Int), .int .u64 0, .bool true])) := by
  unfold RAns
  go_enter Try.func10, Try.ntmps10
  go_wp2_with fail
  go_ret3
  exact ⟨rfl, 0, rfl⟩
theorem rar_sub (a b : Nat) (ha : a < 18446744073709551616) (hb : b < 18446744073709551616) (w : World) : Calls Try.prog 10 #[.int .i64 9, .int .u64 (a : Int), .int .u64 (b : Int)] w (RAns w (.tuple #[.int .u64 (((a + (18446744073709551616 - b)) % 18446744073709551616 : Nat) : Int), .int .u64 0, .bool true])) := by
  unfold RAns
  go_enter Try.func10, Try.ntmps10
  go_wp2_with fail
  go_ret3
  refine ⟨?_, 0, rfl⟩
  show Ending.returned (.tuple #[.int .u64 (IntKind.u64.wrap ((a : Int) - (b : Int))), .int .u64 0, .bool true]) = _
  rw [IntKind.wrap_u64, show ((a : Int) - (b : Int)) % 18446744073709551616 = (((a + (18446744073709551616 - b)) % 18446744073709551616 : Nat) : Int) by omega]
theorem rar_mul (a b : Nat) (ha : a < 18446744073709551616) (hb : b < 18446744073709551616) (w : World) : Calls Try.prog 10 #[.int .i64 10, .int .u64 (a : Int), .int .u64 (b : Int)] w (RAns w (.tuple #[.int .u64 ((a * b % 18446744073709551616 : Nat) : Int), .int .u64 0, .bool true])) := by
  unfold RAns
  go_enter Try.func10, Try.ntmps10
  go_wp2_with fail
  go_ret3
  exact ⟨rfl, 0, rfl⟩
theorem rar_and (a b : Nat) (ha : a < 18446744073709551616) (hb : b < 18446744073709551616) (w : World) : Calls Try.prog 10 #[.int .i64 13, .int .u64 (a : Int), .int .u64 (b : Int)] w (RAns w (.tuple #[.int .u64 ((a &&& b : Nat) : Int), .int .u64 0, .bool true])) := by
  unfold RAns
  go_enter Try.func10, Try.ntmps10
  go_wp2_with fail
  go_ret3
  refine ⟨?_, 0, rfl⟩
  show Ending.returned (.tuple #[.int .u64 (bits .and .u64 (a : Int) (b : Int)), .int .u64 0, .bool true]) = _
  rw [u64_and_nat a b ha hb]
theorem rar_or (a b : Nat) (ha : a < 18446744073709551616) (hb : b < 18446744073709551616) (w : World) : Calls Try.prog 10 #[.int .i64 14, .int .u64 (a : Int), .int .u64 (b : Int)] w (RAns w (.tuple #[.int .u64 ((a ||| b : Nat) : Int), .int .u64 0, .bool true])) := by
  unfold RAns
  go_enter Try.func10, Try.ntmps10
  go_wp2_with fail
  go_ret3
  refine ⟨?_, 0, rfl⟩
  show Ending.returned (.tuple #[.int .u64 (bits .or .u64 (a : Int) (b : Int)), .int .u64 0, .bool true]) = _
  rw [u64_or_nat a b ha hb]
theorem rar_xor (a b : Nat) (ha : a < 18446744073709551616) (hb : b < 18446744073709551616) (w : World) : Calls Try.prog 10 #[.int .i64 15, .int .u64 (a : Int), .int .u64 (b : Int)] w (RAns w (.tuple #[.int .u64 ((a ^^^ b : Nat) : Int), .int .u64 0, .bool true])) := by
  unfold RAns
  go_enter Try.func10, Try.ntmps10
  go_wp2_with fail
  go_ret3
  refine ⟨?_, 0, rfl⟩
  show Ending.returned (.tuple #[.int .u64 (bits .xor .u64 (a : Int) (b : Int)), .int .u64 0, .bool true]) = _
  rw [u64_xor_nat a b ha hb]
theorem rar_shl (a b : Nat) (ha : a < 18446744073709551616) (hb : b < 18446744073709551616) (w : World) : Calls Try.prog 10 #[.int .i64 16, .int .u64 (a : Int), .int .u64 (b : Int)] w (RAns w (.tuple #[.int .u64 ((a * 2 ^ (b % 64) % 18446744073709551616 : Nat) : Int), .int .u64 0, .bool true])) := by
  unfold RAns
  go_enter Try.func10, Try.ntmps10
  go_wp2_with fail
  go_ret3
  exact ⟨rfl, 0, rfl⟩
theorem rar_shr (a b : Nat) (ha : a < 18446744073709551616) (hb : b < 18446744073709551616) (w : World) : Calls Try.prog 10 #[.int .i64 17, .int .u64 (a : Int), .int .u64 (b : Int)] w (RAns w (.tuple #[.int .u64 ((a / 2 ^ (b % 64) : Nat) : Int), .int .u64 0, .bool true])) := by
  unfold RAns
  go_enter Try.func10, Try.ntmps10
  go_wp2_with fail
  go_ret3
  exact ⟨rfl, 0, rfl⟩
theorem rar_add32 (a b : Nat) (ha : a < 18446744073709551616) (hb : b < 18446744073709551616) (w : World) : Calls Try.prog 10 #[.int .i64 18, .int .u64 (a : Int), .int .u64 (b : Int)] w (RAns w (.tuple #[.int .u64 (((a + b) % 4294967296 : Nat) : Int), .int .u64 0, .bool true])) := by
  unfold RAns
  go_enter Try.func10, Try.ntmps10
  go_wp2_with fail
  go_region
  go_wp2_with fail
  go_ret3
  refine ⟨?_, 1, rfl⟩
  show Ending.returned (.tuple #[.int .u64 (((a : Int) % 4294967296 + (b : Int) % 4294967296) % 4294967296), .int .u64 0, .bool true]) = _
  rw [show ((a : Int) % 4294967296 + (b : Int) % 4294967296) % 4294967296 = (((a + b) % 4294967296 : Nat) : Int) by omega]
theorem rar_mul32 (a b : Nat) (ha : a < 18446744073709551616) (hb : b < 18446744073709551616) (w : World) : Calls Try.prog 10 #[.int .i64 19, .int .u64 (a : Int), .int .u64 (b : Int)] w (RAns w (.tuple #[.int .u64 ((a % 4294967296 * (b % 4294967296) % 4294967296 : Nat) : Int), .int .u64 0, .bool true])) := by
  unfold RAns
  go_enter Try.func10, Try.ntmps10
  go_wp2_with fail
  go_region
  go_wp2_with fail
  go_ret3
  refine ⟨?_, 1, rfl⟩
  show Ending.returned (.tuple #[.int .u64 ((IntKind.u64.wrap ((a : Int) % 4294967296 * ((b : Int) % 4294967296))).tmod 4294967296), .int .u64 0, .bool true]) = _
  rw [mul32_eq]
theorem rar_eq (a b : Nat) (ha : a < 18446744073709551616) (hb : b < 18446744073709551616) (w : World) : Calls Try.prog 10 #[.int .i64 20, .int .u64 (a : Int), .int .u64 (b : Int)] w (RAns w (.tuple #[.int .u64 (((if a = b then 1 else 0 : Nat) : Nat) : Int), .int .u64 0, .bool true])) := by
  unfold RAns
  by_cases h : a = b
  · have t1 : ((a : Int) == (b : Int)) = true := by simp; omega
    rw [if_pos h]
    clear h
    go_enter Try.func10, Try.ntmps10
    go_wp2_with fail
    go_ret3
    exact ⟨rfl, 0, rfl⟩
  · have t1 : ((a : Int) == (b : Int)) = false := by simp; omega
    rw [if_neg h]
    clear h
    go_enter Try.func10, Try.ntmps10
    go_wp2_with fail
    go_ret3
    exact ⟨rfl, 0, rfl⟩
theorem rar_lt (a b : Nat) (ha : a < 18446744073709551616) (hb : b < 18446744073709551616) (w : World) : Calls Try.prog 10 #[.int .i64 21, .int .u64 (a : Int), .int .u64 (b : Int)] w (RAns w (.tuple #[.int .u64 (((if a < b then 1 else 0 : Nat) : Nat) : Int), .int .u64 0, .bool true])) := by
  unfold RAns
  by_cases h : a < b
  · have t1 : decide ((a : Int) < (b : Int)) = true := by simp; omega
    rw [if_pos h]
    go_enter Try.func10, Try.ntmps10
    go_wp2_with fail
    go_ret3
    exact ⟨rfl, 0, rfl⟩
  · have t1 : decide ((a : Int) < (b : Int)) = false := by simp; omega
    rw [if_neg h]
    go_enter Try.func10, Try.ntmps10
    go_wp2_with fail
    go_ret3
    exact ⟨rfl, 0, rfl⟩
set_option maxRecDepth 10000 in
theorem rar_div0 (op : Int) (hop : op = 11 ∨ op = 12) (a : Nat) (w : World) : Calls Try.prog 10 #[.int .i64 op, .int .u64 (a : Int), .int .u64 0] w (RAns w (.tuple #[.int .u64 0, .int .u64 0, .bool false])) := by
  unfold RAns
  rcases hop with rfl | rfl
  all_goals
    go_enter Try.func10, Try.ntmps10
    go_wp2_with fail
    go_ret3
    exact ⟨rfl, 0, rfl⟩
theorem rar_quo (a b : Nat) (ha : a < 18446744073709551616) (hb : b < 18446744073709551616) (h0 : 0 < b) (w : World) : Calls Try.prog 10 #[.int .i64 11, .int .u64 (a : Int), .int .u64 (b : Int)] w (RAns w (.tuple #[.int .u64 ((a / b : Nat) : Int), .int .u64 0, .bool true])) := by
  obtain ⟨q, hq⟩ : ∃ q, a / b = q := ⟨_, rfl⟩
  have hl : q ≤ a := by rw [← hq]; exact Nat.div_le_self a b
  have e1 : IntKind.u64.wrap ((a : Int) / (b : Int)) = (q : Int) := by rw [← Int.natCast_ediv, hq, IntWalk.u64_in _ (by omega)]
  rw [hq]
  unfold RAns
  go_enter Try.func10, Try.ntmps10
  go_wp2_with (simp only [e1])
  go_ret3
  refine ⟨?_, 0, rfl⟩
  rw [← e1]
  rfl
theorem rar_rem (a b : Nat) (ha : a < 18446744073709551616) (hb : b < 18446744073709551616) (h0 : 0 < b) (w : World) : Calls Try.prog 10 #[.int .i64 12, .int .u64 (a : Int), .int .u64 (b : Int)] w (RAns w (.tuple #[.int .u64 ((a % b : Nat) : Int), .int .u64 0, .bool true])) := by
  unfold RAns
  go_enter Try.func10, Try.ntmps10
  go_wp2_with fail
  go_ret3
  refine ⟨?_, 0, rfl⟩
  show Ending.returned (.tuple #[.int .u64 (IntKind.u64.wrap ((a : Int) - IntKind.u64.wrap (IntKind.u64.wrap ((a : Int) / (b : Int)) * (b : Int)))), .int .u64 0, .bool true]) = _
  rw [rem_eq a b ha hb]
theorem rar_no (op : Int) (hop : op ≠ 8 ∧ op ≠ 9 ∧ op ≠ 10 ∧ op ≠ 11 ∧ op ≠ 12 ∧ op ≠ 13 ∧ op ≠ 14 ∧ op ≠ 15 ∧ op ≠ 16 ∧ op ≠ 17 ∧ op ≠ 18 ∧ op ≠ 19 ∧ op ≠ 20 ∧ op ≠ 21) (h22 : op ≠ 22) (a b : Nat) (w : World) : Calls Try.prog 10 #[.int .i64 op, .int .u64 (a : Int), .int .u64 (b : Int)] w (RAns w (.tuple #[.int .u64 0, .int .u64 0, .bool false])) := by
  obtain ⟨h8, h9, h10, h11, h12, h13, h14, h15, h16, h17, h18, h19, h20, h21⟩ := hop
  unfold RAns
  go_enter Try.func10, Try.ntmps10
  go_wp2_with fail
  go_ret3
  exact ⟨rfl, 0, rfl⟩
theorem rar_twist (a b : Nat) (ha : a < 18446744073709551616) (hb : b < 18446744073709551616) (w : World) : Calls Try.prog 10 #[.int .i64 22, .int .u64 (a : Int), .int .u64 (b : Int)] w (RAns w (.tuple #[.int .u64 ((cxRe a b : Nat) : Int), .int .u64 ((cxIm a b : Nat) : Int), .bool true])) := by
  have bp := sx_bounds a
  have bq := sx_bounds (a / 65536)
  have br := sx_bounds b
  have bs := sx_bounds (b / 65536)
  have sa := fun W => rpart_any a ha W
  have sa2 := fun W => rpart_any (a / 65536) (by omega) W
  have sb := fun W => rpart_any b hb W
  have sb2 := fun W => rpart_any (b / 65536) (by omega) W
  unfold cxRe cxIm
  generalize sx a = p at *
  generalize sx (a / 65536) = q at *
  generalize sx b = r at *
  generalize sx (b / 65536) = s at *
  have m1 := mul_bounds bp br
  have m2 := mul_bounds bq bs
  have m3 := mul_bounds bp bs
  have m4 := mul_bounds bq br
  unfold RAns
  go_enter Try.func10, Try.ntmps10
  go_wp2_with fail
  refine (sa w).mono ?_
  rintro e w1 ⟨rfl, rfl⟩
  go_wp2_with fail
  refine (sa2 w).mono ?_
  rintro e w1 ⟨rfl, rfl⟩
  go_wp2_with fail
  refine (sb w).mono ?_
  rintro e w1 ⟨rfl, rfl⟩
  go_wp2_with fail
  refine (sb2 w).mono ?_
  rintro e w1 ⟨rfl, rfl⟩
  go_wp2_with fail
  go_ret3
  refine ⟨?_, 0, rfl⟩
  show Ending.returned (.tuple #[.int .u64 (IntKind.u64.wrap (p * r - q * s)), .int .u64 (IntKind.u64.wrap (p * s + q * r)), .bool true]) = _
  rw [tw_u64, tw_u64]
theorem rarith_any (op : Int) (a b : Nat) (hop : op ≠ 22) (ha : a < 18446744073709551616) (hb : b < 18446744073709551616) (w : World) : Calls Try.prog 10 #[.int .i64 op, .int .u64 (a : Int), .int .u64 (b : Int)] w (RAns w (arV (arN op a b))) := by
  unfold arV
  rcases ar_ops op with rfl | rfl | rfl | rfl | rfl | rfl | rfl | rfl | rfl | rfl | rfl | rfl | h | h
  · rw [ar_add]; exact rar_add a b ha hb w
  · rw [ar_sub]; exact rar_sub a b ha hb w
  · rw [ar_mul]; exact rar_mul a b ha hb w
  · rw [ar_and]; exact rar_and a b ha hb w
  · rw [ar_or]; exact rar_or a b ha hb w
  · rw [ar_xor]; exact rar_xor a b ha hb w
  · rw [ar_shl]; exact rar_shl a b ha hb w
  · rw [ar_shr]; exact rar_shr a b ha hb w
  · rw [ar_add32]; exact rar_add32 a b ha hb w
  · rw [ar_mul32]; exact rar_mul32 a b ha hb w
  · rw [ar_eq]; exact rar_eq a b ha hb w
  · rw [ar_lt]; exact rar_lt a b ha hb w
  · rcases Nat.eq_zero_or_pos b with rfl | h0
    · rw [ar_div0 op h]; exact rar_div0 op h a w
    · rw [ar_div op h a b h0]
      rcases h with rfl | rfl
      · rw [if_neg (by decide)]; exact rar_quo a b ha hb h0 w
      · rw [if_pos rfl]; exact rar_rem a b ha hb h0 w
  · rw [ar_no op h]; exact rar_no op h hop a b w
end Go.Proofs.Ythficladloeknaa
