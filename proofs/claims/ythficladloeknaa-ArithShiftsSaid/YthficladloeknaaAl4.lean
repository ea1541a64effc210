/-
  The walk of the law ArithShifts.
  Conditions: none.
-/
import Derived.Test.YthficladloeknaaAk
namespace Go.Proofs.Ythficladloeknaa
open Go.RowKit
set_option linter.unusedSimpArgs false
set_option linter.unusedVariables false

theorem shift_back (a k : Nat) (ha : a < 18446744073709551616) (hk : k < 64) : a * 2 ^ k % 18446744073709551616 / 2 ^ k = a &&& 18446744073709551615 / 2 ^ k := by
  have e : 18446744073709551616 = 2 ^ (64 - k) * 2 ^ k := by rw [← Nat.pow_add, show 64 - k + k = 64 by omega]
  have hp : 0 < 2 ^ k := Nat.pow_pos (by decide)
  have hq : 0 < 2 ^ (64 - k) := Nat.pow_pos (by decide)
  have e2 : 18446744073709551615 / 2 ^ k = 2 ^ (64 - k) - 1 := by
    have h1 : 18446744073709551615 = (2 ^ k - 1) + 2 ^ k * (2 ^ (64 - k) - 1) := by
      rw [Nat.mul_sub, Nat.mul_one, Nat.mul_comm, ← e]
      have : 2 ^ k ≤ 18446744073709551616 := by rw [e]; exact Nat.le_mul_of_pos_left _ hq
      omega
    rw [h1, Nat.add_mul_div_left _ _ hp, Nat.div_eq_of_lt (by omega), Nat.zero_add]
  rw [e2, Nat.and_two_pow_sub_one_eq_mod, e, Nat.mul_mod_mul_right, Nat.mul_div_cancel _ hp]
theorem shifts_walk (a n : Nat) (ha : a < 18446744073709551616) (hn : n < 18446744073709551616) (w : World) : Calls Try.prog 6 #[.int .u64 (a : Int), .int .u64 (n : Int)] w fun e w' => e = .returned (.bool true) ∧ Grown w w' := by
  obtain ⟨k, hk⟩ : ∃ k, n % 64 = k := ⟨_, rfl⟩
  have hkl : k < 64 := by omega
  obtain ⟨x, hx⟩ : ∃ x, a * 2 ^ k % 18446744073709551616 = x := ⟨_, rfl⟩
  have hxl : x < 18446744073709551616 := by rw [← hx]; exact Nat.mod_lt _ (by decide)
  obtain ⟨y, hy⟩ : ∃ y, x / 2 ^ k = y := ⟨_, rfl⟩
  have h1 := fun W => do_some 16 a n x (by decide) ha hn (by rw [ar_shl, hk, hx]) W
  have h2 := fun W => do_some 17 x n y (by decide) hxl hn (by rw [ar_shr, hk, hy]) W
  have h3 := fun W => do_some 16 a k x (by decide) ha (by omega) (by rw [ar_shl, show k % 64 = k by omega, hx]) W
  obtain ⟨m, hm⟩ : ∃ m, 18446744073709551615 / 2 ^ k = m := ⟨_, rfl⟩
  have hml : m < 18446744073709551616 := by have := Nat.div_le_self 18446744073709551615 (2 ^ k); omega
  have hya : a &&& m = y := by rw [← hy, ← hx, ← hm, shift_back a k ha hkl]
  have e1 : (n : Int) % 64 = (k : Int) := by omega
  have e2 : (18446744073709551615 : Int) / 2 ^ k = (m : Int) := by rw [← hm]; simp
  have e3 : bits .and .u64 (a : Int) (m : Int) = (y : Int) := by rw [u64_and_nat a m ha hml, hya]
  clear hx hy hm hya hk
  go_enter Try.func6, Try.ntmps6
  go_wp2_with (simp only [e1])
  refine (h1 w).mono ?_
  rintro e w1 ⟨rfl, rfl⟩
  go_wp2_with (simp only [e1])
  refine (h2 w).mono ?_
  rintro e w1 ⟨rfl, rfl⟩
  go_wp2_with (simp only [e1])
  refine (h3 w).mono ?_
  rintro e w1 ⟨rfl, rfl⟩
  go_wp2_with (simp only [e1])
  refine (answers11 _).mono ?_
  rintro e w1 ⟨rfl, rfl⟩
  go_wp2_with (simp only [e1, e2, e3])
  go_ret
  exact ⟨rfl, Grown.refl w⟩
end Go.Proofs.Ythficladloeknaa
