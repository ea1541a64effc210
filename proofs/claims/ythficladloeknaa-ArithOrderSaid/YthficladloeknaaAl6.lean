/-
  The walk of the law ArithOrder.
  Conditions: none.
-/
import Derived.Test.YthficladloeknaaAk
import Derived.Laws.Build
import Derived.Laws.Pointers
namespace Go.Proofs.Ythficladloeknaa
open Go.RowKit
set_option linter.unusedSimpArgs false
set_option linter.unusedVariables false

theorem pqr (a b : Nat) (ha : a < 18446744073709551616) (hb : b < 18446744073709551616) : ∃ p q r : Nat, p + q + r = 1 ∧ (∀ W, Calls Try.prog 9 #[.int .i64 20, .int .u64 (a : Int), .int .u64 (b : Int)] W fun e w' => e = .returned (.tuple #[.int .u64 (p : Int), .int .u64 0, .bool true]) ∧ W = w') ∧ (∀ W, Calls Try.prog 9 #[.int .i64 21, .int .u64 (a : Int), .int .u64 (b : Int)] W fun e w' => e = .returned (.tuple #[.int .u64 (q : Int), .int .u64 0, .bool true]) ∧ W = w') ∧ (∀ W, Calls Try.prog 9 #[.int .i64 21, .int .u64 (b : Int), .int .u64 (a : Int)] W fun e w' => e = .returned (.tuple #[.int .u64 (r : Int), .int .u64 0, .bool true]) ∧ W = w') := by
  refine ⟨if a = b then 1 else 0, if a < b then 1 else 0, if b < a then 1 else 0, ?_, fun W => do_some 20 a b _ (by decide) ha hb (ar_eq a b) W, fun W => do_some 21 a b _ (by decide) ha hb (ar_lt a b) W, fun W => do_some 21 b a _ (by decide) hb ha (ar_lt b a) W⟩
  rcases Nat.lt_trichotomy a b with h | h | h
  · rw [if_neg (by omega), if_pos h, if_neg (by omega)]
  · rw [if_pos h, if_neg (by omega), if_neg (by omega)]
  · rw [if_neg (by omega), if_neg (by omega), if_pos h]
theorem both (op : Int) (a b x : Nat) (hop : op ≠ 22) (ha : a < 18446744073709551616) (hb : b < 18446744073709551616) (h : arN op a b = some x) (h' : arN op b a = some x) : ∃ x : Nat, (∀ W, Calls Try.prog 9 #[.int .i64 op, .int .u64 (a : Int), .int .u64 (b : Int)] W fun e w' => e = .returned (.tuple #[.int .u64 (x : Int), .int .u64 0, .bool true]) ∧ W = w') ∧ (∀ W, Calls Try.prog 9 #[.int .i64 op, .int .u64 (b : Int), .int .u64 (a : Int)] W fun e w' => e = .returned (.tuple #[.int .u64 (x : Int), .int .u64 0, .bool true]) ∧ W = w') :=
  ⟨x, fun W => do_some op a b x hop ha hb h W, fun W => do_some op b a x hop hb ha h' W⟩
theorem order_0 (k a b : Nat) (hk : k < 256) (hm : k % 8 = 0) (ha : a < 18446744073709551616) (hb : b < 18446744073709551616) (w : World) : Calls Try.prog 8 #[.int .u8 (k : Int), .int .u64 (a : Int), .int .u64 (b : Int)] w fun e w' => e = .returned (.bool true) ∧ Grown w w' := by
  obtain ⟨x, h1, h2⟩ := both 8 a b _ (by decide) ha hb (ar_add a b) (by rw [ar_add, Nat.add_comm])
  obtain ⟨p, q, r, hpqr, h3, h4, h5⟩ := pqr a b ha hb
  have e1 : (k : Int) % 8 = 0 := by omega
  have t1 : ((p : Int) + (q : Int) + (r : Int) == 1) = true := by simp; omega
  clear hm
  go_enter Try.func8, Try.ntmps8
  go_wp2_with (simp only [e1])
  refine (h1 _).mono ?_
  rintro e w1 ⟨rfl, rfl⟩
  go_wp2_with fail
  refine (h2 _).mono ?_
  rintro e w1 ⟨rfl, rfl⟩
  go_wp2_with fail
  refine (h3 _).mono ?_
  rintro e w1 ⟨rfl, rfl⟩
  go_wp2_with fail
  refine (h4 _).mono ?_
  rintro e w1 ⟨rfl, rfl⟩
  go_wp2_with fail
  refine (h5 _).mono ?_
  rintro e w1 ⟨rfl, rfl⟩
  go_wp2_with fail
  refine (answers11 _).mono ?_
  rintro e w1 ⟨rfl, rfl⟩
  go_wp2_with fail
  go_ret
  exact ⟨rfl, (Grown.refl w).alloc _ _⟩
theorem order_1 (k a b : Nat) (hk : k < 256) (hm : k % 8 = 1) (ha : a < 18446744073709551616) (hb : b < 18446744073709551616) (w : World) : Calls Try.prog 8 #[.int .u8 (k : Int), .int .u64 (a : Int), .int .u64 (b : Int)] w fun e w' => e = .returned (.bool true) ∧ Grown w w' := by
  obtain ⟨x, h1, h2⟩ := both 10 a b _ (by decide) ha hb (ar_mul a b) (by rw [ar_mul, Nat.mul_comm])
  obtain ⟨p, q, r, hpqr, h3, h4, h5⟩ := pqr a b ha hb
  have e1 : (k : Int) % 8 = 1 := by omega
  have t1 : ((p : Int) + (q : Int) + (r : Int) == 1) = true := by simp; omega
  clear hm
  go_enter Try.func8, Try.ntmps8
  go_wp2_with (simp only [e1])
  refine (h1 _).mono ?_
  rintro e w1 ⟨rfl, rfl⟩
  go_wp2_with fail
  refine (h2 _).mono ?_
  rintro e w1 ⟨rfl, rfl⟩
  go_wp2_with fail
  refine (h3 _).mono ?_
  rintro e w1 ⟨rfl, rfl⟩
  go_wp2_with fail
  refine (h4 _).mono ?_
  rintro e w1 ⟨rfl, rfl⟩
  go_wp2_with fail
  refine (h5 _).mono ?_
  rintro e w1 ⟨rfl, rfl⟩
  go_wp2_with fail
  refine (answers11 _).mono ?_
  rintro e w1 ⟨rfl, rfl⟩
  go_wp2_with fail
  go_ret
  exact ⟨rfl, (Grown.refl w).alloc _ _⟩
theorem order_2 (k a b : Nat) (hk : k < 256) (hm : k % 8 = 2) (ha : a < 18446744073709551616) (hb : b < 18446744073709551616) (w : World) : Calls Try.prog 8 #[.int .u8 (k : Int), .int .u64 (a : Int), .int .u64 (b : Int)] w fun e w' => e = .returned (.bool true) ∧ Grown w w' := by
  obtain ⟨x, h1, h2⟩ := both 13 a b _ (by decide) ha hb (ar_and a b) (by rw [ar_and, Nat.and_comm])
  obtain ⟨p, q, r, hpqr, h3, h4, h5⟩ := pqr a b ha hb
  have e1 : (k : Int) % 8 = 2 := by omega
  have t1 : ((p : Int) + (q : Int) + (r : Int) == 1) = true := by simp; omega
  clear hm
  go_enter Try.func8, Try.ntmps8
  go_wp2_with (simp only [e1])
  refine (h1 _).mono ?_
  rintro e w1 ⟨rfl, rfl⟩
  go_wp2_with fail
  refine (h2 _).mono ?_
  rintro e w1 ⟨rfl, rfl⟩
  go_wp2_with fail
  refine (h3 _).mono ?_
  rintro e w1 ⟨rfl, rfl⟩
  go_wp2_with fail
  refine (h4 _).mono ?_
  rintro e w1 ⟨rfl, rfl⟩
  go_wp2_with fail
  refine (h5 _).mono ?_
  rintro e w1 ⟨rfl, rfl⟩
  go_wp2_with fail
  refine (answers11 _).mono ?_
  rintro e w1 ⟨rfl, rfl⟩
  go_wp2_with fail
  go_ret
  exact ⟨rfl, (Grown.refl w).alloc _ _⟩
theorem order_3 (k a b : Nat) (hk : k < 256) (hm : k % 8 = 3) (ha : a < 18446744073709551616) (hb : b < 18446744073709551616) (w : World) : Calls Try.prog 8 #[.int .u8 (k : Int), .int .u64 (a : Int), .int .u64 (b : Int)] w fun e w' => e = .returned (.bool true) ∧ Grown w w' := by
  obtain ⟨x, h1, h2⟩ := both 14 a b _ (by decide) ha hb (ar_or a b) (by rw [ar_or, Nat.or_comm])
  obtain ⟨p, q, r, hpqr, h3, h4, h5⟩ := pqr a b ha hb
  have e1 : (k : Int) % 8 = 3 := by omega
  have t1 : ((p : Int) + (q : Int) + (r : Int) == 1) = true := by simp; omega
  clear hm
  go_enter Try.func8, Try.ntmps8
  go_wp2_with (simp only [e1])
  refine (h1 _).mono ?_
  rintro e w1 ⟨rfl, rfl⟩
  go_wp2_with fail
  refine (h2 _).mono ?_
  rintro e w1 ⟨rfl, rfl⟩
  go_wp2_with fail
  refine (h3 _).mono ?_
  rintro e w1 ⟨rfl, rfl⟩
  go_wp2_with fail
  refine (h4 _).mono ?_
  rintro e w1 ⟨rfl, rfl⟩
  go_wp2_with fail
  refine (h5 _).mono ?_
  rintro e w1 ⟨rfl, rfl⟩
  go_wp2_with fail
  refine (answers11 _).mono ?_
  rintro e w1 ⟨rfl, rfl⟩
  go_wp2_with fail
  go_ret
  exact ⟨rfl, (Grown.refl w).alloc _ _⟩
theorem order_4 (k a b : Nat) (hk : k < 256) (hm : k % 8 = 4) (ha : a < 18446744073709551616) (hb : b < 18446744073709551616) (w : World) : Calls Try.prog 8 #[.int .u8 (k : Int), .int .u64 (a : Int), .int .u64 (b : Int)] w fun e w' => e = .returned (.bool true) ∧ Grown w w' := by
  obtain ⟨x, h1, h2⟩ := both 15 a b _ (by decide) ha hb (ar_xor a b) (by rw [ar_xor, Nat.xor_comm])
  obtain ⟨p, q, r, hpqr, h3, h4, h5⟩ := pqr a b ha hb
  have e1 : (k : Int) % 8 = 4 := by omega
  have t1 : ((p : Int) + (q : Int) + (r : Int) == 1) = true := by simp; omega
  clear hm
  go_enter Try.func8, Try.ntmps8
  go_wp2_with (simp only [e1])
  refine (h1 _).mono ?_
  rintro e w1 ⟨rfl, rfl⟩
  go_wp2_with fail
  refine (h2 _).mono ?_
  rintro e w1 ⟨rfl, rfl⟩
  go_wp2_with fail
  refine (h3 _).mono ?_
  rintro e w1 ⟨rfl, rfl⟩
  go_wp2_with fail
  refine (h4 _).mono ?_
  rintro e w1 ⟨rfl, rfl⟩
  go_wp2_with fail
  refine (h5 _).mono ?_
  rintro e w1 ⟨rfl, rfl⟩
  go_wp2_with fail
  refine (answers11 _).mono ?_
  rintro e w1 ⟨rfl, rfl⟩
  go_wp2_with fail
  go_ret
  exact ⟨rfl, (Grown.refl w).alloc _ _⟩
theorem order_5 (k a b : Nat) (hk : k < 256) (hm : k % 8 = 5) (ha : a < 18446744073709551616) (hb : b < 18446744073709551616) (w : World) : Calls Try.prog 8 #[.int .u8 (k : Int), .int .u64 (a : Int), .int .u64 (b : Int)] w fun e w' => e = .returned (.bool true) ∧ Grown w w' := by
  obtain ⟨x, h1, h2⟩ := both 18 a b _ (by decide) ha hb (ar_add32 a b) (by rw [ar_add32, Nat.add_comm])
  obtain ⟨p, q, r, hpqr, h3, h4, h5⟩ := pqr a b ha hb
  have e1 : (k : Int) % 8 = 5 := by omega
  have t1 : ((p : Int) + (q : Int) + (r : Int) == 1) = true := by simp; omega
  clear hm
  go_enter Try.func8, Try.ntmps8
  go_wp2_with (simp only [e1])
  refine (h1 _).mono ?_
  rintro e w1 ⟨rfl, rfl⟩
  go_wp2_with fail
  refine (h2 _).mono ?_
  rintro e w1 ⟨rfl, rfl⟩
  go_wp2_with fail
  refine (h3 _).mono ?_
  rintro e w1 ⟨rfl, rfl⟩
  go_wp2_with fail
  refine (h4 _).mono ?_
  rintro e w1 ⟨rfl, rfl⟩
  go_wp2_with fail
  refine (h5 _).mono ?_
  rintro e w1 ⟨rfl, rfl⟩
  go_wp2_with fail
  refine (answers11 _).mono ?_
  rintro e w1 ⟨rfl, rfl⟩
  go_wp2_with fail
  go_ret
  exact ⟨rfl, (Grown.refl w).alloc _ _⟩
theorem order_6 (k a b : Nat) (hk : k < 256) (hm : k % 8 = 6) (ha : a < 18446744073709551616) (hb : b < 18446744073709551616) (w : World) : Calls Try.prog 8 #[.int .u8 (k : Int), .int .u64 (a : Int), .int .u64 (b : Int)] w fun e w' => e = .returned (.bool true) ∧ Grown w w' := by
  obtain ⟨x, h1, h2⟩ := both 19 a b _ (by decide) ha hb (ar_mul32 a b) (by rw [ar_mul32, Nat.mul_comm])
  obtain ⟨p, q, r, hpqr, h3, h4, h5⟩ := pqr a b ha hb
  have e1 : (k : Int) % 8 = 6 := by omega
  have t1 : ((p : Int) + (q : Int) + (r : Int) == 1) = true := by simp; omega
  clear hm
  go_enter Try.func8, Try.ntmps8
  go_wp2_with (simp only [e1])
  refine (h1 _).mono ?_
  rintro e w1 ⟨rfl, rfl⟩
  go_wp2_with fail
  refine (h2 _).mono ?_
  rintro e w1 ⟨rfl, rfl⟩
  go_wp2_with fail
  refine (h3 _).mono ?_
  rintro e w1 ⟨rfl, rfl⟩
  go_wp2_with fail
  refine (h4 _).mono ?_
  rintro e w1 ⟨rfl, rfl⟩
  go_wp2_with fail
  refine (h5 _).mono ?_
  rintro e w1 ⟨rfl, rfl⟩
  go_wp2_with fail
  refine (answers11 _).mono ?_
  rintro e w1 ⟨rfl, rfl⟩
  go_wp2_with fail
  go_ret
  exact ⟨rfl, (Grown.refl w).alloc _ _⟩
theorem order_7 (k a b : Nat) (hk : k < 256) (hm : k % 8 = 7) (ha : a < 18446744073709551616) (hb : b < 18446744073709551616) (w : World) : Calls Try.prog 8 #[.int .u8 (k : Int), .int .u64 (a : Int), .int .u64 (b : Int)] w fun e w' => e = .returned (.bool true) ∧ Grown w w' := by
  obtain ⟨x, h1, h2⟩ := both 20 a b _ (by decide) ha hb (ar_eq a b) (by rw [ar_eq]; simp only [eq_comm])
  obtain ⟨p, q, r, hpqr, h3, h4, h5⟩ := pqr a b ha hb
  have e1 : (k : Int) % 8 = 7 := by omega
  have t1 : ((p : Int) + (q : Int) + (r : Int) == 1) = true := by simp; omega
  clear hm
  go_enter Try.func8, Try.ntmps8
  go_wp2_with (simp only [e1])
  refine (h1 _).mono ?_
  rintro e w1 ⟨rfl, rfl⟩
  go_wp2_with fail
  refine (h2 _).mono ?_
  rintro e w1 ⟨rfl, rfl⟩
  go_wp2_with fail
  refine (h3 _).mono ?_
  rintro e w1 ⟨rfl, rfl⟩
  go_wp2_with fail
  refine (h4 _).mono ?_
  rintro e w1 ⟨rfl, rfl⟩
  go_wp2_with fail
  refine (h5 _).mono ?_
  rintro e w1 ⟨rfl, rfl⟩
  go_wp2_with fail
  refine (answers11 _).mono ?_
  rintro e w1 ⟨rfl, rfl⟩
  go_wp2_with fail
  go_ret
  exact ⟨rfl, (Grown.refl w).alloc _ _⟩
theorem order_walk (k a b : Nat) (hk : k < 256) (ha : a < 18446744073709551616) (hb : b < 18446744073709551616) (w : World) : Calls Try.prog 8 #[.int .u8 (k : Int), .int .u64 (a : Int), .int .u64 (b : Int)] w fun e w' => e = .returned (.bool true) ∧ Grown w w' := by
  have h : k % 8 < 8 := Nat.mod_lt _ (by decide)
  rcases (by omega : k % 8 = 0 ∨ k % 8 = 1 ∨ k % 8 = 2 ∨ k % 8 = 3 ∨ k % 8 = 4 ∨ k % 8 = 5 ∨ k % 8 = 6 ∨ k % 8 = 7) with h | h | h | h | h | h | h | h
  · exact order_0 k a b hk h ha hb w
  · exact order_1 k a b hk h ha hb w
  · exact order_2 k a b hk h ha hb w
  · exact order_3 k a b hk h ha hb w
  · exact order_4 k a b hk h ha hb w
  · exact order_5 k a b hk h ha hb w
  · exact order_6 k a b hk h ha hb w
  · exact order_7 k a b hk h ha hb w
end Go.Proofs.Ythficladloeknaa
