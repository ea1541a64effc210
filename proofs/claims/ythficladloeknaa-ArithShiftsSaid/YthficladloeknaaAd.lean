/-
  What arith's twist does: the parts of a complex product, by way of numbers of floating point.
  Conditions: none.
-/
import Derived.Test.YthficladloeknaaAc
import Derived.Test.YthficladloeknaaFy
namespace Go.Proofs.Ythficladloeknaa
open Go.RowKit
set_option linter.unusedSimpArgs false
set_option linter.unusedVariables false

theorem part_any (v : Nat) (hv : v < 18446744073709551616) (w : World) : Calls Try.prog 20 #[.int .u64 (v : Int)] w fun e w' => e = .returned (.float .f64 (floatOfInt .f64 (sx v))) ∧ w = w' := by
  rw [← sx_wrap]
  go_enter Try.func20, Try.ntmps20
  go_wp2_with fail
  go_ret
  exact ⟨rfl, rfl⟩
theorem small_any (v : Nat) (hv : v < 18446744073709551616) (w : World) : Calls Try.prog 15 #[.int .u64 (v : Int)] w fun e w' => e = .returned (.complex .f64 (floatOfInt .f64 (sx v)) (floatOfInt .f64 (sx (v / 65536)))) ∧ w = w' := by
  go_enter Try.func15, Try.ntmps15
  go_wp2_with fail
  refine (part_any v hv w).mono ?_
  rintro e w1 ⟨rfl, rfl⟩
  go_wp2_with fail
  refine (part_any (v / 65536) (by omega) w).mono ?_
  rintro e w1 ⟨rfl, rfl⟩
  go_wp2_with fail
  go_ret
  exact ⟨rfl, rfl⟩
theorem whole_any (x : Nat) (n : Int) (hx : Wd x n) (h1 : -9223372036854775808 ≤ n) (h2 : n ≤ 9223372036854775807) (w : World) : Calls Try.prog 16 #[.float .f64 x] w fun e w' => e = .returned (.int .u64 ((tw n : Nat) : Int)) ∧ w = w' := by
  have hc : ∀ w, (convert 43 2 (.float .f64 x)).run Try.prog w = .ok (.int .i64 n) w := fun w => run_convert_float_int w 43 2 .f64 .i64 x n (by rw [Try.underlying43]; rfl) Try.underlying2 (wd_int hx h1 h2)
  rw [← tw_u64]
  go_enter Try.func16, Try.ntmps16
  go_wp2_with (simp only [hc])
  go_ret
  exact ⟨rfl, rfl⟩
theorem twist_any (a b : Nat) (ha : a < 18446744073709551616) (hb : b < 18446744073709551616) (w : World) : Calls Try.prog 12 #[.int .u64 (a : Int), .int .u64 (b : Int)] w fun e w' => e = .returned (.tuple #[.int .u64 ((cxRe a b : Nat) : Int), .int .u64 ((cxIm a b : Nat) : Int)]) ∧ w = w' := by
  have bp := sx_bounds a
  have bq := sx_bounds (a / 65536)
  have br := sx_bounds b
  have bs := sx_bounds (b / 65536)
  have sa := fun W => small_any a ha W
  have sb := fun W => small_any b hb W
  unfold cxRe cxIm
  generalize sx a = p at *
  generalize sx (a / 65536) = q at *
  generalize sx b = r at *
  generalize sx (b / 65536) = s at *
  have m1 := mul_bounds bp br
  have m2 := mul_bounds bq bs
  have m3 := mul_bounds bp bs
  have m4 := mul_bounds bq br
  obtain ⟨x, y, hm, hx, hy⟩ := wd_cmul (wd_of p (by omega)) (wd_of q (by omega)) (wd_of r (by omega)) (wd_of s (by omega)) (by omega) (by omega) (by omega) (by omega)
  have wx := fun W => whole_any x _ hx (by omega) (by omega) W
  have wy := fun W => whole_any y _ hy (by omega) (by omega) W
  have hop := fun t w => run_complex_mul (P := Try.prog) w t _ _ _ _ x y hm
  generalize tw (p * r - q * s) = u at *
  generalize tw (p * s + q * r) = v at *
  clear m1 m2 m3 m4 bp bq br bs hx hy hm
  go_enter Try.func12, Try.ntmps12
  go_wp2_with (simp only [hop])
  refine (sa w).mono ?_
  rintro e w1 ⟨rfl, rfl⟩
  go_wp2_with (simp only [hop])
  refine (sb w).mono ?_
  rintro e w1 ⟨rfl, rfl⟩
  go_wp2_with (simp only [hop])
  refine (wx w).mono ?_
  rintro e w1 ⟨rfl, rfl⟩
  go_wp2_with (simp only [hop])
  refine (wy w).mono ?_
  rintro e w1 ⟨rfl, rfl⟩
  go_wp2_with (simp only [hop])
  go_ret2
  exact ⟨rfl, rfl⟩
theorem do_twist (a b : Nat) (ha : a < 18446744073709551616) (hb : b < 18446744073709551616) (w : World) : Calls Try.prog 9 #[.int .i64 22, .int .u64 (a : Int), .int .u64 (b : Int)] w fun e w' => e = .returned (.tuple #[.int .u64 ((cxRe a b : Nat) : Int), .int .u64 ((cxIm a b : Nat) : Int), .bool true]) ∧ w = w' := by
  have hs := fun W => twist_any a b ha hb W
  generalize cxRe a b = x at *
  generalize cxIm a b = y at *
  go_enter Try.func9, Try.ntmps9
  go_wp2_with fail
  refine (hs w).mono ?_
  rintro e w1 ⟨rfl, rfl⟩
  go_wp2_with fail
  go_ret3
  exact ⟨rfl, rfl⟩
end Go.Proofs.Ythficladloeknaa
