/-
  The walk of the law Arith32.
  Conditions: none.
-/
import Derived.Test.YthficladloeknaaAk
namespace Go.Proofs.Ythficladloeknaa
open Go.RowKit
set_option linter.unusedSimpArgs false
set_option linter.unusedVariables false

theorem a32_walk (a b h : Nat) (ha : a < 18446744073709551616) (hb : b < 18446744073709551616) (hh : h < 4294967296) (w : World) : Calls Try.prog 7 #[.int .u64 (a : Int), .int .u64 (b : Int), .int .u32 (h : Int)] w fun e w' => e = .returned (.bool true) ∧ Grown w w' := by
  obtain ⟨c, hc⟩ : ∃ c, a % 4294967296 + h * 4294967296 = c := ⟨_, rfl⟩
  have hcl : c < 18446744073709551616 := by omega
  have hcm : c % 4294967296 = a % 4294967296 := by omega
  obtain ⟨x, hx⟩ : ∃ x, (a + b) % 4294967296 = x := ⟨_, rfl⟩
  obtain ⟨z, hz⟩ : ∃ z, a % 4294967296 * (b % 4294967296) % 4294967296 = z := ⟨_, rfl⟩
  have hxl : x < 4294967296 := by omega
  have hzl : z < 4294967296 := by rw [← hz]; exact Nat.mod_lt _ (by decide)
  have h1 := fun W => do_some 18 a b x (by decide) ha hb (by rw [ar_add32, hx]) W
  have h2 := fun W => do_some 18 c b x (by decide) hcl hb (by rw [ar_add32, show (c + b) % 4294967296 = x by omega]) W
  have h3 := fun W => do_some 19 a b z (by decide) ha hb (by rw [ar_mul32, hz]) W
  have h4 := fun W => do_some 19 c b z (by decide) hcl hb (by rw [ar_mul32, hcm, hz]) W
  have ec : (c : Int) = (a : Int) % 4294967296 + (h : Int) * 4294967296 := by omega
  simp only [ec] at h2 h4
  have e3 : ((a : Int) + (b : Int)) % 4294967296 = (x : Int) := by omega
  have t1 : decide ((x : Int) < 4294967296) = true := by simp; omega
  have t2 : decide ((z : Int) < 4294967296) = true := by simp; omega
  clear hx hz hcm hc ec
  go_enter Try.func7, Try.ntmps7
  go_wp2_with fail
  refine (h1 w).mono ?_
  rintro e w1 ⟨rfl, rfl⟩
  go_wp2_with fail
  refine (h2 w).mono ?_
  rintro e w1 ⟨rfl, rfl⟩
  go_wp2_with fail
  refine (h3 w).mono ?_
  rintro e w1 ⟨rfl, rfl⟩
  go_wp2_with fail
  refine (h4 w).mono ?_
  rintro e w1 ⟨rfl, rfl⟩
  go_wp2_with fail
  refine (answers11 _).mono ?_
  rintro e w1 ⟨rfl, rfl⟩
  go_wp2_with (simp only [e3])
  go_ret
  exact ⟨rfl, Grown.refl w⟩
end Go.Proofs.Ythficladloeknaa
