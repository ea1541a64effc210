/-
  The walk of the law ArithRound.
  Conditions: none.
-/
import Derived.Test.YthficladloeknaaAk
namespace Go.Proofs.Ythficladloeknaa
open Go.RowKit
set_option linter.unusedSimpArgs false
set_option linter.unusedVariables false

theorem round_walk (a b : Nat) (ha : a < 18446744073709551616) (hb : b < 18446744073709551616) (w : World) : Calls Try.prog 4 #[.int .u64 (a : Int), .int .u64 (b : Int)] w fun e w' => e = .returned (.bool true) ∧ Grown w w' := by
  obtain ⟨s, hs⟩ : ∃ s, (a + b) % 18446744073709551616 = s := ⟨_, rfl⟩
  have h1 := fun W => do_some 8 a b s (by decide) ha hb (by rw [ar_add, hs]) W
  have h2 := fun W => do_some 9 s b a (by decide) (by omega) hb (by rw [ar_sub, show (s + (18446744073709551616 - b)) % 18446744073709551616 = a by omega]) W
  rcases Nat.eq_zero_or_pos b with rfl | h0
  · have h3 := fun W => do_none 11 a 0 (by decide) ha hb (ar_div0 11 (by decide) a) W
    have h4 := fun W => do_none 12 a 0 (by decide) ha hb (ar_div0 12 (by decide) a) W
    clear hs
    go_enter Try.func4, Try.ntmps4
    go_wp2_with fail
    refine (h1 w).mono ?_
    rintro e w1 ⟨rfl, rfl⟩
    go_wp2_with fail
    refine (h2 w).mono ?_
    rintro e w1 ⟨rfl, rfl⟩
    go_wp2_with fail
    refine (h3 w).mono ?_
    rintro e w1 ⟨rfl, rfl⟩
    go_wp2_with fail
    refine (h4 w).mono ?_
    rintro e w1 ⟨rfl, rfl⟩
    go_wp2_with fail
    refine (answers11 _).mono ?_
    rintro e w1 ⟨rfl, rfl⟩
    go_wp2_with fail
    go_ret
    exact ⟨rfl, Grown.refl w⟩
  · obtain ⟨q, hq⟩ : ∃ q, a / b = q := ⟨_, rfl⟩
    obtain ⟨r, hr⟩ : ∃ r, a % b = r := ⟨_, rfl⟩
    have h3 := fun W => do_some 11 a b q (by decide) ha hb (by rw [ar_div 11 (by decide) a b h0, if_neg (by decide), hq]) W
    have h4 := fun W => do_some 12 a b r (by decide) ha hb (by rw [ar_div 12 (by decide) a b h0, if_pos rfl, hr]) W
    have hrl : r < b := by rw [← hr]; exact Nat.mod_lt _ h0
    obtain ⟨p, hp⟩ : ∃ p, q * b = p := ⟨_, rfl⟩
    have hpr : p + r = a := by rw [← hp, ← hq, ← hr, Nat.mul_comm]; exact Nat.div_add_mod a b
    have e1 : IntKind.u64.wrap ((q : Int) * (b : Int)) = (p : Int) := by rw [← Int.natCast_mul, hp, IntWalk.u64_in _ (by omega)]
    have e2 : IntKind.u64.wrap ((p : Int) + (r : Int)) = (a : Int) := by rw [IntWalk.u64_in _ (by omega)]; omega
    have t1 : decide ((r : Int) < (b : Int)) = true := by simp; omega
    clear hs hq hr hp
    go_enter Try.func4, Try.ntmps4
    go_wp2_with fail
    refine (h1 w).mono ?_
    rintro e w1 ⟨rfl, rfl⟩
    go_wp2_with fail
    refine (h2 w).mono ?_
    rintro e w1 ⟨rfl, rfl⟩
    go_wp2_with fail
    refine (h3 w).mono ?_
    rintro e w1 ⟨rfl, rfl⟩
    go_wp2_with fail
    refine (h4 w).mono ?_
    rintro e w1 ⟨rfl, rfl⟩
    go_wp2_with fail
    refine (answers11 _).mono ?_
    rintro e w1 ⟨rfl, rfl⟩
    go_wp2_with (simp only [e1, e2])
    go_ret
    exact ⟨rfl, Grown.refl w⟩
end Go.Proofs.Ythficladloeknaa
