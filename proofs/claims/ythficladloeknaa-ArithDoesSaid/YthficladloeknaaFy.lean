/-
  Words of floating point that are whole numbers: their products, sums and differences, and as integers again; nothing here speaks of a program.
  Conditions: as each theorem says.
-/
import Derived.Test.YthficladloeknaaFx
import Derived.Laws.ComplexArith
namespace Go.Proofs.Ythficladloeknaa
open Ieee

/-- The word is the whole number n. -/
def Wd (b : Nat) (n : Int) : Prop := IsInt (double.read b) n
theorem wd_of (n : Int) (h : n.natAbs < 2 ^ 53) : Wd (floatOfInt .f64 n) n := isInt_write (isInt_int n) h
theorem wd_mul {x y : Nat} {a b : Int} (hx : Wd x a) (hy : Wd y b) (h : (a * b).natAbs < 2 ^ 53) : ∃ r, floatBits .mul .f64 x y = some r ∧ Wd r (a * b) := by
  obtain ⟨d, e, hd⟩ := isInt_mul hx hy
  refine ⟨double.write d, ?_, isInt_write hd h⟩
  show (((double.read x).product (double.read y)).map double.write) = _
  rw [e]
  rfl
theorem wd_add {x y : Nat} {a b : Int} (hx : Wd x a) (hy : Wd y b) (h : (a + b).natAbs < 2 ^ 53) : ∃ r, floatBits .add .f64 x y = some r ∧ Wd r (a + b) := by
  obtain ⟨d, e, hd⟩ := isInt_sum hx hy
  refine ⟨double.write d, ?_, isInt_write hd h⟩
  show (((double.read x).sum (double.read y)).map double.write) = _
  rw [e]
  rfl
theorem wd_sub {x y : Nat} {a b : Int} (hx : Wd x a) (hy : Wd y b) (h : (a - b).natAbs < 2 ^ 53) : ∃ r, floatBits .sub .f64 x y = some r ∧ Wd r (a - b) := by
  obtain ⟨d, e, hd⟩ := isInt_sum hx (isInt_opp hy)
  rw [← Int.sub_eq_add_neg] at hd
  refine ⟨double.write d, ?_, isInt_write hd h⟩
  show (((double.read x).sum (double.read y).opposite).map double.write) = _
  rw [e]
  rfl
theorem wd_int {x : Nat} {n : Int} (h : Wd x n) (h1 : -9223372036854775808 ≤ n) (h2 : n ≤ 9223372036854775807) : floatToIntVal .f64 x .i64 = some n := by
  unfold floatToIntVal
  rw [show (FloatKind.decode .f64 x).toInt .zero = some n from isInt_toInt h]
  have m1 : IntKind.i64.min = -9223372036854775808 := rfl
  have m2 : IntKind.i64.max = 9223372036854775807 := rfl
  simp only [m1, m2]
  rw [if_pos ⟨h1, h2⟩]
/-- The product of two complex numbers whose parts are whole, and small. -/
theorem wd_cmul {a b c d : Nat} {p q r s : Int} (ha : Wd a p) (hb : Wd b q) (hc : Wd c r) (hd : Wd d s) (h1 : (p * r).natAbs < 2 ^ 51) (h2 : (q * s).natAbs < 2 ^ 51) (h3 : (p * s).natAbs < 2 ^ 51) (h4 : (q * r).natAbs < 2 ^ 51) :
    ∃ x y, cMulBits a b c d = some (x, y) ∧ Wd x (p * r - q * s) ∧ Wd y (p * s + q * r) := by
  obtain ⟨e1, k1, w1⟩ := wd_mul ha hc (Nat.lt_trans h1 (by decide))
  obtain ⟨e2, k2, w2⟩ := wd_mul hb hd (Nat.lt_trans h2 (by decide))
  obtain ⟨e3, k3, w3⟩ := wd_mul ha hd (Nat.lt_trans h3 (by decide))
  obtain ⟨e4, k4, w4⟩ := wd_mul hb hc (Nat.lt_trans h4 (by decide))
  generalize p * r = P at *
  generalize q * s = Q at *
  generalize p * s = R at *
  generalize q * r = T at *
  obtain ⟨x, k5, w5⟩ := wd_sub w1 w2 (by omega)
  obtain ⟨y, k6, w6⟩ := wd_add w3 w4 (by omega)
  refine ⟨x, y, ?_, w5, w6⟩
  unfold cMulBits
  rw [k1, Option.bind_some, k2, Option.bind_some, k5, Option.bind_some, k3, Option.bind_some, k4, Option.bind_some, k6, Option.bind_some]
end Go.Proofs.Ythficladloeknaa
