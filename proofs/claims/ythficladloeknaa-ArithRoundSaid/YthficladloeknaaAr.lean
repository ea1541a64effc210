/-
  What an operator makes of two numbers, as plain facts.
  Conditions: none.
-/
import Derived.Laws.BitsAllLaws
import Derived.IntWalk
namespace Go.Proofs.Ythficladloeknaa
set_option linter.unusedVariables false

/-- What comes of two numbers by an operator that makes one of them. -/
def arN (op : Int) (a b : Nat) : Option Nat :=
  if op = 8 then some ((a + b) % 18446744073709551616) else
  if op = 9 then some ((a + (18446744073709551616 - b)) % 18446744073709551616) else
  if op = 10 then some (a * b % 18446744073709551616) else
  if op = 13 then some (a &&& b) else
  if op = 14 then some (a ||| b) else
  if op = 15 then some (a ^^^ b) else
  if op = 16 then some (a * 2 ^ (b % 64) % 18446744073709551616) else
  if op = 17 then some (a / 2 ^ (b % 64)) else
  if op = 18 then some ((a + b) % 4294967296) else
  if op = 19 then some (a % 4294967296 * (b % 4294967296) % 4294967296) else
  if op = 20 then some (if a = b then 1 else 0) else
  if op = 21 then some (if a < b then 1 else 0) else
  if op = 11 ∨ op = 12 then if b = 0 then none else some (if op = 12 then a % b else a / b) else
  none
/-- The answer that stands for it. -/
def arV (o : Option Nat) : Value := .tuple #[.int .u64 ((o.getD 0 : Nat) : Int), .int .u64 0, .bool o.isSome]
theorem ar_add (a b : Nat) : arN 8 a b = some ((a + b) % 18446744073709551616) := rfl
theorem ar_sub (a b : Nat) : arN 9 a b = some ((a + (18446744073709551616 - b)) % 18446744073709551616) := rfl
theorem ar_mul (a b : Nat) : arN 10 a b = some (a * b % 18446744073709551616) := rfl
theorem ar_and (a b : Nat) : arN 13 a b = some (a &&& b) := rfl
theorem ar_or (a b : Nat) : arN 14 a b = some (a ||| b) := rfl
theorem ar_xor (a b : Nat) : arN 15 a b = some (a ^^^ b) := rfl
theorem ar_shl (a b : Nat) : arN 16 a b = some (a * 2 ^ (b % 64) % 18446744073709551616) := rfl
theorem ar_shr (a b : Nat) : arN 17 a b = some (a / 2 ^ (b % 64)) := rfl
theorem ar_add32 (a b : Nat) : arN 18 a b = some ((a + b) % 4294967296) := rfl
theorem ar_mul32 (a b : Nat) : arN 19 a b = some (a % 4294967296 * (b % 4294967296) % 4294967296) := rfl
theorem ar_eq (a b : Nat) : arN 20 a b = some (if a = b then 1 else 0) := rfl
theorem ar_lt (a b : Nat) : arN 21 a b = some (if a < b then 1 else 0) := rfl
theorem ar_div0 (op : Int) (h : op = 11 ∨ op = 12) (a : Nat) : arN op a 0 = none := by
  rcases h with rfl | rfl
  · rfl
  · rfl
theorem ar_div (op : Int) (h : op = 11 ∨ op = 12) (a b : Nat) (h0 : 0 < b) : arN op a b = some (if op = 12 then a % b else a / b) := by
  have hb : ¬ b = 0 := by omega
  rcases h with rfl | rfl
  · unfold arN
    simp [hb]
  · unfold arN
    simp [hb]
theorem ar_no (op : Int) (h : op ≠ 8 ∧ op ≠ 9 ∧ op ≠ 10 ∧ op ≠ 11 ∧ op ≠ 12 ∧ op ≠ 13 ∧ op ≠ 14 ∧ op ≠ 15 ∧ op ≠ 16 ∧ op ≠ 17 ∧ op ≠ 18 ∧ op ≠ 19 ∧ op ≠ 20 ∧ op ≠ 21) (a b : Nat) : arN op a b = none := by
  obtain ⟨h8, h9, h10, h11, h12, h13, h14, h15, h16, h17, h18, h19, h20, h21⟩ := h
  unfold arN
  simp [h8, h9, h10, h11, h12, h13, h14, h15, h16, h17, h18, h19, h20, h21]
theorem ar_ops (op : Int) : op = 8 ∨ op = 9 ∨ op = 10 ∨ op = 13 ∨ op = 14 ∨ op = 15 ∨ op = 16 ∨ op = 17 ∨ op = 18 ∨ op = 19 ∨ op = 20 ∨ op = 21 ∨ (op = 11 ∨ op = 12) ∨ (op ≠ 8 ∧ op ≠ 9 ∧ op ≠ 10 ∧ op ≠ 11 ∧ op ≠ 12 ∧ op ≠ 13 ∧ op ≠ 14 ∧ op ≠ 15 ∧ op ≠ 16 ∧ op ≠ 17 ∧ op ≠ 18 ∧ op ≠ 19 ∧ op ≠ 20 ∧ op ≠ 21) := by omega
/-- A number's lowest 16 bits, with a sign. -/
def sx (v : Nat) : Int := if v % 65536 < 32768 then ((v % 65536 : Nat) : Int) else ((v % 65536 : Nat) : Int) - 65536
/-- A number with a sign, modulo 2^64. -/
def tw (n : Int) : Nat := (n % 18446744073709551616).toNat
/-- The two parts of the product of two complex numbers. -/
def cxRe (a b : Nat) : Nat := tw (sx a * sx b - sx (a / 65536) * sx (b / 65536))
def cxIm (a b : Nat) : Nat := tw (sx a * sx (b / 65536) + sx (a / 65536) * sx b)
theorem sx_wrap (v : Nat) : IntKind.i16.wrap (v : Int) = sx v := by
  have e : IntKind.i16.wrap (v : Int) = ((v : Int) + 32768) % 65536 - 32768 := by
    simp only [IntKind.wrap, IntKind.bits, IntKind.signed]
    simp
    omega
  rw [e]
  unfold sx
  split
  · omega
  · omega
theorem sx_bounds (v : Nat) : -32768 ≤ sx v ∧ sx v ≤ 32767 := by
  unfold sx
  split
  · omega
  · omega
theorem tw_u64 (n : Int) : IntKind.u64.wrap n = ((tw n : Nat) : Int) := by
  rw [IntKind.wrap_u64]
  unfold tw
  omega
theorem tw_lt (n : Int) : tw n < 18446744073709551616 := by
  unfold tw
  omega
theorem mul_bounds {p q : Int} (hp : -32768 ≤ p ∧ p ≤ 32767) (hq : -32768 ≤ q ∧ q ≤ 32767) : -1073741824 ≤ p * q ∧ p * q ≤ 1073741824 := by
  have h : (p * q).natAbs ≤ 32768 * 32768 := by
    rw [Int.natAbs_mul]
    exact Nat.mul_le_mul (by omega) (by omega)
  omega
end Go.Proofs.Ythficladloeknaa
