/-
  Plain facts on bytes that make a number, the lowest first.
  Conditions: none; nothing here speaks of a program.
-/
import Init
namespace Go.Proofs.Ytolofgifcjkaaaa
/-- The number that bytes make, the lowest first. -/
def le : List Nat → Nat
  | [] => 0
  | x :: xs => x + 256 * le xs
theorem le_lt (xs : List Nat) (h : ∀ x ∈ xs, x < 256) : le xs < 256 ^ xs.length := by
  induction xs with
  | nil => simp [le]
  | cons x xs ih =>
    have h1 := ih fun y hy => h y (by simp [hy])
    have h2 := h x (by simp)
    simp only [le, List.length_cons, Nat.pow_succ]
    omega
theorem drop_cons (xs : List Nat) (m : Nat) (h : m < xs.length) : xs.drop m = (xs[m]?.getD 0) :: xs.drop (m + 1) := by
  rw [List.drop_eq_getElem_cons h]
  simp [h]
theorem pow_le7 (k : Nat) (h : k ≤ 7) : 256 ^ k ≤ 72057594037927936 := by
  have : 256 ^ k ≤ 256 ^ 7 := Nat.pow_le_pow_right (by omega) h
  simpa using this

/-- The lowest m bytes of v, the lowest first. -/
def fb (v m : Nat) : List Nat := (List.range m).map fun j => v / 256 ^ j % 256
theorem fb_length (v m : Nat) : (fb v m).length = m := by simp [fb]
theorem fb_succ (v m : Nat) : fb v (m + 1) = fb v m ++ [v / 256 ^ m % 256] := by simp [fb, List.range_succ]
theorem fb_bytes (v m : Nat) : ∀ x ∈ fb v m, x < 256 := by
  intro x hx
  obtain ⟨j, _, rfl⟩ := List.mem_map.1 hx
  omega
theorem le_snoc (xs : List Nat) (y : Nat) : le (xs ++ [y]) = le xs + y * 256 ^ xs.length := by
  induction xs with
  | nil => simp [le]
  | cons x xs ih =>
    simp only [List.cons_append, le, ih, List.length_cons, Nat.pow_succ, Nat.mul_add, Nat.add_assoc]
    congr 2
    rw [Nat.mul_comm 256, Nat.mul_assoc]
theorem le_fb (v m : Nat) : le (fb v m) = v % 256 ^ m := by
  induction m with
  | zero => simp [fb, le, Nat.mod_one]
  | succ m ih => rw [fb_succ, le_snoc, ih, fb_length, Nat.pow_succ, Nat.mod_mul, Nat.mul_comm (256 ^ m)]
/-- How many bytes are meant by n: from 0 to 8. -/
def wid (n : Int) : Nat := min n.toNat 8
theorem wid_le (n : Int) : wid n ≤ 8 := by unfold wid; omega
end Go.Proofs.Ytolofgifcjkaaaa
