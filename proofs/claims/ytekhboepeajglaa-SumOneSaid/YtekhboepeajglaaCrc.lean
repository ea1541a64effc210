/-
  Plain facts on CRC-32 by its register: a step for a bit is linear and loses nothing; a row of bytes is fed as one number; so turned bits within 32 side by side always show.
  Conditions: none; nothing here speaks of a program.
-/
import Derived.Test.YtekhboepeajglaaLe
namespace Go.Proofs.Ytekhboepeajglaa

/-- The polynomial, turned about. -/
def P32 : Nat := 3988292384
/-- 32 ones. -/
def O32 : Nat := 4294967295
/-- One step of the register. -/
def zs (n : Nat) : Nat := if n % 2 = 1 then (n / 2) ^^^ P32 else n / 2
/-- So many steps. -/
def zk : Nat → Nat → Nat
  | 0, n => n
  | k + 1, n => zk k (zs n)

theorem xor_zero {a b : Nat} (h : a ^^^ b = 0) : a = b := by
  have e : (a ^^^ b) ^^^ b = a := by rw [Nat.xor_assoc, Nat.xor_self, Nat.xor_zero]
  rw [h, Nat.zero_xor] at e
  exact e.symm
theorem zs_bit (n i : Nat) : (zs n).testBit i = (n.testBit (i + 1) ^^ (n.testBit 0 && P32.testBit i)) := by
  unfold zs
  by_cases h : n % 2 = 1
  · simp [h, Nat.testBit_xor, Nat.testBit_succ, Nat.testBit_zero]
  · simp [h, Nat.testBit_succ, Nat.testBit_zero]
theorem zs_xor (a b : Nat) : zs (a ^^^ b) = zs a ^^^ zs b := by
  apply Nat.eq_of_testBit_eq
  intro i
  rw [Nat.testBit_xor, zs_bit, zs_bit, zs_bit, Nat.testBit_xor, Nat.testBit_xor]
  cases a.testBit (i + 1) <;> cases b.testBit (i + 1) <;> cases a.testBit 0 <;> cases b.testBit 0 <;> cases P32.testBit i <;> rfl
theorem zs_two (n : Nat) : zs (2 * n) = n := by
  unfold zs
  rw [if_neg (by omega)]
  omega
theorem zs_lt (n : Nat) (h : n < 4294967296) : zs n < 4294967296 := by
  unfold zs
  split
  · exact Nat.xor_lt_two_pow (n := 32) (by omega) (by unfold P32; omega)
  · omega
theorem zs_ne (n : Nat) (h : n < 4294967296) (h0 : n ≠ 0) : zs n ≠ 0 := by
  unfold zs
  split
  · intro e
    have := xor_zero e
    unfold P32 at this
    omega
  · omega
theorem zk_xor (k : Nat) : ∀ a b, zk k (a ^^^ b) = zk k a ^^^ zk k b := by
  induction k with
  | zero => intro a b; rfl
  | succ k ih => intro a b; rw [zk, zk, zk, zs_xor, ih]
theorem zk_two (k : Nat) : ∀ n, zk k (n * 2 ^ k) = n := by
  induction k with
  | zero => intro n; simp [zk]
  | succ k ih => intro n; rw [zk, show n * 2 ^ (k + 1) = 2 * (n * 2 ^ k) by rw [Nat.pow_succ, ← Nat.mul_assoc, Nat.mul_comm], zs_two, ih]
theorem zk_add (j k : Nat) : ∀ n, zk (j + k) n = zk k (zk j n) := by
  induction j with
  | zero => intro n; simp [zk]
  | succ j ih => intro n; rw [show j + 1 + k = (j + k) + 1 by omega, zk, ih, zk]
theorem zk_lt (k : Nat) : ∀ n, n < 4294967296 → zk k n < 4294967296 := by
  induction k with
  | zero => intro n h; exact h
  | succ k ih => intro n h; exact ih _ (zs_lt n h)
theorem zk_ne (k : Nat) : ∀ n, n < 4294967296 → n ≠ 0 → zk k n ≠ 0 := by
  induction k with
  | zero => intro n _ h; exact h
  | succ k ih => intro n h h0; exact ih _ (zs_lt n h) (zs_ne n h h0)
theorem zk_inj (k a b : Nat) (ha : a < 4294967296) (hb : b < 4294967296) (h : zk k a = zk k b) : a = b := by
  have hx : a ^^^ b < 4294967296 := Nat.xor_lt_two_pow (n := 32) ha hb
  have h0 : zk k (a ^^^ b) = 0 := by rw [zk_xor, h, Nat.xor_self]
  by_cases e : a ^^^ b = 0
  · exact xor_zero e
  · exact absurd h0 (zk_ne k _ hx e)

/-- The register behind some bytes. -/
def reg (n : Nat) (xs : List Nat) : Nat := xs.foldl (fun s x => zk 8 (s ^^^ x)) n
theorem reg_append (n : Nat) (xs ys : List Nat) : reg n (xs ++ ys) = reg (reg n xs) ys := by simp [reg]
theorem reg_snoc (n : Nat) (xs : List Nat) (x : Nat) : reg n (xs ++ [x]) = zk 8 (reg n xs ^^^ x) := by simp [reg]
theorem low_bit (x i : Nat) (h : x < 256) (hi : 8 ≤ i) : x.testBit i = false :=
  Nat.testBit_lt_two_pow (Nat.lt_of_lt_of_le h (by have := Nat.pow_le_pow_right (n := 2) (by omega) hi; simpa using this))
theorem add_xor (x e : Nat) (h : x < 256) : x + 256 * e = x ^^^ (256 * e) := by
  apply Nat.eq_of_testBit_eq
  intro i
  rw [Nat.testBit_xor, Nat.add_comm, show 256 * e = 2 ^ 8 * e by rfl, Nat.testBit_two_pow_mul_add e (i := 8) (by simpa using h), Nat.testBit_two_pow_mul]
  by_cases hi : i < 8
  · rw [if_pos hi]
    have : ¬ 8 ≤ i := by omega
    simp [this]
  · rw [if_neg hi, low_bit x i h (by omega)]
    have : 8 ≤ i := by omega
    simp [this]
theorem reg_le (xs : List Nat) : ∀ n, (∀ x ∈ xs, x < 256) → reg n xs = zk (8 * xs.length) (n ^^^ le xs) := by
  induction xs with
  | nil => intro n _; simp [reg, le, zk]
  | cons x xs ih =>
    intro n h
    have hx := h x (by simp)
    rw [show reg n (x :: xs) = reg (zk 8 (n ^^^ x)) xs by rfl, ih _ (fun y hy => h y (by simp [hy])), List.length_cons, show 8 * (xs.length + 1) = 8 + 8 * xs.length by omega, zk_add, le, add_xor x _ hx, ← Nat.xor_assoc, zk_xor 8 (n ^^^ x)]
    congr 2
    have := zk_two 8 (le xs)
    rw [show le xs * 2 ^ 8 = 256 * le xs by omega] at this
    rw [this]

theorem reg_lt (xs : List Nat) : ∀ n, n < 4294967296 → (∀ x ∈ xs, x < 256) → reg n xs < 4294967296 := by
  induction xs with
  | nil => intro n h _; exact h
  | cons x xs ih =>
    intro n h hx
    exact ih _ (zk_lt 8 _ (Nat.xor_lt_two_pow (n := 32) h (by have := hx x (by simp); omega))) (fun y hy => hx y (by simp [hy]))

/-- The sum of some bytes. -/
def crc (xs : List Nat) : Nat := reg O32 xs ^^^ O32
theorem crc_lt (xs : List Nat) (h : ∀ x ∈ xs, x < 256) : crc xs < 4294967296 := Nat.xor_lt_two_pow (n := 32) (reg_lt xs O32 (by unfold O32; omega) h) (by unfold O32; omega)

/-- The four bytes of a sum, the lowest first. -/
def four (n : Nat) : List Nat := [n % 256, n / 256 % 256, n / 65536 % 256, n / 16777216 % 256]
theorem four_bytes (n : Nat) : ∀ x ∈ four n, x < 256 := by
  intro x hx
  simp [four] at hx
  omega
theorem le_four (n : Nat) (h : n < 4294967296) : le (four n) = n := by
  simp [four, le]
  omega
theorem four_le (xs : List Nat) (hl : xs.length = 4) (h : ∀ x ∈ xs, x < 256) : four (le xs) = xs := by
  match xs, hl with
  | [a, b, c, d], _ =>
    have ha := h a (by simp)
    have hb := h b (by simp)
    have hc := h c (by simp)
    have hd := h d (by simp)
    simp only [le, four]
    have e1 : (a + 256 * (b + 256 * (c + 256 * (d + 256 * 0)))) % 256 = a := by omega
    have e2 : (a + 256 * (b + 256 * (c + 256 * (d + 256 * 0)))) / 256 % 256 = b := by omega
    have e3 : (a + 256 * (b + 256 * (c + 256 * (d + 256 * 0)))) / 65536 % 256 = c := by omega
    have e4 : (a + 256 * (b + 256 * (c + 256 * (d + 256 * 0)))) / 16777216 % 256 = d := by omega
    rw [e1, e2, e3, e4]

/-- What was sealed: some bytes, and their sum. -/
def sealB (xs : List Nat) : List Nat := xs ++ four (crc xs)

/-- Bytes were sealed just if the register behind all of them is what 32 ones come to. -/
theorem sealed_iff (m t : List Nat) (ht : t.length = 4) (hm : ∀ x ∈ m, x < 256) (hb : ∀ x ∈ t, x < 256) : reg O32 (m ++ t) = zk 32 O32 ↔ t = four (crc m) := by
  have hr := reg_lt m O32 (by unfold O32; omega) hm
  have hl : le t < 4294967296 := by have := le_lt t hb; rw [ht] at this; simpa using this
  rw [reg_append, reg_le t _ hb, ht, show 8 * 4 = 32 by rfl]
  constructor
  · intro h
    have e := zk_inj 32 _ _ (Nat.xor_lt_two_pow (n := 32) hr hl) (by unfold O32; omega) h
    have e2 : le t = crc m := by
      have e3 : reg O32 m ^^^ (reg O32 m ^^^ le t) = le t := by rw [← Nat.xor_assoc, Nat.xor_self, Nat.zero_xor]
      rw [e] at e3
      exact e3.symm
    rw [← e2, four_le t ht hb]
  · intro h
    rw [h, le_four _ (crc_lt m hm)]
    unfold crc
    rw [← Nat.xor_assoc, Nat.xor_self, Nat.zero_xor]

/-- A difference of up to 32 bits side by side is seen in the register. -/
theorem burst (xs ys : List Nat) (hl : xs.length = ys.length) (hx : ∀ x ∈ xs, x < 256) (hy : ∀ y ∈ ys, y < 256) (k t : Nat) (hk : k ≤ 8 * xs.length) (ht : t < 4294967296) (h0 : t ≠ 0) (h : le ys = le xs ^^^ (t * 2 ^ k)) (n : Nat) :
    reg n xs ≠ reg n ys := by
  intro e
  rw [reg_le xs n hx, reg_le ys n hy, ← hl, h, ← Nat.xor_assoc, zk_xor _ (n ^^^ le xs)] at e
  have e2 : zk (8 * xs.length) (t * 2 ^ k) = 0 := by
    have := congrArg (fun z => zk (8 * xs.length) (n ^^^ le xs) ^^^ z) e
    simp only [Nat.xor_self] at this
    rw [← Nat.xor_assoc, Nat.xor_self, Nat.zero_xor] at this
    exact this.symm
  rw [show 8 * xs.length = k + (8 * xs.length - k) by omega, zk_add, zk_two] at e2
  exact zk_ne _ t ht h0 e2

/-- Turning bits of one byte turns them in the number. -/
theorem le_turn (xs : List Nat) : ∀ (i y : Nat), i < xs.length → (∀ x ∈ xs, x < 256) → y < 256 → le (xs.set i ((xs[i]?.getD 0) ^^^ y)) = le xs ^^^ (y * 256 ^ i) := by
  induction xs with
  | nil => intro i y hi; simp at hi
  | cons x xs ih =>
    intro i y hi h hy
    have hx := h x (by simp)
    cases i with
    | zero =>
      have hxy : x ^^^ y < 256 := Nat.xor_lt_two_pow (n := 8) hx hy
      simp only [List.set_cons_zero, List.getElem?_cons_zero, Option.getD_some, le, Nat.pow_zero, Nat.mul_one]
      rw [add_xor _ _ hxy, add_xor _ _ hx, Nat.xor_assoc, Nat.xor_assoc, Nat.xor_comm y]
    | succ i =>
      have := ih i y (by simpa using hi) (fun z hz => h z (by simp [hz])) hy
      simp only [List.set_cons_succ, List.getElem?_cons_succ, le]
      rw [this, add_xor _ _ hx, add_xor _ _ hx, Nat.xor_assoc]
      congr 1
      have e : ∀ a b : Nat, 256 * (a ^^^ b) = 256 * a ^^^ 256 * b := fun a b => by
        apply Nat.eq_of_testBit_eq
        intro j
        rw [Nat.testBit_xor]
        simp only [show ∀ z : Nat, 256 * z = 2 ^ 8 * z from fun _ => rfl, Nat.testBit_two_pow_mul, Nat.testBit_xor]
        cases decide (8 ≤ j) <;> simp
      rw [e, Nat.pow_succ]
      congr 1
      rw [Nat.mul_comm 256, Nat.mul_assoc]
end Go.Proofs.Ytekhboepeajglaa
