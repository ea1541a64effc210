/-
  What the project's sum.next and sum.Of do: the sum of some bytes is their CRC-32.
  Conditions: as each theorem says.
-/
import Derived.Test.YtekhboepeajglaaRsm
namespace Go.Proofs.Ytekhboepeajglaa
open Go.RowKit

theorem bit_split (x j : Nat) : x % 2 ^ (j + 1) = x % 2 ^ j ^^^ (x / 2 ^ j % 2) * 2 ^ j := by
  apply Nat.eq_of_testBit_eq
  intro i
  rw [Nat.testBit_xor, Nat.testBit_mod_two_pow, Nat.testBit_mod_two_pow, Nat.mul_comm, Nat.testBit_two_pow_mul]
  rcases Nat.lt_trichotomy i j with h | h | h
  · have h1 : i < j + 1 := by omega
    have h2 : ¬ j ≤ i := by omega
    simp [h, h1, h2]
  · subst h
    have h1 : i < i + 1 := by omega
    have h3 : (x / 2 ^ i % 2).testBit 0 = x.testBit i := by
      rw [Nat.testBit_zero, Nat.testBit_eq_decide_div_mod_eq]
      simp
    simp [h3]
  · have h1 : ¬ i < j + 1 := by omega
    have h2 : ¬ i < j := by omega
    have h3 : (x / 2 ^ j % 2).testBit (i - j) = false := by
      apply Nat.testBit_lt_two_pow
      have : 2 ^ 1 ≤ 2 ^ (i - j) := Nat.pow_le_pow_right (by omega) (by omega)
      omega
    simp [h1, h2, h3]
/-- One bit more of a byte that is fed. -/
theorem zk_bit (r x j : Nat) : zs (zk j (r ^^^ x % 2 ^ j) ^^^ (x / 2 ^ j % 2)) = zk (j + 1) (r ^^^ x % 2 ^ (j + 1)) := by
  rw [zk_succ, bit_split, ← Nat.xor_assoc, zk_xor j (r ^^^ x % 2 ^ j), zk_two]

/-- The step of the register by a bit. -/
theorem bit_half (r b : Nat) : (r ^^^ b % 2) / 2 = r / 2 := by
  apply Nat.eq_of_testBit_eq
  intro i
  rw [← Nat.testBit_succ, ← Nat.testBit_succ, Nat.testBit_xor]
  have : (b % 2).testBit (i + 1) = false := by
    rw [Nat.testBit_succ, show b % 2 / 2 = 0 by omega, Nat.zero_testBit]
  rw [this]
  simp
theorem bit_odd (r b : Nat) : (r ^^^ b % 2) % 2 = (r ^^^ b) % 2 := by
  have h : ∀ x : Nat, x % 2 = (x.testBit 0).toNat := fun x => by rw [Nat.testBit_zero]; rcases Nat.mod_two_eq_zero_or_one x with h | h <;> simp [h]
  rw [h, h (r ^^^ b), Nat.testBit_xor, Nat.testBit_xor, Nat.testBit_zero (b % 2), Nat.testBit_zero b]
  simp
theorem next_odd (r b : Nat) (h : (r ^^^ b) % 2 = 1) : zs (r ^^^ b % 2) = r / 2 ^^^ P32 := by
  unfold zs
  rw [if_pos (by rw [bit_odd]; exact h), bit_half]
theorem next_even (r b : Nat) (h : ¬ (r ^^^ b) % 2 = 1) : zs (r ^^^ b % 2) = r / 2 := by
  unfold zs
  rw [if_neg (by rw [bit_odd]; exact h), bit_half]

set_option maxRecDepth 100000 in
set_option maxHeartbeats 400000 in
theorem next_any (r b : Nat) (w : World) (hr : r < 4294967296) (hb : b < 4294967296) :
    Calls Try.prog 20 #[.int .u32 (r : Nat), .int .u32 (b : Nat)] w fun e w' => e = .returned (.int .u32 ((zs (r ^^^ b % 2) : Nat) : Int)) ∧ w = w' := by
  obtain ⟨m, hm⟩ : ∃ m, r ^^^ b = m := ⟨_, rfl⟩
  have em : bits .xor .u32 (r : Int) (b : Int) = (m : Int) := by rw [u32_xor_nat _ _ hr hb, hm]
  have hm32 : m < 4294967296 := by rw [← hm]; exact Nat.xor_lt_two_pow (n := 32) hr hb
  have ea : bits .and .u32 (m : Int) 1 = ((m % 2 : Nat) : Int) := by
    have := u32_and_nat m 1 hm32 (by omega)
    rw [Nat.and_one_is_mod] at this
    exact this
  have HM := Lib.hid hm
  clear hm
  by_cases h1 : m % 2 = 1
  · have t1 : (((m % 2 : Nat) : Int) == 0) = false := by simp; omega
    have t2 : ((m : Int) % 2 == 0) = false := by simp; omega
    have H1 := Lib.hid h1
    clear h1
    go_enter Try.func20, Try.ntmps20
    go_wp2
    go_ret
    refine ⟨ret_int ?_, rfl⟩
    rw [next_odd r b (by rw [HM.out]; exact H1.out)]
    exact u32_xor_nat (r / 2) 3988292384 (by omega) (by omega)
  · have t1 : (((m % 2 : Nat) : Int) == 0) = true := by simp; omega
    have t2 : ((m : Int) % 2 == 0) = true := by simp; omega
    have H1 := Lib.hid h1
    clear h1
    go_enter Try.func20, Try.ntmps20
    go_wp2
    go_ret
    refine ⟨ret_int ?_, rfl⟩
    rw [next_even r b (by rw [HM.out]; exact H1.out)]
    omega

theorem shr_bits (x j : Nat) : (x : Int) / 2 ^ j = ((x / 2 ^ j : Nat) : Int) := by simp
theorem ones32 (r : Nat) (h : r < 4294967296) : bits .xor .u32 (r : Int) 4294967295 = ((r ^^^ O32 : Nat) : Int) := u32_xor_nat r 4294967295 h (by omega)

set_option maxRecDepth 100000 in
set_option maxHeartbeats 1000000 in
theorem of_any (A : Option Addr) (n c : Nat) (xs : List Nat) (w : World) (S : Nat → Prop) (hl : xs.length = n) (hb : ∀ x ∈ xs, x < 256) (hB : Byt S w A xs) (hn : n ≤ 140737488355328) :
    Calls Try.prog 11 #[.slice A n c] w fun e w' => e = .returned (.int .u32 ((crc xs : Nat) : Int)) ∧ w = w' := by
  have HL := Lib.hid hl
  have HY := Lib.hid hb
  have HB := Lib.hid hB
  clear hl hb hB
  go_enter Try.func11, Try.ntmps11
  go_wp2_with fail
  go_loop [3, 9] (fun r i => ∃ k : Nat, k ≤ n ∧ i = .int .i64 (k : Nat) ∧ r = .int .u32 ((reg O32 (xs.take k) : Nat) : Int)) (fun _ i => n - (intOf i).toNat)
  case atStart => exact ⟨0, Nat.zero_le _, rfl, by simp [reg, O32]⟩
  case round =>
    obtain ⟨k, hk, rfl, rfl⟩ := hrel
    obtain ⟨r, hr⟩ : ∃ r, reg O32 (xs.take k) = r := ⟨_, rfl⟩
    have hr32 : r < 4294967296 := by rw [← hr]; exact reg_lt _ _ (by unfold O32; omega) (fun x hx => HY.out x (List.mem_of_mem_take hx))
    rw [hr]
    have HR := Lib.hid hr
    clear hr
    by_cases hlt : k < n
    · obtain ⟨a, rfl, _, hcell⟩ := HB.out.at (k := k) (by rw [HL.out]; exact hlt)
      obtain ⟨x, hx⟩ : ∃ x, xs[k]?.getD 0 = x := ⟨_, rfl⟩
      rw [hx] at hcell
      have HX := Lib.hid hx
      clear hx
      have hx256 : x < 256 := by
        rw [← HX.out]
        simp only [show k < xs.length by rw [HL.out]; exact hlt, List.getElem?_eq_getElem, Option.getD_some]
        exact HY.out _ (List.getElem_mem _)
      go_wp2_with fail
      go_loop [3, 13] (fun r' i => ∃ j : Nat, j ≤ 8 ∧ i = .int .i64 (j : Nat) ∧ r' = .int .u32 ((zk j (r ^^^ x % 2 ^ j) : Nat) : Int)) (fun _ i => 8 - (intOf i).toNat)
      case atStart => exact ⟨0, by omega, rfl, by simp [zk, Nat.mod_one]⟩
      case round =>
        obtain ⟨j, hj, rfl, rfl⟩ := hrel
        obtain ⟨s, hs⟩ : ∃ s, zk j (r ^^^ x % 2 ^ j) = s := ⟨_, rfl⟩
        have hxj : x % 2 ^ j < 4294967296 := Nat.lt_of_le_of_lt (Nat.mod_le _ _) (by omega)
        have hs32 : s < 4294967296 := by rw [← hs]; exact zk_lt j _ (Nat.xor_lt_two_pow (n := 32) hr32 hxj)
        rw [hs]
        have HS := Lib.hid hs
        clear hs
        by_cases hj8 : j < 8
        · have hd : x / 2 ^ j < 256 := Nat.lt_of_le_of_lt (Nat.div_le_self _ _) hx256
          obtain ⟨b, hb⟩ : ∃ b, x / 2 ^ j = b := ⟨_, rfl⟩
          have e1 : (x : Int) / 2 ^ j = (b : Int) := by rw [shr_bits, hb]
          rw [hb] at hd
          have HB' := Lib.hid hb
          clear hb
          go_wp2_with fail
          refine (next_any s b w hs32 (by omega)).mono ?_
          rintro e w' ⟨rfl, rfl⟩
          clear e1
          go_wp2
          refine ⟨⟨j + 1, by omega, by simp, ?_⟩, by simp [intOf]; omega⟩
          rw [← zk_bit, HS.out, HB'.out]
        · obtain rfl : j = 8 := by omega
          go_wp2
          refine ⟨⟨k + 1, by omega, by simp, ?_⟩, by simp [intOf]; omega⟩
          rw [reg_take _ _ _ (by rw [HL.out]; exact hlt), HR.out, HX.out, ← HS.out, Nat.mod_eq_of_lt (by omega : x < 2 ^ 8)]
    · obtain rfl : k = n := by omega
      go_wp2
      go_ret
      refine ⟨ret_int ?_, rfl⟩
      rw [ones32 r hr32]
      unfold crc
      rw [← HR.out, List.take_of_length_le (by rw [HL.out]; exact Nat.le_refl _)]
end Go.Proofs.Ytekhboepeajglaa
