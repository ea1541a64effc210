/-
  Whole numbers as words of 64 bits of floating point: what is done with small ones is exact; nothing here speaks of a program.
  Conditions: as each theorem says.
-/
import Ieee.Arith
namespace Go.Proofs.Ythficladloeknaa
open Ieee
set_option linter.unusedSimpArgs false
set_option linter.unusedVariables false

/-- 'mag * 2 ^ place' is the whole number N. -/
def Whole (m : Nat) (p : Int) (N : Nat) : Prop := ∀ b : Int, b ≤ p → b ≤ 0 → m * 2 ^ (p - b).toNat = N * 2 ^ (-b).toNat
def sg (s : Bool) : Int := if s then -1 else 1
theorem signed_eq (s : Bool) (m k : Nat) : signed s m k = sg s * ((m * 2 ^ k : Nat) : Int) := by
  unfold signed sg
  rw [Nat.shiftLeft_eq]
  cases s
  · rw [if_neg (by decide), if_neg (by decide), Int.one_mul]
  · rw [if_pos rfl, if_pos rfl, Int.neg_mul, Int.one_mul]
theorem whole_of {m : Nat} {p : Int} {N : Nat} (b0 : Int) (h1 : b0 ≤ p) (h2 : b0 ≤ 0) (h : m * 2 ^ (p - b0).toNat = N * 2 ^ (-b0).toNat) : Whole m p N := by
  intro b hb hb0
  rcases Int.le_total b b0 with hle | hle
  · rw [show (p - b).toNat = (p - b0).toNat + (b0 - b).toNat by omega, show (-b).toNat = (-b0).toNat + (b0 - b).toNat by omega, Nat.pow_add, Nat.pow_add, ← Nat.mul_assoc, ← Nat.mul_assoc, h]
  · rw [show (p - b0).toNat = (p - b).toNat + (b - b0).toNat by omega, show (-b0).toNat = (-b).toNat + (b - b0).toNat by omega, Nat.pow_add, Nat.pow_add, ← Nat.mul_assoc, ← Nat.mul_assoc] at h
    exact Nat.eq_of_mul_eq_mul_right (Nat.pow_pos (by decide)) h
theorem whole_int (N : Nat) : Whole N 0 N := whole_of 0 (Int.le_refl _) (Int.le_refl _) rfl
theorem whole_zero {m : Nat} {p : Int} (h : Whole m p 0) : m = 0 := by
  have := h (min p 0) (by omega) (by omega)
  rw [Nat.zero_mul] at this
  rcases Nat.mul_eq_zero.1 this with h | h
  · exact h
  · exact absurd h (Nat.ne_of_gt (Nat.pow_pos (by decide)))
theorem whole_pos {m : Nat} {p : Int} {N : Nat} (h : Whole m p N) (hm : m = 0) : N = 0 := by
  have := h (min p 0) (by omega) (by omega)
  rw [hm, Nat.zero_mul] at this
  rcases Nat.mul_eq_zero.1 this.symm with h | h
  · exact h
  · exact absurd h (Nat.ne_of_gt (Nat.pow_pos (by decide)))
/-- The datum is the whole number n. -/
def IsInt (d : Datum) (n : Int) : Prop := ∃ (s : Bool) (m : Nat) (p : Int) (N : Nat), d = .number s m p ∧ n = sg s * (N : Int) ∧ Whole m p N
theorem sg_abs (s : Bool) (N : Nat) : (sg s * (N : Int)).natAbs = N := by
  unfold sg
  cases s
  · simp
  · simp
theorem isInt_int (n : Int) : IsInt (.number (n < 0) n.natAbs 0) n := by
  refine ⟨_, _, _, n.natAbs, rfl, ?_, whole_int _⟩
  unfold sg
  by_cases h : n < 0
  · simp only [h, decide_true, if_true]; omega
  · simp only [h, decide_false]; simp; omega
theorem isInt_opp {d : Datum} {n : Int} (h : IsInt d n) : IsInt d.opposite (-n) := by
  obtain ⟨s, m, p, N, rfl, rfl, h⟩ := h
  refine ⟨!s, m, p, N, rfl, ?_, h⟩
  unfold sg
  cases s <;> simp
theorem isInt_mul {d e : Datum} {a b : Int} (h : IsInt d a) (h' : IsInt e b) : ∃ r, d.product e = some r ∧ IsInt r (a * b) := by
  obtain ⟨s, m, i, M, rfl, rfl, hM⟩ := h
  obtain ⟨t, n, j, N, rfl, rfl, hN⟩ := h'
  refine ⟨_, rfl, s ^^ t, m * n, i + j, M * N, rfl, ?_, ?_⟩
  · unfold sg
    cases s <;> cases t <;> simp [Int.mul_neg, Int.neg_mul, Int.neg_neg]
  · have h1 := hM (min i 0) (by omega) (by omega)
    have h2 := hN (min j 0) (by omega) (by omega)
    refine whole_of (min i 0 + min j 0) (by omega) (by omega) ?_
    rw [show (i + j - (min i 0 + min j 0)).toNat = (i - min i 0).toNat + (j - min j 0).toNat by omega, show (-(min i 0 + min j 0)).toNat = (-(min i 0)).toNat + (-(min j 0)).toNat by omega, Nat.pow_add, Nat.pow_add]
    calc m * n * (2 ^ (i - min i 0).toNat * 2 ^ (j - min j 0).toNat) = (m * 2 ^ (i - min i 0).toNat) * (n * 2 ^ (j - min j 0).toNat) := by rw [Nat.mul_mul_mul_comm]
      _ = (M * 2 ^ (-(min i 0)).toNat) * (N * 2 ^ (-(min j 0)).toNat) := by rw [h1, h2]
      _ = M * N * (2 ^ (-(min i 0)).toNat * 2 ^ (-(min j 0)).toNat) := by rw [Nat.mul_mul_mul_comm]
theorem isInt_sum {d e : Datum} {a b : Int} (h : IsInt d a) (h' : IsInt e b) : ∃ r, d.sum e = some r ∧ IsInt r (a + b) := by
  obtain ⟨s, m, i, M, rfl, rfl, hM⟩ := h
  obtain ⟨t, n, j, N, rfl, rfl, hN⟩ := h'
  obtain ⟨T, hT⟩ : ∃ T : Int, signed s m (i - min i j).toNat + signed t n (j - min i j).toNat = T := ⟨_, rfl⟩
  have key : T * ((2 ^ (min i j - min (min i j) 0).toNat : Nat) : Int) = (sg s * (M : Int) + sg t * (N : Int)) * ((2 ^ (-(min (min i j) 0)).toNat : Nat) : Int) := by
    have h1 := hM (min (min i j) 0) (by omega) (by omega)
    have h2 := hN (min (min i j) 0) (by omega) (by omega)
    rw [show (i - min (min i j) 0).toNat = (i - min i j).toNat + (min i j - min (min i j) 0).toNat by omega, Nat.pow_add, ← Nat.mul_assoc] at h1
    rw [show (j - min (min i j) 0).toNat = (j - min i j).toNat + (min i j - min (min i j) 0).toNat by omega, Nat.pow_add, ← Nat.mul_assoc] at h2
    rw [← hT, signed_eq, signed_eq, Int.add_mul, Int.add_mul, Int.mul_assoc, Int.mul_assoc, Int.mul_assoc, Int.mul_assoc, ← Int.natCast_mul, ← Int.natCast_mul, ← Int.natCast_mul, ← Int.natCast_mul, h1, h2]
  refine ⟨_, rfl, if T = 0 then s && t else decide (T < 0), T.natAbs, min i j, (sg s * (M : Int) + sg t * (N : Int)).natAbs, by rw [hT], ?_, ?_⟩
  · have hp : (0 : Int) < ((2 ^ (min i j - min (min i j) 0).toNat : Nat) : Int) := by exact_mod_cast Nat.pow_pos (by decide)
    have hq : (0 : Int) < ((2 ^ (-(min (min i j) 0)).toNat : Nat) : Int) := by exact_mod_cast Nat.pow_pos (by decide)
    generalize sg s * (M : Int) + sg t * (N : Int) = X at key ⊢
    by_cases h0 : T = 0
    · rw [h0, Int.zero_mul] at key
      have : X = 0 := by
        rcases Int.mul_eq_zero.1 key.symm with h | h
        · exact h
        · omega
      rw [this]
      simp
    · rw [if_neg h0]
      by_cases hneg : T < 0
      · have hx : X < 0 := by
          have h1 : T * ((2 ^ (min i j - min (min i j) 0).toNat : Nat) : Int) < 0 := Int.mul_neg_of_neg_of_pos hneg hp
          rw [key] at h1
          rcases Int.lt_or_le X 0 with h | h
          · exact h
          · have := Int.mul_nonneg h (Int.le_of_lt hq); omega
        simp only [hneg, decide_true, sg, if_true]
        omega
      · have hx : 0 ≤ X := by
          have h1 : 0 ≤ T * ((2 ^ (min i j - min (min i j) 0).toNat : Nat) : Int) := Int.mul_nonneg (by omega) (Int.le_of_lt hp)
          rw [key] at h1
          rcases Int.lt_or_le X 0 with h | h
          · have := Int.mul_neg_of_neg_of_pos h hq; omega
          · exact h
        simp only [hneg, decide_false, sg]
        simp
        omega
  · refine whole_of (min (min i j) 0) (by omega) (by omega) ?_
    have := congrArg Int.natAbs key
    rw [Int.natAbs_mul, Int.natAbs_mul, Int.natAbs_natCast, Int.natAbs_natCast] at this
    exact this
theorem d_sign : double.signWeight = 9223372036854775808 := by decide +kernel
theorem d_bin : double.binade = 4503599627370496 := by decide +kernel
theorem d_inf : double.infRung = 9218868437227405312 := by decide +kernel
theorem d_least : double.leastPlace = -1074 := by decide +kernel
theorem d_frac : double.fractionBits = 52 := rfl
/-- A word read: a number that is not too great. -/
theorem read_word (s : Bool) (R : Nat) (h1 : R < 9218868437227405312) : double.read (double.word s R) = if R < 4503599627370496 then .number s R (-1074) else .number s (4503599627370496 + R % 4503599627370496) (-1074 + ((R / 4503599627370496 - 1 : Nat) : Int)) := by
  have hn : (double.word s R / 9223372036854775808 % 2 == 1) = s := by
    unfold Format.word
    rw [d_sign]
    cases s
    · rw [if_neg (by decide), show R / 9223372036854775808 = 0 by omega]; rfl
    · rw [if_pos rfl, show (9223372036854775808 + R) / 9223372036854775808 = 1 by omega]; rfl
  have hr : double.word s R % 9223372036854775808 = R := by
    unfold Format.word
    rw [d_sign]
    cases s
    · rw [if_neg (by decide)]; omega
    · rw [if_pos rfl]; omega
  unfold Format.read
  rw [d_sign, d_bin, d_inf, d_least]
  simp only [hn, hr]
  by_cases h : R < 4503599627370496
  · rw [if_pos h, if_pos h]
  · rw [if_neg h, if_neg h, if_pos h1]
theorem cut_zero (s : Bool) (n : Nat) : Toward.even.cut s n 0 = n := by
  simp [Toward.cut, Nat.mod_one]
theorem cut_exact (s : Bool) (K d : Nat) (h : d ≤ (K * 2 ^ d).log2 + 2) : Toward.even.cut s (K * 2 ^ d) d = K := by
  have hp : 0 < 2 ^ d := Nat.pow_pos (by decide)
  unfold Toward.cut
  rw [Nat.min_eq_left h, Nat.one_shiftLeft]
  simp only [Nat.mul_div_cancel _ hp, Nat.mul_mod_left]
  have : ¬ 2 ^ d < 2 * 0 := by omega
  have h2 : (2 ^ d == 2 * 0) = false := by simp
  simp [this, h2]
theorem cut_zero_way (s : Bool) (K d : Nat) (h : d ≤ (K * 2 ^ d).log2 + 2) : Toward.zero.cut s (K * 2 ^ d) d = K := by
  have hp : 0 < 2 ^ d := Nat.pow_pos (by decide)
  unfold Toward.cut
  rw [Nat.min_eq_left h, Nat.one_shiftLeft]
  simp only [Nat.mul_div_cancel _ hp]
  simp
theorem p52 : (2 : Nat) ^ 52 = 4503599627370496 := by decide +kernel
theorem p53 : (2 : Nat) ^ 53 = 9007199254740992 := by decide +kernel
set_option maxHeartbeats 1000000 in
/-- What is small is written as it is. -/
theorem read_nearest {s : Bool} {m : Nat} {p : Int} {N : Nat} (h : Whole m p N) (hN : N < 2 ^ 53) : ∃ m' p', double.read (double.nearest s m p) = .number s m' p' ∧ Whole m' p' N := by
  by_cases hm : m = 0
  · have h0 := whole_pos h hm
    subst hm h0
    refine ⟨0, -1074, ?_, whole_of (-1074) (by omega) (by omega) (by rw [Nat.zero_mul, Nat.zero_mul])⟩
    unfold Format.nearest
    rw [if_pos rfl, read_word s 0 (by omega), if_pos (by omega)]
  · have hN0 : N ≠ 0 := fun e => by rw [e] at h; exact hm (whole_zero h)
    obtain ⟨L, hL⟩ : ∃ L, m.log2 = L := ⟨_, rfl⟩
    have l1 : 2 ^ L ≤ m := by rw [← hL]; exact Nat.log2_self_le hm
    have l2 : m < 2 ^ (L + 1) := by rw [← hL]; exact Nat.lt_log2_self
    have hb := h (min p 0) (by omega) (by omega)
    have up : p + L ≤ 52 := by
      have h1 : 2 ^ (L + (p - min p 0).toNat) < 2 ^ (53 + (-(min p 0)).toNat) := by
        rw [Nat.pow_add, Nat.pow_add]
        calc 2 ^ L * 2 ^ (p - min p 0).toNat ≤ m * 2 ^ (p - min p 0).toNat := Nat.mul_le_mul_right _ l1
          _ = N * 2 ^ (-(min p 0)).toNat := hb
          _ < 2 ^ 53 * 2 ^ (-(min p 0)).toNat := Nat.mul_lt_mul_of_pos_right hN (Nat.pow_pos (by decide))
      have := (Nat.pow_lt_pow_iff_right (by decide)).1 h1
      omega
    have lo : 0 ≤ p + L := by
      have h1 : 2 ^ (-(min p 0)).toNat < 2 ^ (L + 1 + (p - min p 0).toNat) := by
        rw [Nat.pow_add]
        calc 2 ^ (-(min p 0)).toNat = 1 * 2 ^ (-(min p 0)).toNat := (Nat.one_mul _).symm
          _ ≤ N * 2 ^ (-(min p 0)).toNat := Nat.mul_le_mul_right _ (Nat.pos_of_ne_zero hN0)
          _ = m * 2 ^ (p - min p 0).toNat := hb.symm
          _ < 2 ^ (L + 1) * 2 ^ (p - min p 0).toNat := Nat.mul_lt_mul_of_pos_right l2 (Nat.pow_pos (by decide))
      have := (Nat.pow_lt_pow_iff_right (by decide)).1 h1
      omega
    obtain ⟨last, hlast⟩ : ∃ last : Int, p + L - 52 = last := ⟨_, rfl⟩
    obtain ⟨K, hK, hKN, k1, k2⟩ : ∃ K, Toward.even.cut s (m <<< (p - last).toNat) (last - p).toNat = K ∧ K = N * 2 ^ (-last).toNat ∧ 4503599627370496 ≤ K ∧ K < 9007199254740992 := by
      refine ⟨_, rfl, ?_⟩
      rcases Int.lt_or_le p last with hlt | hle
      · have hw := h p (Int.le_refl _) (by omega)
        rw [show (p - p).toNat = 0 by omega, Nat.pow_zero, Nat.mul_one, show (-p).toNat = (-last).toNat + (last - p).toNat by omega, Nat.pow_add, ← Nat.mul_assoc] at hw
        rw [show (p - last).toNat = 0 by omega, Nat.shiftLeft_zero]
        have hc := cut_exact s (N * 2 ^ (-last).toNat) (last - p).toNat (by rw [← hw, hL]; omega)
        rw [← hw] at hc
        rw [hc]
        refine ⟨rfl, ?_, ?_⟩
        · have h3 : 2 ^ 52 * 2 ^ (last - p).toNat ≤ N * 2 ^ (-last).toNat * 2 ^ (last - p).toNat := by
            rw [← Nat.pow_add, ← hw, show 52 + (last - p).toNat = L by omega]; exact l1
          rw [p52] at h3
          exact Nat.le_of_mul_le_mul_right h3 (Nat.pow_pos (by decide))
        · have h3 : N * 2 ^ (-last).toNat * 2 ^ (last - p).toNat < 2 ^ 53 * 2 ^ (last - p).toNat := by
            rw [← Nat.pow_add, ← hw, show 53 + (last - p).toNat = L + 1 by omega]; exact l2
          rw [p53] at h3
          exact Nat.lt_of_mul_lt_mul_right h3
      · have hw := h last hle (by omega)
        rw [show (last - p).toNat = 0 by omega, cut_zero, Nat.shiftLeft_eq]
        refine ⟨hw, ?_, ?_⟩
        · calc 4503599627370496 = 2 ^ L * 2 ^ (p - last).toNat := by rw [← Nat.pow_add, show L + (p - last).toNat = 52 by omega, p52]
            _ ≤ m * 2 ^ (p - last).toNat := Nat.mul_le_mul_right _ l1
        · calc m * 2 ^ (p - last).toNat < 2 ^ (L + 1) * 2 ^ (p - last).toNat := Nat.mul_lt_mul_of_pos_right l2 (Nat.pow_pos (by decide))
            _ = 9007199254740992 := by rw [← Nat.pow_add, show L + 1 + (p - last).toNat = 53 by omega, p53]
    obtain ⟨E, hE⟩ : ∃ E : Nat, (last - -1074).toNat = E := ⟨_, rfl⟩
    refine ⟨K, last, ?_, whole_of last (Int.le_refl _) (by omega) (by rw [show (last - last).toNat = 0 by omega, Nat.pow_zero, Nat.mul_one]; exact hKN)⟩
    unfold Format.nearest
    rw [if_neg hm, d_frac, d_least, d_bin, d_inf]
    simp only [hL]
    rw [show max (p + (L : Int) - ((52 : Nat) : Int)) (-1074) = last by omega, hK, hE]
    have hE1 : E ≤ 1074 := by clear hK hKN h l1 l2 hb hN hN0 hm; omega
    have hE2 : (-1074 : Int) + (E : Int) = last := by clear hK hKN h l1 l2 hb hN hN0 hm; omega
    clear hK hKN h l1 l2 hb hN hN0 hm up lo hlast hE
    have hR : E * 4503599627370496 + K < 9218868437227405312 := by omega
    rw [Nat.min_eq_left (Nat.le_of_lt hR), read_word s _ hR, if_neg (by omega)]
    rw [show 4503599627370496 + (E * 4503599627370496 + K) % 4503599627370496 = K by omega, show (E * 4503599627370496 + K) / 4503599627370496 - 1 = E by omega, hE2]
/-- What is small is written, and read, as it is. -/
theorem isInt_write {d : Datum} {n : Int} (h : IsInt d n) (hn : n.natAbs < 2 ^ 53) : IsInt (double.read (double.write d)) n := by
  obtain ⟨s, m, p, N, rfl, rfl, h⟩ := h
  rw [sg_abs] at hn
  obtain ⟨m', p', e, h'⟩ := read_nearest (s := s) h hn
  exact ⟨s, m', p', N, e, rfl, h'⟩
theorem isInt_toInt {d : Datum} {n : Int} (h : IsInt d n) : d.toInt .zero = some n := by
  obtain ⟨s, m, p, N, rfl, rfl, h⟩ := h
  have e : Toward.zero.cut s (m <<< p.toNat) (-p).toNat = N := by
    rcases Int.lt_or_le p 0 with hp | hp
    · have hw := h p (Int.le_refl _) (by omega)
      rw [show (p - p).toNat = 0 by omega, Nat.pow_zero, Nat.mul_one] at hw
      rw [show p.toNat = 0 by omega, Nat.shiftLeft_zero, hw]
      by_cases h0 : N = 0
      · subst h0
        simp [Toward.cut]
      · refine cut_zero_way s N _ ?_
        have h1 : 2 ^ (-p).toNat ≤ N * 2 ^ (-p).toNat := Nat.le_mul_of_pos_left _ (Nat.pos_of_ne_zero h0)
        have h2 : 2 ^ (-p).toNat < 2 ^ ((N * 2 ^ (-p).toNat).log2 + 1) := Nat.lt_of_le_of_lt h1 Nat.lt_log2_self
        have := (Nat.pow_lt_pow_iff_right (by decide)).1 h2
        omega
    · have hw := h 0 hp (Int.le_refl _)
      rw [show (-(0 : Int)).toNat = 0 by omega, Nat.pow_zero, Nat.mul_one, Int.sub_zero] at hw
      rw [show (-p).toNat = 0 by omega, Nat.shiftLeft_eq, hw]
      simp [Toward.cut, Nat.mod_one]
  simp only [Datum.toInt, Datum.integral, e]
  rw [signed_eq, Nat.pow_zero, Nat.mul_one]
end Go.Proofs.Ythficladloeknaa
