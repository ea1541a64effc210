/-
  The laws SumOne and SumBursts, walked: each returns true and turns nothing that was there.
  Conditions: that the three calls of package sum do what 'SumOK' says.
-/
import Derived.Test.YtekhboepeajglaaSw2
namespace Go.Proofs.Ytekhboepeajglaa
open Go.RowKit

theorem crc_ne (xs ys : List Nat) (h : reg O32 xs ≠ reg O32 ys) : crc xs ≠ crc ys := by
  unfold crc
  intro e
  apply h
  have e1 : (reg O32 xs ^^^ O32) ^^^ O32 = reg O32 xs := by rw [Nat.xor_assoc, Nat.xor_self, Nat.xor_zero]
  have e2 : (reg O32 ys ^^^ O32) ^^^ O32 = reg O32 ys := by rw [Nat.xor_assoc, Nat.xor_self, Nat.xor_zero]
  rw [← e1, e, e2]
theorem set_bytes (xs : List Nat) (i y : Nat) (h : ∀ x ∈ xs, x < 256) (hy : y < 256) : ∀ x ∈ xs.set i y, x < 256 := by
  intro x hx
  rcases List.mem_or_eq_of_mem_set hx with h1 | h1
  · exact h x h1
  · rw [h1]; exact hy
theorem get_bytes (xs : List Nat) (i : Nat) (h : ∀ x ∈ xs, x < 256) : xs[i]?.getD 0 < 256 := by
  by_cases hi : i < xs.length
  · simp only [hi, List.getElem?_eq_getElem, Option.getD_some]
    exact h _ (List.getElem_mem hi)
  · rw [List.getElem?_eq_none (by omega)]; simp
theorem crc_one (xs : List Nat) (i t : Nat) (hi : i < xs.length) (h : ∀ x ∈ xs, x < 256) (ht : t < 256) (h0 : t ≠ 0) : crc xs ≠ crc (xs.set i (xs[i]?.getD 0 ^^^ t)) := by
  have hb := set_bytes xs i (xs[i]?.getD 0 ^^^ t) h (Nat.xor_lt_two_pow (n := 8) (get_bytes xs i h) ht)
  refine crc_ne _ _ (burst xs _ (by simp) h hb (8 * i) t (by omega) (by omega) h0 ?_ O32)
  rw [le_turn xs i t hi h ht, Nat.pow_mul]

set_option maxRecDepth 100000 in
set_option maxHeartbeats 2000000 in
theorem sumOne_walk (H : SumOK) (a0 : Option Addr) (len0 cap0 : Nat) (xs : List Nat) (at_ t : Nat) (w : World) (hx : xs.length = len0) (hb : ∀ x ∈ xs, x < 256) (hB : Byt (· < w.heap.size) w a0 xs) (hlc : len0 ≤ cap0) (ha : at_ < 65536) (ht : t < 256) :
    Calls Try.prog 6 #[.slice a0 len0 cap0, .int .u16 (at_ : Nat), .int .u8 (t : Nat)] w fun e w' => e = .returned (.bool true) ∧ Below w.heap.size w w' := by
  have HH := Lib.hid H
  have HX := Lib.hid hx
  have HY := Lib.hid hb
  have HB := Lib.hid hB
  clear H hx hb hB
  by_cases hq : len0 = 0 ∨ 1000 < len0 ∨ t = 0
  · have go : ∀ w, Calls Try.prog 8 #[] w fun e w' => e = .returned (.bool true) ∧ Below w.heap.size w w' := fun w => answers2 HH.out w
    have HGo := Lib.hid go
    clear go
    by_cases h0 : len0 = 0
    · have t1 : ((len0 : Int) == 0) = true := by simp; omega
      have t1' : (len0 == 0) = true := by simp; omega
      clear hq h0
      go_enter Try.func6, Try.ntmps6
      go_wp2_with fail
      refine (HGo.out w).mono ?_
      rintro e w1 ⟨rfl, hb1⟩
      go_wp2
      go_ret
      exact ⟨rfl, hb1⟩
    · have t1 : ((len0 : Int) == 0) = false := by simp; omega
      have t1' : (len0 == 0) = false := by simp; omega
      by_cases h1 : 1000 < len0
      · have t2 : decide ((1000 : Int) < (len0 : Int)) = true := by simp; omega
        clear hq h0
        go_enter Try.func6, Try.ntmps6
        go_wp2_with fail
        refine (HGo.out w).mono ?_
        rintro e w1 ⟨rfl, hb1⟩
        go_wp2
        go_ret
        exact ⟨rfl, hb1⟩
      · have t2 : decide ((1000 : Int) < (len0 : Int)) = false := by simp; omega
        have t3 : ((t : Int) == 0) = true := by simp; omega
        clear hq h0
        go_enter Try.func6, Try.ntmps6
        go_wp2_with fail
        refine (HGo.out w).mono ?_
        rintro e w1 ⟨rfl, hb1⟩
        go_wp2
        go_ret
        exact ⟨rfl, hb1⟩
  · have t1 : ((len0 : Int) == 0) = false := by simp; omega
    have t1' : (len0 == 0) = false := by simp; omega
    have t2 : decide ((1000 : Int) < (len0 : Int)) = false := by simp; omega
    have t3 : ((t : Int) == 0) = false := by simp; omega
    have hpos : 0 < len0 := by omega
    have ht0 : t ≠ 0 := by omega
    have hl1000 : len0 ≤ 1000 := by omega
    clear hq
    obtain ⟨i, hi⟩ : ∃ i, at_ % len0 = i := ⟨_, rfl⟩
    have hil : i < len0 := by rw [← hi]; exact Nat.mod_lt _ hpos
    have ei : (at_ : Int) % (len0 : Int) = (i : Int) := by omega
    have HT0 := Lib.hid ht0
    clear hi ht0
    go_enter Try.func6, Try.ntmps6
    go_wp2_with (at_builtin
                 refine walk_append _ rfl (.tmp 21) (.tmp 22) rfl w.heap.size (.slice (some ⟨w.heap.size, 0, none⟩) 0 0) 0 [] rfl (own_empty w) a0 len0 cap0 xs rfl HX.out _ (HB.out.below ((Below.refl w.heap.size w).alloc (Nat.le_refl _) _) (Nat.le_refl _)) (by omega) (by simp) ?_
                 intro v1 w1 hown1 hg1 _
                 have hb1 : Below w.heap.size w w1 := ((Below.refl _ w).alloc (Nat.le_refl _) _).grown hg1 (by simp) (fun k hk => by simp [Value.ownBlock] at hk; omega)
                 rw [Nat.zero_add, List.nil_append] at hown1
                 obtain ⟨A1, c1, rfl, -, hlc1, -, -⟩ := own_slice hown1
                 obtain ⟨g1, rfl⟩ := own_some hown1 hil
                 have HO1 := Lib.hid hown1
                 have hc := hown1.cellAt i (by omega)
                 rw [Bs_get _ _ (by rw [HX.out]; exact hil)] at hc
                 have hf := hown1.frozenAt i
                 clear hown1 hg1)
    have hx8 := get_bytes xs i HY.out
    have ey : bits .xor .u8 ((xs[i]?.getD 0 : Nat) : Int) (t : Int) = ((xs[i]?.getD 0 ^^^ t : Nat) : Int) := u8_xor_nat _ _ hx8 ht
    have hst := HO1.out.stored i (.int .u8 (bits .xor .u8 ((xs[i]?.getD 0 : Nat) : Int) (t : Int)))
    rw [Bs_set xs i _ _ ey] at hst
    have hne := crc_one xs i t (by rw [HX.out]; exact hil) HY.out ht HT0.out
    have hyb := set_bytes xs i (xs[i]?.getD 0 ^^^ t) HY.out (Nat.xor_lt_two_pow (n := 8) hx8 ht)
    obtain ⟨ys, hys⟩ : ∃ ys, xs.set i (xs[i]?.getD 0 ^^^ t) = ys := ⟨_, rfl⟩
    have hyl : ys.length = len0 := by rw [← hys, List.length_set, HX.out]
    rw [hys] at hst hne hyb
    obtain ⟨w2, hw2⟩ : ∃ w2, w1.setCell ⟨g1, i, none⟩ (.int .u8 (bits .xor .u8 ((xs[i]?.getD 0 : Nat) : Int) (t : Int))) = w2 := ⟨_, rfl⟩
    have hg1 := (HO1.out.lt g1 rfl).1
    have hb2 : Below w.heap.size w w2 := by rw [← hw2]; exact hb1.setCell (p := ⟨g1, i, none⟩) hg1 _
    rw [hw2] at hst ⊢
    obtain ⟨A2, c2, e2, -, hlc2, -, hB2⟩ := own_slice hst.1
    have HB2 : Hid (Byt (· < w2.heap.size) w2 (some ⟨g1, 0, none⟩) ys) := by injection e2 with e2 _ e3; subst e2; exact hB2.wide fun b hb => hb.2
    have hc12 : len0 ≤ c1 := hlc1
    have HNe := Lib.hid hne
    have HYB := Lib.hid hyb
    have HYL := Lib.hid hyl
    clear hst e2 hB2 hlc2 hw2 hys ey hc hf hne hyb hyl HO1 hb1
    refine (answers2 HH.out w2).mono ?_
    rintro e w3 ⟨rfl, hb3⟩
    have HB3 : Hid (Byt (· < w2.heap.size) w3 (some ⟨g1, 0, none⟩) ys) := HB2.out.below hb3 (Nat.le_refl _)
    have hb03 : Below w.heap.size w w3 := hb2.trans (hb3.mono hb2.size)
    have hs23 := hb3.size
    clear hb3 HB2
    go_wp2_with fail
    refine (HH.out.of a0 len0 cap0 xs w3 HX.out HY.out ((HB.out.below hb03 (Nat.le_refl _)).wide fun b hb => by have := hb03.size; omega) (by omega) hlc).mono ?_
    rintro e w4 ⟨rfl, hb4⟩
    have HB4 : Hid (Byt (· < w2.heap.size) w4 (some ⟨g1, 0, none⟩) ys) := HB3.out.below hb4 hs23
    have hb04 : Below w.heap.size w w4 := hb03.trans (hb4.mono hb03.size)
    have hs34 := hb4.size
    clear hb4 HB3
    go_wp2_with fail
    refine (HH.out.of _ len0 c1 ys w4 HYL.out HYB.out (HB4.out.wide fun b hb => by omega) (by omega) hc12).mono ?_
    rintro e w5 ⟨rfl, hb5⟩
    have hneq : (((crc xs : Nat) : Int) != ((crc ys : Nat) : Int)) = true := by have := HNe.out; simp; omega
    go_wp2
    go_ret
    exact ⟨rfl, hb04.trans (hb5.mono hb04.size)⟩

/-- Which bits of t are turned, where m bits are left. -/
def cutT (t m n : Nat) : Nat := t % 2 ^ (min n m)
theorem cutT_zero (t m : Nat) : cutT t m 0 = 0 := by simp [cutT, Nat.mod_one]
theorem cutT_out (t m n : Nat) (h : m ≤ n) : cutT t m (n + 1) = cutT t m n := by unfold cutT; rw [Nat.min_eq_right h, Nat.min_eq_right (by omega)]
theorem cutT_in (t m n : Nat) (h : n < m) : cutT t m (n + 1) = cutT t m n + (t / 2 ^ n % 2) * 2 ^ n := by
  unfold cutT
  rw [Nat.min_eq_left (by omega), Nat.min_eq_left (by omega), Nat.pow_succ, Nat.mod_mul, Nat.mul_comm (2 ^ n)]
theorem cutT_lt (t m n : Nat) : cutT t m n < 2 ^ n := by
  unfold cutT
  refine Nat.lt_of_lt_of_le (Nat.mod_lt _ (Nat.pow_pos (by omega))) (Nat.pow_le_pow_right (by omega) (Nat.min_le_left _ _))
/-- Setting a bit above is turning it. -/
theorem add_bit (a n : Nat) (h : a < 2 ^ n) : a + 2 ^ n = a ^^^ 2 ^ n := by
  apply Nat.eq_of_testBit_eq
  intro i
  rw [Nat.testBit_xor, Nat.add_comm, show 2 ^ n + a = 2 ^ n * 1 + a by omega, Nat.testBit_two_pow_mul_add 1 h, Nat.testBit_two_pow]
  by_cases hi : i < n
  · rw [if_pos hi]
    have : ¬ n = i := by omega
    simp [this]
  · rw [if_neg hi, Nat.testBit_lt_two_pow (Nat.lt_of_lt_of_le h (Nat.pow_le_pow_right (by omega) (by omega)))]
    by_cases e : n = i
    · subst e; simp
    · have h1 : Nat.testBit 1 (i - n) = false := Nat.testBit_lt_two_pow (Nat.one_lt_two_pow (by omega))
      simp [e, h1]
theorem mul_xor (a b k : Nat) : (a ^^^ b) * 2 ^ k = a * 2 ^ k ^^^ b * 2 ^ k := by
  rw [← Nat.shiftLeft_eq, ← Nat.shiftLeft_eq, ← Nat.shiftLeft_eq, Nat.shiftLeft_xor_distrib]
theorem le_inj (xs : List Nat) : ∀ ys : List Nat, xs.length = ys.length → (∀ x ∈ xs, x < 256) → (∀ y ∈ ys, y < 256) → le xs = le ys → xs = ys := by
  induction xs with
  | nil => intro ys hl _ _ _; exact (List.eq_nil_of_length_eq_zero hl.symm).symm
  | cons x xs ih =>
    intro ys hl hx hy h
    match ys, hl with
    | y :: ys, hl =>
      have h1 := hx x (by simp)
      have h2 := hy y (by simp)
      simp only [le] at h
      have h3 : x = y := by omega
      have h4 : le xs = le ys := by omega
      rw [h3, ih ys (by simpa using hl) (fun z hz => hx z (by simp [hz])) (fun z hz => hy z (by simp [hz])) h4]
theorem sealed_reg (m : List Nat) (h : ∀ x ∈ m, x < 256) : reg O32 (sealB m) = zk 32 O32 := (sealed_iff m (four (crc m)) rfl h (four_bytes _)).2 rfl
/-- What is left of a sealed row of which something within 32 bits was turned is nothing that was sealed. -/
theorem turned_no (xs ys : List Nat) (k t : Nat) (hx : ∀ x ∈ xs, x < 256) (hy : ∀ y ∈ ys, y < 256) (hl : ys.length = (sealB xs).length) (hk : k ≤ 8 * (sealB xs).length) (ht : t < 4294967296) (h0 : t ≠ 0) (h : le ys = le (sealB xs) ^^^ (t * 2 ^ k)) :
    ¬ ∃ m, ys = sealB m := by
  rintro ⟨m, rfl⟩
  have hm : ∀ x ∈ m, x < 256 := fun x hx => hy x (List.mem_append.2 (.inl hx))
  refine burst (sealB xs) (sealB m) hl.symm (sealB_bytes xs hx) hy k t hk ht h0 h O32 ?_
  rw [sealed_reg xs hx, sealed_reg m hm]
/-- One round: the bit stands in the row, and is turned. -/
theorem turn_bit (ys : List Nat) (e t m k j : Nat) (hy : ∀ y ∈ ys, y < 256) (hlt : k + j < 8 * ys.length) (hj : j < m) (hbit : t / 2 ^ j % 2 = 1) (h : le ys = e ^^^ (cutT t m j * 2 ^ k)) :
    le (ys.set ((k + j) / 8) (ys[(k + j) / 8]?.getD 0 ^^^ 2 ^ ((k + j) % 8))) = e ^^^ (cutT t m (j + 1) * 2 ^ k) := by
  have h8 : 2 ^ ((k + j) % 8) < 256 := by
    have : 2 ^ ((k + j) % 8) < 2 ^ 8 := Nat.pow_lt_pow_right (by omega) (by omega)
    simpa using this
  rw [le_turn ys _ _ (by omega) hy h8, h, cutT_in t m j hj, hbit, Nat.one_mul, add_bit _ _ (cutT_lt t m j), mul_xor, Nat.xor_assoc]
  congr 2
  rw [show (256 : Nat) = 2 ^ 8 by rfl, ← Nat.pow_mul, ← Nat.pow_add, ← Nat.pow_add, Nat.mod_add_div, Nat.add_comm]
theorem keep_bit (e t m k j L : Nat) (hno : ¬ (t / 2 ^ j % 2 = 1 ∧ j < m)) (h : L = e ^^^ (cutT t m j * 2 ^ k)) : L = e ^^^ (cutT t m (j + 1) * 2 ^ k) := by
  by_cases hj : j < m
  · have : t / 2 ^ j % 2 = 0 := by
      have : ¬ t / 2 ^ j % 2 = 1 := fun h => hno ⟨h, hj⟩
      omega
    rw [cutT_in t m j hj, this, Nat.zero_mul, Nat.add_zero]
    exact h
  · rw [cutT_out t m j (by omega)]
    exact h

theorem xor_bit_lt (y r : Nat) (hy : y < 256) (hr : r < 8) : y ^^^ 2 ^ r < 256 :=
  Nat.xor_lt_two_pow (n := 8) hy (Nat.pow_lt_pow_right (by omega) hr)
theorem xor_bit (y r : Nat) (hy : y < 256) (hr : r < 8) : bits .xor .u8 (y : Int) (2 ^ r % 256) = ((y ^^^ 2 ^ r : Nat) : Int) := by
  have h : 2 ^ r < 256 := by
    have : 2 ^ r < 2 ^ 8 := Nat.pow_lt_pow_right (by omega) hr
    simpa using this
  have e1 : (2 : Int) ^ r = ((2 ^ r : Nat) : Int) := by rw [Int.natCast_pow]; rfl
  rw [e1]
  obtain ⟨z, hz⟩ : ∃ z : Nat, 2 ^ r = z := ⟨_, rfl⟩
  rw [hz] at h ⊢
  rw [show (z : Int) % 256 = (z : Int) by omega]
  exact u8_xor_nat _ _ hy h
theorem SumOK.yes' (H : SumOK) (A : Option Addr) (n L c : Nat) (xs : List Nat) (w : World) (hL : n + 4 = L) (hl : xs.length = n) (hb : ∀ x ∈ xs, x < 256) (hB : Byt (· < w.heap.size) w A (sealB xs)) (hn : n ≤ 1000000) (hc : L ≤ c) :
    Calls Try.prog 10 #[.slice A L c] w fun e w' => ∃ A' c', e = .returned (.tuple #[.slice A' n c', .int .i64 0]) ∧ n ≤ c' ∧ Byt (· < w'.heap.size) w' A' xs ∧ Below w.heap.size w w' := by
  subst hL
  exact H.yes A n c xs w hl hb hB hn hc

set_option maxRecDepth 100000 in
set_option maxHeartbeats 4000000 in
theorem sumBursts_walk (H : SumOK) (a0 : Option Addr) (len0 cap0 : Nat) (xs : List Nat) (at_ t : Nat) (w : World) (hx : xs.length = len0) (hb : ∀ x ∈ xs, x < 256) (hB : Byt (· < w.heap.size) w a0 xs) (_hlc : len0 ≤ cap0) (ha : at_ < 65536) (_ht : t < 4294967296) :
    Calls Try.prog 5 #[.slice a0 len0 cap0, .int .u16 (at_ : Nat), .int .u32 (t : Nat)] w fun e w' => e = .returned (.bool true) ∧ Below w.heap.size w w' := by
  have HH := Lib.hid H
  have HX := Lib.hid hx
  have HY := Lib.hid hb
  have HB := Lib.hid hB
  clear H hx hb hB
  by_cases h1 : 500 < len0
  · have t2 : decide ((500 : Int) < (len0 : Int)) = true := by simp; omega
    go_enter Try.func5, Try.ntmps5
    go_wp2_with fail
    refine (answers2 HH.out w).mono ?_
    rintro e w1 ⟨rfl, hb1⟩
    go_wp2
    go_ret
    exact ⟨rfl, hb1⟩
  · have t2 : decide ((500 : Int) < (len0 : Int)) = false := by simp; omega
    by_cases h0 : t = 0
    · have t3 : ((t : Int) == 0) = true := by simp; omega
      clear h0
      go_enter Try.func5, Try.ntmps5
      go_wp2_with fail
      refine (answers2 HH.out w).mono ?_
      rintro e w1 ⟨rfl, hb1⟩
      go_wp2
      go_ret
      exact ⟨rfl, hb1⟩
    · have t3 : ((t : Int) == 0) = false := by simp; omega
      clear h0
      obtain ⟨L, hL⟩ : ∃ L, len0 + 4 = L := ⟨_, rfl⟩
      have hL4 : 4 ≤ L := by omega
      have hL5 : L ≤ 504 := by omega
      have HSL : Hid ((sealB xs).length = L) := by show (sealB xs).length = L; rw [sealB_length, HX.out, hL]
      have HL := Lib.hid hL
      obtain ⟨k, hk⟩ : ∃ k, at_ % (8 * L) = k := ⟨_, rfl⟩
      have hk8 : k < 8 * L := by rw [← hk]; exact Nat.mod_lt _ (by omega)
      have ek : (at_ : Int) % (8 * (L : Int)) = (k : Int) := by rw [← hk, Int.natCast_emod, Int.natCast_mul]; rfl
      clear hL hk
      go_enter Try.func5, Try.ntmps5
      go_wp2_with fail
      refine (refSeal_any a0 len0 cap0 xs w HX.out HY.out HB.out (by omega)).mono ?_
      rintro e w1 ⟨u1, rfl, hown1, hb1⟩
      rw [HL.out] at hown1
      obtain ⟨A1, c1, rfl, -, hlc1, -, -⟩ := own_slice hown1
      obtain ⟨g1, rfl⟩ := own_some hown1 (k := 0) (by omega)
      have HO1 := Lib.hid hown1
      have hg1 := (hown1.lt g1 rfl).1
      clear hown1
      have L8 : (8 * (L : Int)) ≠ 0 := by omega
      have HSB := Lib.hid (sealB_bytes xs HY.out)
      go_wp2_with fail
      go_loopw [9] (fun i wr => ∃ (j : Nat) (ys : List Nat), j ≤ 32 ∧ i = .int .i64 (j : Nat) ∧ ys.length = L ∧ (∀ y ∈ ys, y < 256) ∧ wr.ownsRow w.heap.size 5 1 (.slice (some ⟨g1, 0, none⟩) L c1) L (Bs ys) ∧ le ys = le (sealB xs) ^^^ (cutT t (8 * L - k) j * 2 ^ k) ∧ Below w.heap.size w wr) (fun i _ => 32 - (intOf i).toNat)
      case atStart => exact ⟨0, sealB xs, by omega, rfl, HSL.out, HSB.out, HO1.out, by rw [cutT_zero]; simp, hb1⟩
      case round =>
        obtain ⟨j, ys, hj, rfl, hyl, hyb, hown, hle, hbel⟩ := hrel
        have HYL := Lib.hid hyl
        have HYB := Lib.hid hyb
        have HO := Lib.hid hown
        have HLe := Lib.hid hle
        clear hyl hyb hle
        by_cases hj32 : j < 32
        · obtain ⟨bt, hbt⟩ : ∃ bt, t / 2 ^ j % 2 = bt := ⟨_, rfl⟩
          have ebt : ((t : Int) / 2 ^ j).tmod 2 = (bt : Int) := by
            have e1 : (t : Int) / 2 ^ j = ((t / 2 ^ j : Nat) : Int) := by rw [Int.natCast_ediv, Int.natCast_pow]; rfl
            rw [e1, Int.tmod_eq_emod_of_nonneg (Int.natCast_nonneg _), ← hbt]
            exact (Int.natCast_emod _ 2).symm
          have HBt := Lib.hid hbt
          clear hbt
          by_cases hb1' : bt = 1
          · have s1 : ((bt : Int) == 1) = true := by simp; omega
            by_cases hin : k + j < 8 * L
            · have s2 : decide ((k : Int) + (j : Int) < 8 * (L : Int)) = true := by simp; omega
              obtain ⟨p, hp⟩ : ∃ p, (k + j) / 8 = p := ⟨_, rfl⟩
              obtain ⟨r, hr⟩ : ∃ r, (k + j) % 8 = r := ⟨_, rfl⟩
              have ep : ((k : Int) + (j : Int)) / 8 = (p : Int) := by omega
              have er : ((k : Int) + (j : Int)) % 8 = (r : Int) := by omega
              have hpL : p < L := by omega
              have hr8 : r < 8 := by omega
              have hc := hown.cellAt p (by omega)
              rw [Bs_get _ _ (by rw [HYL.out]; exact hpL)] at hc
              have hf := hown.frozenAt p
              obtain ⟨y, hy⟩ : ∃ y, ys[p]?.getD 0 = y := ⟨_, rfl⟩
              rw [hy] at hc
              have HP := Lib.hid hp
              have HR := Lib.hid hr
              have HYy := Lib.hid hy
              have HB1 := Lib.hid hb1'
              have p0 : 0 ≤ (p : Int) := by omega
              have p1 : (p : Int) < (L : Int) := by omega
              clear hp hr hy hown hb1'
              go_wp2
              have hy8 : y < 256 := by rw [← HYy.out]; exact get_bytes ys p HYB.out
              have exr := xor_bit y r hy8 hr8
              have hst := HO.out.stored p (.int .u8 (bits .xor .u8 (y : Int) (2 ^ r % 256)))
              rw [Bs_set ys p _ _ exr] at hst
              have htb := turn_bit ys (le (sealB xs)) t (8 * L - k) k j HYB.out (by rw [HYL.out]; exact hin) (by omega) (by rw [HBt.out]; exact HB1.out) HLe.out
              rw [HP.out, HR.out, HYy.out] at htb
              refine ⟨⟨j + 1, ys.set p (y ^^^ 2 ^ r), by omega, by simp, by rw [List.length_set, HYL.out], set_bytes ys p _ HYB.out (xor_bit_lt y r hy8 hr8), hst.1, htb, hbel.setCell (p := ⟨g1, p, none⟩) hg1 _⟩, by simp [intOf]; omega⟩
            · have s2 : decide ((k : Int) + (j : Int) < 8 * (L : Int)) = false := by simp; omega
              clear hown hb1'
              go_wp2
              exact ⟨⟨j + 1, ys, by omega, by simp, HYL.out, HYB.out, HO.out, keep_bit _ t (8 * L - k) k j _ (by omega) HLe.out, hbel⟩, by simp [intOf]; omega⟩
          · have s1 : ((bt : Int) == 1) = false := by simp; omega
            clear hown
            go_wp2
            exact ⟨⟨j + 1, ys, by omega, by simp, HYL.out, HYB.out, HO.out, keep_bit _ t (8 * L - k) k j _ (by have := HBt.out; omega) HLe.out, hbel⟩, by simp [intOf]; omega⟩
        · obtain rfl : j = 32 := by omega
          clear hown
          obtain ⟨A2, c2, e2, -, -, -, hB2⟩ := own_slice HO.out
          have HB2 : Hid (Byt (· < wr.heap.size) wr (some ⟨g1, 0, none⟩) ys) := by injection e2 with e2 _ e3; subst e2; exact hB2.wide fun b hb => hb.2
          clear e2 hB2 HO
          obtain ⟨t', ht'⟩ : ∃ t', cutT t (8 * L - k) 32 = t' := ⟨_, rfl⟩
          have ht'32 : t' < 4294967296 := by rw [← ht']; exact cutT_lt t (8 * L - k) 32
          have hle := HLe.out
          rw [ht'] at hle
          clear HLe ht'
          by_cases h0 : t' = 0
          · have hys : ys = sealB xs := le_inj _ _ (by rw [HYL.out, HSL.out]) HYB.out HSB.out (by rw [hle, h0, Nat.zero_mul, Nat.xor_zero])
            rw [hys] at HB2
            clear hle h0 hys HYL HYB
            go_wp2_with fail
            refine (HH.out.yes' (some ⟨g1, 0, none⟩) len0 L c1 xs wr HL.out HX.out HY.out HB2.out (by omega) hlc1).mono ?_
            rintro e w3 ⟨A3, c3, rfl, -, -, hb3⟩
            have HB3 : Hid (Byt (· < wr.heap.size) w3 (some ⟨g1, 0, none⟩) (sealB xs)) := HB2.out.below hb3 (Nat.le_refl _)
            have hb03 : Below w.heap.size w w3 := hbel.trans (hb3.mono hbel.size)
            have hs3 := hb3.size
            clear hb3 HB2
            go_wp2_with fail
            refine (refSeal_any a0 len0 cap0 xs w3 HX.out HY.out ((HB.out.below hb03 (Nat.le_refl _)).wide fun b hb => by have := hb03.size; omega) (by omega)).mono ?_
            rintro e w4 ⟨u4, rfl, hown4, hb4⟩
            rw [HL.out] at hown4
            obtain ⟨A4, c4, rfl, -, -, -, hB4⟩ := own_slice hown4
            have HB4 := Lib.hid hB4
            have HS4 : Hid (Byt (· < wr.heap.size) w4 (some ⟨g1, 0, none⟩) (sealB xs)) := HB3.out.below hb4 hs3
            have hb04 : Below w.heap.size w w4 := hb03.trans (hb4.mono hb03.size)
            clear hown4 hB4 hb4 HB3
            go_wp2_with fail
            refine (same_yes (some ⟨g1, 0, none⟩) A4 L L c1 c4 (sealB xs) (sealB xs) w4 _ _ HSL.out HSL.out rfl HS4.out HB4.out (by omega)).mono ?_
            rintro e w5 ⟨rfl, q, rfl⟩
            go_wp2_with fail
            refine (answers2 HH.out (w4.drewN q)).mono ?_
            rintro e w6 ⟨rfl, hb6⟩
            go_wp2
            go_ret
            exact ⟨rfl, (below_drewN hb04 q).trans (hb6.mono hb04.size)⟩
          · have hno := turned_no xs ys k t' HY.out HYB.out (by rw [HYL.out, HSL.out]) (by rw [HSL.out]; omega) ht'32 h0 hle
            have HNo := Lib.hid hno
            have HNe : Hid (¬ ys = sealB xs) := fun e => hno ⟨xs, e⟩
            clear hle h0 hno
            go_wp2_with fail
            refine (HH.out.no (some ⟨g1, 0, none⟩) L c1 ys wr HYL.out HYB.out HB2.out (by omega) hlc1 HNo.out).mono ?_
            rintro e w3 ⟨A3, c3, rfl, hb3⟩
            have HB3 : Hid (Byt (· < wr.heap.size) w3 (some ⟨g1, 0, none⟩) ys) := HB2.out.below hb3 (Nat.le_refl _)
            have hb03 : Below w.heap.size w w3 := hbel.trans (hb3.mono hbel.size)
            have hs3 := hb3.size
            clear hb3 HB2
            go_wp2_with fail
            refine (refSeal_any a0 len0 cap0 xs w3 HX.out HY.out ((HB.out.below hb03 (Nat.le_refl _)).wide fun b hb => by have := hb03.size; omega) (by omega)).mono ?_
            rintro e w4 ⟨u4, rfl, hown4, hb4⟩
            rw [HL.out] at hown4
            obtain ⟨A4, c4, rfl, -, -, -, hB4⟩ := own_slice hown4
            have HB4 := Lib.hid hB4
            have HS4 : Hid (Byt (· < wr.heap.size) w4 (some ⟨g1, 0, none⟩) ys) := HB3.out.below hb4 hs3
            have hb04 : Below w.heap.size w w4 := hb03.trans (hb4.mono hb03.size)
            clear hown4 hB4 hb4 HB3
            go_wp2_with fail
            refine (same_no (some ⟨g1, 0, none⟩) A4 L L c1 c4 ys (sealB xs) w4 _ _ HYL.out HSL.out HNe.out HS4.out HB4.out (by omega) (by omega)).mono ?_
            rintro e w5 ⟨rfl, q, rfl⟩
            go_wp2_with fail
            refine (answers2 HH.out (w4.drewN q)).mono ?_
            rintro e w6 ⟨rfl, hb6⟩
            go_wp2
            go_ret
            exact ⟨rfl, (below_drewN hb04 q).trans (hb6.mono hb04.size)⟩
end Go.Proofs.Ytekhboepeajglaa
