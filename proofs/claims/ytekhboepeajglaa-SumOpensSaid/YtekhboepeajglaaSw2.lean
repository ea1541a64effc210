/-
  The laws SumOpens and SumShort, walked: each returns true and turns nothing that was there.
  Conditions: that the three calls of package sum do what 'SumOK' says.
-/
import Derived.Test.YtekhboepeajglaaSw1
namespace Go.Proofs.Ytekhboepeajglaa
open Go.RowKit

theorem seal_take (m : List Nat) : (sealB m).take m.length = m := by simp [sealB]
theorem no_seal_short (xs : List Nat) (h : xs.length < 4) : ¬ ∃ m, xs = sealB m := by
  rintro ⟨m, rfl⟩
  rw [sealB_length] at h
  omega
theorem no_seal (xs : List Nat) (n : Nat) (hno : ¬ ∃ m, xs = sealB m) : ¬ sealB (xs.take n) = xs := fun e => hno ⟨_, e.symm⟩

set_option maxRecDepth 100000 in
set_option maxHeartbeats 2000000 in
theorem sumOpens_walk (H : SumOK) (a0 : Option Addr) (len0 cap0 : Nat) (xs : List Nat) (w : World) (hx : xs.length = len0) (hb : ∀ x ∈ xs, x < 256) (hB : Byt (· < w.heap.size) w a0 xs) (hlc : len0 ≤ cap0) :
    Calls Try.prog 4 #[.slice a0 len0 cap0] w fun e w' => e = .returned (.bool true) ∧ Below w.heap.size w w' := by
  have HH := Lib.hid H
  have HX := Lib.hid hx
  have HY := Lib.hid hb
  have HB := Lib.hid hB
  clear H hx hb hB
  by_cases hbig : 3000 < len0
  · have t1 : decide ((3000 : Int) < (len0 : Int)) = true := by simp; omega
    go_enter Try.func4, Try.ntmps4
    go_wp2_with fail
    refine (answers2 HH.out w).mono ?_
    rintro e w1 ⟨rfl, hb1⟩
    go_wp2
    go_ret
    exact ⟨rfl, hb1⟩
  · have t1 : decide ((3000 : Int) < (len0 : Int)) = false := by simp; omega
    by_cases h4 : len0 < 4
    · have t2 : decide ((len0 : Int) < 4) = true := by simp; omega
      have HNo := Lib.hid (no_seal_short xs (by rw [HX.out]; exact h4))
      go_enter Try.func4, Try.ntmps4
      go_wp2_with fail
      refine (HH.out.no a0 len0 cap0 xs w HX.out HY.out HB.out (by omega) hlc HNo.out).mono ?_
      rintro e w1 ⟨A1, c1, rfl, hb1⟩
      go_wp2_with fail
      refine (answers2 HH.out w1).mono ?_
      rintro e w2 ⟨rfl, hb2⟩
      go_wp2
      go_ret
      exact ⟨rfl, hb1.trans (hb2.mono hb1.size)⟩
    · obtain ⟨n, rfl⟩ : ∃ n, len0 = n + 4 := ⟨len0 - 4, by omega⟩
      have t2 : decide (((n + 4 : Nat) : Int) < 4) = false := by simp; omega
      have t2' : decide ((n : Int) + 4 < 4) = false := by simp; omega
      have e1 : (n : Int) + 4 - 4 = (n : Int) := by omega
      have n0 : n ≤ cap0 := by omega
      have n1 : (n : Int) ≤ (cap0 : Int) := by omega
      have HT : Hid ((xs.take n).length = n) := by show (xs.take n).length = n; rw [List.length_take, HX.out]; omega
      have HTb : Hid (∀ x ∈ xs.take n, x < 256) := fun x hx => HY.out x (List.mem_of_mem_take hx)
      have HSL : Hid ((sealB (xs.take n)).length = n + 4) := by show (sealB (xs.take n)).length = n + 4; rw [sealB_length, HT.out]
      by_cases hs : ∃ m, xs = sealB m
      · have hs2 : xs = sealB (xs.take n) := by
          obtain ⟨m, rfl⟩ := hs
          have : m.length = n := by have := HX.out; rw [sealB_length] at this; omega
          rw [← this, seal_take]
        have HS := Lib.hid hs2
        clear hs hs2
        go_enter Try.func4, Try.ntmps4
        go_wp2_with fail
        refine (HH.out.yes a0 n cap0 (xs.take n) w HT.out HTb.out (by rw [← HS.out]; exact HB.out) (by omega) hlc).mono ?_
        rintro e w1 ⟨A1, c1, rfl, hc1, hB1, hb1⟩
        have HB1 := Lib.hid hB1
        clear hB1
        go_wp2_with fail
        refine (refSeal_any a0 n cap0 (xs.take n) w1 HT.out HTb.out (((HB.out.take n).below hb1 (Nat.le_refl _)).wide fun b hb => by have := hb1.size; omega) (by omega)).mono ?_
        rintro e w2 ⟨u2, rfl, hown2, hb2⟩
        obtain ⟨A2, c2, rfl, -, -, -, hB2⟩ := own_slice hown2
        have HB2 := Lib.hid hB2
        have HX2 : Hid (Byt (· < w1.heap.size) w2 A1 (xs.take n)) := HB1.out.below hb2 (Nat.le_refl _)
        have hb02 : Below w.heap.size w w2 := hb1.trans (hb2.mono hb1.size)
        have hs12 := hb2.size
        clear hown2 hB2 hb2 HB1 hb1
        go_wp2_with fail
        refine (same_yes A2 a0 (n + 4) (n + 4) c2 cap0 (sealB (xs.take n)) xs w2 _ _ HSL.out HX.out HS.out.symm HB2.out (HB.out.below hb02 (Nat.le_refl _)) (by omega)).mono ?_
        rintro e w3 ⟨rfl, q, rfl⟩
        go_wp2_with fail
        refine (answers2 HH.out (w2.drewN q)).mono ?_
        rintro e w4 ⟨rfl, hb4⟩
        have HX4 : Hid (Byt (· < w1.heap.size) w4 A1 (xs.take n)) := Byt.below (w := w2.drewN q) (HX2.out.keep (w' := w2.drewN q) fun _ _ => rfl) hb4 hs12
        have hb04 : Below w.heap.size w w4 := (below_drewN hb02 q).trans (hb4.mono hb02.size)
        clear hb4 HX2
        go_wp2_with fail
        refine (same_yes A1 a0 n n c1 cap0 (xs.take n) (xs.take n) w4 _ _ HT.out HT.out rfl HX4.out ((HB.out.take n).below hb04 (Nat.le_refl _)) (by omega)).mono ?_
        rintro e w5 ⟨rfl, q2, rfl⟩
        go_wp2
        go_ret
        exact ⟨rfl, below_drewN hb04 q2⟩
      · have HNo := Lib.hid hs
        have HNs := Lib.hid (no_seal xs n hs)
        clear hs
        go_enter Try.func4, Try.ntmps4
        go_wp2_with fail
        refine (HH.out.no a0 (n + 4) cap0 xs w HX.out HY.out HB.out (by omega) hlc HNo.out).mono ?_
        rintro e w1 ⟨A1, c1, rfl, hb1⟩
        go_wp2_with fail
        refine (refSeal_any a0 n cap0 (xs.take n) w1 HT.out HTb.out (((HB.out.take n).below hb1 (Nat.le_refl _)).wide fun b hb => by have := hb1.size; omega) (by omega)).mono ?_
        rintro e w2 ⟨u2, rfl, hown2, hb2⟩
        obtain ⟨A2, c2, rfl, -, -, -, hB2⟩ := own_slice hown2
        have HB2 := Lib.hid hB2
        have hb02 : Below w.heap.size w w2 := hb1.trans (hb2.mono hb1.size)
        clear hown2 hB2 hb2 hb1
        go_wp2_with fail
        refine (same_no A2 a0 (n + 4) (n + 4) c2 cap0 (sealB (xs.take n)) xs w2 _ _ HSL.out HX.out HNs.out HB2.out (HB.out.below hb02 (Nat.le_refl _)) (by omega) (by omega)).mono ?_
        rintro e w3 ⟨rfl, q, rfl⟩
        go_wp2_with fail
        refine (answers2 HH.out (w2.drewN q)).mono ?_
        rintro e w4 ⟨rfl, hb4⟩
        go_wp2
        go_ret
        exact ⟨rfl, (below_drewN hb02 q).trans (hb4.mono hb02.size)⟩

/-- Fewer than four, of so many. -/
def shortN (n : Nat) : Nat := if n < 4 then n else n % 4
theorem shortN_lt (n : Nat) : shortN n < 4 := by unfold shortN; split <;> omega
theorem shortN_le (n : Nat) : shortN n ≤ n := by unfold shortN; split <;> omega

set_option maxHeartbeats 400000 in
theorem short_any (A : Option Addr) (n c : Nat) (w : World) (hn : n ≤ 140737488355328) : Calls Try.prog 15 #[.slice A n c] w fun e w' => e = .returned (.int .i64 ((shortN n : Nat) : Int)) ∧ w = w' := by
  by_cases h : n < 4
  · have t1 : decide ((n : Int) < 4) = true := by simp; omega
    go_enter Try.func15, Try.ntmps15
    go_wp2
    go_ret
    exact ⟨ret_int (by unfold shortN; rw [if_pos h]), rfl⟩
  · have t1 : decide ((n : Int) < 4) = false := by simp; omega
    go_enter Try.func15, Try.ntmps15
    go_wp2
    go_ret
    exact ⟨ret_int (by unfold shortN; rw [if_neg (by omega)]; omega), rfl⟩

set_option maxRecDepth 100000 in
set_option maxHeartbeats 2000000 in
theorem sumShort_walk (H : SumOK) (a0 : Option Addr) (len0 cap0 : Nat) (xs : List Nat) (w : World) (hx : xs.length = len0) (hb : ∀ x ∈ xs, x < 256) (hB : Byt (· < w.heap.size) w a0 xs) (hlc : len0 ≤ cap0) :
    Calls Try.prog 7 #[.slice a0 len0 cap0] w fun e w' => e = .returned (.bool true) ∧ Below w.heap.size w w' := by
  have HH := Lib.hid H
  have HX := Lib.hid hx
  have HY := Lib.hid hb
  have HB := Lib.hid hB
  clear H hx hb hB
  by_cases hbig : 1000 < len0
  · have t1 : decide ((1000 : Int) < (len0 : Int)) = true := by simp; omega
    go_enter Try.func7, Try.ntmps7
    go_wp2_with fail
    refine (answers2 HH.out w).mono ?_
    rintro e w1 ⟨rfl, hb1⟩
    go_wp2
    go_ret
    exact ⟨rfl, hb1⟩
  · have t1 : decide ((1000 : Int) < (len0 : Int)) = false := by simp; omega
    obtain ⟨k, hk⟩ : ∃ k, shortN len0 = k := ⟨_, rfl⟩
    have hk4 : k < 4 := by rw [← hk]; exact shortN_lt _
    have hkl : k ≤ len0 := by rw [← hk]; exact shortN_le _
    have HK := Lib.hid hk
    have k0 : k ≤ cap0 := by omega
    have k1 : (k : Int) ≤ (cap0 : Int) := by omega
    have k2 : 0 ≤ (k : Int) := by omega
    have HT : Hid ((xs.take k).length = k) := by show (xs.take k).length = k; rw [List.length_take, HX.out]; omega
    have HNo := Lib.hid (no_seal_short (xs.take k) (by rw [HT.out]; exact hk4))
    clear hk
    go_enter Try.func7, Try.ntmps7
    go_wp2_with fail
    refine (short_any a0 len0 cap0 w (by omega)).mono ?_
    rintro e w1 ⟨he, rfl⟩
    rw [HK.out] at he
    subst he
    go_wp2_with fail
    refine (HH.out.no a0 k cap0 (xs.take k) w HT.out (fun x hx => HY.out x (List.mem_of_mem_take hx)) (HB.out.take k) (by omega) k0 HNo.out).mono ?_
    rintro e w1 ⟨A1, c1, rfl, hb1⟩
    have hs1 := hb1.size
    go_wp2_with fail
    refine (HH.out.put a0 len0 cap0 xs w1 HX.out HY.out ((HB.out.below hb1 (Nat.le_refl _)).wide fun b hb => by omega) (by omega) hlc).mono ?_
    rintro e w2 ⟨A2, c2, rfl, hc2, hB2, hb2⟩
    have HB2 := Lib.hid hB2
    have hb02 : Below w.heap.size w w2 := hb1.trans (hb2.mono hs1)
    have HSL : Hid ((sealB xs).length = len0 + 4) := by show (sealB xs).length = len0 + 4; rw [sealB_length, HX.out]
    have HSY := Lib.hid (sealB_bytes xs HY.out)
    clear hB2 hb1 hb2
    go_wp2_with fail
    refine (HH.out.put A2 (len0 + 4) c2 (sealB xs) w2 HSL.out HSY.out HB2.out (by omega) hc2).mono ?_
    rintro e w3 ⟨A3, c3, rfl, hc3, hB3, hb3⟩
    have HB3 := Lib.hid hB3
    have hb03 : Below w.heap.size w w3 := hb02.trans (hb3.mono hb02.size)
    clear hB3 hb3 hb02 HB2
    go_wp2_with fail
    refine (HH.out.yes A3 (len0 + 4) c3 (sealB xs) w3 HSL.out HSY.out HB3.out (by omega) hc3).mono ?_
    rintro e w4 ⟨A4, c4, rfl, hc4, hB4, hb4⟩
    have HB4 := Lib.hid hB4
    have hb04 : Below w.heap.size w w4 := hb03.trans (hb4.mono hb03.size)
    clear hB4 hb4 hb03 HB3
    go_wp2_with fail
    refine (HH.out.yes A4 len0 c4 xs w4 HX.out HY.out HB4.out (by omega) hc4).mono ?_
    rintro e w5 ⟨A5, c5, rfl, hc5, hB5, hb5⟩
    have HB5 := Lib.hid hB5
    have hb05 : Below w.heap.size w w5 := hb04.trans (hb5.mono hb04.size)
    clear hB5 hb5 hb04 HB4
    go_wp2_with fail
    refine (answers2 HH.out w5).mono ?_
    rintro e w6 ⟨rfl, hb6⟩
    have HB6 : Hid (Byt (· < w5.heap.size) w6 A5 xs) := HB5.out.below hb6 (Nat.le_refl _)
    have hb06 : Below w.heap.size w w6 := hb05.trans (hb6.mono hb05.size)
    clear hb6 HB5
    go_wp2_with fail
    refine (same_yes A5 a0 len0 len0 c5 cap0 xs xs w6 _ _ HX.out HX.out rfl HB6.out (HB.out.below hb06 (Nat.le_refl _)) (by omega)).mono ?_
    rintro e w7 ⟨rfl, q, rfl⟩
    go_wp2
    go_ret
    exact ⟨rfl, below_drewN hb06 q⟩
end Go.Proofs.Ytekhboepeajglaa
