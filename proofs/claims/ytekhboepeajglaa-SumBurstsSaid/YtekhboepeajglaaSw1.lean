/-
  The laws SumSeals, SumOpens and SumShort, walked: each returns true and turns nothing that was there.
  Conditions: that the three calls of package sum do what 'SumOK' says.
-/
import Derived.Test.YtekhboepeajglaaSok
namespace Go.Proofs.Ytekhboepeajglaa
open Go.RowKit

theorem sealB_length (xs : List Nat) : (sealB xs).length = xs.length + 4 := by simp [sealB, four]
theorem sealB_bytes (xs : List Nat) (h : ∀ x ∈ xs, x < 256) : ∀ x ∈ sealB xs, x < 256 := by
  intro x hx
  rcases List.mem_append.1 hx with h1 | h1
  · exact h x h1
  · exact four_bytes _ x h1

set_option maxRecDepth 100000 in
set_option maxHeartbeats 2000000 in
theorem sumSeals_walk (H : SumOK) (a0 : Option Addr) (len0 cap0 : Nat) (xs : List Nat) (w : World) (hx : xs.length = len0) (hb : ∀ x ∈ xs, x < 256) (hB : Byt (· < w.heap.size) w a0 xs) (hlc : len0 ≤ cap0) :
    Calls Try.prog 3 #[.slice a0 len0 cap0] w fun e w' => e = .returned (.bool true) ∧ Below w.heap.size w w' := by
  have HH := Lib.hid H
  have HX := Lib.hid hx
  have HY := Lib.hid hb
  have HB := Lib.hid hB
  clear H hx hb hB
  by_cases hbig : 3000 < len0
  · have t1 : decide ((3000 : Int) < (len0 : Int)) = true := by simp; omega
    go_enter Try.func3, Try.ntmps3
    go_wp2_with fail
    refine (answers2 HH.out w).mono ?_
    rintro e w1 ⟨rfl, hb1⟩
    go_wp2
    go_ret
    exact ⟨rfl, hb1⟩
  · have t1 : decide ((3000 : Int) < (len0 : Int)) = false := by simp; omega
    go_enter Try.func3, Try.ntmps3
    go_wp2_with (at_builtin
                 refine walk_append _ rfl (.tmp 10) (.tmp 11) rfl w.heap.size (.slice (some ⟨w.heap.size, 0, none⟩) 0 0) 0 [] rfl (own_empty w) a0 len0 cap0 xs rfl HX.out _ (HB.out.below ((Below.refl w.heap.size w).alloc (Nat.le_refl _) _) (Nat.le_refl _)) (by omega) (by simp) ?_
                 intro v1 w1 hown1 hg1 _
                 have hb1 : Below w.heap.size w w1 := ((Below.refl _ w).alloc (Nat.le_refl _) _).grown hg1 (by simp) (fun k hk => by simp [Value.ownBlock] at hk; omega)
                 rw [Nat.zero_add, List.nil_append] at hown1
                 obtain ⟨A1, c1, rfl, -, hlc1, -, hB1⟩ := own_slice hown1
                 have HB1 := Lib.hid hB1
                 clear hB1 hown1 hg1)
    refine (HH.out.put A1 len0 c1 xs w1 HX.out HY.out (HB1.out.wide fun b hb => hb.2) (by omega) hlc1).mono ?_
    rintro e w2 ⟨A2, c2, rfl, hc2, hB2, hb2⟩
    have HB2 := Lib.hid hB2
    have hb02 : Below w.heap.size w w2 := hb1.trans (hb2.mono hb1.size)
    clear hB2 hb2 HB1 hb1
    go_wp2_with fail
    refine (HH.out.yes A2 len0 c2 xs w2 HX.out HY.out HB2.out (by omega) hc2).mono ?_
    rintro e w3 ⟨A3, c3, rfl, hc3, hB3, hb3⟩
    have HB3 := Lib.hid hB3
    have HS3 : Hid (Byt (· < w2.heap.size) w3 A2 (sealB xs)) := HB2.out.below hb3 (Nat.le_refl _)
    have hb03 : Below w.heap.size w w3 := hb02.trans (hb3.mono hb02.size)
    have hs23 := hb3.size
    clear hB3 hb3 hb02 HB2
    go_wp2_with fail
    refine (answers2 HH.out w3).mono ?_
    rintro e w4 ⟨rfl, hb4⟩
    have HB4 : Hid (Byt (· < w3.heap.size) w4 A3 xs) := HB3.out.below hb4 (Nat.le_refl _)
    have HS4 : Hid (Byt (· < w2.heap.size) w4 A2 (sealB xs)) := HS3.out.below hb4 hs23
    have hb04 : Below w.heap.size w w4 := hb03.trans (hb4.mono hb03.size)
    have hs34 := hb4.size
    clear hb4 HB3 HS3
    go_wp2_with fail
    refine (HH.out.of a0 len0 cap0 xs w4 HX.out HY.out ((HB.out.below hb04 (Nat.le_refl _)).wide fun b hb => by have := hb04.size; omega) (by omega) hlc).mono ?_
    rintro e w5 ⟨rfl, hb5⟩
    have HB5 : Hid (Byt (· < w3.heap.size) w5 A3 xs) := HB4.out.below hb5 hs34
    have HS5 : Hid (Byt (· < w2.heap.size) w5 A2 (sealB xs)) := HS4.out.below hb5 (by omega)
    have hb05 : Below w.heap.size w w5 := hb04.trans (hb5.mono hb04.size)
    have hs45 := hb5.size
    clear hb5 HB4 HS4
    go_wp2_with fail
    refine (refSum_any a0 len0 cap0 xs w5 _ HX.out HY.out (HB.out.below hb05 (Nat.le_refl _)) (by omega)).mono ?_
    rintro e w6 ⟨rfl, rfl⟩
    go_wp2_with fail
    refine (refSeal_any a0 len0 cap0 xs w5 HX.out HY.out ((HB.out.below hb05 (Nat.le_refl _)).wide fun b hb => by have := hb05.size; omega) (by omega)).mono ?_
    rintro e w6 ⟨u6, rfl, hown6, hb6⟩
    obtain ⟨A6, c6, rfl, -, -, -, hB6⟩ := own_slice hown6
    have HB6 := Lib.hid hB6
    have HX6 : Hid (Byt (· < w3.heap.size) w6 A3 xs) := HB5.out.below hb6 (by omega)
    have HS6 : Hid (Byt (· < w2.heap.size) w6 A2 (sealB xs)) := HS5.out.below hb6 (by omega)
    have hb06 : Below w.heap.size w w6 := hb05.trans (hb6.mono hb05.size)
    have HSL : Hid ((sealB xs).length = len0 + 4) := by show (sealB xs).length = len0 + 4; rw [sealB_length, HX.out]
    clear hown6 hB6 hb6 HB5 HS5
    go_wp2_with fail
    refine (same_yes A2 A6 (len0 + 4) (len0 + 4) c2 c6 (sealB xs) (sealB xs) w6 _ _ HSL.out HSL.out rfl HS6.out HB6.out (by omega)).mono ?_
    rintro e w7 ⟨rfl, q, rfl⟩
    go_wp2_with fail
    refine (same_yes A3 a0 len0 len0 c3 cap0 xs xs (w6.drewN q) _ _ HX.out HX.out rfl (HX6.out.keep (w' := w6.drewN q) fun _ _ => rfl) ((HB.out.below hb06 (Nat.le_refl _)).keep (w' := w6.drewN q) fun _ _ => rfl) (by omega)).mono ?_
    rintro e w8 ⟨rfl, q2, rfl⟩
    go_wp2
    go_ret
    exact ⟨rfl, below_drewN hb06 (q + q2)⟩
end Go.Proofs.Ytekhboepeajglaa
