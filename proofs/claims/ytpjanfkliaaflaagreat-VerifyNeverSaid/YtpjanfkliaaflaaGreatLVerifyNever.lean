/-
  The law VerifyNever holds: where something is right, something is answered; the law's function returns true and turns nothing that was there.
  Conditions: none.
-/
import Derived.Test.YtpjanfkliaaflaaGreatQ01
import Derived.Test.YtpjanfkliaaflaaGreatQ02
import Derived.Test.YtpjanfkliaaflaaGreatQ07
import Derived.Test.YtpjanfkliaaflaaGreatQ30
import Derived.Test.YtpjanfkliaaflaaGreatQ46
import Derived.Test.YtpjanfkliaaflaaGreatQ47
import Derived.Test.YtpjanfkliaaflaaGreatQ48
namespace Go.Proofs.YtpjanfkliaaflaaGreat.verifyNever
open Go.ChangeShapes Go.WideShapes Go.ChangeAt Go.RowKit
set_option linter.unusedVariables false
set_option linter.unusedSimpArgs false

set_option maxRecDepth 100000 in
set_option maxHeartbeats 4000000 in
theorem walk (cs : List Value) (m : Mod) (A : Option Addr) (n c : Nat) (L : List (List Shape)) (w : World) (h : modL.R (· < w.heap.size) w cs m) (hz : Zm m) (hl : L.length = n) (hL : mapsL.R (· < w.heap.size) w [.slice A n c] L) :
    Calls Tryz.prog 5 #[vAgg cs, .slice A n c] w fun e w' => e = .returned (.bool true) ∧ Below w.heap.size w w' := by
  have AN := Lib.hid (fun w => answers9 w)
  obtain ⟨A', c', e1, hle, hcm, hsq⟩ := hL
  simp only [List.cons.injEq, Value.slice.injEq, and_true] at e1
  obtain ⟨rfl, -, rfl⟩ := e1
  have hn63 : n ≤ 9223372036854775807 := by unfold maxLen at hcm; omega
  have L0 : Hid (∀ w1, Below w.heap.size w w1 → Calls Tryz.prog 6 #[vAgg cs] w1 fun e w' => ∃ b : Bool, e = .returned (.bool b) ∧ Below w1.heap.size w1 w' ∧ (b = true → Small m)) := fun w1 hb => light_any cs m w1 (mod_at h hb) hz
  have CK : Hid (∀ w1, Below w.heap.size w w1 → Calls Tryz.prog 8 #[vAgg cs] w1 (Checked m w1)) := fun w1 hb => vcheck_any cs m w1 (mod_at h hb)
  have RR : Hid (Small m → ∀ w1, Below w.heap.size w w1 → Calls Tryz.prog 13 #[vAgg cs, .slice A n c] w1 (RRight m L w1)) := fun hs w1 hb => rright_any rrule_any cs m A n c L w1 (mod_at h hb) hs hl (sq_low hsq hb) hn63
  obtain ⟨A0, A1, A2, A3, A4, n0, n1, n2, n3, n4, c0, c1, c2, c3, c4, rfl⟩ := mod_shape h
  clear h hz hl hsq hle hcm
  simp only [vAgg] at L0 CK RR ⊢
  go_enter Tryz.func5, Tryz.ntmps5
  go_wp2_with fail
  refine calls_world fun W hW => ?_
  have HB0 : Hid (Below w.heap.size w W) := by show Below _ _ _; rw [hW]; exact below_new w _
  have HC0 : Hid (C5 w.heap.size (.slice A0 n0 c0) (.slice A1 n1 c1) (.slice A2 n2 c2) (.slice A3 n3 c3) (.slice A4 n4 c4) W) := by show C5 _ _ _ _ _ _ _; rw [hW]; simp [C5, go_sem]
  have hzW : w.heap.size < W.heap.size := by rw [hW]; simp
  clear hW
  have HCV : Hid (∀ v, Below W.heap.size W v → C5 w.heap.size (.slice A0 n0 c0) (.slice A1 n1 c1) (.slice A2 n2 c2) (.slice A3 n3 c3) (.slice A4 n4 c4) v) := fun v hb => HC0.out.below hb hzW
  have HBB : Hid (∀ v, Below W.heap.size W v → Below w.heap.size w v) := fun v hb => HB0.out.trans (hb.mono HB0.out.size)
  refine (L0.out W HB0.out).mono ?_
  rintro e V ⟨b, rfl, hb1, hsm⟩
  have HB1 := Lib.hid hb1
  obtain ⟨x0, x1, x2, x3, x4⟩ := HCV.out V hb1
  clear hb1
  cases b
  · go_wp2_with (first | (go_at_call 7; refine (AN.out _).mono ?_; rintro e w2 ⟨rfl, hb2⟩; have HB2 := Lib.hid (HB1.out.trans (hb2.mono HB1.out.size)); clear hb2))
    go_ret
    exact ⟨rfl, HBB.out _ HB2.out⟩
  by_cases h10 : 10 < n
  · have h10i : (10 : Int) < (n : Int) := by omega
    go_wp2_with (first | (go_at_call 7; refine (AN.out _).mono ?_; rintro e w2 ⟨rfl, hb2⟩; have HB2 := Lib.hid (HB1.out.trans (hb2.mono HB1.out.size)); clear hb2))
    go_ret
    exact ⟨rfl, HBB.out _ HB2.out⟩
  have h10i : ¬ (10 : Int) < (n : Int) := by omega
  have RR1 := Lib.hid (RR.out (hsm rfl))
  clear hsm RR h10
  go_wp2_with fail
  refine (RR1.out V (HBB.out _ HB1.out)).mono ?_
  rintro e w2 ⟨hb2, b, rfl, hbi⟩
  have HB2 := Lib.hid (HB1.out.trans (hb2.mono HB1.out.size))
  obtain ⟨y0, y1, y2, y3, y4⟩ := HCV.out w2 HB2.out
  clear hb2 x0 x1 x2 x3 x4
  cases b
  · go_wp2_with (first | (go_at_call 7; refine (AN.out _).mono ?_; rintro e w3 ⟨rfl, hb3⟩; have HB3 := Lib.hid (HB2.out.trans (hb3.mono HB2.out.size)); clear hb3))
    go_ret
    exact ⟨rfl, HBB.out _ HB3.out⟩
  obtain ⟨hm, hr⟩ := hbi.1 rfl
  have HM := Lib.hid hm
  have HRr := Lib.hid hr
  clear hbi hm hr
  go_wp2_with fail
  refine (CK.out w2 (HBB.out _ HB2.out)).mono ?_
  rintro e w3 ⟨hb3, ⟨hc, rfl⟩ | ⟨hc, hm, rfl⟩ | ⟨hc, hm, hN, -⟩ | ⟨hc, hm, U, L2, A2, c2, hL2, rfl, -, -, -⟩⟩
  · have := HM.out
    rw [mainB_not hc] at this
    cases this
  · rw [HM.out] at hm
    cases hm
  · exact absurd hN HRr.out.never
  · have HB3 := Lib.hid (HB2.out.trans (hb3.mono HB2.out.size))
    clear hb3 hc hm hL2
    go_wp2_with (first | (go_at_call 7; refine (AN.out _).mono ?_; rintro e w4 ⟨rfl, hb4⟩; have HB4 := Lib.hid (HB3.out.trans (hb4.mono HB3.out.size)); clear hb4))
    go_ret
    exact ⟨by simp, HBB.out _ HB4.out⟩

set_option maxRecDepth 100000 in
theorem lifted (os : Os) (started : os.Started) (H : Type) (enc : TypeId × Value → H) :
    ReturnsInHanded {} Tryz.checked os 5 .any (Rows.verifyNeverSpec.pre6 enc Tryz.prog Tryz.f5 Rows.verifyNeverRow.domain false) (Rows.verifyNeverSpec.post enc Tryz.prog Tryz.f5 false true false false) := by
  refine returnsInHanded_of_change_sized (C := Tryz.checked) own started (by kernel_rfl) Tryz.func5
    (ChangeSpec.witness6 (enc := enc) (C := Tryz.checked) false ⟨#[], #[.agg #[.slice none 0 0, .slice none 0 0, .slice none 0 0, .slice none 0 0, .slice none 0 0], .slice none 0 0], []⟩ 8 (by kernel_rfl) (by kernel_rfl) (by kernel_rfl) (by kernel_rfl)) ?_
  intro W base args ds gs before hval0 hW hcnd hwz _
  have hval : ∀ (j : Nat) t v, Tryz.f5.params[j]? = some t → args[j]? = some v → Value.okWide Tryz.prog W .any base t v := hval0
  have hW' := hW
  obtain ⟨p, q, hA0, hV, rfl, hfz, hnd⟩ := hW
  have hA : DataW.TrodAll enc Tryz.prog W 0 (fun _ => true) true Tryz.f5.params.toList args.toList ds p := hA0
  rw [Tryz.params5] at hA hval
  obtain ⟨v0, vs0, d0, ds0, p0, q0, hargs, rfl, rfl, h0, r0⟩ := trodAll_cons hA
  obtain ⟨v1, vs1, d1, ds1, p1, q1, rfl, rfl, rfl, h1, r1⟩ := trodAll_cons r0
  obtain ⟨rfl, rfl, rfl⟩ := trodAll_nil r1
  obtain rfl : args = #[v0, v1] := by cases args; simp_all
  obtain ⟨rfl, rfl⟩ := trodVars_none hV
  have lt0 : ∀ x ∈ p0, x.block < W.heap.size := by obtain ⟨m, hm⟩ := h0; exact DataW.trod_lt m _ _ _ hm
  have hwz0 : ∀ n ∈ d0.weights Tryz.prog 28, n ≤ reachBytes := fun n hn => by simpa using List.all_eq_true.1 hwz n (DataW.weights_mem_each (j := 0) (t := 28) (d := d0) (by first | rfl | kernel_rfl) rfl n hn)
  obtain ⟨cs0, m0, rfl, hm0, hz0⟩ := open_modZ h0 hwz0
  obtain ⟨a1, len1, cap1, rfl⟩ := okWide_slice Tryz.underlying31 (hval 1 31 v1 rfl rfl)
  have lt1 : ∀ x ∈ p1, x.block < W.heap.size := by obtain ⟨m, hm⟩ := h1; exact DataW.trod_lt m _ _ _ hm
  obtain ⟨L1, hx1, hM1⟩ := open_maps h1
  clear hA0 hval0
  refine (walk cs0 m0 a1 len1 cap1 L1 W hm0 hz0 hx1 hM1).mono fun e W' ⟨he, bel⟩ => ?_
  subst he
  exact ⟨_, rfl, _, _, _, [], _, [], hW', trodAll_mk1 (shut_bool Tryz.underlying4 _), (trodAll_cons_mk (Below.trod laidOut (by kernel_rfl) (of_decide_eq_true (by kernel_rfl)) h0 bel lt0) (trodAll_cons_mk (Below.trod laidOut (by kernel_rfl) (of_decide_eq_true (by kernel_rfl)) h1 bel lt1) trodAll_mk0)), rfl, bel.frame _, fun h => by cases h⟩

theorem over : Rows.verifyNeverRow.holds Tryz.pinned (OpenSpec.ofChange Rows.verifyNeverSpec) :=
  OpenClaim.holds_of_wide 5 Tryz.f5 rfl rfl rfl rfl rfl rfl rfl ⟨rfl, rfl, rfl, rfl, rfl⟩ rfl rfl rfl rfl rfl (by kernel_rfl) Tryz.func5 (by kernel_rfl)
    (of_decide_eq_true (by kernel_rfl)) (by unfold Func.isWrapper; first | (rw [if_pos (by decide +kernel)]; kernel_rfl) | (rw [if_neg (by decide +kernel)]; exact ⟨rfl, rfl⟩))
    (fun os started H enc _ => lifted os started H enc)

/-- The statement. -/
theorem proved : Rows.VerifyNeverSaid := over
end Go.Proofs.YtpjanfkliaaflaaGreat.verifyNever
