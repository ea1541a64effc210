/-
  The law SaneChecks holds: whether any module hangs together, and can begin, or why not; the law's function returns true and turns nothing that was there.
  Conditions: none.
-/
import Derived.Test.YtpgfbnilnoopoaaQ01
import Derived.Test.YtpgfbnilnoopoaaQ04
import Derived.Test.YtpgfbnilnoopoaaQ11
import Derived.Test.YtpgfbnilnoopoaaQ15
import Derived.Lib.QuietBelow
namespace Go.Proofs.Ytpgfbnilnoopoaa.saneChecks
open Go.ChangeShapes Go.WideShapes Go.ChangeAt Go.RowKit
set_option linter.unusedVariables false
set_option linter.unusedSimpArgs false

set_option maxRecDepth 100000 in
set_option maxHeartbeats 4000000 in
theorem walk (cs : List Value) (m : Mod) (w : World) (h : modL.R (· < w.heap.size) w cs m) (hz : Zm m) :
    Calls Try.prog 3 #[vAgg cs] w fun e w' => e = .returned (.bool true) ∧ Below w.heap.size w w' := by
  have AN := Lib.hid (fun w => answers7 w)
  have L0 : Hid (∀ w1, Below w.heap.size w w1 → Calls Try.prog 7 #[vAgg cs] w1 fun e w' => ∃ b : Bool, e = .returned (.bool b) ∧ Below w1.heap.size w1 w' ∧ (b = true → Small m)) := fun w1 hb => light_any cs m w1 (mod_at h hb) hz
  have S0 : Hid (∀ w1, Below w.heap.size w w1 → Calls Try.prog 9 #[vAgg cs] w1 fun e w' => e = .returned (.int .i64 (checkN m)) ∧ Below w1.heap.size w1 w') := fun w1 hb => check_any cs m w1 (mod_at h hb)
  have S1 : Hid (Small m → ∀ w1, Below w.heap.size w w1 → Calls Try.prog 10 #[vAgg cs] w1 fun e w' => e = .returned (.int .i64 (checkN m)) ∧ Below w1.heap.size w1 w') := fun hs w1 hb => rcheck_any cs m w1 (mod_at h hb) hs
  have S2 : Hid (∀ w1, Below w.heap.size w w1 → Calls Try.prog 11 #[vAgg cs] w1 fun e w' => e = .returned (.bool (mainB m)) ∧ Below w1.heap.size w1 w') := fun w1 hb => main_any cs m w1 (mod_at h hb)
  have S3 : Hid (Small m → ∀ w1, Below w.heap.size w w1 → Calls Try.prog 12 #[vAgg cs] w1 fun e w' => e = .returned (.bool (mainB m)) ∧ Below w1.heap.size w1 w') := fun hs w1 hb => rmain_any cs m w1 (mod_at h hb) hs
  obtain ⟨A0, A1, A2, A3, A4, n0, n1, n2, n3, n4, c0, c1, c2, c3, c4, rfl⟩ := mod_shape h
  clear h hz
  simp only [vAgg] at L0 S0 S1 S2 S3 ⊢
  generalize checkN m = cn at *
  generalize mainB m = mb at *
  go_enter Try.func3, Try.ntmps3
  go_wp2_with fail
  refine calls_world fun W hW => ?_
  have HB0 : Hid (Below w.heap.size w W) := by show Below _ _ _; rw [hW]; exact (Below.refl _ _).alloc (Nat.le_refl _) _
  have HC0 : Hid (C5 w.heap.size (.slice A0 n0 c0) (.slice A1 n1 c1) (.slice A2 n2 c2) (.slice A3 n3 c3) (.slice A4 n4 c4) W) := by show C5 _ _ _ _ _ _ _; rw [hW]; simp [C5, go_sem]
  have hz : w.heap.size < W.heap.size := by rw [hW]; simp
  clear hW
  refine (L0.out W HB0.out).mono ?_
  rintro e V ⟨b, rfl, hb1, hsm⟩
  have HB1 := Lib.hid (HB0.out.trans (hb1.mono HB0.out.size))
  obtain ⟨x0, x1, x2, x3, x4⟩ := HC0.out.below hb1 hz
  clear hb1
  cases b
  · go_wp2_with (first | (go_at_call 8; refine (AN.out _).mono ?_; rintro e w2 ⟨rfl, hb2⟩; have HB2 := Lib.hid (HB1.out.trans (hb2.mono HB1.out.size)); clear hb2))
    go_ret
    exact ⟨rfl, HB2.out⟩
  have R1 := Lib.hid (S1.out (hsm rfl))
  have R3 := Lib.hid (S3.out (hsm rfl))
  clear hsm S1 S3
  have HBR : Hid (∀ dq osq, Below w.heap.size w (Go.Sort.grow (redrawn V dq) osq)) := fun dq osq => HB1.out.trans ((below_regrown V dq osq).mono HB1.out.size)
  have k0 := cell_regrown x0
  have k1 := cell_regrown x1
  have k2 := cell_regrown x2
  have k3 := cell_regrown x3
  have k4 := cell_regrown x4
  clear x0 x1 x2 x3 x4
  go_wp2_with fail
  refine wp_region_quiet_below (by kernel_rfl) (by kernel_rfl) ?_
  repeat (quiet_step (first | with_reducible exact Calls.regrown_of (AN.out _) | with_reducible exact Calls.regrown_of (S0.out _ (HBR.out _ _)) | with_reducible exact Calls.regrown_of (R1.out _ (HBR.out _ _)) | with_reducible exact Calls.regrown_of (S2.out _ (HBR.out _ _)) | with_reducible exact Calls.regrown_of (R3.out _ (HBR.out _ _))))
  refine wpQuiet_nil ?_
  intro _ hw'
  obtain ⟨⟨dq, osq⟩, hw''⟩ := hw'
  subst hw''
  go_wp2_with fail
  go_ret
  exact ⟨by simp, HBR.out dq osq⟩

set_option maxRecDepth 100000 in
theorem lifted (os : Os) (started : os.Started) (H : Type) (enc : TypeId × Value → H) :
    ReturnsInHanded {} Try.checked os 3 .any (Rows.saneChecksSpec.pre6 enc Try.prog Try.f3 Rows.saneChecksRow.domain false) (Rows.saneChecksSpec.post enc Try.prog Try.f3 false true false false) := by
  refine returnsInHanded_of_change_sized (C := Try.checked) own started (by kernel_rfl) Try.func3
    (ChangeSpec.witness6 (enc := enc) (C := Try.checked) false ⟨#[], #[.agg #[.slice none 0 0, .slice none 0 0, .slice none 0 0, .slice none 0 0, .slice none 0 0]], []⟩ 8 (by kernel_rfl) (by kernel_rfl) (by kernel_rfl) (by kernel_rfl)) ?_
  intro W base args ds gs before hval0 hW hcnd hwz _
  have hval : ∀ (j : Nat) t v, Try.f3.params[j]? = some t → args[j]? = some v → Value.okWide Try.prog W .any base t v := hval0
  have hW' := hW
  obtain ⟨p, q, hA0, hV, rfl, hfz, hnd⟩ := hW
  have hA : DataW.TrodAll enc Try.prog W 0 (fun _ => true) true Try.f3.params.toList args.toList ds p := hA0
  rw [Try.params3] at hA hval
  obtain ⟨v0, vs0, d0, ds0, p0, q0, hargs, rfl, rfl, h0, r0⟩ := trodAll_cons hA
  obtain ⟨rfl, rfl, rfl⟩ := trodAll_nil r0
  obtain rfl : args = #[v0] := by cases args; simp_all
  obtain ⟨rfl, rfl⟩ := trodVars_none hV
  have lt0 : ∀ x ∈ p0, x.block < W.heap.size := by obtain ⟨m, hm⟩ := h0; exact DataW.trod_lt m _ _ _ hm
  have hwz0 : ∀ n ∈ d0.weights Try.prog 28, n ≤ reachBytes := fun n hn => by simpa using List.all_eq_true.1 hwz n (DataW.weights_mem_each (j := 0) (t := 28) (d := d0) (by first | rfl | kernel_rfl) rfl n hn)
  obtain ⟨cs0, m0, rfl, hm0, hz0⟩ := open_modZ h0 hwz0
  clear hA0 hval0
  refine (walk cs0 m0 W hm0 hz0).mono fun e W' ⟨he, bel⟩ => ?_
  subst he
  exact ⟨_, rfl, _, _, _, [], _, [], hW', trodAll_mk1 (shut_bool Try.underlying4 _), (trodAll_cons_mk (Below.trod laidOut (by kernel_rfl) (of_decide_eq_true (by kernel_rfl)) h0 bel lt0) trodAll_mk0), rfl, bel.frame _, fun h => by cases h⟩

theorem over : Rows.saneChecksRow.holds Try.pinned (OpenSpec.ofChange Rows.saneChecksSpec) :=
  OpenClaim.holds_of_wide 3 Try.f3 rfl rfl rfl rfl rfl rfl rfl ⟨rfl, rfl, rfl, rfl, rfl⟩ rfl rfl rfl rfl rfl (by kernel_rfl) Try.func3 (by kernel_rfl)
    (of_decide_eq_true (by kernel_rfl)) (by unfold Func.isWrapper; first | (rw [if_pos (by decide +kernel)]; kernel_rfl) | (rw [if_neg (by decide +kernel)]; exact ⟨rfl, rfl⟩))
    (fun os started H enc _ => lifted os started H enc)

/-- The statement. -/
theorem proved : Rows.SaneChecksSaid := over
end Go.Proofs.Ytpgfbnilnoopoaa.saneChecks
