/-
  The law ModuleSame holds: which modules are the same; the law's function returns true and turns nothing that was there.
  Conditions: none.
-/
import Derived.Test.YtngjnkkdhjholaaQ01
import Derived.Test.YtngjnkkdhjholaaQ03
import Derived.Test.YtngjnkkdhjholaaQ19
import Derived.Test.YtngjnkkdhjholaaQ20
import Derived.Lib.QuietBelow
namespace Go.Proofs.Ytngjnkkdhjholaa.moduleSame
open Go.ChangeShapes Go.WideShapes Go.ChangeAt Go.RowKit
set_option linter.unusedVariables false
set_option linter.unusedSimpArgs false

theorem mod_shape {S : Nat → Prop} {w : World} {cs : List Value} {m : Mod} (h : modL.R S w cs m) : ∃ A0 A1 A2 A3 A4 n0 n1 n2 n3 n4 c0 c1 c2 c3 c4, cs = [.slice A0 n0 c0, .slice A1 n1 c1, .slice A2 n2 c2, .slice A3 n3 c3, .slice A4 n4 c4] := by
  obtain ⟨_, _, _, _, _, rfl, ⟨A0, d0, e0, -⟩, ⟨A1, d1, e1, -⟩, ⟨A2, d2, e2, -⟩, ⟨A3, d3, e3, -⟩, ⟨A4, d4, e4, -⟩⟩ := h
  simp only [List.cons.injEq, and_true] at e0 e1 e2 e3 e4
  subst e0 e1 e2 e3 e4
  exact ⟨A0, A1, A2, A3, A4, _, _, _, _, _, d0, d1, d2, d3, d4, rfl⟩

set_option maxRecDepth 100000 in
set_option maxHeartbeats 4000000 in
theorem walk (cs0 cs1 : List Value) (m m' : Mod) (w : World) (h0 : modL.R (· < w.heap.size) w cs0 m) (h1 : modL.R (· < w.heap.size) w cs1 m') :
    Calls Try.prog 3 #[vAgg cs0, vAgg cs1] w fun e w' => e = .returned (.bool true) ∧ Below w.heap.size w w' := by
  have AN := Lib.hid (fun w => answers6 w)
  have L0 : Hid (∀ w1, Below w.heap.size w w1 → Calls Try.prog 5 #[vAgg cs0] w1 fun e w' => ∃ b : Bool, e = .returned (.bool b) ∧ Below w1.heap.size w1 w') := fun w1 hb => light_some cs0 m w1 (mod_at h0 hb)
  have L1 : Hid (∀ w1, Below w.heap.size w w1 → Calls Try.prog 5 #[vAgg cs1] w1 fun e w' => ∃ b : Bool, e = .returned (.bool b) ∧ Below w1.heap.size w1 w') := fun w1 hb => light_some cs1 m' w1 (mod_at h1 hb)
  have S0 : Hid (∀ w1, Below w.heap.size w w1 → Calls Try.prog 7 #[vAgg cs0, vAgg cs1] w1 fun e w' => e = .returned (.bool (eqB m m')) ∧ Below w1.heap.size w1 w') := fun w1 hb => same_mod cs0 cs1 m m' w1 (mod_at h0 hb) (mod_at h1 hb)
  have S1 : Hid (∀ w1, Below w.heap.size w w1 → Calls Try.prog 8 #[vAgg cs0, vAgg cs1] w1 fun e w' => e = .returned (.bool (eqB m m')) ∧ Below w1.heap.size w1 w') := fun w1 hb => refSame_any cs0 cs1 m m' w1 (mod_at h0 hb) (mod_at h1 hb)
  have S2 : Hid (∀ w1, Below w.heap.size w w1 → Calls Try.prog 7 #[vAgg cs0, vAgg cs0] w1 fun e w' => e = .returned (.bool true) ∧ Below w1.heap.size w1 w') := fun w1 hb => by
    have := same_mod cs0 cs0 m m w1 (mod_at h0 hb) (mod_at h0 hb)
    rw [eqB_self] at this
    exact this
  obtain ⟨A0, A1, A2, A3, A4, n0, n1, n2, n3, n4, c0, c1, c2, c3, c4, rfl⟩ := mod_shape h0
  obtain ⟨B0, B1, B2, B3, B4, q0, q1, q2, q3, q4, d0, d1, d2, d3, d4, rfl⟩ := mod_shape h1
  clear h0 h1
  simp only [vAgg] at L0 L1 S0 S1 S2 ⊢
  generalize eqB m m' = b0 at *
  go_enter Try.func3, Try.ntmps3
  go_wp2_with fail
  refine calls_world fun W hW => ?_
  have HB0 : Hid (Below w.heap.size w W) := by show Below _ _ _; rw [hW]; exact ((Below.refl _ _).alloc (Nat.le_refl _) _).alloc (by simp) _
  have HC0 : Hid (C5 w.heap.size (.slice A0 n0 c0) (.slice A1 n1 c1) (.slice A2 n2 c2) (.slice A3 n3 c3) (.slice A4 n4 c4) W ∧ C5 (w.heap.size + 1) (.slice B0 q0 d0) (.slice B1 q1 d1) (.slice B2 q2 d2) (.slice B3 q3 d3) (.slice B4 q4 d4) W) := by show _ ∧ _; rw [hW]; simp [C5, go_sem]
  have hz : w.heap.size + 1 < W.heap.size := by rw [hW]; simp
  clear hW
  refine (L0.out W HB0.out).mono ?_
  rintro e w1 ⟨b, rfl, hb1⟩
  have HB1 := Lib.hid (HB0.out.trans (hb1.mono HB0.out.size))
  have HC1 := Lib.hid (And.intro (HC0.out.1.below hb1 (by omega)) (HC0.out.2.below hb1 hz))
  have hz1 : w.heap.size + 1 < w1.heap.size := Nat.lt_of_lt_of_le hz hb1.size
  obtain ⟨⟨x0, x1, x2, x3, x4⟩, y0, y1, y2, y3, y4⟩ := HC1.out
  clear hb1
  cases b
  · go_wp2_with (first | (go_at_call 6; refine (AN.out _).mono ?_; rintro e w2 ⟨rfl, hb2⟩; have HB2 := Lib.hid (HB1.out.trans (hb2.mono HB1.out.size)); clear hb2))
    go_ret
    exact ⟨rfl, HB2.out⟩
  go_wp2_with fail
  refine (L1.out w1 HB1.out).mono ?_
  rintro e w2 ⟨b, rfl, hb2⟩
  have HB2 := Lib.hid (HB1.out.trans (hb2.mono HB1.out.size))
  have HC2 := Lib.hid (And.intro (HC1.out.1.below hb2 (by omega)) (HC1.out.2.below hb2 hz1))
  clear hb2 x0 x1 x2 x3 x4 y0 y1 y2 y3 y4
  cases b
  · go_wp2_with (first | (go_at_call 6; refine (AN.out _).mono ?_; rintro e w3 ⟨rfl, hb3⟩; have HB3 := Lib.hid (HB2.out.trans (hb3.mono HB2.out.size)); clear hb3))
    go_ret
    exact ⟨rfl, HB3.out⟩
  go_wp2_with fail
  refine wp_world fun V hV => ?_
  have HBV : Hid (Below w.heap.size w V) := by show Below _ _ _; rw [hV]; exact HB2.out
  have HCV : Hid (C5 w.heap.size (.slice A0 n0 c0) (.slice A1 n1 c1) (.slice A2 n2 c2) (.slice A3 n3 c3) (.slice A4 n4 c4) V ∧ C5 (w.heap.size + 1) (.slice B0 q0 d0) (.slice B1 q1 d1) (.slice B2 q2 d2) (.slice B3 q3 d3) (.slice B4 q4 d4) V) := by show _ ∧ _; rw [hV]; exact HC2.out
  clear hV
  have HBR : Hid (∀ dq osq, Below w.heap.size w (Go.Sort.grow (redrawn V dq) osq)) := fun dq osq => HBV.out.trans ((below_regrown V dq osq).mono HBV.out.size)
  obtain ⟨⟨x0, x1, x2, x3, x4⟩, y0, y1, y2, y3, y4⟩ := HCV.out
  have k0 := cell_regrown x0
  have k1 := cell_regrown x1
  have k2 := cell_regrown x2
  have k3 := cell_regrown x3
  have k4 := cell_regrown x4
  have l0 := cell_regrown y0
  have l1 := cell_regrown y1
  have l2 := cell_regrown y2
  have l3 := cell_regrown y3
  have l4 := cell_regrown y4
  clear x0 x1 x2 x3 x4 y0 y1 y2 y3 y4
  refine wp_region_quiet_below (by kernel_rfl) (by kernel_rfl) ?_
  repeat (quiet_step (first | with_reducible exact Calls.regrown_of (AN.out _) | with_reducible exact Calls.regrown_of (S0.out _ (HBR.out _ _)) | with_reducible exact Calls.regrown_of (S1.out _ (HBR.out _ _)) | with_reducible exact Calls.regrown_of (S2.out _ (HBR.out _ _))))
  refine wpQuiet_nil ?_
  intro _ hw'
  obtain ⟨⟨dq, osq⟩, hw''⟩ := hw'
  subst hw''
  go_wp2_with fail
  go_ret
  exact ⟨by simp, HBR.out dq osq⟩

set_option maxRecDepth 100000 in
theorem lifted (os : Os) (started : os.Started) (H : Type) (enc : TypeId × Value → H) :
    ReturnsInHanded {} Try.checked os 3 .any (Rows.moduleSameSpec.pre6 enc Try.prog Try.f3 Rows.moduleSameRow.domain false) (Rows.moduleSameSpec.post enc Try.prog Try.f3 false true false false) := by
  refine returnsInHanded_of_change (C := Try.checked) own started (by kernel_rfl) Try.func3
    (ChangeSpec.witness6 (enc := enc) (C := Try.checked) false ⟨#[], #[.agg #[.slice none 0 0, .slice none 0 0, .slice none 0 0, .slice none 0 0, .slice none 0 0], .agg #[.slice none 0 0, .slice none 0 0, .slice none 0 0, .slice none 0 0, .slice none 0 0]], []⟩ 8 (by kernel_rfl) (by kernel_rfl) (by kernel_rfl) (by kernel_rfl)) ?_
  intro W base args ds gs before hval0 hW hcnd _
  have hval : ∀ (j : Nat) t v, Try.f3.params[j]? = some t → args[j]? = some v → Value.okWide Try.prog W .any base t v := hval0
  have hW' := hW
  obtain ⟨p, q, hA0, hV, rfl, hfz, hnd⟩ := hW
  have hA : DataW.TrodAll enc Try.prog W 0 (fun _ => true) true Try.f3.params.toList args.toList ds p := hA0
  rw [Try.params3] at hA hval
  obtain ⟨v0, vs0, d0, ds0, p0, q0, hargs, rfl, rfl, h0, r0⟩ := trodAll_cons hA
  obtain ⟨v1, vs1, d1, ds1, p1, q1, rfl, rfl, rfl, h1, r1⟩ := trodAll_cons r0
  obtain ⟨rfl, rfl, rfl⟩ := trodAll_nil r1
  obtain rfl : args = #[v0, v1] := by cases args; simp_all
  obtain ⟨rfl, rfl⟩ := trodVars_none hV
  have lt0 : ∀ x ∈ p0, x.block < W.heap.size := by obtain ⟨m, hm⟩ := h0; exact DataW.trod_lt m _ _ _ hm
  obtain ⟨cs0, m0, rfl, hm0⟩ := open_mod h0
  have lt1 : ∀ x ∈ p1, x.block < W.heap.size := by obtain ⟨m, hm⟩ := h1; exact DataW.trod_lt m _ _ _ hm
  obtain ⟨cs1, m1, rfl, hm1⟩ := open_mod h1
  clear hA0 hval0
  refine (walk cs0 cs1 m0 m1 W hm0 hm1).mono fun e W' ⟨he, bel⟩ => ?_
  subst he
  exact ⟨_, rfl, _, _, _, [], _, [], hW', trodAll_mk1 (shut_bool Try.underlying4 _), (trodAll_cons_mk (Below.trod laidOut (by kernel_rfl) (of_decide_eq_true (by kernel_rfl)) h0 bel lt0) (trodAll_cons_mk (Below.trod laidOut (by kernel_rfl) (of_decide_eq_true (by kernel_rfl)) h1 bel lt1) trodAll_mk0)), rfl, bel.frame _, fun h => by cases h⟩

theorem over : Rows.moduleSameRow.holds Try.pinned (OpenSpec.ofChange Rows.moduleSameSpec) :=
  OpenClaim.holds_of_wide 3 Try.f3 rfl rfl rfl rfl rfl rfl rfl ⟨rfl, rfl, rfl, rfl, rfl⟩ rfl rfl rfl rfl rfl (by kernel_rfl) Try.func3 (by kernel_rfl)
    (of_decide_eq_true (by kernel_rfl)) (by unfold Func.isWrapper; first | (rw [if_pos (by decide +kernel)]; kernel_rfl) | (rw [if_neg (by decide +kernel)]; exact ⟨rfl, rfl⟩))
    (fun os started H enc _ => lifted os started H enc)

/-- The statement. -/
theorem proved : Rows.ModuleSameSaid := over
end Go.Proofs.Ytngjnkkdhjholaa.moduleSame
