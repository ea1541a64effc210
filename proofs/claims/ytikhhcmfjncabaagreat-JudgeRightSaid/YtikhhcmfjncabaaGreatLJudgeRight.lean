/-
  The law JudgeRight holds: judge's Right says of any types and any module what the document's own Right says; the law's function returns true and turns nothing that was there.
  Conditions: none.
-/
import Derived.Test.YtikhhcmfjncabaaGreatQ01
import Derived.Test.YtikhhcmfjncabaaGreatQ02
import Derived.Test.YtikhhcmfjncabaaGreatQ10
import Derived.Test.YtikhhcmfjncabaaGreatQ23
import Derived.Test.YtikhhcmfjncabaaGreatQ42
import Derived.Test.YtikhhcmfjncabaaGreatQ46
import Derived.Test.YtikhhcmfjncabaaGreatQ47
import Derived.Lib.QuietBelow
import Derived.BigQuiet
namespace Go.Proofs.YtikhhcmfjncabaaGreat.judgeRight
open Go.ChangeShapes Go.WideShapes Go.ChangeAt Go.RowKit
set_option linter.unusedVariables false
set_option linter.unusedSimpArgs false

set_option maxRecDepth 100000 in
set_option maxHeartbeats 4000000 in
theorem walk (cs : List Value) (m : Mod) (A : Option Addr) (n c : Nat) (L : List (List Shape)) (w : World) (h : modL.R (· < w.heap.size) w cs m) (hz : Zm m) (hl : L.length = n) (hL : mapsL.R (· < w.heap.size) w [.slice A n c] L) :
    Calls Tryz.prog 3 #[vAgg cs, .slice A n c] w fun e w' => e = .returned (.bool true) ∧ Below w.heap.size w w' := by
  have AN := Lib.hid (fun w => answers10 w)
  obtain ⟨A', c', e1, hle, hcm, hsq⟩ := hL
  simp only [List.cons.injEq, Value.slice.injEq, and_true] at e1
  obtain ⟨rfl, -, rfl⟩ := e1
  have hn63 : n ≤ 9223372036854775807 := by unfold maxLen at hcm; omega
  have L0 : Hid (∀ w1, Below w.heap.size w w1 → Calls Tryz.prog 5 #[vAgg cs] w1 fun e w' => ∃ b : Bool, e = .returned (.bool b) ∧ Below w1.heap.size w1 w' ∧ (b = true → Small m)) := fun w1 hb => light_any cs m w1 (mod_at h hb) hz
  obtain ⟨b0, hb0⟩ : ∃ b0 : Bool, (b0 = true ↔ mainB m = true ∧ RightM m L) := ⟨@decide (mainB m = true ∧ RightM m L) (Classical.propDecidable _), by simp⟩
  have JR : Hid (∀ w1, Below w.heap.size w w1 → Calls Tryz.prog 7 #[vAgg cs, .slice A n c] w1 fun e w' => e = .returned (.bool b0) ∧ Below w1.heap.size w1 w') := fun w1 hb => rright_tells (jright_any cs m A n c L w1 (mod_at h hb) hl (sq_low hsq hb) hn63) hb0
  have RR : Hid (Small m → ∀ w1, Below w.heap.size w w1 → Calls Tryz.prog 8 #[vAgg cs, .slice A n c] w1 fun e w' => e = .returned (.bool b0) ∧ Below w1.heap.size w1 w') := fun hs w1 hb => rright_tells (rright_any rrule_any cs m A n c L w1 (mod_at h hb) hs hl (sq_low hsq hb) hn63) hb0
  have HS0 : Hid (∀ v, Below w.heap.size w v → Sq rowL (· < v.heap.size) v A L) := fun v hb => sq_low hsq hb
  have HLn := Lib.hid hl
  obtain ⟨A0, A1, A2, A3, A4, n0, n1, n2, n3, n4, c0, c1, c2, c3, c4, rfl⟩ := mod_shape h
  clear h hz hl hsq hle hcm hb0
  simp only [vAgg] at L0 JR RR ⊢
  go_enter Tryz.func3, Tryz.ntmps3
  go_wp2_with fail
  refine calls_world fun W hW => ?_
  have HB0 : Hid (Below w.heap.size w W) := by show Below _ _ _; rw [hW]; exact below_new w _
  have HC0 : Hid (C5 w.heap.size (.slice A0 n0 c0) (.slice A1 n1 c1) (.slice A2 n2 c2) (.slice A3 n3 c3) (.slice A4 n4 c4) W) := by show C5 _ _ _ _ _ _ _; rw [hW]; simp [C5, go_sem]
  have hzW : w.heap.size < W.heap.size := by rw [hW]; simp
  clear hW
  have HCV : Hid (∀ v, Below W.heap.size W v → C5 w.heap.size (.slice A0 n0 c0) (.slice A1 n1 c1) (.slice A2 n2 c2) (.slice A3 n3 c3) (.slice A4 n4 c4) v) := fun v hb => HC0.out.below hb hzW
  have HBB : Hid (∀ v, Below W.heap.size W v → Below w.heap.size w v) := fun v hb => HB0.out.trans (hb.mono HB0.out.size)
  refine (L0.out W HB0.out).mono ?_
  rintro e V ⟨b, rfl, hb1, hsm⟩
  have HB1 := Lib.hid hb1
  obtain ⟨x0, x1, x2, x3, x4⟩ := HCV.out V hb1
  clear hb1
  cases b
  · go_wp2_with (first | (go_at_call 6; refine (AN.out _).mono ?_; rintro e w2 ⟨rfl, hb2⟩; have HB2 := Lib.hid (HB1.out.trans (hb2.mono HB1.out.size)); clear hb2))
    go_ret
    exact ⟨rfl, HBB.out _ HB2.out⟩
  by_cases h10 : 10 < n
  · have h10i : (10 : Int) < (n : Int) := by omega
    go_wp2_with (first | (go_at_call 6; refine (AN.out _).mono ?_; rintro e w2 ⟨rfl, hb2⟩; have HB2 := Lib.hid (HB1.out.trans (hb2.mono HB1.out.size)); clear hb2))
    go_ret
    exact ⟨rfl, HBB.out _ HB2.out⟩
  have h10i : ¬ (10 : Int) < (n : Int) := by omega
  have RR1 := Lib.hid (RR.out (hsm rfl))
  clear hsm RR h10 x0 x1 x2 x3 x4
  go_wp2_with fail
  go_loopw [5] (fun i wr => ∃ k : Nat, k ≤ n ∧ i = .int .i64 (k : Nat) ∧ Below W.heap.size W wr) (fun i _ => n - (intOf i).toNat)
  case atStart => exact ⟨0, Nat.zero_le _, rfl, HB1.out⟩
  case round =>
    obtain ⟨wf, eW⟩ : ∃ wf, wf = wr := ⟨_, rfl⟩
    subst eW
    obtain ⟨k, hk, rfl, hbf⟩ := hrel
    have HBf := Lib.hid hbf
    have hsf := hbf.size
    clear HB1 hbf
    by_cases hlt : k < n
    · obtain ⟨l, hx⟩ : ∃ l, L[k]? = some l := ⟨L[k]'(by rw [HLn.out]; exact hlt), List.getElem?_eq_getElem _⟩
      obtain ⟨aL, D, dl, rfl, -, hr0, -, -, -⟩ := row_at (HS0.out _ (HBB.out _ HBf.out)) hx
      obtain ⟨ul, hul⟩ : ∃ ul, l.length = ul := ⟨_, rfl⟩
      rw [hul] at hr0
      have k0 : (0 : Int) ≤ (k : Int) := by omega
      have k1 : (k : Int) < (n : Int) := by omega
      clear hx hul
      by_cases h2 : 200 < ul
      · have h2i : (200 : Int) < (ul : Int) := by omega
        clear h2
        go_wp2_with (first | (go_at_call 6; refine (AN.out _).mono ?_; rintro e w2 ⟨rfl, hb2⟩; have HB2 := Lib.hid (HBf.out.trans (hb2.mono HBf.out.size)); clear hb2))
        go_ret
        exact ⟨rfl, HBB.out _ HB2.out⟩
      · have h2i : ¬ (200 : Int) < (ul : Int) := by omega
        clear h2
        go_wp2_with fail
        exact ⟨⟨k + 1, by omega, by simp, HBf.out⟩, by simp [intOf]; omega⟩
    · obtain rfl : k = n := by omega
      obtain ⟨z0, z1, z2, z3, z4⟩ := HCV.out wf HBf.out
      have r0 := cell_regrown z0
      have r1 := cell_regrown z1
      have r2 := cell_regrown z2
      have r3 := cell_regrown z3
      have r4 := cell_regrown z4
      have HBR : Hid (∀ dq osq, Below w.heap.size w (Go.Sort.grow (redrawn wf dq) osq)) := fun dq osq => HBB.out _ (HBf.out.trans ((below_regrown wf dq osq).mono hsf))
      cases b0
      all_goals
        go_wp2_with fail
        refine wp_region_quiet_below (by kernel_rfl) (by kernel_rfl) ?_
        repeat (quiet_step (first | with_reducible exact Calls.regrown_of (AN.out _) | with_reducible exact Calls.regrown_of (JR.out _ (HBR.out _ _)) | with_reducible exact Calls.regrown_of (RR1.out _ (HBR.out _ _))))
        refine wpQuiet_nil ?_
        intro _ hw'
        obtain ⟨⟨dq, osq⟩, hw''⟩ := hw'
        subst hw''
        have HX2 := Lib.hid (HBR.out dq osq)
        go_wp2_with fail
        go_ret
        exact ⟨by simp, HX2.out⟩

set_option maxRecDepth 100000 in
theorem lifted (os : Os) (started : os.Started) (H : Type) (enc : TypeId × Value → H) :
    ReturnsInHanded {} Tryz.checked os 3 .any (Rows.judgeRightSpec.pre6 enc Tryz.prog Tryz.f3 Rows.judgeRightRow.domain false) (Rows.judgeRightSpec.post enc Tryz.prog Tryz.f3 false true false false) := by
  refine returnsInHanded_of_change_sized (C := Tryz.checked) own started (by kernel_rfl) Tryz.func3
    (ChangeSpec.witness6 (enc := enc) (C := Tryz.checked) false ⟨#[], #[.agg #[.slice none 0 0, .slice none 0 0, .slice none 0 0, .slice none 0 0, .slice none 0 0], .slice none 0 0], []⟩ 8 (by kernel_rfl) (by kernel_rfl) (by kernel_rfl) (by kernel_rfl)) ?_
  intro W base args ds gs before hval0 hW hcnd hwz _
  have hval : ∀ (j : Nat) t v, Tryz.f3.params[j]? = some t → args[j]? = some v → Value.okWide Tryz.prog W .any base t v := hval0
  have hW' := hW
  obtain ⟨p, q, hA0, hV, rfl, hfz, hnd⟩ := hW
  have hA : DataW.TrodAll enc Tryz.prog W 0 (fun _ => true) true Tryz.f3.params.toList args.toList ds p := hA0
  rw [Tryz.params3] at hA hval
  obtain ⟨v0, vs0, d0, ds0, p0, q0, hargs, rfl, rfl, h0, r0⟩ := trodAll_cons hA
  obtain ⟨v1, vs1, d1, ds1, p1, q1, rfl, rfl, rfl, h1, r1⟩ := trodAll_cons r0
  obtain ⟨rfl, rfl, rfl⟩ := trodAll_nil r1
  obtain rfl : args = #[v0, v1] := by cases args; simp_all
  obtain ⟨rfl, rfl⟩ := trodVars_none hV
  have lt0 : ∀ x ∈ p0, x.block < W.heap.size := by obtain ⟨m, hm⟩ := h0; exact DataW.trod_lt m _ _ _ hm
  have hwz0 : ∀ n ∈ d0.weights Tryz.prog 28, n ≤ reachBytes := fun n hn => by simpa using List.all_eq_true.1 hwz n (DataW.weights_mem_each (j := 0) (t := 28) (d := d0) (by first | rfl | kernel_rfl) rfl n hn)
  obtain ⟨cs0, m0, rfl, hm0, hz0⟩ := open_modZ h0 hwz0
  obtain ⟨a1, len1, cap1, rfl⟩ := okWide_slice Tryz.underlying29 (hval 1 29 v1 rfl rfl)
  have lt1 : ∀ x ∈ p1, x.block < W.heap.size := by obtain ⟨m, hm⟩ := h1; exact DataW.trod_lt m _ _ _ hm
  obtain ⟨L1, hx1, hM1⟩ := open_maps h1
  clear hA0 hval0
  refine (walk cs0 m0 a1 len1 cap1 L1 W hm0 hz0 hx1 hM1).mono fun e W' ⟨he, bel⟩ => ?_
  subst he
  exact ⟨_, rfl, _, _, _, [], _, [], hW', trodAll_mk1 (shut_bool Tryz.underlying4 _), (trodAll_cons_mk (Below.trod laidOut (by kernel_rfl) (of_decide_eq_true (by kernel_rfl)) h0 bel lt0) (trodAll_cons_mk (Below.trod laidOut (by kernel_rfl) (of_decide_eq_true (by kernel_rfl)) h1 bel lt1) trodAll_mk0)), rfl, bel.frame _, fun h => by cases h⟩

theorem over : Rows.judgeRightRow.holds Tryz.pinned (OpenSpec.ofChange Rows.judgeRightSpec) :=
  OpenClaim.holds_of_wide 3 Tryz.f3 rfl rfl rfl rfl rfl rfl rfl ⟨rfl, rfl, rfl, rfl, rfl⟩ rfl rfl rfl rfl rfl (by kernel_rfl) Tryz.func3 (by kernel_rfl)
    (of_decide_eq_true (by kernel_rfl)) (by unfold Func.isWrapper; first | (rw [if_pos (by decide +kernel)]; kernel_rfl) | (rw [if_neg (by decide +kernel)]; exact ⟨rfl, rfl⟩))
    (fun os started H enc _ => lifted os started H enc)

/-- The statement. -/
theorem proved : Rows.JudgeRightSaid := over
end Go.Proofs.YtikhhcmfjncabaaGreat.judgeRight
