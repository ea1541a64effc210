/-
  The law KindLeast holds: what two have in common is what both do for, and the least such one; it does not matter which comes first; the law's function returns true and turns nothing that was there.
  Conditions: none.
-/
import Derived.Test.YtcogjdpgnahjiaaOpn
import Derived.Test.YtcogjdpgnahjiaaOty
import Derived.Test.YtcogjdpgnahjiaaKan
import Derived.Deep.DeepCutAuto
import Derived.BigGuardPart
namespace Go.Proofs.Ytcogjdpgnahjiaa.kindLeast
open Go.ChangeShapes Go.WideShapes Go.ChangeAt Go.RowKit
set_option linter.unusedVariables false
set_option linter.unusedSimpArgs false

def badB (a b c d e f : Int) : Bool := decide (a < 1 ∨ 8 < a ∨ c < 1 ∨ 8 < c ∨ e < 1 ∨ 8 < e ∨ (a ≠ 4 ∧ a ≠ 5 ∧ b ≠ 0) ∨ (c ≠ 4 ∧ c ≠ 5 ∧ d ≠ 0) ∨ (e ≠ 4 ∧ e ≠ 5 ∧ f ≠ 0))

theorem least (a b c d e f : Int) (h : badB a b c d e f = false) : joinK c d a b = joinK a b c d ∧ joinN c d a b = joinN a b c d ∧ subB a b (joinK a b c d) (joinN a b c d) = true ∧ subB c d (joinK a b c d) (joinN a b c d) = true ∧
    joinK a b a b = a ∧ joinN a b a b = b ∧ (subB a b e f = true → subB c d e f = true → subB (joinK a b c d) (joinN a b c d) e f = true) := by
  simp [badB] at h
  have h0 : subB a b a b = true := by simp [subB]
  have h00 : subB c d c d = true := by simp [subB]
  cases h1 : subB a b c d <;> cases h2 : subB c d a b
  · cases h3 : refB a && refB c
    · have h4 : (refB c && refB a) = false := by rw [Bool.and_comm]; exact h3
      simp only [joinK, joinN, h0, h1, h2, h3, h4, if_true, if_false, Bool.false_eq_true]
      refine ⟨trivial, trivial, by simp [subB], by simp [subB], trivial, trivial, fun g1 g2 => ?_⟩
      simp [subB, refB] at h1 h2 h3 g1 g2 ⊢
      omega
    · have h4 : (refB c && refB a) = true := by rw [Bool.and_comm]; exact h3
      simp only [joinK, joinN, h0, h1, h2, h3, h4, if_true, if_false, Bool.false_eq_true]
      simp [subB, refB] at h1 h2 h3 ⊢
      omega
  · simp only [joinK, joinN, h0, h1, h2, if_true, if_false, Bool.false_eq_true]
    exact ⟨trivial, trivial, trivial, trivial, trivial, trivial, fun g1 _ => g1⟩
  · simp only [joinK, joinN, h0, h00, h1, h2, if_true, if_false, Bool.false_eq_true]
    exact ⟨trivial, trivial, trivial, trivial, trivial, trivial, fun _ g2 => g2⟩
  · simp only [joinK, joinN, h0, h00, h1, h2, if_true]
    simp [subB, refB] at h1 h2
    have e1 : a = c := by omega
    have e2 : b = d := by omega
    subst e1 e2
    exact ⟨rfl, rfl, trivial, trivial, trivial, trivial, fun g1 _ => g1⟩

set_option maxRecDepth 100000 in
set_option maxHeartbeats 4000000 in
theorem walk (a b c d e f : Int) (w : World) : Calls Try.prog 4 #[.agg #[.int .i64 a, .int .i64 b], .agg #[.int .i64 c, .int .i64 d], .agg #[.int .i64 e, .int .i64 f]] w fun e w' => e = .returned (.bool true) ∧ Below w.heap.size w w' := by
  have A := Lib.hid (fun w => answers4 w)
  go_enter Try.func4, Try.ntmps4
  simp only [List.append]
  go_upto_region 1 with fail
  go_cut [80] (fun s wx => s = .bool (badB a b c d e f) ∧ wx = ((w.alloc (.cells #[.int .i64 a, .int .i64 b] 23)).alloc (.cells #[.int .i64 c, .int .i64 d] 23)).alloc (.cells #[.int .i64 e, .int .i64 f] 23))
  case first =>
    go_wp2_with fail
    all_goals
      subst_vars
      go_meet
      exact ⟨congrArg Value.bool (by rw [Bool.eq_iff_iff]; simp [badB] <;> omega), rfl⟩
  case rest =>
    obtain ⟨rfl, rfl⟩ := hcut
    cases hbad : badB a b c d e f
    · obtain ⟨l1, l2, l3, l4, l5, l6, l7⟩ := least a b c d e f hbad
      clear hbad
      have J1 := Lib.hid (fun w => kjoin a b c d w)
      have J2 := Lib.hid (fun w => kjoin c d a b w)
      have J3 := Lib.hid (fun w => kjoin a b a b w)
      have S1 := Lib.hid (fun w => ksub a b (joinK a b c d) (joinN a b c d) w)
      have S2 := Lib.hid (fun w => ksub c d (joinK a b c d) (joinN a b c d) w)
      have S3 := Lib.hid (fun w => ksub a b e f w)
      have S4 := Lib.hid (fun w => ksub c d e f w)
      have S5 := Lib.hid (fun w => ksub (joinK a b c d) (joinN a b c d) e f w)
      rw [l1, l2] at J2
      rw [l5, l6] at J3
      rw [l3] at S1
      rw [l4] at S2
      clear l1 l2 l3 l4 l5 l6
      generalize joinK a b c d = jk at J1 J2 S1 S2 S5 l7
      generalize joinN a b c d = jn at J1 J2 S1 S2 S5 l7
      have L7 := Lib.hid l7
      clear l7
      go_upto_region 4 with (first | (go_at_call 13; with_reducible refine (J1.out _).mono ?_; rintro e1 w1 ⟨rfl, hb1⟩; have HB1 := Lib.hid hb1; obtain ⟨hc1, hf1⟩ := bcell hb1; have hz1 : w.heap.size + 2 < w1.heap.size := (by { have := hb1.size; simp at this; omega })))
      refine wp_world fun W hW => ?_
      have hx1 : w.heap.size < w1.heap.size := by omega
      have hy1 : w.heap.size + 1 < w1.heap.size := by omega
      have hz1' : w.heap.size + 1 + 1 < w1.heap.size := by omega
      have HB : Hid (Below w.heap.size w W) := by
        have h3 : Below w.heap.size w (((w.alloc (.cells #[.int .i64 a, .int .i64 b] 23)).alloc (.cells #[.int .i64 c, .int .i64 d] 23)).alloc (.cells #[.int .i64 e, .int .i64 f] 23)) := (((Below.refl _ _).alloc (Nat.le_refl _) _).alloc (by simp) _).alloc (by simp <;> omega) _
        show Below w.heap.size w W
        rw [hW]
        exact (h3.trans (HB1.out.mono (by simp <;> omega))).alloc (by omega) _
      have c0 : W.cell? ⟨w.heap.size, 0, none⟩ = some (.int .i64 a) := by rw [hW]; simp [go_sem, hc1, hx1]
      have c1 : W.cell? ⟨w.heap.size, 1, none⟩ = some (.int .i64 b) := by rw [hW]; simp [go_sem, hc1, hx1]
      have c2 : W.cell? ⟨w.heap.size + 1, 0, none⟩ = some (.int .i64 c) := by rw [hW]; simp [go_sem, hc1, hy1]
      have c3 : W.cell? ⟨w.heap.size + 1, 1, none⟩ = some (.int .i64 d) := by rw [hW]; simp [go_sem, hc1, hy1]
      have c4 : W.cell? ⟨w.heap.size + 1 + 1, 0, none⟩ = some (.int .i64 e) := by rw [hW]; simp [go_sem, hc1, hz1']
      have c5 : W.cell? ⟨w.heap.size + 1 + 1, 1, none⟩ = some (.int .i64 f) := by rw [hW]; simp [go_sem, hc1, hz1']
      have c6 : W.cell? ⟨w1.heap.size, 0, none⟩ = some (.int .i64 jk) := by rw [hW]; simp [go_sem]
      have c7 : W.cell? ⟨w1.heap.size, 1, none⟩ = some (.int .i64 jn) := by rw [hW]; simp [go_sem]
      clear hW hc1 hf1 hz1 hx1 hy1 hz1' hb1 HB1
      have k0 := cell_regrown c0
      have k1 := cell_regrown c1
      have k2 := cell_regrown c2
      have k3 := cell_regrown c3
      have k4 := cell_regrown c4
      have k5 := cell_regrown c5
      have k6 := cell_regrown c6
      have k7 := cell_regrown c7
      clear c0 c1 c2 c3 c4 c5 c6 c7
      cases h3 : subB a b e f
      · rw [h3] at S3
        clear h3 L7 S4 S5
        refine wp_region_quiet_below (by kernel_rfl) (by kernel_rfl) ?_
        repeat (quiet_step (first | with_reducible exact Calls.regrown_of (A.out _) | with_reducible exact Calls.regrown_of (J2.out _) | with_reducible exact Calls.regrown_of (S1.out _) | with_reducible exact Calls.regrown_of (S2.out _) | with_reducible exact Calls.regrown_of (J3.out _) | with_reducible exact Calls.regrown_of (S3.out _)))
        refine wpQuiet_nil ?_
        intro _ hw'
        obtain ⟨⟨dq, osq⟩, hw''⟩ := hw'
        subst hw''
        go_wp2_with fail
        go_ret
        exact ⟨rfl, HB.out.trans ((below_regrown W dq osq).mono HB.out.size)⟩
      cases h4 : subB c d e f
      · rw [h3] at S3
        rw [h4] at S4
        clear h3 h4 L7 S5
        refine wp_region_quiet_below (by kernel_rfl) (by kernel_rfl) ?_
        repeat (quiet_step (first | with_reducible exact Calls.regrown_of (A.out _) | with_reducible exact Calls.regrown_of (J2.out _) | with_reducible exact Calls.regrown_of (S1.out _) | with_reducible exact Calls.regrown_of (S2.out _) | with_reducible exact Calls.regrown_of (J3.out _) | with_reducible exact Calls.regrown_of (S3.out _) | with_reducible exact Calls.regrown_of (S4.out _)))
        refine wpQuiet_nil ?_
        intro _ hw'
        obtain ⟨⟨dq, osq⟩, hw''⟩ := hw'
        subst hw''
        go_wp2_with fail
        go_ret
        exact ⟨rfl, HB.out.trans ((below_regrown W dq osq).mono HB.out.size)⟩
      rw [L7.out h3 h4] at S5
      rw [h3] at S3
      rw [h4] at S4
      clear h3 h4 L7
      refine wp_region_quiet_below (by kernel_rfl) (by kernel_rfl) ?_
      repeat (quiet_step (first | with_reducible exact Calls.regrown_of (A.out _) | with_reducible exact Calls.regrown_of (J2.out _) | with_reducible exact Calls.regrown_of (S1.out _) | with_reducible exact Calls.regrown_of (S2.out _) | with_reducible exact Calls.regrown_of (J3.out _) | with_reducible exact Calls.regrown_of (S3.out _) | with_reducible exact Calls.regrown_of (S4.out _) | with_reducible exact Calls.regrown_of (S5.out _)))
      refine wpQuiet_nil ?_
      intro _ hw'
      obtain ⟨⟨dq, osq⟩, hw''⟩ := hw'
      subst hw''
      go_wp2_with fail
      go_ret
      exact ⟨rfl, HB.out.trans ((below_regrown W dq osq).mono HB.out.size)⟩
    · go_wp2_with (first | (go_at_call 8; with_reducible refine (A.out _).mono ?_; rintro e1 w1 ⟨rfl, hb1⟩))
      go_ret
      exact ⟨rfl, ((((Below.refl _ _).alloc (Nat.le_refl _) _).alloc (by simp) _).alloc (by simp <;> omega) _).trans (hb1.mono (by simp <;> omega))⟩

set_option maxRecDepth 100000 in
theorem lifted (os : Os) (started : os.Started) (H : Type) (enc : TypeId × Value → H) :
    ReturnsInHanded {} Try.checked os 4 .any (Rows.kindLeastSpec.pre6 enc Try.prog Try.f4 Rows.kindLeastRow.domain false) (Rows.kindLeastSpec.post enc Try.prog Try.f4 false true false false) := by
  refine returnsInHanded_of_change (C := Try.checked) own started (by kernel_rfl) Try.func4
    (ChangeSpec.witness6 (enc := enc) (C := Try.checked) false ⟨#[], #[.agg #[.int .i64 0, .int .i64 0], .agg #[.int .i64 0, .int .i64 0], .agg #[.int .i64 0, .int .i64 0]], []⟩ 8 (by kernel_rfl) (by kernel_rfl) (by kernel_rfl) (by kernel_rfl)) ?_
  intro W base args ds gs before hval0 hW hcnd _
  have hval : ∀ (j : Nat) t v, Try.f4.params[j]? = some t → args[j]? = some v → Value.okWide Try.prog W .any base t v := hval0
  have hW' := hW
  obtain ⟨p, q, hA0, hV, rfl, hfz, hnd⟩ := hW
  have hA : DataW.TrodAll enc Try.prog W 0 (fun _ => true) true Try.f4.params.toList args.toList ds p := hA0
  rw [Try.params4] at hA hval
  obtain ⟨v0, vs0, d0, ds0, p0, q0, hargs, rfl, rfl, h0, r0⟩ := trodAll_cons hA
  obtain ⟨v1, vs1, d1, ds1, p1, q1, rfl, rfl, rfl, h1, r1⟩ := trodAll_cons r0
  obtain ⟨v2, vs2, d2, ds2, p2, q2, rfl, rfl, rfl, h2, r2⟩ := trodAll_cons r1
  obtain ⟨rfl, rfl, rfl⟩ := trodAll_nil r2
  obtain rfl : args = #[v0, v1, v2] := by cases args; simp_all
  obtain ⟨rfl, rfl⟩ := trodVars_none hV
  have lt0 : ∀ x ∈ p0, x.block < W.heap.size := by obtain ⟨m, hm⟩ := h0; exact DataW.trod_lt m _ _ _ hm
  obtain ⟨k0, n0, rfl, wk0, wn0⟩ := open_typ (hval 0 23 v0 rfl rfl) h0
  have lt1 : ∀ x ∈ p1, x.block < W.heap.size := by obtain ⟨m, hm⟩ := h1; exact DataW.trod_lt m _ _ _ hm
  obtain ⟨k1, n1, rfl, wk1, wn1⟩ := open_typ (hval 1 23 v1 rfl rfl) h1
  have lt2 : ∀ x ∈ p2, x.block < W.heap.size := by obtain ⟨m, hm⟩ := h2; exact DataW.trod_lt m _ _ _ hm
  obtain ⟨k2, n2, rfl, wk2, wn2⟩ := open_typ (hval 2 23 v2 rfl rfl) h2
  clear hA0 hval0
  refine (walk k0 n0 k1 n1 k2 n2 W).mono fun e W' ⟨he, bel⟩ => ?_
  subst he
  exact ⟨_, rfl, _, _, _, [], _, [], hW', trodAll_mk1 (shut_bool Try.underlying4 _), (trodAll_cons_mk (Below.trod laidOut (by kernel_rfl) (of_decide_eq_true (by kernel_rfl)) h0 bel lt0) (trodAll_cons_mk (Below.trod laidOut (by kernel_rfl) (of_decide_eq_true (by kernel_rfl)) h1 bel lt1) (trodAll_cons_mk (Below.trod laidOut (by kernel_rfl) (of_decide_eq_true (by kernel_rfl)) h2 bel lt2) trodAll_mk0))), rfl, bel.frame _, fun h => by cases h⟩

theorem over : Rows.kindLeastRow.holds Try.pinned (OpenSpec.ofChange Rows.kindLeastSpec) :=
  OpenClaim.holds_of_wide 4 Try.f4 rfl rfl rfl rfl rfl rfl rfl ⟨rfl, rfl, rfl, rfl, rfl⟩ rfl rfl rfl rfl rfl (by kernel_rfl) Try.func4 (by kernel_rfl)
    (of_decide_eq_true (by kernel_rfl)) (by unfold Func.isWrapper; first | (rw [if_pos (by decide +kernel)]; kernel_rfl) | (rw [if_neg (by decide +kernel)]; exact ⟨rfl, rfl⟩))
    (fun os started H enc _ => lifted os started H enc)

/-- The statement. -/
theorem proved : Rows.KindLeastSaid := over
end Go.Proofs.Ytcogjdpgnahjiaa.kindLeast
