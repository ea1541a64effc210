/-
  The law FlowLocals holds: the type of any local of any function; the law's function returns true and turns nothing that was there.
  Conditions: none.
-/
import Derived.Test.YtlfcglolehmmiaaQ01
import Derived.Test.YtlfcglolehmmiaaQ04
import Derived.Test.YtlfcglolehmmiaaQ23
import Derived.Lib.QuietBelow
import Derived.BigQuiet
namespace Go.Proofs.Ytlfcglolehmmiaa.flowLocals
open Go.ChangeShapes Go.WideShapes Go.ChangeAt Go.RowKit
set_option linter.unusedVariables false
set_option linter.unusedSimpArgs false

set_option maxRecDepth 100000 in
set_option maxHeartbeats 4000000 in
theorem walk (cs : List Value) (f : Fn) (n : Int) (w : World) (h : fnL.R (· < w.heap.size) w cs f) (hz : Zf f) (hn : -9223372036854775808 ≤ n ∧ n ≤ 9223372036854775807) :
    Calls Try.prog 4 #[vAgg cs, .int .i64 n] w fun e w' => e = .returned (.bool true) ∧ Below w.heap.size w w' := by
  have AN := Lib.hid (fun w => answers8 w)
  have hR : reachBytes < 140737488355328 := reachBytes_lt
  obtain ⟨⟨z0, -⟩, ⟨z1, -⟩, -⟩ := hz
  obtain ⟨_, _, _, rfl, hr1, hr2, ⟨P0, c0, e0, f0, f1, t0⟩, ⟨P1, c1, e1, f2, f3, t1⟩, ⟨P2, c2, e2, -⟩⟩ := h
  simp only [List.cons.injEq, and_true] at e0 e1 e2
  subst e0 e1 e2
  obtain ⟨ua, g0⟩ : ∃ m, f.args.length = m := ⟨_, rfl⟩
  obtain ⟨ul, g1⟩ : ∃ m, f.locs.length = m := ⟨_, rfl⟩
  generalize f.code.length = uc at *
  rw [g0] at z0
  rw [g1] at z1
  rw [g0, g1]
  have LP : Hid (∀ v, Below w.heap.size w v → Calls Try.prog 14 #[.agg #[.slice P0 ua c0, .int .i64 f.ret.1, .int .i64 f.ret.2, .slice P1 ul c1, .slice P2 uc c2], .int .i64 n] v fun e w' => e = .returned (.agg #[.int .i64 (locB f n).1, .int .i64 (locB f n).2]) ∧ Below v.heap.size v w') := fun v hb =>
    local_any P0 P1 P2 ua ul uc c0 c1 c2 f.ret.1 f.ret.2 f n v g0 g1 ((t0.below hb (Nat.le_refl _)).wide fun i hi => Nat.lt_of_lt_of_le hi hb.size) ((t1.below hb (Nat.le_refl _)).wide fun i hi => Nat.lt_of_lt_of_le hi hb.size) (by omega) (by omega) hn
  have LR : Hid (ua + ul ≤ 100 → ∀ v, Below w.heap.size w v → Calls Try.prog 15 #[.agg #[.slice P0 ua c0, .int .i64 f.ret.1, .int .i64 f.ret.2, .slice P1 ul c1, .slice P2 uc c2], .int .i64 n] v fun e w' => e = .returned (.agg #[.int .i64 (locB f n).1, .int .i64 (locB f n).2]) ∧ Below v.heap.size v w') := fun h100 v hb =>
    rlocal_any P0 P1 P2 ua ul uc c0 c1 c2 f.ret.1 f.ret.2 f n v g0 g1 ((t0.below hb (Nat.le_refl _)).wide fun i hi => Nat.lt_of_lt_of_le hi hb.size) ((t1.below hb (Nat.le_refl _)).wide fun i hi => Nat.lt_of_lt_of_le hi hb.size) (by omega) hn
  have z0' : ua < 140737488355328 := by omega
  have z1' : ul < 140737488355328 := by omega
  have hw1 : IntKind.i64.wrap ((ua : Int) + (ul : Int)) = (ua : Int) + (ul : Int) := by rw [IntKind.wrap_i64]; omega
  clear t0 t1 f0 f1 f2 f3 g0 g1 hr1 hr2 hn hR z0 z1
  generalize locB f n = t at *
  generalize f.ret.1 = r1 at *
  generalize f.ret.2 = r2 at *
  show Calls Try.prog 4 #[.agg #[.slice P0 ua c0, .int .i64 r1, .int .i64 r2, .slice P1 ul c1, .slice P2 uc c2], .int .i64 n] w _
  by_cases h100 : 100 < ua + ul
  · have h1 : (100 : Int) < (ua : Int) + (ul : Int) := by omega
    go_enter Try.func4, Try.ntmps4
    go_wp2_with (first | (go_at_call 9; refine (AN.out _).mono ?_; rintro e w2 ⟨rfl, hb2⟩; have HB2 := Lib.hid ((below_new w _).trans (hb2.mono (by simp))); clear hb2))
    go_ret
    exact ⟨rfl, HB2.out⟩
  · have h1 : ¬ (100 : Int) < (ua : Int) + (ul : Int) := by omega
    have LR2 := Lib.hid (LR.out (by omega))
    clear LR
    go_enter Try.func4, Try.ntmps4
    go_wp2_with fail
    refine wp_world fun V hV => ?_
    have HB1 : Hid (Below w.heap.size w V) := by show Below _ _ _; rw [hV]; exact below_new w _
    have HC : Hid (C5 w.heap.size (.slice P0 ua c0) (.int .i64 r1) (.int .i64 r2) (.slice P1 ul c1) (.slice P2 uc c2) V) := by show C5 _ _ _ _ _ _ _; rw [hV]; simp [C5, go_sem]
    clear hV
    have HBR : Hid (∀ dq osq, Below w.heap.size w (Go.Sort.grow (redrawn V dq) osq)) := fun dq osq => HB1.out.trans ((below_regrown V dq osq).mono HB1.out.size)
    have k0 := cell_regrown HC.out.1
    have k1 := cell_regrown HC.out.2.1
    have k2 := cell_regrown HC.out.2.2.1
    have k3 := cell_regrown HC.out.2.2.2.1
    have k4 := cell_regrown HC.out.2.2.2.2
    refine wp_region_quiet_below (by kernel_rfl) (by kernel_rfl) ?_
    repeat (quiet_step (first | with_reducible exact Calls.regrown_of (AN.out _) | with_reducible exact Calls.regrown_of (LP.out _ (HBR.out _ _)) | with_reducible exact Calls.regrown_of (LR2.out _ (HBR.out _ _))))
    refine wpQuiet_nil ?_
    intro _ hw'
    obtain ⟨⟨dq, osq⟩, hw''⟩ := hw'
    subst hw''
    go_wp2_with fail
    go_ret
    exact ⟨by simp, HBR.out dq osq⟩

set_option maxRecDepth 100000 in
theorem lifted (os : Os) (started : os.Started) (H : Type) (enc : TypeId × Value → H) :
    ReturnsInHanded {} Try.checked os 4 .any (Rows.flowLocalsSpec.pre6 enc Try.prog Try.f4 Rows.flowLocalsRow.domain false) (Rows.flowLocalsSpec.post enc Try.prog Try.f4 false true false false) := by
  refine returnsInHanded_of_change_sized (C := Try.checked) own started (by kernel_rfl) Try.func4
    (ChangeSpec.witness6 (enc := enc) (C := Try.checked) false ⟨#[], #[.agg #[.slice none 0 0, .int .i64 0, .int .i64 0, .slice none 0 0, .slice none 0 0], .int .i64 0], []⟩ 8 (by kernel_rfl) (by kernel_rfl) (by kernel_rfl) (by kernel_rfl)) ?_
  intro W base args ds gs before hval0 hW hcnd hwz _
  have hval : ∀ (j : Nat) t v, Try.f4.params[j]? = some t → args[j]? = some v → Value.okWide Try.prog W .any base t v := hval0
  have hW' := hW
  obtain ⟨p, q, hA0, hV, rfl, hfz, hnd⟩ := hW
  have hA : DataW.TrodAll enc Try.prog W 0 (fun _ => true) true Try.f4.params.toList args.toList ds p := hA0
  rw [Try.params4] at hA hval
  obtain ⟨v0, vs0, d0, ds0, p0, q0, hargs, rfl, rfl, h0, r0⟩ := trodAll_cons hA
  obtain ⟨v1, vs1, d1, ds1, p1, q1, rfl, rfl, rfl, h1, r1⟩ := trodAll_cons r0
  obtain ⟨rfl, rfl, rfl⟩ := trodAll_nil r1
  obtain rfl : args = #[v0, v1] := by cases args; simp_all
  obtain ⟨rfl, rfl⟩ := trodVars_none hV
  have lt0 : ∀ x ∈ p0, x.block < W.heap.size := by obtain ⟨m, hm⟩ := h0; exact DataW.trod_lt m _ _ _ hm
  have hwz0 : ∀ n ∈ d0.weights Try.prog 42, n ≤ reachBytes := fun n hn => by simpa using List.all_eq_true.1 hwz n (DataW.weights_mem_each (j := 0) (t := 42) (d := d0) (by first | rfl | kernel_rfl) rfl n hn)
  obtain ⟨cs0, m0, rfl, hm0, hz0⟩ := open_fnZ h0 hwz0
  obtain ⟨a1, rfl, rfl, rfl, w1⟩ := open_int Try.underlying3 (hval 1 3 v1 rfl rfl) h1
  clear hA0 hval0
  refine (walk cs0 m0 a1 W hm0 hz0 (bounds_i64 w1)).mono fun e W' ⟨he, bel⟩ => ?_
  subst he
  exact ⟨_, rfl, _, _, _, [], _, [], hW', trodAll_mk1 (shut_bool Try.underlying4 _), (trodAll_cons_mk (Below.trod laidOut (by kernel_rfl) (of_decide_eq_true (by kernel_rfl)) h0 bel lt0) (trodAll_cons_mk (shut_int Try.underlying3 w1) trodAll_mk0)), rfl, bel.frame _, fun h => by cases h⟩

theorem over : Rows.flowLocalsRow.holds Try.pinned (OpenSpec.ofChange Rows.flowLocalsSpec) :=
  OpenClaim.holds_of_wide 4 Try.f4 rfl rfl rfl rfl rfl rfl rfl ⟨rfl, rfl, rfl, rfl, rfl⟩ rfl rfl rfl rfl rfl (by kernel_rfl) Try.func4 (by kernel_rfl)
    (of_decide_eq_true (by kernel_rfl)) (by unfold Func.isWrapper; first | (rw [if_pos (by decide +kernel)]; kernel_rfl) | (rw [if_neg (by decide +kernel)]; exact ⟨rfl, rfl⟩))
    (fun os started H enc _ => lifted os started H enc)

/-- The statement. -/
theorem proved : Rows.FlowLocalsSaid := over
end Go.Proofs.Ytlfcglolehmmiaa.flowLocals
