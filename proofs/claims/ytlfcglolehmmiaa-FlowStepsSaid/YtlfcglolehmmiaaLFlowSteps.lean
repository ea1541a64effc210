/-
  The law FlowSteps holds: what any instruction of any module does to any stack's types, and where it leads, or why not; the law's function returns true and turns nothing that was there.
  Conditions: none.
-/
import Derived.Test.YtlfcglolehmmiaaQ01
import Derived.Test.YtlfcglolehmmiaaQ04
import Derived.Test.YtlfcglolehmmiaaQ25
import Derived.Test.YtlfcglolehmmiaaQ38
import Derived.Test.YtlfcglolehmmiaaQ39
import Derived.Test.YtlfcglolehmmiaaQ42
namespace Go.Proofs.Ytlfcglolehmmiaa.flowSteps
open Go.ChangeShapes Go.WideShapes Go.ChangeAt Go.RowKit
set_option linter.unusedVariables false
set_option linter.unusedSimpArgs false

theorem sq_of {w : World} {A : Option Addr} {n c : Nat} {ts : List Typ} (h : tysL.R (· < w.heap.size) w [.slice A n c] ts) : n ≤ c ∧ c ≤ 9223372036854775807 ∧ Sq typL (· < w.heap.size) w A ts := by
  obtain ⟨A2, c2, e, h1, h2, h3⟩ := h
  simp only [List.cons.injEq, Value.slice.injEq, and_true] at e
  obtain ⟨rfl, rfl, rfl⟩ := e
  exact ⟨h1, by unfold maxLen at h2; omega, h3⟩
theorem walk (cs : List Value) (m : Mod) (fi pc : Int) (A : Option Addr) (na ca : Nat) (ts : List Typ) (w : World) (h : modL.R (· < w.heap.size) w cs m) (hz : Zm m) (hfi : -9223372036854775808 ≤ fi ∧ fi ≤ 9223372036854775807) (hpc : -9223372036854775808 ≤ pc ∧ pc ≤ 9223372036854775807)
    (hla : ts.length = na) (ha : tysL.R (· < w.heap.size) w [.slice A na ca] ts) (hna : A = none → ca = 0) :
    Calls Try.prog 3 #[vAgg cs, .int .i64 fi, .int .i64 pc, .slice A na ca] w fun e w' => e = .returned (.bool true) ∧ Below w.heap.size w w' := by
  obtain ⟨a1, a2, sa⟩ := sq_of ha
  by_cases h20 : 20 < na
  · exact steps_out cs m fi pc A na ca ts w h hz hfi hpc hla sa a1 a2 hna h20
  by_cases hc : checkN m = 0
  rotate_left
  · exact steps_bad cs m fi pc A na ca ts w h hz hfi hpc hla sa a1 a2 hna (by omega) hc
  cases hf : hasB m.funcs.length fi
  · by_cases hq : fi < 0
    · exact steps_nofn_neg cs m fi pc A na ca ts w h hz hfi hpc hla sa a1 a2 hna (by omega) hc hf hq
    · exact steps_nofn_far cs m fi pc A na ca ts w h hz hfi hpc hla sa a1 a2 hna (by omega) hc hf hq
  simp [hasB] at hf
  obtain ⟨j, rfl⟩ : ∃ j : Nat, fi = (j : Int) := ⟨fi.toNat, by omega⟩
  obtain ⟨fn, hfn⟩ : ∃ fn, m.funcs[j]? = some fn := ⟨m.funcs[j]'(by omega), List.getElem?_eq_getElem _⟩
  cases hp : hasB fn.code.length pc
  · by_cases hq : pc < 0
    · exact steps_nopc_neg cs m j pc A na ca ts w h hz hfi hpc hla sa a1 a2 hna (by omega) fn hc hfn hp hq
    · exact steps_nopc_far cs m j pc A na ca ts w h hz hfi hpc hla sa a1 a2 hna (by omega) fn hc hfn hp hq
  simp [hasB] at hp
  obtain ⟨p, rfl⟩ : ∃ p : Nat, pc = (p : Int) := ⟨pc.toNat, by omega⟩
  obtain ⟨⟨o, ia, ib⟩, hi⟩ : ∃ i, fn.code[p]? = some i := ⟨fn.code[p]'(by omega), List.getElem?_eq_getElem _⟩
  rcases hr : insB8 m fn (o, ia, ib) p ts with ⟨er, t, l⟩
  exact steps_at rrule_any cs m j p A na ca ts w h fn o ia ib hc hfn hi hla sa (by omega) a1 a2 hz hfi hpc hna er t l hr

set_option maxRecDepth 100000 in
theorem lifted (os : Os) (started : os.Started) (H : Type) (enc : TypeId × Value → H) :
    ReturnsInHanded {} Try.checked os 3 .any (Rows.flowStepsSpec.pre6 enc Try.prog Try.f3 Rows.flowStepsRow.domain false) (Rows.flowStepsSpec.post enc Try.prog Try.f3 false true false false) := by
  refine returnsInHanded_of_change_sized (C := Try.checked) own started (by kernel_rfl) Try.func3
    (ChangeSpec.witness6 (enc := enc) (C := Try.checked) false ⟨#[], #[.agg #[.slice none 0 0, .slice none 0 0, .slice none 0 0, .slice none 0 0, .slice none 0 0], .int .i64 0, .int .i64 0, .slice none 0 0], []⟩ 8 (by kernel_rfl) (by kernel_rfl) (by kernel_rfl) (by kernel_rfl)) ?_
  intro W base args ds gs before hval0 hW hcnd hwz _
  have hval : ∀ (j : Nat) t v, Try.f3.params[j]? = some t → args[j]? = some v → Value.okWide Try.prog W .any base t v := hval0
  have hW' := hW
  obtain ⟨p, q, hA0, hV, rfl, hfz, hnd⟩ := hW
  have hA : DataW.TrodAll enc Try.prog W 0 (fun _ => true) true Try.f3.params.toList args.toList ds p := hA0
  rw [Try.params3] at hA hval
  obtain ⟨v0, vs0, d0, ds0, p0, q0, hargs, rfl, rfl, h0, r0⟩ := trodAll_cons hA
  obtain ⟨v1, vs1, d1, ds1, p1, q1, rfl, rfl, rfl, h1, r1⟩ := trodAll_cons r0
  obtain ⟨v2, vs2, d2, ds2, p2, q2, rfl, rfl, rfl, h2, r2⟩ := trodAll_cons r1
  obtain ⟨v3, vs3, d3, ds3, p3, q3, rfl, rfl, rfl, h3, r3⟩ := trodAll_cons r2
  obtain ⟨rfl, rfl, rfl⟩ := trodAll_nil r3
  obtain rfl : args = #[v0, v1, v2, v3] := by cases args; simp_all
  obtain ⟨rfl, rfl⟩ := trodVars_none hV
  have lt0 : ∀ x ∈ p0, x.block < W.heap.size := by obtain ⟨m, hm⟩ := h0; exact DataW.trod_lt m _ _ _ hm
  have hwz0 : ∀ n ∈ d0.weights Try.prog 28, n ≤ reachBytes := fun n hn => by simpa using List.all_eq_true.1 hwz n (DataW.weights_mem_each (j := 0) (t := 28) (d := d0) (by first | rfl | kernel_rfl) rfl n hn)
  obtain ⟨cs0, m0, rfl, hm0, hz0⟩ := open_modZ h0 hwz0
  obtain ⟨a1, rfl, rfl, rfl, w1⟩ := open_int Try.underlying3 (hval 1 3 v1 rfl rfl) h1
  obtain ⟨a2, rfl, rfl, rfl, w2⟩ := open_int Try.underlying3 (hval 2 3 v2 rfl rfl) h2
  obtain ⟨a3, len3, cap3, rfl⟩ := okWide_slice Try.underlying29 (hval 3 29 v3 rfl rfl)
  have lt3 : ∀ x ∈ p3, x.block < W.heap.size := by obtain ⟨m, hm⟩ := h3; exact DataW.trod_lt m _ _ _ hm
  have hn3 := tys_nil h3
  obtain ⟨ts3, hx3, hT3⟩ := open_tys h3
  clear hA0 hval0
  refine (walk cs0 m0 a1 a2 a3 len3 cap3 ts3 W hm0 hz0 (bounds_i64 w1) (bounds_i64 w2) hx3 hT3 hn3).mono fun e W' ⟨he, bel⟩ => ?_
  subst he
  exact ⟨_, rfl, _, _, _, [], _, [], hW', trodAll_mk1 (shut_bool Try.underlying4 _), (trodAll_cons_mk (Below.trod laidOut (by kernel_rfl) (of_decide_eq_true (by kernel_rfl)) h0 bel lt0) (trodAll_cons_mk (shut_int Try.underlying3 w1) (trodAll_cons_mk (shut_int Try.underlying3 w2) (trodAll_cons_mk (Below.trod laidOut (by kernel_rfl) (of_decide_eq_true (by kernel_rfl)) h3 bel lt3) trodAll_mk0)))), rfl, bel.frame _, fun h => by cases h⟩

theorem over : Rows.flowStepsRow.holds Try.pinned (OpenSpec.ofChange Rows.flowStepsSpec) :=
  OpenClaim.holds_of_wide 3 Try.f3 rfl rfl rfl rfl rfl rfl rfl ⟨rfl, rfl, rfl, rfl, rfl⟩ rfl rfl rfl rfl rfl (by kernel_rfl) Try.func3 (by kernel_rfl)
    (of_decide_eq_true (by kernel_rfl)) (by unfold Func.isWrapper; first | (rw [if_pos (by decide +kernel)]; kernel_rfl) | (rw [if_neg (by decide +kernel)]; exact ⟨rfl, rfl⟩))
    (fun os started H enc _ => lifted os started H enc)

/-- The statement. -/
theorem proved : Rows.FlowStepsSaid := over
end Go.Proofs.Ytlfcglolehmmiaa.flowSteps
