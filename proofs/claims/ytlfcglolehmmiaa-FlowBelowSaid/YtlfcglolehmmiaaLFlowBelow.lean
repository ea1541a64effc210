/-
  The law FlowBelow holds: a stack that does for another one leads where that leads, with a stack that does for its; the law's function returns true and turns nothing that was there.
  Conditions: none.
-/
import Derived.Test.YtlfcglolehmmiaaQ01
import Derived.Test.YtlfcglolehmmiaaQ04
import Derived.Test.YtlfcglolehmmiaaQ23
import Derived.Test.YtlfcglolehmmiaaQ25
import Derived.Test.YtlfcglolehmmiaaQ28
namespace Go.Proofs.Ytlfcglolehmmiaa.flowBelow
open Go.ChangeShapes Go.WideShapes Go.ChangeAt Go.RowKit
set_option linter.unusedVariables false
set_option linter.unusedSimpArgs false

/-- The document's Below of two stacks of the call's own. -/
theorem below_two {w5 w6 w7 : World} {N M ca cb : Nat} {A B : Option Addr} {ts us : List Typ} (h6 : w6.ownsRow N 39 2 (.slice A ts.length ca) ts.length (T2 ts)) (a6 : A64 ts) (h5 : w5.ownsRow M 39 2 (.slice B us.length cb) us.length (T2 us)) (a5 : A64 us)
    (hb6 : Below w5.heap.size w5 w6) (hb7 : Below w6.heap.size w6 w7) : Calls Try.prog 16 #[.slice A ts.length ca, .slice B us.length cb] w7 (Tells (belowT ts us) w7) := by
  obtain ⟨A2, c2, e2, -, g2, g3, s2⟩ := own_sq (raw_below h6 hb7 (Nat.le_refl _)) a6
  obtain ⟨B2, d2, e3, -, g4, g5, s3⟩ := own_sq (raw_below (raw_below h5 hb6 (Nat.le_refl _)) hb7 (Nat.le_refl _)) a5
  simp only [Value.slice.injEq] at e2 e3
  obtain ⟨rfl, -, rfl⟩ := e2
  obtain ⟨rfl, -, rfl⟩ := e3
  unfold maxLen at g3 g5
  exact rbelow_any _ _ _ _ _ _ ts us w7 rfl rfl (s2.wide fun b hb => hb.2) (s3.wide fun b hb => hb.2) (by omega) (by omega)
theorem sq_of {w : World} {A : Option Addr} {n c : Nat} {ts : List Typ} (h : tysL.R (· < w.heap.size) w [.slice A n c] ts) : n ≤ c ∧ c ≤ 9223372036854775807 ∧ Sq typL (· < w.heap.size) w A ts := by
  obtain ⟨A2, c2, e, h1, h2, h3⟩ := h
  simp only [List.cons.injEq, Value.slice.injEq, and_true] at e
  obtain ⟨rfl, rfl, rfl⟩ := e
  exact ⟨h1, by unfold maxLen at h2; omega, h3⟩
set_option maxRecDepth 100000 in
set_option maxHeartbeats 4000000 in
theorem walk (cs : List Value) (m : Mod) (fi pc : Int) (A B : Option Addr) (na nb ca cb : Nat) (ts us : List Typ) (w : World) (h : modL.R (· < w.heap.size) w cs m) (hz : Zm m) (hfi : -9223372036854775808 ≤ fi ∧ fi ≤ 9223372036854775807) (hpc : -9223372036854775808 ≤ pc ∧ pc ≤ 9223372036854775807)
    (hla : ts.length = na) (hlb : us.length = nb) (ha : tysL.R (· < w.heap.size) w [.slice A na ca] ts) (hb : tysL.R (· < w.heap.size) w [.slice B nb cb] us) (hna : A = none → ca = 0) (hnb : B = none → cb = 0) :
    Calls Try.prog 5 #[vAgg cs, .int .i64 fi, .int .i64 pc, .slice A na ca, .slice B nb cb] w fun e w' => e = .returned (.bool true) ∧ Below w.heap.size w w' := by
  have AN := Lib.hid (fun w => answers8 w)
  obtain ⟨a1, a2, sa⟩ := sq_of ha
  obtain ⟨b1, b2, sb⟩ := sq_of hb
  have SA : Hid (∀ v, Below w.heap.size w v → Sq typL (· < v.heap.size) v A ts) := fun v hb => (sa.below hb (Nat.le_refl _)).wide fun i hi => Nat.lt_of_lt_of_le hi hb.size
  have SB : Hid (∀ v, Below w.heap.size w v → Sq typL (· < v.heap.size) v B us) := fun v hb => (sb.below hb (Nat.le_refl _)).wide fun i hi => Nat.lt_of_lt_of_le hi hb.size
  have L0 : Hid (∀ w1, Below w.heap.size w w1 → Calls Try.prog 8 #[vAgg cs] w1 fun e w' => ∃ b : Bool, e = .returned (.bool b) ∧ Below w1.heap.size w1 w' ∧ (b = true → Small m)) := fun w1 hb => light_any cs m w1 (mod_at h hb) hz
  have BL : Hid (∀ v, Below w.heap.size w v → Calls Try.prog 16 #[.slice A na ca, .slice B nb cb] v (Tells (belowT ts us) v)) := fun v hb => rbelow_any A B na nb ca cb ts us v hla hlb (SA.out v hb) (SB.out v hb) (by omega) (by omega)
  have FA : Hid (na ≤ 1000 → ∀ v, Below w.heap.size w v → Calls Try.prog 10 #[vAgg cs, .int .i64 fi, .int .i64 pc, .slice A na ca] v (Flows (flowB m fi pc ts) v)) := fun hk v hb => flow_any cs m fi pc A na ca ts v (mod_at h hb) hfi hpc hla (SA.out v hb) hk a1 a2 hna
  have FB : Hid (nb ≤ 1000 → ∀ v, Below w.heap.size w v → Calls Try.prog 10 #[vAgg cs, .int .i64 fi, .int .i64 pc, .slice B nb cb] v (Flows (flowB m fi pc us) v)) := fun hk v hb => flow_any cs m fi pc B nb cb us v (mod_at h hb) hfi hpc hlb (SB.out v hb) hk b1 b2 hnb
  have HLA := Lib.hid hla
  have HLB := Lib.hid hlb
  have HFB : Hid (∀ t l, belowT ts us = true → flowB m fi pc us = (0, t, l) → ∃ s, flowB m fi pc ts = (0, s, l) ∧ belowT s t = true) := fun t l h1 h2 => flow_below h1 h2
  have HLen : Hid (belowT ts us = true → na = nb) := fun h1 => by rw [← HLA.out, ← HLB.out]; exact belowT_len h1
  obtain ⟨A0, A1, A2, A3, A4, n0, n1, n2, n3, n4, c0, c1, c2, c3, c4, rfl⟩ := mod_shape h
  clear h hz ha hb sa sb hfi hpc hla hlb
  simp only [vAgg] at L0 FA FB ⊢
  generalize flowB m fi pc ts = ra at *
  generalize flowB m fi pc us = rb at *
  go_enter Try.func5, Try.ntmps5
  go_wp2_with fail
  refine calls_world fun W hW => ?_
  have HB0 : Hid (Below w.heap.size w W) := by show Below _ _ _; rw [hW]; exact (Below.refl _ _).alloc (Nat.le_refl _) _
  have HC0 : Hid (C5 w.heap.size (.slice A0 n0 c0) (.slice A1 n1 c1) (.slice A2 n2 c2) (.slice A3 n3 c3) (.slice A4 n4 c4) W) := by show C5 _ _ _ _ _ _ _; rw [hW]; simp [C5, go_sem]
  have hzW : w.heap.size < W.heap.size := by rw [hW]; simp
  clear hW
  refine (L0.out W HB0.out).mono ?_
  rintro e V ⟨b, rfl, hb1, -⟩
  have HB1 := Lib.hid (HB0.out.trans (hb1.mono HB0.out.size))
  have HC1 := Lib.hid (HC0.out.below hb1 hzW)
  have hzV : w.heap.size < V.heap.size := Nat.lt_of_lt_of_le hzW hb1.size
  clear hb1
  cases b
  · go_wp2_with (first | (go_at_call 9; refine (AN.out _).mono ?_; rintro e w2 ⟨rfl, hb2⟩; have HA2 := Lib.hid (HB1.out.trans (hb2.mono HB1.out.size)); clear hb2))
    go_ret
    exact ⟨rfl, HA2.out⟩
  by_cases h8 : 8 < na
  · have h8i : (8 : Int) < (na : Int) := by omega
    go_wp2_with (first | (go_at_call 9; refine (AN.out _).mono ?_; rintro e w2 ⟨rfl, hb2⟩; have HA2 := Lib.hid (HB1.out.trans (hb2.mono HB1.out.size)); clear hb2))
    go_ret
    exact ⟨rfl, HA2.out⟩
  have h8i : ¬ (8 : Int) < (na : Int) := by omega
  cases hbt : belowT ts us
  · rw [hbt] at BL
    go_wp2_with (first
      | (go_at_call 16; refine (BL.out _ HB1.out).mono ?_; rintro e w2 ⟨rfl, hb2⟩; have HB2 := Lib.hid (HB1.out.trans (hb2.mono HB1.out.size)); clear hb2)
      | (go_at_call 9; refine (AN.out _).mono ?_; rintro e w3 ⟨rfl, hb3⟩; have HA3 := Lib.hid (HB2.out.trans (hb3.mono HB2.out.size)); clear hb3))
    go_ret
    exact ⟨rfl, HA3.out⟩
  rw [hbt] at BL
  have HBT := Lib.hid hbt
  obtain rfl : na = nb := HLen.out hbt
  have FA2 := Lib.hid (FA.out (by omega))
  have FB2 := Lib.hid (FB.out (by omega))
  clear hbt FA FB
  go_wp2_with (first
    | (go_at_call 16; refine (BL.out _ HB1.out).mono ?_; rintro e w2 ⟨rfl, hb2⟩; have HB2 := Lib.hid (HB1.out.trans (hb2.mono HB1.out.size)); have HC2 := Lib.hid (HC1.out.below hb2 hzV); have hz2 : w.heap.size < w2.heap.size := Nat.lt_of_lt_of_le hzV hb2.size; clear hb2))
  go_loop [11] (fun i => ∃ k : Nat, k ≤ na ∧ i = .int .i64 (k : Nat)) (fun i => na - (intOf i).toNat)
  case atStart => exact ⟨0, Nat.zero_le _, rfl⟩
  case round =>
    obtain ⟨k, hk, rfl⟩ := hrel
    by_cases hlt : k < na
    · obtain ⟨x, hx⟩ : ∃ x, ts[k]? = some x := ⟨ts[k]'(by rw [HLA.out]; exact hlt), List.getElem?_eq_getElem _⟩
      obtain ⟨y, hy⟩ : ∃ y, us[k]? = some y := ⟨us[k]'(by rw [HLB.out]; exact hlt), List.getElem?_eq_getElem _⟩
      obtain ⟨a, cs1, rfl, hab, hc, hr⟩ := (SA.out w2 HB2.out).at hx
      obtain ⟨b, cs2, rfl, hbb, hc2, hr2⟩ := (SB.out w2 HB2.out).at hy
      obtain ⟨rfl, -, -⟩ := hr
      obtain ⟨rfl, -, -⟩ := hr2
      have k0 := hc 0 _ rfl
      rw [show k * typL.k + 0 = k * 2 from rfl] at k0
      have k1 := hc2 0 _ rfl
      rw [show k * typL.k + 0 = k * 2 from rfl] at k1
      have i1 : (k : Int) < (na : Int) := by omega
      clear hc hc2 hx hy
      obtain ⟨xk, xn⟩ := x
      obtain ⟨yk, yn⟩ := y
      simp only at k0 k1
      by_cases c0 : xk = 8
      · subst c0
        go_wp2_with (first | (go_at_call 9; refine (AN.out _).mono ?_; rintro e w3 ⟨rfl, hb3⟩; have HA3 := Lib.hid (HB2.out.trans (hb3.mono HB2.out.size)); clear hb3))
        go_ret
        exact ⟨rfl, HA3.out⟩
      have e0 : (xk == 8) = false := by simpa using c0
      by_cases c1 : xk < 1
      · go_wp2_with (first | (go_at_call 9; refine (AN.out _).mono ?_; rintro e w3 ⟨rfl, hb3⟩; have HA3 := Lib.hid (HB2.out.trans (hb3.mono HB2.out.size)); clear hb3))
        go_ret
        exact ⟨rfl, HA3.out⟩
      by_cases c2 : 8 < xk
      · go_wp2_with (first | (go_at_call 9; refine (AN.out _).mono ?_; rintro e w3 ⟨rfl, hb3⟩; have HA3 := Lib.hid (HB2.out.trans (hb3.mono HB2.out.size)); clear hb3))
        go_ret
        exact ⟨rfl, HA3.out⟩
      by_cases c3 : yk < 1
      · go_wp2_with (first | (go_at_call 9; refine (AN.out _).mono ?_; rintro e w3 ⟨rfl, hb3⟩; have HA3 := Lib.hid (HB2.out.trans (hb3.mono HB2.out.size)); clear hb3))
        go_ret
        exact ⟨rfl, HA3.out⟩
      by_cases c4 : 8 < yk
      · go_wp2_with (first | (go_at_call 9; refine (AN.out _).mono ?_; rintro e w3 ⟨rfl, hb3⟩; have HA3 := Lib.hid (HB2.out.trans (hb3.mono HB2.out.size)); clear hb3))
        go_ret
        exact ⟨rfl, HA3.out⟩
      go_wp2_with fail
      exact ⟨⟨k + 1, by omega, by simp⟩, by simp [intOf]; omega⟩
    · obtain rfl : k = na := by omega
      obtain ⟨x0, x1, x2, x3, x4⟩ := HC2.out
      obtain ⟨er, tb, lb⟩ := rb
      obtain ⟨ea, ta, la⟩ := ra
      by_cases hre : er = 0
      · subst hre
        obtain ⟨s, hs, hbs⟩ := HFB.out tb lb HBT.out rfl
        simp only [Prod.mk.injEq] at hs
        obtain ⟨rfl, rfl, rfl⟩ := hs
        have HBS := Lib.hid hbs
        clear hbs
        go_wp2_with (first
          | (go_at_call 10
             with_reducible refine (FB2.out _ HB2.out).mono ?_
             intro e w5 hq5
             obtain ⟨hb5, v5, u5, rfl, ho5, hu5, -, h645⟩ := flows_at hq5
             clear hq5
             have HB5 := Lib.hid (HB2.out.trans (hb5.mono HB2.out.size))
             obtain ⟨y0, y1, y2, y3, y4⟩ := HC2.out.below hb5 hz2
             have HO5 := Lib.hid ho5
             have H645 := Lib.hid h645
             obtain ⟨A5, c5, rfl, -, -, -, -⟩ := own_sq ho5 h645
             obtain ⟨B5, d5, rfl, -, -, -⟩ := own_ints hu5
             have HR5 := Lib.hid hb5
             clear hb5 ho5 hu5 h645)
          | (go_at_call 10
             with_reducible refine (FA2.out _ HB5.out).mono ?_
             intro e w6 hq6
             obtain ⟨hb6, v6, u6, rfl, ho6, hu6, -, h646⟩ := flows_at hq6
             clear hq6
             have HB6 := Lib.hid (HB5.out.trans (hb6.mono HB5.out.size))
             have HO6 := Lib.hid ho6
             have H646 := Lib.hid h646
             obtain ⟨A6, c6, rfl, -, -, -, -⟩ := own_sq ho6 h646
             obtain ⟨B6, d6, rfl, -, -, -⟩ := own_ints hu6
             have HR6 := Lib.hid hb6
             clear hb6 ho6 hu6 h646)
          | (go_at_call 9
             refine (AN.out _).mono ?_
             rintro e w7 ⟨rfl, hb7⟩
             have HB7 := Lib.hid (HB6.out.trans (hb7.mono HB6.out.size))
             have HR7 := Lib.hid hb7
             clear hb7)
          | (go_at_call 16
             refine (below_two HO6.out H646.out HO5.out H645.out HR6.out HR7.out).mono ?_
             rw [HBS.out]
             rintro e w8 ⟨rfl, hb8⟩
             have HB8 := Lib.hid (HB7.out.trans (hb8.mono HB7.out.size))
             clear hb8))
        go_ret
        exact ⟨by simp, HB8.out⟩
      · have e1 : (er != 0) = true := by simpa using hre
        clear hre
        go_wp2_with (first
          | (go_at_call 10
             with_reducible refine (FB2.out _ HB2.out).mono ?_
             intro e w5 hq5
             obtain ⟨hb5, v5, u5, rfl, ho5, hu5, -, h645⟩ := flows_at hq5
             clear hq5
             have HB5 := Lib.hid (HB2.out.trans (hb5.mono HB2.out.size))
             obtain ⟨y0, y1, y2, y3, y4⟩ := HC2.out.below hb5 hz2
             clear hb5 ho5 hu5 h645)
          | (go_at_call 10
             with_reducible refine (FA2.out _ HB5.out).mono ?_
             intro e w6 hq6
             obtain ⟨hb6, v6, u6, rfl, ho6, hu6, -, h646⟩ := flows_at hq6
             clear hq6
             have HB6 := Lib.hid (HB5.out.trans (hb6.mono HB5.out.size))
             clear hb6 ho6 hu6 h646)
          | (go_at_call 9; refine (AN.out _).mono ?_; rintro e w7 ⟨rfl, hb7⟩; have HA7 := Lib.hid (HB6.out.trans (hb7.mono HB6.out.size)); clear hb7))
        go_ret
        exact ⟨rfl, HA7.out⟩

set_option maxRecDepth 100000 in
theorem lifted (os : Os) (started : os.Started) (H : Type) (enc : TypeId × Value → H) :
    ReturnsInHanded {} Try.checked os 5 .any (Rows.flowBelowSpec.pre6 enc Try.prog Try.f5 Rows.flowBelowRow.domain false) (Rows.flowBelowSpec.post enc Try.prog Try.f5 false true false false) := by
  refine returnsInHanded_of_change_sized (C := Try.checked) own started (by kernel_rfl) Try.func5
    (ChangeSpec.witness6 (enc := enc) (C := Try.checked) false ⟨#[], #[.agg #[.slice none 0 0, .slice none 0 0, .slice none 0 0, .slice none 0 0, .slice none 0 0], .int .i64 0, .int .i64 0, .slice none 0 0, .slice none 0 0], []⟩ 8 (by kernel_rfl) (by kernel_rfl) (by kernel_rfl) (by kernel_rfl)) ?_
  intro W base args ds gs before hval0 hW hcnd hwz _
  have hval : ∀ (j : Nat) t v, Try.f5.params[j]? = some t → args[j]? = some v → Value.okWide Try.prog W .any base t v := hval0
  have hW' := hW
  obtain ⟨p, q, hA0, hV, rfl, hfz, hnd⟩ := hW
  have hA : DataW.TrodAll enc Try.prog W 0 (fun _ => true) true Try.f5.params.toList args.toList ds p := hA0
  rw [Try.params5] at hA hval
  obtain ⟨v0, vs0, d0, ds0, p0, q0, hargs, rfl, rfl, h0, r0⟩ := trodAll_cons hA
  obtain ⟨v1, vs1, d1, ds1, p1, q1, rfl, rfl, rfl, h1, r1⟩ := trodAll_cons r0
  obtain ⟨v2, vs2, d2, ds2, p2, q2, rfl, rfl, rfl, h2, r2⟩ := trodAll_cons r1
  obtain ⟨v3, vs3, d3, ds3, p3, q3, rfl, rfl, rfl, h3, r3⟩ := trodAll_cons r2
  obtain ⟨v4, vs4, d4, ds4, p4, q4, rfl, rfl, rfl, h4, r4⟩ := trodAll_cons r3
  obtain ⟨rfl, rfl, rfl⟩ := trodAll_nil r4
  obtain rfl : args = #[v0, v1, v2, v3, v4] := by cases args; simp_all
  obtain ⟨rfl, rfl⟩ := trodVars_none hV
  have lt0 : ∀ x ∈ p0, x.block < W.heap.size := by obtain ⟨m, hm⟩ := h0; exact DataW.trod_lt m _ _ _ hm
  have hwz0 : ∀ n ∈ d0.weights Try.prog 28, n ≤ reachBytes := fun n hn => by simpa using List.all_eq_true.1 hwz n (DataW.weights_mem_each (j := 0) (t := 28) (d := d0) (by first | rfl | kernel_rfl) rfl n hn)
  obtain ⟨cs0, m0, rfl, hm0, hz0⟩ := open_modZ h0 hwz0
  obtain ⟨a1, rfl, rfl, rfl, w1⟩ := open_int Try.underlying3 (hval 1 3 v1 rfl rfl) h1
  obtain ⟨a2, rfl, rfl, rfl, w2⟩ := open_int Try.underlying3 (hval 2 3 v2 rfl rfl) h2
  obtain ⟨a3, len3, cap3, rfl⟩ := okWide_slice Try.underlying29 (hval 3 29 v3 rfl rfl)
  have lt3 : ∀ x ∈ p3, x.block < W.heap.size := by obtain ⟨m, hm⟩ := h3; exact DataW.trod_lt m _ _ _ hm
  have hn3 := tys_nil h3
  obtain ⟨ts3, hx3, hT3⟩ := open_tys h3
  obtain ⟨a4, len4, cap4, rfl⟩ := okWide_slice Try.underlying29 (hval 4 29 v4 rfl rfl)
  have lt4 : ∀ x ∈ p4, x.block < W.heap.size := by obtain ⟨m, hm⟩ := h4; exact DataW.trod_lt m _ _ _ hm
  have hn4 := tys_nil h4
  obtain ⟨ts4, hx4, hT4⟩ := open_tys h4
  clear hA0 hval0
  refine (walk cs0 m0 a1 a2 a3 a4 len3 len4 cap3 cap4 ts3 ts4 W hm0 hz0 (bounds_i64 w1) (bounds_i64 w2) hx3 hx4 hT3 hT4 hn3 hn4).mono fun e W' ⟨he, bel⟩ => ?_
  subst he
  exact ⟨_, rfl, _, _, _, [], _, [], hW', trodAll_mk1 (shut_bool Try.underlying4 _), (trodAll_cons_mk (Below.trod laidOut (by kernel_rfl) (of_decide_eq_true (by kernel_rfl)) h0 bel lt0) (trodAll_cons_mk (shut_int Try.underlying3 w1) (trodAll_cons_mk (shut_int Try.underlying3 w2) (trodAll_cons_mk (Below.trod laidOut (by kernel_rfl) (of_decide_eq_true (by kernel_rfl)) h3 bel lt3) (trodAll_cons_mk (Below.trod laidOut (by kernel_rfl) (of_decide_eq_true (by kernel_rfl)) h4 bel lt4) trodAll_mk0))))), rfl, bel.frame _, fun h => by cases h⟩

theorem over : Rows.flowBelowRow.holds Try.pinned (OpenSpec.ofChange Rows.flowBelowSpec) :=
  OpenClaim.holds_of_wide 5 Try.f5 rfl rfl rfl rfl rfl rfl rfl ⟨rfl, rfl, rfl, rfl, rfl⟩ rfl rfl rfl rfl rfl (by kernel_rfl) Try.func5 (by kernel_rfl)
    (of_decide_eq_true (by kernel_rfl)) (by unfold Func.isWrapper; first | (rw [if_pos (by decide +kernel)]; kernel_rfl) | (rw [if_neg (by decide +kernel)]; exact ⟨rfl, rfl⟩))
    (fun os started H enc _ => lifted os started H enc)

/-- The statement. -/
theorem proved : Rows.FlowBelowSaid := over
end Go.Proofs.Ytlfcglolehmmiaa.flowBelow
