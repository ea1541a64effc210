/-
  The law JudgeBelow holds: judge's Below says of any stacks what the document's own Below says, a stack is below itself, and that goes on from one to the next; the law's function returns true and turns nothing that was there.
  Conditions: none.
-/
import Derived.Test.YtikhhcmfjncabaaQ01
import Derived.Test.YtikhhcmfjncabaaQ22
import Derived.Test.YtikhhcmfjncabaaQ23
namespace Go.Proofs.Ytikhhcmfjncabaa.judgeBelow
open Go.ChangeShapes Go.WideShapes Go.ChangeAt Go.RowKit
set_option linter.unusedVariables false
set_option linter.unusedSimpArgs false

theorem sq_of {w : World} {A : Option Addr} {n c : Nat} {ts : List Typ} (h : tysL.R (· < w.heap.size) w [.slice A n c] ts) : n ≤ 9223372036854775807 ∧ Sq typL (· < w.heap.size) w A ts := by
  obtain ⟨A2, c2, e, h1, h2, h3⟩ := h
  simp only [List.cons.injEq, Value.slice.injEq, and_true] at e
  obtain ⟨rfl, rfl, rfl⟩ := e
  exact ⟨by unfold maxLen at h2; omega, h3⟩
set_option maxRecDepth 100000 in
set_option maxHeartbeats 4000000 in
theorem walk (A0 A1 A2 : Option Addr) (n0 n1 n2 c0 c1 c2 : Nat) (t0 t1 t2 : List Typ) (w : World) (l0 : t0.length = n0) (l1 : t1.length = n1) (l2 : t2.length = n2) (g0 : tysL.R (· < w.heap.size) w [.slice A0 n0 c0] t0) (g1 : tysL.R (· < w.heap.size) w [.slice A1 n1 c1] t1) (g2 : tysL.R (· < w.heap.size) w [.slice A2 n2 c2] t2) :
    Calls Try.prog 3 #[.slice A0 n0 c0, .slice A1 n1 c1, .slice A2 n2 c2] w fun e w' => e = .returned (.bool true) ∧ Below w.heap.size w w' := by
  have AN := Lib.hid (fun w => answers10 w)
  obtain ⟨m0, s0⟩ := sq_of g0
  obtain ⟨m1, s1⟩ := sq_of g1
  obtain ⟨m2, s2⟩ := sq_of g2
  have J01 : Hid (∀ w1, Below w.heap.size w w1 → Calls Try.prog 6 #[.slice A0 n0 c0, .slice A1 n1 c1] w1 (Tells (belowT t0 t1) w1)) := fun w1 hb => jbelow_any A0 A1 n0 n1 c0 c1 t0 t1 w1 l0 l1 (sq_low s0 hb) (sq_low s1 hb) m0 m1
  have R01 : Hid (∀ w1, Below w.heap.size w w1 → Calls Try.prog 7 #[.slice A0 n0 c0, .slice A1 n1 c1] w1 (Tells (belowT t0 t1) w1)) := fun w1 hb => rbelow_any A0 A1 n0 n1 c0 c1 t0 t1 w1 l0 l1 (sq_low s0 hb) (sq_low s1 hb) m0 m1
  have J00 : Hid (∀ w1, Below w.heap.size w w1 → Calls Try.prog 6 #[.slice A0 n0 c0, .slice A0 n0 c0] w1 (Tells true w1)) := fun w1 hb => by
    have := jbelow_any A0 A0 n0 n0 c0 c0 t0 t0 w1 l0 l0 (sq_low s0 hb) (sq_low s0 hb) m0 m0
    rwa [belowT_refl] at this
  have J12 : Hid (∀ w1, Below w.heap.size w w1 → Calls Try.prog 6 #[.slice A1 n1 c1, .slice A2 n2 c2] w1 (Tells (belowT t1 t2) w1)) := fun w1 hb => jbelow_any A1 A2 n1 n2 c1 c2 t1 t2 w1 l1 l2 (sq_low s1 hb) (sq_low s2 hb) m1 m2
  have J02 : Hid (∀ w1, Below w.heap.size w w1 → Calls Try.prog 6 #[.slice A0 n0 c0, .slice A2 n2 c2] w1 (Tells (belowT t0 t2) w1)) := fun w1 hb => jbelow_any A0 A2 n0 n2 c0 c2 t0 t2 w1 l0 l2 (sq_low s0 hb) (sq_low s2 hb) m0 m2
  have HT : Hid (belowT t0 t1 = true → belowT t1 t2 = true → belowT t0 t2 = true) := fun h1 h2 => belowT_trans h1 h2
  clear l0 l1 l2 g0 g1 g2 m0 m1 m2 s0 s1 s2
  generalize belowT t0 t1 = b01 at *
  generalize belowT t1 t2 = b12 at *
  generalize belowT t0 t2 = b02 at *
  by_cases h50 : 50 < n0 ∨ 50 < n1 ∨ 50 < n2
  · have hor : (50 : Int) < (n0 : Int) ∨ (¬ (50 : Int) < (n0 : Int) ∧ (50 : Int) < (n1 : Int)) ∨ (¬ (50 : Int) < (n0 : Int) ∧ ¬ (50 : Int) < (n1 : Int) ∧ (50 : Int) < (n2 : Int)) := by omega
    clear h50
    rcases hor with h | ⟨h, h'⟩ | ⟨h, h', h''⟩
    all_goals
      go_enter Try.func3, Try.ntmps3
      go_wp2_with (first | (go_at_call 5; refine (AN.out _).mono ?_; rintro e w2 ⟨rfl, hb2⟩; have HB2 := Lib.hid hb2; clear hb2))
      go_ret
      exact ⟨rfl, HB2.out⟩
  have h0 : ¬ (50 : Int) < (n0 : Int) := by omega
  have h1 : ¬ (50 : Int) < (n1 : Int) := by omega
  have h2 : ¬ (50 : Int) < (n2 : Int) := by omega
  clear h50
  go_enter Try.func3, Try.ntmps3
  go_wp2_with (first
    | (go_at_call 6
       with_reducible refine (J01.out _ (Below.refl _ _)).mono ?_
       rintro e w1 ⟨rfl, hb1⟩
       have HB1 := Lib.hid hb1
       clear hb1)
    | (go_at_call 7
       with_reducible refine (R01.out _ HB1.out).mono ?_
       rintro e w2 ⟨rfl, hb2⟩
       have HB2 := Lib.hid (HB1.out.trans (hb2.mono HB1.out.size))
       clear hb2)
    | (go_at_call 6
       have hp := HB2.out
       clear hp
       with_reducible refine (J00.out _ HB2.out).mono ?_
       rintro e w3 ⟨rfl, hb3⟩
       have HB3 := Lib.hid (HB2.out.trans (hb3.mono HB2.out.size))
       clear hb3))
  refine (AN.out w3).mono ?_
  rintro e w4 ⟨rfl, hb4⟩
  have HB4 := Lib.hid (HB3.out.trans (hb4.mono HB3.out.size))
  clear hb4
  cases b01
  · go_wp2_with (first
      | (go_at_call 6
         with_reducible refine (J01.out _ HB4.out).mono ?_
         rintro e w5 ⟨rfl, hb5⟩
         have HB5 := Lib.hid (HB4.out.trans (hb5.mono HB4.out.size))
         clear hb5))
    go_ret
    exact ⟨rfl, HB5.out⟩
  cases b12
  · go_wp2_with (first
      | (go_at_call 6
         with_reducible refine (J01.out _ HB4.out).mono ?_
         rintro e w5 ⟨rfl, hb5⟩
         have HB5 := Lib.hid (HB4.out.trans (hb5.mono HB4.out.size))
         clear hb5)
      | (go_at_call 6
         have hp := HB5.out
         clear hp
         with_reducible refine (J12.out _ HB5.out).mono ?_
         rintro e w6 ⟨rfl, hb6⟩
         have HB6 := Lib.hid (HB5.out.trans (hb6.mono HB5.out.size))
         clear hb6))
    go_ret
    exact ⟨rfl, HB6.out⟩
  obtain rfl : b02 = true := HT.out rfl rfl
  go_wp2_with (first
    | (go_at_call 6
       with_reducible refine (J01.out _ HB4.out).mono ?_
       rintro e w5 ⟨rfl, hb5⟩
       have HB5 := Lib.hid (HB4.out.trans (hb5.mono HB4.out.size))
       clear hb5)
    | (go_at_call 6
       have hp := HB5.out
       clear hp
       with_reducible refine (J12.out _ HB5.out).mono ?_
       rintro e w6 ⟨rfl, hb6⟩
       have HB6 := Lib.hid (HB5.out.trans (hb6.mono HB5.out.size))
       clear hb6)
    | (go_at_call 6
       have hp := HB6.out
       clear hp
       with_reducible refine (J02.out _ HB6.out).mono ?_
       rintro e w7 ⟨rfl, hb7⟩
       have HB7 := Lib.hid (HB6.out.trans (hb7.mono HB6.out.size))
       clear hb7))
  go_ret
  exact ⟨rfl, HB7.out⟩

set_option maxRecDepth 100000 in
theorem lifted (os : Os) (started : os.Started) (H : Type) (enc : TypeId × Value → H) :
    ReturnsInHanded {} Try.checked os 3 .any (Rows.judgeBelowSpec.pre6 enc Try.prog Try.f3 Rows.judgeBelowRow.domain false) (Rows.judgeBelowSpec.post enc Try.prog Try.f3 false true false false) := by
  refine returnsInHanded_of_change (C := Try.checked) own started (by kernel_rfl) Try.func3
    (ChangeSpec.witness6 (enc := enc) (C := Try.checked) false ⟨#[], #[.slice none 0 0, .slice none 0 0, .slice none 0 0], []⟩ 8 (by kernel_rfl) (by kernel_rfl) (by kernel_rfl) (by kernel_rfl)) ?_
  intro W base args ds gs before hval0 hW hcnd _
  have hval : ∀ (j : Nat) t v, Try.f3.params[j]? = some t → args[j]? = some v → Value.okWide Try.prog W .any base t v := hval0
  have hW' := hW
  obtain ⟨p, q, hA0, hV, rfl, hfz, hnd⟩ := hW
  have hA : DataW.TrodAll enc Try.prog W 0 (fun _ => true) true Try.f3.params.toList args.toList ds p := hA0
  rw [Try.params3] at hA hval
  obtain ⟨v0, vs0, d0, ds0, p0, q0, hargs, rfl, rfl, h0, r0⟩ := trodAll_cons hA
  obtain ⟨v1, vs1, d1, ds1, p1, q1, rfl, rfl, rfl, h1, r1⟩ := trodAll_cons r0
  obtain ⟨v2, vs2, d2, ds2, p2, q2, rfl, rfl, rfl, h2, r2⟩ := trodAll_cons r1
  obtain ⟨rfl, rfl, rfl⟩ := trodAll_nil r2
  obtain rfl : args = #[v0, v1, v2] := by cases args; simp_all
  obtain ⟨rfl, rfl⟩ := trodVars_none hV
  obtain ⟨a0, len0, cap0, rfl⟩ := okWide_slice Try.underlying22 (hval 0 22 v0 rfl rfl)
  have lt0 : ∀ x ∈ p0, x.block < W.heap.size := by obtain ⟨m, hm⟩ := h0; exact DataW.trod_lt m _ _ _ hm
  obtain ⟨ts0, hx0, hT0⟩ := open_tys h0
  obtain ⟨a1, len1, cap1, rfl⟩ := okWide_slice Try.underlying22 (hval 1 22 v1 rfl rfl)
  have lt1 : ∀ x ∈ p1, x.block < W.heap.size := by obtain ⟨m, hm⟩ := h1; exact DataW.trod_lt m _ _ _ hm
  obtain ⟨ts1, hx1, hT1⟩ := open_tys h1
  obtain ⟨a2, len2, cap2, rfl⟩ := okWide_slice Try.underlying22 (hval 2 22 v2 rfl rfl)
  have lt2 : ∀ x ∈ p2, x.block < W.heap.size := by obtain ⟨m, hm⟩ := h2; exact DataW.trod_lt m _ _ _ hm
  obtain ⟨ts2, hx2, hT2⟩ := open_tys h2
  clear hA0 hval0
  refine (walk a0 a1 a2 len0 len1 len2 cap0 cap1 cap2 ts0 ts1 ts2 W hx0 hx1 hx2 hT0 hT1 hT2).mono fun e W' ⟨he, bel⟩ => ?_
  subst he
  exact ⟨_, rfl, _, _, _, [], _, [], hW', trodAll_mk1 (shut_bool Try.underlying4 _), (trodAll_cons_mk (Below.trod laidOut (by kernel_rfl) (of_decide_eq_true (by kernel_rfl)) h0 bel lt0) (trodAll_cons_mk (Below.trod laidOut (by kernel_rfl) (of_decide_eq_true (by kernel_rfl)) h1 bel lt1) (trodAll_cons_mk (Below.trod laidOut (by kernel_rfl) (of_decide_eq_true (by kernel_rfl)) h2 bel lt2) trodAll_mk0))), rfl, bel.frame _, fun h => by cases h⟩

theorem over : Rows.judgeBelowRow.holds Try.pinned (OpenSpec.ofChange Rows.judgeBelowSpec) :=
  OpenClaim.holds_of_wide 3 Try.f3 rfl rfl rfl rfl rfl rfl rfl ⟨rfl, rfl, rfl, rfl, rfl⟩ rfl rfl rfl rfl rfl (by kernel_rfl) Try.func3 (by kernel_rfl)
    (of_decide_eq_true (by kernel_rfl)) (by unfold Func.isWrapper; first | (rw [if_pos (by decide +kernel)]; kernel_rfl) | (rw [if_neg (by decide +kernel)]; exact ⟨rfl, rfl⟩))
    (fun os started H enc _ => lifted os started H enc)

/-- The statement. -/
theorem proved : Rows.JudgeBelowSaid := over
end Go.Proofs.Ytikhhcmfjncabaa.judgeBelow
