/-
  What the document's Module does where a count is too great: nothing fits. Conditions: none but that there is a module.
-/
import Derived.Test.YtngjnkkdhjholaaGreatQ22
namespace Go.Proofs.YtngjnkkdhjholaaGreat
open Go.RowKit
set_option linter.unusedSimpArgs false
set_option linter.unusedVariables false

set_option maxRecDepth 100000 in
set_option maxHeartbeats 4000000 in
theorem rmod_not (cs : List Value) (x : Mod) (w : World) (h : modL.R (· < w.heap.size) w cs x) (hc : ¬ (x.recs.length ≤ 8 ∧ 1 ≤ x.funcs.length ∧ x.funcs.length ≤ 8 ∧ x.imps.length ≤ 8 ∧ x.ints.length ≤ 16 ∧ x.texts.length ≤ 16)) : Calls Tryz.prog 9 #[vAgg cs] w (RMod x w) := by
  obtain ⟨_, _, _, _, _, rfl, ⟨A0, d0, e0, l0, m0, s0⟩, ⟨A1, d1, e1, l1, m1, s1⟩, ⟨A2, d2, e2, l2, m2, s2⟩, ⟨A3, d3, e3, l3, m3, s3⟩, ⟨A4, d4, e4, l4, m4, s4⟩⟩ := h
  simp only [List.cons.injEq, and_true] at e0 e1 e2 e3 e4
  subst e0 e1 e2 e3 e4
  unfold maxLen at m0 m1 m2 m3 m4
  show Calls Tryz.prog 9 #[.agg #[.slice A0 x.recs.length d0, .slice A1 x.funcs.length d1, .slice A2 x.imps.length d2, .slice A3 x.ints.length d3, .slice A4 x.texts.length d4]] w _
  obtain ⟨n0, hn0⟩ : ∃ n, x.recs.length = n := ⟨_, rfl⟩
  have HL0 := Lib.hid hn0
  have HS0 := Lib.hid s0
  obtain ⟨n1, hn1⟩ : ∃ n, x.funcs.length = n := ⟨_, rfl⟩
  have HL1 := Lib.hid hn1
  have HS1 := Lib.hid s1
  obtain ⟨n2, hn2⟩ : ∃ n, x.imps.length = n := ⟨_, rfl⟩
  have HL2 := Lib.hid hn2
  have HS2 := Lib.hid s2
  obtain ⟨n3, hn3⟩ : ∃ n, x.ints.length = n := ⟨_, rfl⟩
  have HL3 := Lib.hid hn3
  have HS3 := Lib.hid s3
  obtain ⟨n4, hn4⟩ : ∃ n, x.texts.length = n := ⟨_, rfl⟩
  have HL4 := Lib.hid hn4
  have HS4 := Lib.hid s4
  rw [hn0, hn1, hn2, hn3, hn4] at hc ⊢
  rw [hn0] at l0
  rw [hn1] at l1
  rw [hn2] at l2
  rw [hn3] at l3
  rw [hn4] at l4
  clear hn0 s0 hn1 s1 hn2 s2 hn3 s3 hn4 s4
  have HB0 : Hid (Below w.heap.size w (w.alloc (.cells #[.slice A0 n0 d0, .slice A1 n1 d1, .slice A2 n2 d2, .slice A3 n3 d3, .slice A4 n4 d4] 28))) := (Below.refl _ _).alloc (Nat.le_refl _) _
  have HF : Hid (fitB x = false) := by
    cases hf : fitB x
    · rfl
    · exfalso
      have hF := fitB_iff.1 hf
      have := hF.r8
      have := hF.f1
      have := hF.f8
      have := hF.i8
      have := hF.n16
      have := hF.t16
      rw [HL0.out] at *
      rw [HL1.out] at *
      rw [HL2.out] at *
      rw [HL3.out] at *
      rw [HL4.out] at *
      omega
  have FIN : Hid (∀ W' : World, Below w.heap.size w W' → RMod x w (.returned (.tuple #[.slice none 0 0, .bool false])) W') := fun W' hb => ⟨hb, .inr ⟨HF.out, none, 0, 0, rfl⟩⟩
  by_cases c0 : n0 ≤ 8
  rotate_left
  · have g0 : (8 : Int) < (n0 : Int) := by omega
    clear hc
    go_enter Tryz.func9, Tryz.ntmps9
    go_wp2_with fail
    go_ret2
    exact FIN.out _ HB0.out
  by_cases c1 : 1 ≤ n1
  rotate_left
  · have g0 : ¬ (8 : Int) < (n0 : Int) := by omega
    have g1 : (n1 : Int) < (1 : Int) := by omega
    clear hc
    go_enter Tryz.func9, Tryz.ntmps9
    go_wp2_with fail
    go_ret2
    exact FIN.out _ HB0.out
  by_cases c2 : n1 ≤ 8
  rotate_left
  · have g0 : ¬ (8 : Int) < (n0 : Int) := by omega
    have g1 : ¬ (n1 : Int) < (1 : Int) := by omega
    have g2 : (8 : Int) < (n1 : Int) := by omega
    clear hc
    go_enter Tryz.func9, Tryz.ntmps9
    go_wp2_with fail
    go_ret2
    exact FIN.out _ HB0.out
  by_cases c3 : n2 ≤ 8
  rotate_left
  · have g0 : ¬ (8 : Int) < (n0 : Int) := by omega
    have g1 : ¬ (n1 : Int) < (1 : Int) := by omega
    have g2 : ¬ (8 : Int) < (n1 : Int) := by omega
    have g3 : (8 : Int) < (n2 : Int) := by omega
    clear hc
    go_enter Tryz.func9, Tryz.ntmps9
    go_wp2_with fail
    go_ret2
    exact FIN.out _ HB0.out
  by_cases c4 : n3 ≤ 16
  rotate_left
  · have g0 : ¬ (8 : Int) < (n0 : Int) := by omega
    have g1 : ¬ (n1 : Int) < (1 : Int) := by omega
    have g2 : ¬ (8 : Int) < (n1 : Int) := by omega
    have g3 : ¬ (8 : Int) < (n2 : Int) := by omega
    have g4 : (16 : Int) < (n3 : Int) := by omega
    clear hc
    go_enter Tryz.func9, Tryz.ntmps9
    go_wp2_with fail
    go_ret2
    exact FIN.out _ HB0.out
  have g0 : ¬ (8 : Int) < (n0 : Int) := by omega
  have g1 : ¬ (n1 : Int) < (1 : Int) := by omega
  have g2 : ¬ (8 : Int) < (n1 : Int) := by omega
  have g3 : ¬ (8 : Int) < (n2 : Int) := by omega
  have g4 : ¬ (16 : Int) < (n3 : Int) := by omega
  have g5 : (16 : Int) < (n4 : Int) := by omega
  clear hc
  go_enter Tryz.func9, Tryz.ntmps9
  go_wp2_with fail
  go_ret2
  exact FIN.out _ HB0.out
end Go.Proofs.YtngjnkkdhjholaaGreat
