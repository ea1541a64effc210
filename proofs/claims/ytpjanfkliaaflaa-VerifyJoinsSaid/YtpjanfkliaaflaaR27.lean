/-
  Rkn Rkj Vjo
-/
import Derived.Test.YtpjanfkliaaflaaR08
import Derived.Test.YtpjanfkliaaflaaR26
set_option linter.unusedSimpArgs false
set_option linter.unusedVariables false
namespace Go.Proofs.Ytpjanfkliaaflaa
open Go.RowKit

theorem rref (k n : Int) (w : World) : Calls Try.prog 16 #[.agg #[.int .i64 k, .int .i64 n]] w fun e w' => e = .returned (.bool (refB k)) ∧ Below w.heap.size w w' := by
  by_cases h2 : k = 2
  · subst h2
    go_enter Try.func16, Try.ntmps16
    go_wp2_with fail
    go_ret
    exact ⟨rfl, (Below.refl _ _).alloc (Nat.le_refl _) _⟩
  by_cases h3 : k = 3
  · subst h3
    go_enter Try.func16, Try.ntmps16
    go_wp2_with fail
    go_ret
    exact ⟨rfl, (Below.refl _ _).alloc (Nat.le_refl _) _⟩
  by_cases h4 : k = 4
  · subst h4
    go_enter Try.func16, Try.ntmps16
    go_wp2_with fail
    go_ret
    exact ⟨rfl, (Below.refl _ _).alloc (Nat.le_refl _) _⟩
  by_cases h6 : k = 6
  · subst h6
    go_enter Try.func16, Try.ntmps16
    go_wp2_with fail
    go_ret
    exact ⟨rfl, (Below.refl _ _).alloc (Nat.le_refl _) _⟩
  by_cases h7 : k = 7
  · subst h7
    go_enter Try.func16, Try.ntmps16
    go_wp2_with fail
    go_ret
    exact ⟨rfl, (Below.refl _ _).alloc (Nat.le_refl _) _⟩
  go_enter Try.func16, Try.ntmps16
  go_wp2_with fail
  go_ret
  exact ⟨rfl, (Below.refl _ _).alloc (Nat.le_refl _) _⟩

set_option maxHeartbeats 1000000 in
theorem rsub (a b c d : Int) (w : World) : Calls Try.prog 15 #[.agg #[.int .i64 a, .int .i64 b], .agg #[.int .i64 c, .int .i64 d]] w fun e w' => e = .returned (.bool (subB a b c d)) ∧ Below w.heap.size w w' := by
  have A0 := Lib.hid (fun w => rref a b w)
  have C0 := Lib.hid (fun w => rref c d w)
  by_cases h8 : c = 8
  · subst h8
    rw [show subB a b 8 d = true by simp [subB]]
    go_enter Try.func15, Try.ntmps15
    go_wp2_with fail
    all_goals (go_ret; exact ⟨rfl, ((Below.refl _ _).alloc (Nat.le_refl _) _).alloc (by simp) _⟩)
  have e8 : (c == 8) = false := by simpa using h8
  by_cases hac : a = c
  · subst hac
    by_cases hbd : b = d
    · subst hbd
      rw [show subB a b a b = true by simp [subB]]
      go_enter Try.func15, Try.ntmps15
      go_wp2_with fail
      go_ret
      exact ⟨rfl, ((Below.refl _ _).alloc (Nat.le_refl _) _).alloc (by simp) _⟩
    have hne : (b == d) = false := by simpa using hbd
    cases hra : refB a
    · rw [show subB a b a d = false by simp [subB, hra, hne, e8]]
      replace A0 := Lib.hid (by have := A0.out; rw [hra] at this; exact this)
      clear hra
      go_enter Try.func15, Try.ntmps15
      go_wp2_with (first | (go_at_call 16; with_reducible refine (A0.out _).mono ?_; rintro e w1 ⟨rfl, hb1⟩; obtain ⟨hc1, -⟩ := bcell hb1; have hz1 : w.heap.size + 1 < w1.heap.size := by { have := hb1.size; simp at this; omega }; have hz0 : w.heap.size < w1.heap.size := by omega))
      go_ret
      exact ⟨rfl, (((Below.refl _ _).alloc (Nat.le_refl _) _).alloc (by simp) _).trans (hb1.mono (by simp; omega))⟩
    cases hrc : refB a
    · rw [show subB a b a d = false by simp [subB, hrc, hne, e8]]
      replace A0 := Lib.hid (by have := A0.out; rw [hra] at this; exact this)
      replace C0 := Lib.hid (by have := C0.out; rw [hrc] at this; exact this)
      clear hra hrc
      go_enter Try.func15, Try.ntmps15
      go_wp2_with (first | (go_at_call 16; with_reducible refine (A0.out _).mono ?_; rintro e w1 ⟨rfl, hb1⟩; obtain ⟨hc1, -⟩ := bcell hb1; have hz1 : w.heap.size + 1 < w1.heap.size := by { have := hb1.size; simp at this; omega }; have hz0 : w.heap.size < w1.heap.size := by omega) | (go_at_call 16; with_reducible refine (C0.out _).mono ?_; rintro e w2 ⟨rfl, hb2⟩; obtain ⟨hc2, -⟩ := bcell hb2))
      go_ret
      exact ⟨rfl, ((((Below.refl _ _).alloc (Nat.le_refl _) _).alloc (by simp) _).trans (hb1.mono (by simp; omega))).trans (hb2.mono (by omega))⟩
    by_cases h6 : a = 6
    · rw [show subB a b a d = true by simp only [subB, hra, hrc]; simp [h6]]
      replace A0 := Lib.hid (by have := A0.out; rw [hra] at this; exact this)
      replace C0 := Lib.hid (by have := C0.out; rw [hrc] at this; exact this)
      clear hra hrc
      have e6 : (a == 6) = true := by simpa using h6
      clear h6
      go_enter Try.func15, Try.ntmps15
      go_wp2_with (first | (go_at_call 16; with_reducible refine (A0.out _).mono ?_; rintro e w1 ⟨rfl, hb1⟩; obtain ⟨hc1, -⟩ := bcell hb1; have hz1 : w.heap.size + 1 < w1.heap.size := by { have := hb1.size; simp at this; omega }; have hz0 : w.heap.size < w1.heap.size := by omega) | (go_at_call 16; with_reducible refine (C0.out _).mono ?_; rintro e w2 ⟨rfl, hb2⟩; obtain ⟨hc2, -⟩ := bcell hb2))
      go_ret
      exact ⟨rfl, ((((Below.refl _ _).alloc (Nat.le_refl _) _).alloc (by simp) _).trans (hb1.mono (by simp; omega))).trans (hb2.mono (by omega))⟩
    rw [show subB a b a d = (a == 7) by simp [subB, hra, hrc, h6, hne, e8]]
    replace A0 := Lib.hid (by have := A0.out; rw [hra] at this; exact this)
    replace C0 := Lib.hid (by have := C0.out; rw [hrc] at this; exact this)
    clear hra hrc
    have e6 : (a == 6) = false := by simpa using h6
    clear h6
    go_enter Try.func15, Try.ntmps15
    go_wp2_with (first | (go_at_call 16; with_reducible refine (A0.out _).mono ?_; rintro e w1 ⟨rfl, hb1⟩; obtain ⟨hc1, -⟩ := bcell hb1; have hz1 : w.heap.size + 1 < w1.heap.size := by { have := hb1.size; simp at this; omega }; have hz0 : w.heap.size < w1.heap.size := by omega) | (go_at_call 16; with_reducible refine (C0.out _).mono ?_; rintro e w2 ⟨rfl, hb2⟩; obtain ⟨hc2, -⟩ := bcell hb2))
    go_ret
    exact ⟨rfl, ((((Below.refl _ _).alloc (Nat.le_refl _) _).alloc (by simp) _).trans (hb1.mono (by simp; omega))).trans (hb2.mono (by omega))⟩
  have hne : (a == c) = false := by simpa using hac
  cases hra : refB a
  · rw [show subB a b c d = false by simp [subB, hra, hne, e8]]
    replace A0 := Lib.hid (by have := A0.out; rw [hra] at this; exact this)
    clear hra
    go_enter Try.func15, Try.ntmps15
    go_wp2_with (first | (go_at_call 16; with_reducible refine (A0.out _).mono ?_; rintro e w1 ⟨rfl, hb1⟩; obtain ⟨hc1, -⟩ := bcell hb1; have hz1 : w.heap.size + 1 < w1.heap.size := by { have := hb1.size; simp at this; omega }; have hz0 : w.heap.size < w1.heap.size := by omega))
    go_ret
    exact ⟨rfl, (((Below.refl _ _).alloc (Nat.le_refl _) _).alloc (by simp) _).trans (hb1.mono (by simp; omega))⟩
  cases hrc : refB c
  · rw [show subB a b c d = false by simp [subB, hrc, hne, e8]]
    replace A0 := Lib.hid (by have := A0.out; rw [hra] at this; exact this)
    replace C0 := Lib.hid (by have := C0.out; rw [hrc] at this; exact this)
    clear hra hrc
    go_enter Try.func15, Try.ntmps15
    go_wp2_with (first | (go_at_call 16; with_reducible refine (A0.out _).mono ?_; rintro e w1 ⟨rfl, hb1⟩; obtain ⟨hc1, -⟩ := bcell hb1; have hz1 : w.heap.size + 1 < w1.heap.size := by { have := hb1.size; simp at this; omega }; have hz0 : w.heap.size < w1.heap.size := by omega) | (go_at_call 16; with_reducible refine (C0.out _).mono ?_; rintro e w2 ⟨rfl, hb2⟩; obtain ⟨hc2, -⟩ := bcell hb2))
    go_ret
    exact ⟨rfl, ((((Below.refl _ _).alloc (Nat.le_refl _) _).alloc (by simp) _).trans (hb1.mono (by simp; omega))).trans (hb2.mono (by omega))⟩
  by_cases h6 : a = 6
  · rw [show subB a b c d = true by simp only [subB, hra, hrc]; simp [h6]]
    replace A0 := Lib.hid (by have := A0.out; rw [hra] at this; exact this)
    replace C0 := Lib.hid (by have := C0.out; rw [hrc] at this; exact this)
    clear hra hrc
    have e6 : (a == 6) = true := by simpa using h6
    clear h6
    go_enter Try.func15, Try.ntmps15
    go_wp2_with (first | (go_at_call 16; with_reducible refine (A0.out _).mono ?_; rintro e w1 ⟨rfl, hb1⟩; obtain ⟨hc1, -⟩ := bcell hb1; have hz1 : w.heap.size + 1 < w1.heap.size := by { have := hb1.size; simp at this; omega }; have hz0 : w.heap.size < w1.heap.size := by omega) | (go_at_call 16; with_reducible refine (C0.out _).mono ?_; rintro e w2 ⟨rfl, hb2⟩; obtain ⟨hc2, -⟩ := bcell hb2))
    go_ret
    exact ⟨rfl, ((((Below.refl _ _).alloc (Nat.le_refl _) _).alloc (by simp) _).trans (hb1.mono (by simp; omega))).trans (hb2.mono (by omega))⟩
  rw [show subB a b c d = (c == 7) by simp [subB, hra, hrc, h6, hne, e8]]
  replace A0 := Lib.hid (by have := A0.out; rw [hra] at this; exact this)
  replace C0 := Lib.hid (by have := C0.out; rw [hrc] at this; exact this)
  clear hra hrc
  have e6 : (a == 6) = false := by simpa using h6
  clear h6
  go_enter Try.func15, Try.ntmps15
  go_wp2_with (first | (go_at_call 16; with_reducible refine (A0.out _).mono ?_; rintro e w1 ⟨rfl, hb1⟩; obtain ⟨hc1, -⟩ := bcell hb1; have hz1 : w.heap.size + 1 < w1.heap.size := by { have := hb1.size; simp at this; omega }; have hz0 : w.heap.size < w1.heap.size := by omega) | (go_at_call 16; with_reducible refine (C0.out _).mono ?_; rintro e w2 ⟨rfl, hb2⟩; obtain ⟨hc2, -⟩ := bcell hb2))
  go_ret
  exact ⟨rfl, ((((Below.refl _ _).alloc (Nat.le_refl _) _).alloc (by simp) _).trans (hb1.mono (by simp; omega))).trans (hb2.mono (by omega))⟩
end Go.Proofs.Ytpjanfkliaaflaa
namespace Go.Proofs.Ytpjanfkliaaflaa
open Go.RowKit

set_option maxHeartbeats 1000000 in
theorem rjoin2 (a b c d : Int) (w : World) : Calls Try.prog 8 #[.agg #[.int .i64 a, .int .i64 b], .agg #[.int .i64 c, .int .i64 d]] w fun e w' => e = .returned (.agg #[.int .i64 (joinK a b c d), .int .i64 (joinN a b c d)]) ∧ Below w.heap.size w w' := by
  have S1 := Lib.hid (fun w => rsub a b c d w)
  have S2 := Lib.hid (fun w => rsub c d a b w)
  have R1 := Lib.hid (fun w => rref a b w)
  have R2 := Lib.hid (fun w => rref c d w)
  cases h1 : subB a b c d
  · cases h2 : subB c d a b
    · cases h3 : refB a
      · rw [show joinK a b c d = 8 by simp [joinK, h1, h2, h3], show joinN a b c d = 0 by simp [joinN, h1, h2]]
        replace S1 := Lib.hid (by have := S1.out; rw [h1] at this; exact this)
        replace S2 := Lib.hid (by have := S2.out; rw [h2] at this; exact this)
        replace R1 := Lib.hid (by have := R1.out; rw [h3] at this; exact this)
        clear h1 h2 h3
        go_enter Try.func8, Try.ntmps8
        go_wp2_with (first | (go_at_call 15; with_reducible refine (S1.out _).mono ?_; rintro e w1 ⟨rfl, hb1⟩; obtain ⟨hc1, hf1⟩ := bcell hb1; have hz1 : w.heap.size + 2 < w1.heap.size := by { have := hb1.size; simp at this; omega }; have hy1 : w.heap.size + 1 < w1.heap.size := (by omega); have hx1 : w.heap.size < w1.heap.size := by omega) | (go_at_call 15; with_reducible refine (S2.out _).mono ?_; rintro e w2 ⟨rfl, hb2⟩; obtain ⟨hc2, hf2⟩ := bcell hb2; have hz2 : w.heap.size + 2 < w2.heap.size := by { have := hb2.size; omega }; have hy2 : w.heap.size + 1 < w2.heap.size := (by omega); have hx2 : w.heap.size < w2.heap.size := by omega) | (go_at_call 16; with_reducible refine (R1.out _).mono ?_; rintro e w3 ⟨rfl, hb3⟩; obtain ⟨hc3, hf3⟩ := bcell hb3; have hz3 : w.heap.size + 2 < w3.heap.size := by { have := hb3.size; omega }; have hy3 : w.heap.size + 1 < w3.heap.size := (by omega); have hx3 : w.heap.size < w3.heap.size := by omega))
        exact bodyPost_ret (v := .agg #[.int .i64 8, .int .i64 0]) (by simp [results, Try.results8, go_sem, hc1, hz1, hy1, hx1, hc2, hz2, hy2, hx2, hc3, hz3, hy3, hx3]) rfl ⟨rfl, ((((((((Below.refl _ _).alloc (Nat.le_refl _) _).alloc (by simp) _).alloc (by simp <;> omega) _).trans (hb1.mono (by simp; omega))).trans (hb2.mono (by omega))).trans (hb3.mono (by omega))).setCell (by simp <;> omega) _).setCell (by simp <;> omega) _⟩
      · cases h4 : refB c
        · rw [show joinK a b c d = 8 by simp [joinK, h1, h2, h4], show joinN a b c d = 0 by simp [joinN, h1, h2]]
          replace S1 := Lib.hid (by have := S1.out; rw [h1] at this; exact this)
          replace S2 := Lib.hid (by have := S2.out; rw [h2] at this; exact this)
          replace R1 := Lib.hid (by have := R1.out; rw [h3] at this; exact this)
          replace R2 := Lib.hid (by have := R2.out; rw [h4] at this; exact this)
          clear h1 h2 h3 h4
          go_enter Try.func8, Try.ntmps8
          go_wp2_with (first | (go_at_call 15; with_reducible refine (S1.out _).mono ?_; rintro e w1 ⟨rfl, hb1⟩; obtain ⟨hc1, hf1⟩ := bcell hb1; have hz1 : w.heap.size + 2 < w1.heap.size := by { have := hb1.size; simp at this; omega }; have hy1 : w.heap.size + 1 < w1.heap.size := (by omega); have hx1 : w.heap.size < w1.heap.size := by omega) | (go_at_call 15; with_reducible refine (S2.out _).mono ?_; rintro e w2 ⟨rfl, hb2⟩; obtain ⟨hc2, hf2⟩ := bcell hb2; have hz2 : w.heap.size + 2 < w2.heap.size := by { have := hb2.size; omega }; have hy2 : w.heap.size + 1 < w2.heap.size := (by omega); have hx2 : w.heap.size < w2.heap.size := by omega) | (go_at_call 16; with_reducible refine (R1.out _).mono ?_; rintro e w3 ⟨rfl, hb3⟩; obtain ⟨hc3, hf3⟩ := bcell hb3; have hz3 : w.heap.size + 2 < w3.heap.size := by { have := hb3.size; omega }; have hy3 : w.heap.size + 1 < w3.heap.size := (by omega); have hx3 : w.heap.size < w3.heap.size := by omega) | (go_at_call 16; with_reducible refine (R2.out _).mono ?_; rintro e w4 ⟨rfl, hb4⟩; obtain ⟨hc4, hf4⟩ := bcell hb4; have hz4 : w.heap.size + 2 < w4.heap.size := by { have := hb4.size; omega }; have hy4 : w.heap.size + 1 < w4.heap.size := (by omega); have hx4 : w.heap.size < w4.heap.size := by omega))
          exact bodyPost_ret (v := .agg #[.int .i64 8, .int .i64 0]) (by simp [results, Try.results8, go_sem, hc1, hz1, hy1, hx1, hc2, hz2, hy2, hx2, hc3, hz3, hy3, hx3, hc4, hz4, hy4, hx4]) rfl ⟨rfl, (((((((((Below.refl _ _).alloc (Nat.le_refl _) _).alloc (by simp) _).alloc (by simp <;> omega) _).trans (hb1.mono (by simp; omega))).trans (hb2.mono (by omega))).trans (hb3.mono (by omega))).trans (hb4.mono (by omega))).setCell (by simp <;> omega) _).setCell (by simp <;> omega) _⟩
        · rw [show joinK a b c d = 7 by simp [joinK, h1, h2, h3, h4], show joinN a b c d = 0 by simp [joinN, h1, h2]]
          replace S1 := Lib.hid (by have := S1.out; rw [h1] at this; exact this)
          replace S2 := Lib.hid (by have := S2.out; rw [h2] at this; exact this)
          replace R1 := Lib.hid (by have := R1.out; rw [h3] at this; exact this)
          replace R2 := Lib.hid (by have := R2.out; rw [h4] at this; exact this)
          clear h1 h2 h3 h4
          go_enter Try.func8, Try.ntmps8
          go_wp2_with (first | (go_at_call 15; with_reducible refine (S1.out _).mono ?_; rintro e w1 ⟨rfl, hb1⟩; obtain ⟨hc1, hf1⟩ := bcell hb1; have hz1 : w.heap.size + 2 < w1.heap.size := by { have := hb1.size; simp at this; omega }; have hy1 : w.heap.size + 1 < w1.heap.size := (by omega); have hx1 : w.heap.size < w1.heap.size := by omega) | (go_at_call 15; with_reducible refine (S2.out _).mono ?_; rintro e w2 ⟨rfl, hb2⟩; obtain ⟨hc2, hf2⟩ := bcell hb2; have hz2 : w.heap.size + 2 < w2.heap.size := by { have := hb2.size; omega }; have hy2 : w.heap.size + 1 < w2.heap.size := (by omega); have hx2 : w.heap.size < w2.heap.size := by omega) | (go_at_call 16; with_reducible refine (R1.out _).mono ?_; rintro e w3 ⟨rfl, hb3⟩; obtain ⟨hc3, hf3⟩ := bcell hb3; have hz3 : w.heap.size + 2 < w3.heap.size := by { have := hb3.size; omega }; have hy3 : w.heap.size + 1 < w3.heap.size := (by omega); have hx3 : w.heap.size < w3.heap.size := by omega) | (go_at_call 16; with_reducible refine (R2.out _).mono ?_; rintro e w4 ⟨rfl, hb4⟩; obtain ⟨hc4, hf4⟩ := bcell hb4; have hz4 : w.heap.size + 2 < w4.heap.size := by { have := hb4.size; omega }; have hy4 : w.heap.size + 1 < w4.heap.size := (by omega); have hx4 : w.heap.size < w4.heap.size := by omega))
          exact bodyPost_ret (v := .agg #[.int .i64 7, .int .i64 0]) (by simp [results, Try.results8, go_sem, hc1, hz1, hy1, hx1, hc2, hz2, hy2, hx2, hc3, hz3, hy3, hx3, hc4, hz4, hy4, hx4]) rfl ⟨rfl, (((((((((Below.refl _ _).alloc (Nat.le_refl _) _).alloc (by simp) _).alloc (by simp <;> omega) _).trans (hb1.mono (by simp; omega))).trans (hb2.mono (by omega))).trans (hb3.mono (by omega))).trans (hb4.mono (by omega))).setCell (by simp <;> omega) _).setCell (by simp <;> omega) _⟩
    · rw [show joinK a b c d = a by simp [joinK, h1, h2], show joinN a b c d = b by simp [joinN, h1, h2]]
      replace S1 := Lib.hid (by have := S1.out; rw [h1] at this; exact this)
      replace S2 := Lib.hid (by have := S2.out; rw [h2] at this; exact this)
      clear h1 h2
      go_enter Try.func8, Try.ntmps8
      go_wp2_with (first | (go_at_call 15; with_reducible refine (S1.out _).mono ?_; rintro e w1 ⟨rfl, hb1⟩; obtain ⟨hc1, hf1⟩ := bcell hb1; have hz1 : w.heap.size + 2 < w1.heap.size := by { have := hb1.size; simp at this; omega }; have hy1 : w.heap.size + 1 < w1.heap.size := (by omega); have hx1 : w.heap.size < w1.heap.size := by omega) | (go_at_call 15; with_reducible refine (S2.out _).mono ?_; rintro e w2 ⟨rfl, hb2⟩; obtain ⟨hc2, hf2⟩ := bcell hb2; have hz2 : w.heap.size + 2 < w2.heap.size := by { have := hb2.size; omega }; have hy2 : w.heap.size + 1 < w2.heap.size := (by omega); have hx2 : w.heap.size < w2.heap.size := by omega))
      exact bodyPost_ret (v := .agg #[.int .i64 a, .int .i64 b]) (by simp [results, Try.results8, go_sem, hc1, hz1, hy1, hx1, hc2, hz2, hy2, hx2]) rfl ⟨rfl, (((((((Below.refl _ _).alloc (Nat.le_refl _) _).alloc (by simp) _).alloc (by simp <;> omega) _).trans (hb1.mono (by simp; omega))).trans (hb2.mono (by omega))).setCell (by simp <;> omega) _).setCell (by simp <;> omega) _⟩
  · rw [show joinK a b c d = c by simp [joinK, h1], show joinN a b c d = d by simp [joinN, h1]]
    replace S1 := Lib.hid (by have := S1.out; rw [h1] at this; exact this)
    clear h1
    go_enter Try.func8, Try.ntmps8
    go_wp2_with (first | (go_at_call 15; with_reducible refine (S1.out _).mono ?_; rintro e w1 ⟨rfl, hb1⟩; obtain ⟨hc1, hf1⟩ := bcell hb1; have hz1 : w.heap.size + 2 < w1.heap.size := by { have := hb1.size; simp at this; omega }; have hy1 : w.heap.size + 1 < w1.heap.size := (by omega); have hx1 : w.heap.size < w1.heap.size := by omega))
    exact bodyPost_ret (v := .agg #[.int .i64 c, .int .i64 d]) (by simp [results, Try.results8, go_sem, hc1, hz1, hy1, hx1]) rfl ⟨rfl, ((((((Below.refl _ _).alloc (Nat.le_refl _) _).alloc (by simp) _).alloc (by simp <;> omega) _).trans (hb1.mono (by simp; omega))).setCell (by simp <;> omega) _).setCell (by simp <;> omega) _⟩
end Go.Proofs.Ytpjanfkliaaflaa
namespace Go.Proofs.Ytpjanfkliaaflaa
open Go.RowKit

def opL (i : Nat) : Ins := [(0, 0, 0), (1, 0, 0), (2, 0, 0), (28, 0, 0), (28, 1, 0)].getD i (0, 0, 0)
def tpL (i : Nat) : Typ := [(1, 0), (2, 0), (6, 0), (4, 0), (4, 1)].getD i (1, 0)
def joinCode (x y : Nat) : List Ins := [(0, 0, 0), (24, 4, 0), opL x, (23, 5, 0), opL y, (5, 0, 0), (0, 0, 0), (26, 0, 0), (8, 0, 0)]
def joinFn (x y : Nat) : Fn := ⟨[], (1, 0), [], joinCode x y⟩
def joinMod (x y : Nat) : Mod := ⟨[[], []], [joinFn x y], [], [1], [[]]⟩
def joinShapes (x y : Nat) : List Shape := (stepsF (joinMod x y) (joinFn x y) (List.range (joinCode x y).length) (beginF (joinCode x y).length)).getD []
theorem jn_all : ∀ x < 5, ∀ y < 5, checkN (joinMod x y) = 0 ∧ mainB (joinMod x y) = true ∧ ∀ t ∈ joinCode x y, (-9223372036854775808 ≤ t.1 ∧ t.1 ≤ 9223372036854775807) ∧ (-9223372036854775808 ≤ t.2.1 ∧ t.2.1 ≤ 9223372036854775807) ∧ (-9223372036854775808 ≤ t.2.2 ∧ t.2.2 ≤ 9223372036854775807) := by decide +kernel
theorem jn_yes1 : ∀ x < 5, ∀ y < 5, (stepsF (joinMod x y) (joinFn x y) (List.range (joinCode x y).length) (beginF (joinCode x y).length)).isSome = true := by decide +kernel
theorem jn_yes2 : ∀ x < 5, ∀ y < 5, (List.range (joinCode x y).length).all (okF (joinMod x y) (joinFn x y) (joinShapes x y)) = true := by decide +kernel
theorem jn_yes3 : ∀ x < 5, ∀ y < 5, (joinShapes x y).all outF = true := by decide +kernel
theorem jn_yes4 : ∀ x < 5, ∀ y < 5, (joinShapes x y).length = 9 := by decide +kernel
theorem jn_yes5 : ∀ x < 5, ∀ y < 5, ((joinShapes x y)[5]?).map (fun s => (s.1, s.2.length)) = some (true, 1) := by decide +kernel
theorem jn_yes6 : ∀ x < 5, ∀ y < 5, (((joinShapes x y).getD 5 (true, [])).2.getD 0 (0, 0)).1 = (joinT (tpL x) (tpL y)).1 := by decide +kernel
theorem jn_yes7 : ∀ x < 5, ∀ y < 5, (((joinShapes x y).getD 5 (true, [])).2.getD 0 (0, 0)).2 = (joinT (tpL x) (tpL y)).2 := by decide +kernel
theorem jn_yes8 : ∀ x < 5, ∀ y < 5, ((joinShapes x y)[8]?).map (fun s => (s.1, s.2.length)) = some (false, 0) := by decide +kernel
theorem jn_five {x y : Nat} (hx : x < 5) (hy : y < 5) : (joinShapes x y)[5]? = some (true, [joinT (tpL x) (tpL y)]) := by
  obtain ⟨⟨b, s⟩, h1, h2⟩ := Option.map_eq_some_iff.1 (jn_yes5 x hx y hy)
  have h6 := jn_yes6 x hx y hy
  have h7 := jn_yes7 x hx y hy
  simp only [Prod.mk.injEq] at h2
  obtain ⟨rfl, h2⟩ := h2
  obtain ⟨t, rfl⟩ := List.length_eq_one_iff.1 h2
  rw [show (joinShapes x y).getD 5 (true, []) = (true, [t]) by rw [List.getD_eq_getElem?_getD, h1]; rfl] at h6 h7
  simp only [List.getD_cons_zero] at h6 h7
  rw [h1]
  have e : t = joinT (tpL x) (tpL y) := Prod.ext h6 h7
  rw [e]
theorem jn_eight {x y : Nat} (hx : x < 5) (hy : y < 5) : (joinShapes x y)[8]? = some (false, []) := by
  obtain ⟨⟨b, s⟩, h1, h2⟩ := Option.map_eq_some_iff.1 (jn_yes8 x hx y hy)
  simp only [Prod.mk.injEq] at h2
  obtain ⟨rfl, h2⟩ := h2
  obtain rfl := List.length_eq_zero_iff.1 h2
  exact h1
theorem jn_least {x y : Nat} (hx : x < 5) (hy : y < 5) : LeastM (joinMod x y) [joinShapes x y] := by
  obtain ⟨h1, h2, -⟩ := jn_all x hx y hy
  obtain ⟨l, hl⟩ := Option.isSome_iff_exists.1 (jn_yes1 x hx y hy)
  have k1 : stepsF (joinMod x y) (joinFn x y) (List.range (joinCode x y).length) (beginF (joinCode x y).length) = some (joinShapes x y) := by unfold joinShapes; rw [hl]; rfl
  exact leastM_one (fn := joinFn x y) rfl (reckon_least h1 (by simp [joinMod]) (by simp [joinFn, joinCode]) _ _ k1 (jn_yes2 x hx y hy) (jn_yes3 x hx y hy))
theorem jn_bc {W W' : World} {p : Addr} {v : Value} (c : W.cell? p = some v) (h : Below W.heap.size W W') : W'.cell? p = some v := by
  rw [h.cell (World.block_lt_of_cell? W p c)]
  exact c
theorem jn_tp {v : World} {b : Nat} (h : Blk v b 23 #[.int .i64 1, .int .i64 0, .int .i64 2, .int .i64 0, .int .i64 6, .int .i64 0, .int .i64 4, .int .i64 0, .int .i64 4, .int .i64 1]) {i : Nat} (hi : i < 5) :
    v.cell? ⟨b, i * 2, none⟩ = some (.int .i64 (tpL i).1) ∧ v.cell? ⟨b, i * 2 + 1, none⟩ = some (.int .i64 (tpL i).2) := by
  match i, hi with
  | 0, _ | 1, _ | 2, _ | 3, _ | 4, _ => exact ⟨h.cell _, h.cell _⟩
theorem blk_own {w : World} {g base ty k n : Nat} {cs : Array Value} (h : Blk w g ty cs) (hb : base ≤ g) (hn : 0 < n) (hk : cs.size = n * k) (hm : n ≤ maxLen) : w.ownsRow base ty k (.slice (some ⟨g, 0, none⟩) n n) n cs.toList :=
  ⟨by simp [hk], .inr ⟨g, n, cs, rfl, hb, h, Nat.le_refl _, hm, by omega, by rw [List.take_of_length_le (by simp [hk])]⟩⟩
theorem jn_lies {w : World} {g0 g1 g2 g3 r i s f c : Nat} {x y : Nat} (hx : x < 5) (hy : y < 5)
    (hr : Blk w r g0 #[.slice none 0 0, .slice none 0 0]) (hi : Blk w i g1 #[.int .u64 1]) (hs : Blk w s g2 #[.string ⟨#[]⟩])
    (hf : Blk w f g3 #[.slice none 0 0, .int .i64 1, .int .i64 0, .slice none 0 0, .slice (some ⟨c, 0, none⟩) 9 9])
    (hc : codL.R (· < w.heap.size) w [.slice (some ⟨c, 0, none⟩) 9 9] (joinCode x y)) :
    modL.R (· < w.heap.size) w [.slice (some ⟨r, 0, none⟩) 2 2, .slice (some ⟨f, 0, none⟩) 1 1, .slice none 0 0, .slice (some ⟨i, 0, none⟩) 1 1, .slice (some ⟨s, 0, none⟩) 1 1] (joinMod x y) := by
  have i64 : ∀ k : Int, 0 ≤ k → k ≤ 1000 → I64 k := fun k h1 h2 => ⟨by omega, by omega⟩
  have h2 : (slL tysL).R (· < w.heap.size) w [.slice (some ⟨r, 0, none⟩) 2 2] [[], []] := by
    refine raw_sl (L := tysL) (ty := g0) (base := 0) (xs := [[], []]) (css := [[.slice none 0 0], [.slice none 0 0]]) rfl (blk_own (n := 2) (k := 1) hr (Nat.zero_le _) (by omega) rfl (by simp [maxLen])) ?_ (fun b _ h => h)
    intro j xx cs hj hcs
    match j with
    | 0 | 1 =>
      simp at hj hcs
      subst hj
      subst hcs
      exact nil_sl _ _ _
    | j + 2 => simp at hj
  exact ⟨_, _, _, _, _, rfl, h2, one_sl (L := fnL) (x := joinFn x y) hf hf.lt ⟨_, _, _, rfl, i64 1 (by decide) (by decide), i64 0 (by decide) (by decide), nil_sl _ _ _, nil_sl _ _ _, hc⟩, nil_sl _ _ _, one_sl (L := numL) (x := 1) hi hi.lt ⟨rfl, by decide⟩, one_sl (L := strL) (x := []) hs hs.lt ⟨_, rfl, rfl⟩⟩
end Go.Proofs.Ytpjanfkliaaflaa
