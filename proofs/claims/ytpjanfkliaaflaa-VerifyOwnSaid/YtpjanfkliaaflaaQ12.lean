/-
  Kjn
-/
import Derived.Test.YtpjanfkliaaflaaQ09
set_option linter.unusedSimpArgs false
set_option linter.unusedVariables false
namespace Go.Proofs.Ytpjanfkliaaflaa
open Go.RowKit

set_option maxHeartbeats 1000000 in
theorem kjoin (a b c d : Int) (w : World) : Calls Try.prog 74 #[.agg #[.int .i64 a, .int .i64 b], .agg #[.int .i64 c, .int .i64 d]] w fun e w' => e = .returned (.agg #[.int .i64 (joinK a b c d), .int .i64 (joinN a b c d)]) ∧ Below w.heap.size w w' := by
  have S1 := Lib.hid (fun w => ksub a b c d w)
  have S2 := Lib.hid (fun w => ksub c d a b w)
  have R1 := Lib.hid (fun w => kref a b w)
  have R2 := Lib.hid (fun w => kref c d w)
  cases h1 : subB a b c d
  · cases h2 : subB c d a b
    · cases h3 : refB a
      · rw [show joinK a b c d = 8 by simp [joinK, h1, h2, h3], show joinN a b c d = 0 by simp [joinN, h1, h2]]
        replace S1 := Lib.hid (by have := S1.out; rw [h1] at this; exact this)
        replace S2 := Lib.hid (by have := S2.out; rw [h2] at this; exact this)
        replace R1 := Lib.hid (by have := R1.out; rw [h3] at this; exact this)
        clear h1 h2 h3
        go_enter Try.func74, Try.ntmps74
        go_wp2_with (first | (go_at_call 86; with_reducible refine (S1.out _).mono ?_; rintro e w1 ⟨rfl, hb1⟩; obtain ⟨hc1, hf1⟩ := bcell hb1; have hz1 : w.heap.size + 2 < w1.heap.size := by { have := hb1.size; simp at this; omega }; have hy1 : w.heap.size + 1 < w1.heap.size := (by omega); have hx1 : w.heap.size < w1.heap.size := by omega) | (go_at_call 86; with_reducible refine (S2.out _).mono ?_; rintro e w2 ⟨rfl, hb2⟩; obtain ⟨hc2, hf2⟩ := bcell hb2; have hz2 : w.heap.size + 2 < w2.heap.size := by { have := hb2.size; omega }; have hy2 : w.heap.size + 1 < w2.heap.size := (by omega); have hx2 : w.heap.size < w2.heap.size := by omega) | (go_at_call 87; with_reducible refine (R1.out _).mono ?_; rintro e w3 ⟨rfl, hb3⟩; obtain ⟨hc3, hf3⟩ := bcell hb3; have hz3 : w.heap.size + 2 < w3.heap.size := by { have := hb3.size; omega }; have hy3 : w.heap.size + 1 < w3.heap.size := (by omega); have hx3 : w.heap.size < w3.heap.size := by omega))
        exact bodyPost_ret (v := .agg #[.int .i64 8, .int .i64 0]) (by simp [results, Try.results74, go_sem, hc1, hz1, hy1, hx1, hc2, hz2, hy2, hx2, hc3, hz3, hy3, hx3]) rfl ⟨rfl, ((((((((Below.refl _ _).alloc (Nat.le_refl _) _).alloc (by simp) _).alloc (by simp <;> omega) _).trans (hb1.mono (by simp; omega))).trans (hb2.mono (by omega))).trans (hb3.mono (by omega))).setCell (by simp <;> omega) _).setCell (by simp <;> omega) _⟩
      · cases h4 : refB c
        · rw [show joinK a b c d = 8 by simp [joinK, h1, h2, h4], show joinN a b c d = 0 by simp [joinN, h1, h2]]
          replace S1 := Lib.hid (by have := S1.out; rw [h1] at this; exact this)
          replace S2 := Lib.hid (by have := S2.out; rw [h2] at this; exact this)
          replace R1 := Lib.hid (by have := R1.out; rw [h3] at this; exact this)
          replace R2 := Lib.hid (by have := R2.out; rw [h4] at this; exact this)
          clear h1 h2 h3 h4
          go_enter Try.func74, Try.ntmps74
          go_wp2_with (first | (go_at_call 86; with_reducible refine (S1.out _).mono ?_; rintro e w1 ⟨rfl, hb1⟩; obtain ⟨hc1, hf1⟩ := bcell hb1; have hz1 : w.heap.size + 2 < w1.heap.size := by { have := hb1.size; simp at this; omega }; have hy1 : w.heap.size + 1 < w1.heap.size := (by omega); have hx1 : w.heap.size < w1.heap.size := by omega) | (go_at_call 86; with_reducible refine (S2.out _).mono ?_; rintro e w2 ⟨rfl, hb2⟩; obtain ⟨hc2, hf2⟩ := bcell hb2; have hz2 : w.heap.size + 2 < w2.heap.size := by { have := hb2.size; omega }; have hy2 : w.heap.size + 1 < w2.heap.size := (by omega); have hx2 : w.heap.size < w2.heap.size := by omega) | (go_at_call 87; with_reducible refine (R1.out _).mono ?_; rintro e w3 ⟨rfl, hb3⟩; obtain ⟨hc3, hf3⟩ := bcell hb3; have hz3 : w.heap.size + 2 < w3.heap.size := by { have := hb3.size; omega }; have hy3 : w.heap.size + 1 < w3.heap.size := (by omega); have hx3 : w.heap.size < w3.heap.size := by omega) | (go_at_call 87; with_reducible refine (R2.out _).mono ?_; rintro e w4 ⟨rfl, hb4⟩; obtain ⟨hc4, hf4⟩ := bcell hb4; have hz4 : w.heap.size + 2 < w4.heap.size := by { have := hb4.size; omega }; have hy4 : w.heap.size + 1 < w4.heap.size := (by omega); have hx4 : w.heap.size < w4.heap.size := by omega))
          exact bodyPost_ret (v := .agg #[.int .i64 8, .int .i64 0]) (by simp [results, Try.results74, go_sem, hc1, hz1, hy1, hx1, hc2, hz2, hy2, hx2, hc3, hz3, hy3, hx3, hc4, hz4, hy4, hx4]) rfl ⟨rfl, (((((((((Below.refl _ _).alloc (Nat.le_refl _) _).alloc (by simp) _).alloc (by simp <;> omega) _).trans (hb1.mono (by simp; omega))).trans (hb2.mono (by omega))).trans (hb3.mono (by omega))).trans (hb4.mono (by omega))).setCell (by simp <;> omega) _).setCell (by simp <;> omega) _⟩
        · rw [show joinK a b c d = 7 by simp [joinK, h1, h2, h3, h4], show joinN a b c d = 0 by simp [joinN, h1, h2]]
          replace S1 := Lib.hid (by have := S1.out; rw [h1] at this; exact this)
          replace S2 := Lib.hid (by have := S2.out; rw [h2] at this; exact this)
          replace R1 := Lib.hid (by have := R1.out; rw [h3] at this; exact this)
          replace R2 := Lib.hid (by have := R2.out; rw [h4] at this; exact this)
          clear h1 h2 h3 h4
          go_enter Try.func74, Try.ntmps74
          go_wp2_with (first | (go_at_call 86; with_reducible refine (S1.out _).mono ?_; rintro e w1 ⟨rfl, hb1⟩; obtain ⟨hc1, hf1⟩ := bcell hb1; have hz1 : w.heap.size + 2 < w1.heap.size := by { have := hb1.size; simp at this; omega }; have hy1 : w.heap.size + 1 < w1.heap.size := (by omega); have hx1 : w.heap.size < w1.heap.size := by omega) | (go_at_call 86; with_reducible refine (S2.out _).mono ?_; rintro e w2 ⟨rfl, hb2⟩; obtain ⟨hc2, hf2⟩ := bcell hb2; have hz2 : w.heap.size + 2 < w2.heap.size := by { have := hb2.size; omega }; have hy2 : w.heap.size + 1 < w2.heap.size := (by omega); have hx2 : w.heap.size < w2.heap.size := by omega) | (go_at_call 87; with_reducible refine (R1.out _).mono ?_; rintro e w3 ⟨rfl, hb3⟩; obtain ⟨hc3, hf3⟩ := bcell hb3; have hz3 : w.heap.size + 2 < w3.heap.size := by { have := hb3.size; omega }; have hy3 : w.heap.size + 1 < w3.heap.size := (by omega); have hx3 : w.heap.size < w3.heap.size := by omega) | (go_at_call 87; with_reducible refine (R2.out _).mono ?_; rintro e w4 ⟨rfl, hb4⟩; obtain ⟨hc4, hf4⟩ := bcell hb4; have hz4 : w.heap.size + 2 < w4.heap.size := by { have := hb4.size; omega }; have hy4 : w.heap.size + 1 < w4.heap.size := (by omega); have hx4 : w.heap.size < w4.heap.size := by omega))
          exact bodyPost_ret (v := .agg #[.int .i64 7, .int .i64 0]) (by simp [results, Try.results74, go_sem, hc1, hz1, hy1, hx1, hc2, hz2, hy2, hx2, hc3, hz3, hy3, hx3, hc4, hz4, hy4, hx4]) rfl ⟨rfl, (((((((((Below.refl _ _).alloc (Nat.le_refl _) _).alloc (by simp) _).alloc (by simp <;> omega) _).trans (hb1.mono (by simp; omega))).trans (hb2.mono (by omega))).trans (hb3.mono (by omega))).trans (hb4.mono (by omega))).setCell (by simp <;> omega) _).setCell (by simp <;> omega) _⟩
    · rw [show joinK a b c d = a by simp [joinK, h1, h2], show joinN a b c d = b by simp [joinN, h1, h2]]
      replace S1 := Lib.hid (by have := S1.out; rw [h1] at this; exact this)
      replace S2 := Lib.hid (by have := S2.out; rw [h2] at this; exact this)
      clear h1 h2
      go_enter Try.func74, Try.ntmps74
      go_wp2_with (first | (go_at_call 86; with_reducible refine (S1.out _).mono ?_; rintro e w1 ⟨rfl, hb1⟩; obtain ⟨hc1, hf1⟩ := bcell hb1; have hz1 : w.heap.size + 2 < w1.heap.size := by { have := hb1.size; simp at this; omega }; have hy1 : w.heap.size + 1 < w1.heap.size := (by omega); have hx1 : w.heap.size < w1.heap.size := by omega) | (go_at_call 86; with_reducible refine (S2.out _).mono ?_; rintro e w2 ⟨rfl, hb2⟩; obtain ⟨hc2, hf2⟩ := bcell hb2; have hz2 : w.heap.size + 2 < w2.heap.size := by { have := hb2.size; omega }; have hy2 : w.heap.size + 1 < w2.heap.size := (by omega); have hx2 : w.heap.size < w2.heap.size := by omega))
      exact bodyPost_ret (v := .agg #[.int .i64 a, .int .i64 b]) (by simp [results, Try.results74, go_sem, hc1, hz1, hy1, hx1, hc2, hz2, hy2, hx2]) rfl ⟨rfl, (((((((Below.refl _ _).alloc (Nat.le_refl _) _).alloc (by simp) _).alloc (by simp <;> omega) _).trans (hb1.mono (by simp; omega))).trans (hb2.mono (by omega))).setCell (by simp <;> omega) _).setCell (by simp <;> omega) _⟩
  · rw [show joinK a b c d = c by simp [joinK, h1], show joinN a b c d = d by simp [joinN, h1]]
    replace S1 := Lib.hid (by have := S1.out; rw [h1] at this; exact this)
    clear h1
    go_enter Try.func74, Try.ntmps74
    go_wp2_with (first | (go_at_call 86; with_reducible refine (S1.out _).mono ?_; rintro e w1 ⟨rfl, hb1⟩; obtain ⟨hc1, hf1⟩ := bcell hb1; have hz1 : w.heap.size + 2 < w1.heap.size := by { have := hb1.size; simp at this; omega }; have hy1 : w.heap.size + 1 < w1.heap.size := (by omega); have hx1 : w.heap.size < w1.heap.size := by omega))
    exact bodyPost_ret (v := .agg #[.int .i64 c, .int .i64 d]) (by simp [results, Try.results74, go_sem, hc1, hz1, hy1, hx1]) rfl ⟨rfl, ((((((Below.refl _ _).alloc (Nat.le_refl _) _).alloc (by simp) _).alloc (by simp <;> omega) _).trans (hb1.mono (by simp; omega))).setCell (by simp <;> omega) _).setCell (by simp <;> omega) _⟩
end Go.Proofs.Ytpjanfkliaaflaa
