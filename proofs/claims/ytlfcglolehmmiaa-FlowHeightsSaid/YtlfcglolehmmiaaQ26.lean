/-
  What the document's Ref, Good and Sub do. Conditions: none.
  What the document's own named tells: whether an instruction names what there is. Conditions: as each theorem says.
  What the document's Module does where a count is too great: nothing fits. Conditions: none but that there is a module.
-/
import Derived.Test.YtlfcglolehmmiaaQ03
import Derived.Test.YtlfcglolehmmiaaQ04
import Derived.Test.YtlfcglolehmmiaaQ11
import Derived.Test.YtlfcglolehmmiaaQ23
import Derived.Test.YtlfcglolehmmiaaQ25
import Derived.BigQuiet
namespace Go.Proofs.Ytlfcglolehmmiaa
open Go.RowKit
set_option linter.unusedSimpArgs false

theorem rref (k n : Int) (w : World) : Calls Try.prog 56 #[.agg #[.int .i64 k, .int .i64 n]] w fun e w' => e = .returned (.bool (refB k)) ∧ Below w.heap.size w w' := by
  by_cases h2 : k = 2
  · subst h2
    go_enter Try.func56, Try.ntmps56
    go_wp2_with fail
    go_ret
    exact ⟨rfl, (Below.refl _ _).alloc (Nat.le_refl _) _⟩
  by_cases h3 : k = 3
  · subst h3
    go_enter Try.func56, Try.ntmps56
    go_wp2_with fail
    go_ret
    exact ⟨rfl, (Below.refl _ _).alloc (Nat.le_refl _) _⟩
  by_cases h4 : k = 4
  · subst h4
    go_enter Try.func56, Try.ntmps56
    go_wp2_with fail
    go_ret
    exact ⟨rfl, (Below.refl _ _).alloc (Nat.le_refl _) _⟩
  by_cases h6 : k = 6
  · subst h6
    go_enter Try.func56, Try.ntmps56
    go_wp2_with fail
    go_ret
    exact ⟨rfl, (Below.refl _ _).alloc (Nat.le_refl _) _⟩
  by_cases h7 : k = 7
  · subst h7
    go_enter Try.func56, Try.ntmps56
    go_wp2_with fail
    go_ret
    exact ⟨rfl, (Below.refl _ _).alloc (Nat.le_refl _) _⟩
  go_enter Try.func56, Try.ntmps56
  go_wp2_with fail
  go_ret
  exact ⟨rfl, (Below.refl _ _).alloc (Nat.le_refl _) _⟩

set_option maxHeartbeats 1000000 in
theorem rsub (a b c d : Int) (w : World) : Calls Try.prog 28 #[.agg #[.int .i64 a, .int .i64 b], .agg #[.int .i64 c, .int .i64 d]] w fun e w' => e = .returned (.bool (subB a b c d)) ∧ Below w.heap.size w w' := by
  have A0 := Lib.hid (fun w => rref a b w)
  have C0 := Lib.hid (fun w => rref c d w)
  by_cases h8 : c = 8
  · subst h8
    rw [show subB a b 8 d = true by simp [subB]]
    go_enter Try.func28, Try.ntmps28
    go_wp2_with fail
    all_goals (go_ret; exact ⟨rfl, ((Below.refl _ _).alloc (Nat.le_refl _) _).alloc (by simp) _⟩)
  have e8 : (c == 8) = false := by simpa using h8
  by_cases hac : a = c
  · subst hac
    by_cases hbd : b = d
    · subst hbd
      rw [show subB a b a b = true by simp [subB]]
      go_enter Try.func28, Try.ntmps28
      go_wp2_with fail
      go_ret
      exact ⟨rfl, ((Below.refl _ _).alloc (Nat.le_refl _) _).alloc (by simp) _⟩
    have hne : (b == d) = false := by simpa using hbd
    cases hra : refB a
    · rw [show subB a b a d = false by simp [subB, hra, hne, e8]]
      replace A0 := Lib.hid (by have := A0.out; rw [hra] at this; exact this)
      clear hra
      go_enter Try.func28, Try.ntmps28
      go_wp2_with (first | (go_at_call 56; with_reducible refine (A0.out _).mono ?_; rintro e w1 ⟨rfl, hb1⟩; obtain ⟨hc1, -⟩ := bcell hb1; have hz1 : w.heap.size + 1 < w1.heap.size := by { have := hb1.size; simp at this; omega }; have hz0 : w.heap.size < w1.heap.size := by omega))
      go_ret
      exact ⟨rfl, (((Below.refl _ _).alloc (Nat.le_refl _) _).alloc (by simp) _).trans (hb1.mono (by simp; omega))⟩
    cases hrc : refB a
    · rw [show subB a b a d = false by simp [subB, hrc, hne, e8]]
      replace A0 := Lib.hid (by have := A0.out; rw [hra] at this; exact this)
      replace C0 := Lib.hid (by have := C0.out; rw [hrc] at this; exact this)
      clear hra hrc
      go_enter Try.func28, Try.ntmps28
      go_wp2_with (first | (go_at_call 56; with_reducible refine (A0.out _).mono ?_; rintro e w1 ⟨rfl, hb1⟩; obtain ⟨hc1, -⟩ := bcell hb1; have hz1 : w.heap.size + 1 < w1.heap.size := by { have := hb1.size; simp at this; omega }; have hz0 : w.heap.size < w1.heap.size := by omega) | (go_at_call 56; with_reducible refine (C0.out _).mono ?_; rintro e w2 ⟨rfl, hb2⟩; obtain ⟨hc2, -⟩ := bcell hb2))
      go_ret
      exact ⟨rfl, ((((Below.refl _ _).alloc (Nat.le_refl _) _).alloc (by simp) _).trans (hb1.mono (by simp; omega))).trans (hb2.mono (by omega))⟩
    by_cases h6 : a = 6
    · rw [show subB a b a d = true by simp only [subB, hra, hrc]; simp [h6]]
      replace A0 := Lib.hid (by have := A0.out; rw [hra] at this; exact this)
      replace C0 := Lib.hid (by have := C0.out; rw [hrc] at this; exact this)
      clear hra hrc
      have e6 : (a == 6) = true := by simpa using h6
      clear h6
      go_enter Try.func28, Try.ntmps28
      go_wp2_with (first | (go_at_call 56; with_reducible refine (A0.out _).mono ?_; rintro e w1 ⟨rfl, hb1⟩; obtain ⟨hc1, -⟩ := bcell hb1; have hz1 : w.heap.size + 1 < w1.heap.size := by { have := hb1.size; simp at this; omega }; have hz0 : w.heap.size < w1.heap.size := by omega) | (go_at_call 56; with_reducible refine (C0.out _).mono ?_; rintro e w2 ⟨rfl, hb2⟩; obtain ⟨hc2, -⟩ := bcell hb2))
      go_ret
      exact ⟨rfl, ((((Below.refl _ _).alloc (Nat.le_refl _) _).alloc (by simp) _).trans (hb1.mono (by simp; omega))).trans (hb2.mono (by omega))⟩
    rw [show subB a b a d = (a == 7) by simp [subB, hra, hrc, h6, hne, e8]]
    replace A0 := Lib.hid (by have := A0.out; rw [hra] at this; exact this)
    replace C0 := Lib.hid (by have := C0.out; rw [hrc] at this; exact this)
    clear hra hrc
    have e6 : (a == 6) = false := by simpa using h6
    clear h6
    go_enter Try.func28, Try.ntmps28
    go_wp2_with (first | (go_at_call 56; with_reducible refine (A0.out _).mono ?_; rintro e w1 ⟨rfl, hb1⟩; obtain ⟨hc1, -⟩ := bcell hb1; have hz1 : w.heap.size + 1 < w1.heap.size := by { have := hb1.size; simp at this; omega }; have hz0 : w.heap.size < w1.heap.size := by omega) | (go_at_call 56; with_reducible refine (C0.out _).mono ?_; rintro e w2 ⟨rfl, hb2⟩; obtain ⟨hc2, -⟩ := bcell hb2))
    go_ret
    exact ⟨rfl, ((((Below.refl _ _).alloc (Nat.le_refl _) _).alloc (by simp) _).trans (hb1.mono (by simp; omega))).trans (hb2.mono (by omega))⟩
  have hne : (a == c) = false := by simpa using hac
  cases hra : refB a
  · rw [show subB a b c d = false by simp [subB, hra, hne, e8]]
    replace A0 := Lib.hid (by have := A0.out; rw [hra] at this; exact this)
    clear hra
    go_enter Try.func28, Try.ntmps28
    go_wp2_with (first | (go_at_call 56; with_reducible refine (A0.out _).mono ?_; rintro e w1 ⟨rfl, hb1⟩; obtain ⟨hc1, -⟩ := bcell hb1; have hz1 : w.heap.size + 1 < w1.heap.size := by { have := hb1.size; simp at this; omega }; have hz0 : w.heap.size < w1.heap.size := by omega))
    go_ret
    exact ⟨rfl, (((Below.refl _ _).alloc (Nat.le_refl _) _).alloc (by simp) _).trans (hb1.mono (by simp; omega))⟩
  cases hrc : refB c
  · rw [show subB a b c d = false by simp [subB, hrc, hne, e8]]
    replace A0 := Lib.hid (by have := A0.out; rw [hra] at this; exact this)
    replace C0 := Lib.hid (by have := C0.out; rw [hrc] at this; exact this)
    clear hra hrc
    go_enter Try.func28, Try.ntmps28
    go_wp2_with (first | (go_at_call 56; with_reducible refine (A0.out _).mono ?_; rintro e w1 ⟨rfl, hb1⟩; obtain ⟨hc1, -⟩ := bcell hb1; have hz1 : w.heap.size + 1 < w1.heap.size := by { have := hb1.size; simp at this; omega }; have hz0 : w.heap.size < w1.heap.size := by omega) | (go_at_call 56; with_reducible refine (C0.out _).mono ?_; rintro e w2 ⟨rfl, hb2⟩; obtain ⟨hc2, -⟩ := bcell hb2))
    go_ret
    exact ⟨rfl, ((((Below.refl _ _).alloc (Nat.le_refl _) _).alloc (by simp) _).trans (hb1.mono (by simp; omega))).trans (hb2.mono (by omega))⟩
  by_cases h6 : a = 6
  · rw [show subB a b c d = true by simp only [subB, hra, hrc]; simp [h6]]
    replace A0 := Lib.hid (by have := A0.out; rw [hra] at this; exact this)
    replace C0 := Lib.hid (by have := C0.out; rw [hrc] at this; exact this)
    clear hra hrc
    have e6 : (a == 6) = true := by simpa using h6
    clear h6
    go_enter Try.func28, Try.ntmps28
    go_wp2_with (first | (go_at_call 56; with_reducible refine (A0.out _).mono ?_; rintro e w1 ⟨rfl, hb1⟩; obtain ⟨hc1, -⟩ := bcell hb1; have hz1 : w.heap.size + 1 < w1.heap.size := by { have := hb1.size; simp at this; omega }; have hz0 : w.heap.size < w1.heap.size := by omega) | (go_at_call 56; with_reducible refine (C0.out _).mono ?_; rintro e w2 ⟨rfl, hb2⟩; obtain ⟨hc2, -⟩ := bcell hb2))
    go_ret
    exact ⟨rfl, ((((Below.refl _ _).alloc (Nat.le_refl _) _).alloc (by simp) _).trans (hb1.mono (by simp; omega))).trans (hb2.mono (by omega))⟩
  rw [show subB a b c d = (c == 7) by simp [subB, hra, hrc, h6, hne, e8]]
  replace A0 := Lib.hid (by have := A0.out; rw [hra] at this; exact this)
  replace C0 := Lib.hid (by have := C0.out; rw [hrc] at this; exact this)
  clear hra hrc
  have e6 : (a == 6) = false := by simpa using h6
  clear h6
  go_enter Try.func28, Try.ntmps28
  go_wp2_with (first | (go_at_call 56; with_reducible refine (A0.out _).mono ?_; rintro e w1 ⟨rfl, hb1⟩; obtain ⟨hc1, -⟩ := bcell hb1; have hz1 : w.heap.size + 1 < w1.heap.size := by { have := hb1.size; simp at this; omega }; have hz0 : w.heap.size < w1.heap.size := by omega) | (go_at_call 56; with_reducible refine (C0.out _).mono ?_; rintro e w2 ⟨rfl, hb2⟩; obtain ⟨hc2, -⟩ := bcell hb2))
  go_ret
  exact ⟨rfl, ((((Below.refl _ _).alloc (Nat.le_refl _) _).alloc (by simp) _).trans (hb1.mono (by simp; omega))).trans (hb2.mono (by omega))⟩
end Go.Proofs.Ytlfcglolehmmiaa
namespace Go.Proofs.Ytlfcglolehmmiaa
open Go.RowKit
set_option linter.unusedSimpArgs false
set_option linter.unusedVariables false

set_option maxRecDepth 100000 in
set_option maxHeartbeats 4000000 in
theorem named_any (A0 A1 A2 A3 A4 P0 P1 P2 : Option Addr) (n0 n1 n2 n3 n4 d0 d1 d2 d3 d4 u0 u1 u2 c0 c1 c2 : Nat) (r1 r2 : Int) (m : Mod) (f : Fn) (o a b : Int) (w : World) (h0 : m.recs.length = n0) (h1 : m.funcs.length = n1) (h2 : m.imps.length = n2) (h3 : m.ints.length = n3) (h4 : m.texts.length = n4) (g0 : f.args.length = u0) (g1 : f.locs.length = u1) (g2 : f.code.length = u2) (hn0 : n0 ≤ 9223372036854775807) (hu0 : u0 ≤ 1000) (hu1 : u1 ≤ 1000) (ha : 0 ≤ a ∧ a ≤ 255) (hb : 0 ≤ b ∧ b ≤ 255) (hR : Sq tysL (· < w.heap.size) w A0 m.recs) :
    Calls Try.prog 26 #[.agg #[.slice A0 n0 d0, .slice A1 n1 d1, .slice A2 n2 d2, .slice A3 n3 d3, .slice A4 n4 d4], .agg #[.slice P0 u0 c0, .int .i64 r1, .int .i64 r2, .slice P1 u1 c1, .slice P2 u2 c2], .agg #[.int .i64 o, .int .i64 a, .int .i64 b]] w (Tells (namedB m f (o, a, b)) w) := by
  have HBel : Hid (Below w.heap.size w (((w.alloc (.cells #[.slice A0 n0 d0, .slice A1 n1 d1, .slice A2 n2 d2, .slice A3 n3 d3, .slice A4 n4 d4] 28)).alloc (.cells #[.slice P0 u0 c0, .int .i64 r1, .int .i64 r2, .slice P1 u1 c1, .slice P2 u2 c2] 42)).alloc (.cells #[.int .i64 o, .int .i64 a, .int .i64 b] 50))) := (((Below.refl _ _).alloc (Nat.le_refl _) _).alloc (by simp) _).alloc (by simp; omega) _
  by_cases e0 : o = 0
  · subst e0
    have HN : Hid (namedB m f (0, a, b) = decide (a < (n3 : Int))) := by show namedB _ _ _ = _; simp [namedB, h0, h1, h2, h3, h4, g0, g1, g2]
    generalize namedB m f (0, a, b) = nb at *
    clear h0 h1 h2 h3 h4 g0 g1 g2 hR
    go_enter Try.func26, Try.ntmps26
    go_wp2_with fail
    go_ret
    exact ⟨by rw [HN.out]; rfl, HBel.out⟩
  by_cases e1 : o = 1
  · subst e1
    have HN : Hid (namedB m f (1, a, b) = decide (a < (n4 : Int))) := by show namedB _ _ _ = _; simp [namedB, h0, h1, h2, h3, h4, g0, g1, g2]
    generalize namedB m f (1, a, b) = nb at *
    clear h0 h1 h2 h3 h4 g0 g1 g2 hR
    go_enter Try.func26, Try.ntmps26
    go_wp2_with fail
    go_ret
    exact ⟨by rw [HN.out]; rfl, HBel.out⟩
  by_cases e3 : o = 3
  · subst e3
    have HN : Hid (namedB m f (3, a, b) = decide (a < (u0 : Int) + (u1 : Int))) := by show namedB _ _ _ = _; simp [namedB, h0, h1, h2, h3, h4, g0, g1, g2]
    generalize namedB m f (3, a, b) = nb at *
    clear h0 h1 h2 h3 h4 g0 g1 g2 hR
    go_enter Try.func26, Try.ntmps26
    go_wp2_with fail
    go_ret
    exact ⟨by rw [HN.out]; rfl, HBel.out⟩
  by_cases e4 : o = 4
  · subst e4
    have HN : Hid (namedB m f (4, a, b) = decide (a < (u0 : Int) + (u1 : Int))) := by show namedB _ _ _ = _; simp [namedB, h0, h1, h2, h3, h4, g0, g1, g2]
    generalize namedB m f (4, a, b) = nb at *
    clear h0 h1 h2 h3 h4 g0 g1 g2 hR
    go_enter Try.func26, Try.ntmps26
    go_wp2_with fail
    go_ret
    exact ⟨by rw [HN.out]; rfl, HBel.out⟩
  by_cases e23 : o = 23
  · subst e23
    have HN : Hid (namedB m f (23, a, b) = decide (a < (u2 : Int))) := by show namedB _ _ _ = _; simp [namedB, h0, h1, h2, h3, h4, g0, g1, g2]
    generalize namedB m f (23, a, b) = nb at *
    clear h0 h1 h2 h3 h4 g0 g1 g2 hR
    go_enter Try.func26, Try.ntmps26
    go_wp2_with fail
    go_ret
    exact ⟨by rw [HN.out]; rfl, HBel.out⟩
  by_cases e24 : o = 24
  · subst e24
    have HN : Hid (namedB m f (24, a, b) = decide (a < (u2 : Int))) := by show namedB _ _ _ = _; simp [namedB, h0, h1, h2, h3, h4, g0, g1, g2]
    generalize namedB m f (24, a, b) = nb at *
    clear h0 h1 h2 h3 h4 g0 g1 g2 hR
    go_enter Try.func26, Try.ntmps26
    go_wp2_with fail
    go_ret
    exact ⟨by rw [HN.out]; rfl, HBel.out⟩
  by_cases e25 : o = 25
  · subst e25
    have HN : Hid (namedB m f (25, a, b) = decide (a < (n1 : Int))) := by show namedB _ _ _ = _; simp [namedB, h0, h1, h2, h3, h4, g0, g1, g2]
    generalize namedB m f (25, a, b) = nb at *
    clear h0 h1 h2 h3 h4 g0 g1 g2 hR
    go_enter Try.func26, Try.ntmps26
    go_wp2_with fail
    go_ret
    exact ⟨by rw [HN.out]; rfl, HBel.out⟩
  by_cases e27 : o = 27
  · subst e27
    have HN : Hid (namedB m f (27, a, b) = decide (a < (n2 : Int))) := by show namedB _ _ _ = _; simp [namedB, h0, h1, h2, h3, h4, g0, g1, g2]
    generalize namedB m f (27, a, b) = nb at *
    clear h0 h1 h2 h3 h4 g0 g1 g2 hR
    go_enter Try.func26, Try.ntmps26
    go_wp2_with fail
    go_ret
    exact ⟨by rw [HN.out]; rfl, HBel.out⟩
  by_cases e28 : o = 28
  · subst e28
    have HN : Hid (namedB m f (28, a, b) = decide (a < (n0 : Int))) := by show namedB _ _ _ = _; simp [namedB, h0, h1, h2, h3, h4, g0, g1, g2]
    generalize namedB m f (28, a, b) = nb at *
    clear h0 h1 h2 h3 h4 g0 g1 g2 hR
    go_enter Try.func26, Try.ntmps26
    go_wp2_with fail
    go_ret
    exact ⟨by rw [HN.out]; rfl, HBel.out⟩
  by_cases e29 : o = 29
  · subst e29
    by_cases hlt : a < (n0 : Int)
    · obtain ⟨k, rfl⟩ : ∃ k : Nat, a = (k : Int) := ⟨a.toNat, by omega⟩
      have hk : k < n0 := by omega
      obtain ⟨r, hr⟩ : ∃ r, m.recs[k]? = some r := ⟨m.recs[k]'(by rw [h0]; exact hk), List.getElem?_eq_getElem _⟩
      have HN : Hid (namedB m f (29, (k : Int), b) = decide (b < (r.length : Int))) := by show namedB _ _ _ = _; simp [namedB, hr]
      obtain ⟨a0, cs, ea, hab, hc, hRr⟩ := hR.at hr
      subst ea
      obtain ⟨Q0, q0, rfl, -, -, -⟩ := hRr
      have cr := one_cell (K := tysL.k) rfl (hc 0 _ rfl)
      have cr2 : ∀ o1 o2 o3 : Obj, (((w.alloc o1).alloc o2).alloc o3).cell? (a0.add k) = _ := fun o1 o2 o3 => (((((Below.refl _ w).alloc (Nat.le_refl _) o1).alloc (by simp) o2).alloc (by simp; omega) o3).cell (p := a0.add k) (by rw [addBlock]; exact hab)).trans cr
      generalize namedB m f (29, (k : Int), b) = nb at *
      generalize r.length = rl at *
      have hk0 : 0 ≤ (k : Int) := by omega
      clear h0 h1 h2 h3 h4 g0 g1 g2 hR hr hc
      go_enter Try.func26, Try.ntmps26
      go_wp2_with fail
      go_quiet (fail)
      go_wp2_with fail
      go_ret
      exact ⟨by rw [HN.out]; rfl, below_drews' HBel.out _ HBel.out.size⟩
    · have HN : Hid (namedB m f (29, a, b) = false) := by
        show namedB _ _ _ = _
        have hz : m.recs[a.toNat]? = none := List.getElem?_eq_none (by rw [h0]; omega)
        simp [namedB, hz]
      generalize namedB m f (29, a, b) = nb at *
      have hge : (n0 : Int) ≤ a := by omega
      have hd : decide (a < (n0 : Int)) = false := by simp; omega
      clear h0 h1 h2 h3 h4 g0 g1 g2 hR
      go_enter Try.func26, Try.ntmps26
      go_wp2_with fail
      go_quiet (fail)
      go_wp2_with fail
      go_ret
      exact ⟨by rw [HN.out]; rfl, below_drews' HBel.out _ HBel.out.size⟩
  by_cases e30 : o = 30
  · subst e30
    by_cases hlt : a < (n0 : Int)
    · obtain ⟨k, rfl⟩ : ∃ k : Nat, a = (k : Int) := ⟨a.toNat, by omega⟩
      have hk : k < n0 := by omega
      obtain ⟨r, hr⟩ : ∃ r, m.recs[k]? = some r := ⟨m.recs[k]'(by rw [h0]; exact hk), List.getElem?_eq_getElem _⟩
      have HN : Hid (namedB m f (30, (k : Int), b) = decide (b < (r.length : Int))) := by show namedB _ _ _ = _; simp [namedB, hr]
      obtain ⟨a0, cs, ea, hab, hc, hRr⟩ := hR.at hr
      subst ea
      obtain ⟨Q0, q0, rfl, -, -, -⟩ := hRr
      have cr := one_cell (K := tysL.k) rfl (hc 0 _ rfl)
      have cr2 : ∀ o1 o2 o3 : Obj, (((w.alloc o1).alloc o2).alloc o3).cell? (a0.add k) = _ := fun o1 o2 o3 => (((((Below.refl _ w).alloc (Nat.le_refl _) o1).alloc (by simp) o2).alloc (by simp; omega) o3).cell (p := a0.add k) (by rw [addBlock]; exact hab)).trans cr
      generalize namedB m f (30, (k : Int), b) = nb at *
      generalize r.length = rl at *
      have hk0 : 0 ≤ (k : Int) := by omega
      clear h0 h1 h2 h3 h4 g0 g1 g2 hR hr hc
      go_enter Try.func26, Try.ntmps26
      go_wp2_with fail
      go_quiet (fail)
      go_wp2_with fail
      go_ret
      exact ⟨by rw [HN.out]; rfl, below_drews' HBel.out _ HBel.out.size⟩
    · have HN : Hid (namedB m f (30, a, b) = false) := by
        show namedB _ _ _ = _
        have hz : m.recs[a.toNat]? = none := List.getElem?_eq_none (by rw [h0]; omega)
        simp [namedB, hz]
      generalize namedB m f (30, a, b) = nb at *
      have hge : (n0 : Int) ≤ a := by omega
      have hd : decide (a < (n0 : Int)) = false := by simp; omega
      clear h0 h1 h2 h3 h4 g0 g1 g2 hR
      go_enter Try.func26, Try.ntmps26
      go_wp2_with fail
      go_quiet (fail)
      go_wp2_with fail
      go_ret
      exact ⟨by rw [HN.out]; rfl, below_drews' HBel.out _ HBel.out.size⟩
  have HN : Hid (namedB m f (o, a, b) = true) := by show namedB _ _ _ = _; simp [namedB, e0, e1, e3, e4, e23, e24, e25, e27, e28, e29, e30]
  have b0 : (o == 0) = false := by simpa using e0
  have b1 : (o == 1) = false := by simpa using e1
  have b3 : (o == 3) = false := by simpa using e3
  have b4 : (o == 4) = false := by simpa using e4
  have b23 : (o == 23) = false := by simpa using e23
  have b24 : (o == 24) = false := by simpa using e24
  have b25 : (o == 25) = false := by simpa using e25
  have b27 : (o == 27) = false := by simpa using e27
  have b28 : (o == 28) = false := by simpa using e28
  have b29 : (o == 29) = false := by simpa using e29
  have b30 : (o == 30) = false := by simpa using e30
  generalize namedB m f (o, a, b) = nb at *
  clear h0 h1 h2 h3 h4 g0 g1 g2 hR e0 e1 e3 e4 e23 e24 e25 e27 e28 e29 e30
  go_enter Try.func26, Try.ntmps26
  go_wp2_with fail
  go_ret
  exact ⟨by rw [HN.out]; rfl, HBel.out⟩

theorem host_any (x : Typ) (w : World) : Calls Try.prog 27 #[.agg #[.int .i64 x.1, .int .i64 x.2]] w (Tells (hostB x) w) := by
  have HB0 : Hid (∀ o : Obj, Below w.heap.size w (w.alloc o)) := fun o => (Below.refl _ _).alloc (Nat.le_refl _) _
  by_cases h : x.1 = 1
  · have HD : Hid (hostB x = true) := by show hostB x = _; simp [hostB, h]
    have b : (x.1 == 1) = true := by simpa using h
    clear h
    generalize hostB x = gd at *
    generalize x.1 = q1 at *
    generalize x.2 = q2 at *
    go_enter Try.func27, Try.ntmps27
    go_wp2_with fail
    go_ret
    exact ⟨by rw [HD.out]; rfl, HB0.out _⟩
  · have HD : Hid (hostB x = (x.1 == 5)) := by show hostB x = _; rw [Bool.eq_iff_iff]; simp [hostB, h]
    have b : (x.1 == 1) = false := by simpa using h
    clear h
    generalize hostB x = gd at *
    generalize x.1 = q1 at *
    generalize x.2 = q2 at *
    go_enter Try.func27, Try.ntmps27
    go_wp2_with fail
    go_ret
    exact ⟨by rw [HD.out]; rfl, HB0.out _⟩
end Go.Proofs.Ytlfcglolehmmiaa
namespace Go.Proofs.Ytlfcglolehmmiaa
open Go.RowKit
set_option linter.unusedSimpArgs false
set_option linter.unusedVariables false

set_option maxRecDepth 100000 in
set_option maxHeartbeats 4000000 in
theorem rmod_not (cs : List Value) (x : Mod) (w : World) (h : modL.R (· < w.heap.size) w cs x) (hc : ¬ (x.recs.length ≤ 8 ∧ 1 ≤ x.funcs.length ∧ x.funcs.length ≤ 8 ∧ x.imps.length ≤ 8 ∧ x.ints.length ≤ 16 ∧ x.texts.length ≤ 16)) : Calls Try.prog 25 #[vAgg cs] w (RMod x w) := by
  obtain ⟨_, _, _, _, _, rfl, ⟨A0, d0, e0, l0, m0, s0⟩, ⟨A1, d1, e1, l1, m1, s1⟩, ⟨A2, d2, e2, l2, m2, s2⟩, ⟨A3, d3, e3, l3, m3, s3⟩, ⟨A4, d4, e4, l4, m4, s4⟩⟩ := h
  simp only [List.cons.injEq, and_true] at e0 e1 e2 e3 e4
  subst e0 e1 e2 e3 e4
  unfold maxLen at m0 m1 m2 m3 m4
  show Calls Try.prog 25 #[.agg #[.slice A0 x.recs.length d0, .slice A1 x.funcs.length d1, .slice A2 x.imps.length d2, .slice A3 x.ints.length d3, .slice A4 x.texts.length d4]] w _
  obtain ⟨n0, hn0⟩ : ∃ n, x.recs.length = n := ⟨_, rfl⟩
  have HL0 := Lib.hid hn0
  have HS0 := Lib.hid s0
  obtain ⟨n1, hn1⟩ : ∃ n, x.funcs.length = n := ⟨_, rfl⟩
  have HL1 := Lib.hid hn1
  have HS1 := Lib.hid s1
  obtain ⟨n2, hn2⟩ : ∃ n, x.imps.length = n := ⟨_, rfl⟩
  have HL2 := Lib.hid hn2
  have HS2 := Lib.hid s2
  obtain ⟨n3, hn3⟩ : ∃ n, x.ints.length = n := ⟨_, rfl⟩
  have HL3 := Lib.hid hn3
  have HS3 := Lib.hid s3
  obtain ⟨n4, hn4⟩ : ∃ n, x.texts.length = n := ⟨_, rfl⟩
  have HL4 := Lib.hid hn4
  have HS4 := Lib.hid s4
  rw [hn0, hn1, hn2, hn3, hn4] at hc ⊢
  rw [hn0] at l0
  rw [hn1] at l1
  rw [hn2] at l2
  rw [hn3] at l3
  rw [hn4] at l4
  clear hn0 s0 hn1 s1 hn2 s2 hn3 s3 hn4 s4
  have HB0 : Hid (Below w.heap.size w (w.alloc (.cells #[.slice A0 n0 d0, .slice A1 n1 d1, .slice A2 n2 d2, .slice A3 n3 d3, .slice A4 n4 d4] 28))) := (Below.refl _ _).alloc (Nat.le_refl _) _
  have HF : Hid (fitB x = false) := by
    cases hf : fitB x
    · rfl
    · exfalso
      have hF := fitB_iff.1 hf
      have := hF.r8
      have := hF.f1
      have := hF.f8
      have := hF.i8
      have := hF.n16
      have := hF.t16
      rw [HL0.out] at *
      rw [HL1.out] at *
      rw [HL2.out] at *
      rw [HL3.out] at *
      rw [HL4.out] at *
      omega
  have FIN : Hid (∀ W' : World, Below w.heap.size w W' → RMod x w (.returned (.tuple #[.slice none 0 0, .bool false])) W') := fun W' hb => ⟨hb, .inr ⟨HF.out, none, 0, 0, rfl⟩⟩
  by_cases c0 : n0 ≤ 8
  rotate_left
  · have g0 : (8 : Int) < (n0 : Int) := by omega
    clear hc
    go_enter Try.func25, Try.ntmps25
    go_wp2_with fail
    go_ret2
    exact FIN.out _ HB0.out
  by_cases c1 : 1 ≤ n1
  rotate_left
  · have g0 : ¬ (8 : Int) < (n0 : Int) := by omega
    have g1 : (n1 : Int) < (1 : Int) := by omega
    clear hc
    go_enter Try.func25, Try.ntmps25
    go_wp2_with fail
    go_ret2
    exact FIN.out _ HB0.out
  by_cases c2 : n1 ≤ 8
  rotate_left
  · have g0 : ¬ (8 : Int) < (n0 : Int) := by omega
    have g1 : ¬ (n1 : Int) < (1 : Int) := by omega
    have g2 : (8 : Int) < (n1 : Int) := by omega
    clear hc
    go_enter Try.func25, Try.ntmps25
    go_wp2_with fail
    go_ret2
    exact FIN.out _ HB0.out
  by_cases c3 : n2 ≤ 8
  rotate_left
  · have g0 : ¬ (8 : Int) < (n0 : Int) := by omega
    have g1 : ¬ (n1 : Int) < (1 : Int) := by omega
    have g2 : ¬ (8 : Int) < (n1 : Int) := by omega
    have g3 : (8 : Int) < (n2 : Int) := by omega
    clear hc
    go_enter Try.func25, Try.ntmps25
    go_wp2_with fail
    go_ret2
    exact FIN.out _ HB0.out
  by_cases c4 : n3 ≤ 16
  rotate_left
  · have g0 : ¬ (8 : Int) < (n0 : Int) := by omega
    have g1 : ¬ (n1 : Int) < (1 : Int) := by omega
    have g2 : ¬ (8 : Int) < (n1 : Int) := by omega
    have g3 : ¬ (8 : Int) < (n2 : Int) := by omega
    have g4 : (16 : Int) < (n3 : Int) := by omega
    clear hc
    go_enter Try.func25, Try.ntmps25
    go_wp2_with fail
    go_ret2
    exact FIN.out _ HB0.out
  have g0 : ¬ (8 : Int) < (n0 : Int) := by omega
  have g1 : ¬ (n1 : Int) < (1 : Int) := by omega
  have g2 : ¬ (8 : Int) < (n1 : Int) := by omega
  have g3 : ¬ (8 : Int) < (n2 : Int) := by omega
  have g4 : ¬ (16 : Int) < (n3 : Int) := by omega
  have g5 : (16 : Int) < (n4 : Int) := by omega
  clear hc
  go_enter Try.func25, Try.ntmps25
  go_wp2_with fail
  go_ret2
  exact FIN.out _ HB0.out
end Go.Proofs.Ytlfcglolehmmiaa
