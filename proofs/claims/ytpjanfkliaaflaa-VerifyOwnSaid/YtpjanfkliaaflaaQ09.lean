/-
  Knd Eft Ctt Fonw Fcp Ffo Ffp
-/
import Derived.Test.YtpjanfkliaaflaaQ01
import Derived.Test.YtpjanfkliaaflaaQ03
import Derived.Test.YtpjanfkliaaflaaQ08
import Derived.Deep.RegionHeld3
import Derived.Deep.RegionWith
import Derived.Lib.QuietBelow
import Derived.BigQuiet
set_option linter.unusedSimpArgs false
set_option linter.unusedVariables false
namespace Go.Proofs.Ytpjanfkliaaflaa
open Go.RowKit

theorem kref (k n : Int) (w : World) : Calls Try.prog 87 #[.agg #[.int .i64 k, .int .i64 n]] w fun e w' => e = .returned (.bool (refB k)) ∧ Below w.heap.size w w' := by
  by_cases h2 : k = 2
  · subst h2
    go_enter Try.func87, Try.ntmps87
    go_wp2_with fail
    go_ret
    exact ⟨rfl, (Below.refl _ _).alloc (Nat.le_refl _) _⟩
  by_cases h3 : k = 3
  · subst h3
    go_enter Try.func87, Try.ntmps87
    go_wp2_with fail
    go_ret
    exact ⟨rfl, (Below.refl _ _).alloc (Nat.le_refl _) _⟩
  by_cases h4 : k = 4
  · subst h4
    go_enter Try.func87, Try.ntmps87
    go_wp2_with fail
    go_ret
    exact ⟨rfl, (Below.refl _ _).alloc (Nat.le_refl _) _⟩
  by_cases h6 : k = 6
  · subst h6
    go_enter Try.func87, Try.ntmps87
    go_wp2_with fail
    go_ret
    exact ⟨rfl, (Below.refl _ _).alloc (Nat.le_refl _) _⟩
  by_cases h7 : k = 7
  · subst h7
    go_enter Try.func87, Try.ntmps87
    go_wp2_with fail
    go_ret
    exact ⟨rfl, (Below.refl _ _).alloc (Nat.le_refl _) _⟩
  have e : refB k = false := by simp [refB, h2, h3, h4, h6, h7]
  rw [e]
  clear e
  go_enter Try.func87, Try.ntmps87
  go_wp2_with fail
  go_ret
  exact ⟨rfl, (Below.refl _ _).alloc (Nat.le_refl _) _⟩

set_option maxHeartbeats 1000000 in
theorem ksub (a b c d : Int) (w : World) : Calls Try.prog 86 #[.agg #[.int .i64 a, .int .i64 b], .agg #[.int .i64 c, .int .i64 d]] w fun e w' => e = .returned (.bool (subB a b c d)) ∧ Below w.heap.size w w' := by
  have A0 := Lib.hid (fun w => kref a b w)
  have C0 := Lib.hid (fun w => kref c d w)
  by_cases h8 : c = 8
  · subst h8
    rw [show subB a b 8 d = true by simp [subB]]
    go_enter Try.func86, Try.ntmps86
    go_wp2_with fail
    all_goals (go_ret; exact ⟨rfl, ((Below.refl _ _).alloc (Nat.le_refl _) _).alloc (by simp) _⟩)
  have e8 : (c == 8) = false := by simpa using h8
  by_cases hac : a = c
  · subst hac
    by_cases hbd : b = d
    · subst hbd
      rw [show subB a b a b = true by simp [subB]]
      go_enter Try.func86, Try.ntmps86
      go_wp2_with fail
      go_ret
      exact ⟨rfl, ((Below.refl _ _).alloc (Nat.le_refl _) _).alloc (by simp) _⟩
    have hne : (b == d) = false := by simpa using hbd
    cases hra : refB a
    · rw [show subB a b a d = false by simp [subB, hra, hne, e8]]
      replace A0 := Lib.hid (by have := A0.out; rw [hra] at this; exact this)
      clear hra
      go_enter Try.func86, Try.ntmps86
      go_wp2_with (first | (go_at_call 87; with_reducible refine (A0.out _).mono ?_; rintro e w1 ⟨rfl, hb1⟩; obtain ⟨hc1, -⟩ := bcell hb1; have hz1 : w.heap.size + 1 < w1.heap.size := by { have := hb1.size; simp at this; omega }; have hz0 : w.heap.size < w1.heap.size := by omega))
      go_ret
      exact ⟨rfl, (((Below.refl _ _).alloc (Nat.le_refl _) _).alloc (by simp) _).trans (hb1.mono (by simp; omega))⟩
    cases hrc : refB a
    · rw [show subB a b a d = false by simp [subB, hrc, hne, e8]]
      replace A0 := Lib.hid (by have := A0.out; rw [hra] at this; exact this)
      replace C0 := Lib.hid (by have := C0.out; rw [hrc] at this; exact this)
      clear hra hrc
      go_enter Try.func86, Try.ntmps86
      go_wp2_with (first | (go_at_call 87; with_reducible refine (A0.out _).mono ?_; rintro e w1 ⟨rfl, hb1⟩; obtain ⟨hc1, -⟩ := bcell hb1; have hz1 : w.heap.size + 1 < w1.heap.size := by { have := hb1.size; simp at this; omega }; have hz0 : w.heap.size < w1.heap.size := by omega) | (go_at_call 87; with_reducible refine (C0.out _).mono ?_; rintro e w2 ⟨rfl, hb2⟩; obtain ⟨hc2, -⟩ := bcell hb2))
      go_ret
      exact ⟨rfl, ((((Below.refl _ _).alloc (Nat.le_refl _) _).alloc (by simp) _).trans (hb1.mono (by simp; omega))).trans (hb2.mono (by omega))⟩
    by_cases h6 : a = 6
    · rw [show subB a b a d = true by simp only [subB, hra, hrc]; simp [h6]]
      replace A0 := Lib.hid (by have := A0.out; rw [hra] at this; exact this)
      replace C0 := Lib.hid (by have := C0.out; rw [hrc] at this; exact this)
      clear hra hrc
      have e6 : (a == 6) = true := by simpa using h6
      clear h6
      go_enter Try.func86, Try.ntmps86
      go_wp2_with (first | (go_at_call 87; with_reducible refine (A0.out _).mono ?_; rintro e w1 ⟨rfl, hb1⟩; obtain ⟨hc1, -⟩ := bcell hb1; have hz1 : w.heap.size + 1 < w1.heap.size := by { have := hb1.size; simp at this; omega }; have hz0 : w.heap.size < w1.heap.size := by omega) | (go_at_call 87; with_reducible refine (C0.out _).mono ?_; rintro e w2 ⟨rfl, hb2⟩; obtain ⟨hc2, -⟩ := bcell hb2))
      go_ret
      exact ⟨rfl, ((((Below.refl _ _).alloc (Nat.le_refl _) _).alloc (by simp) _).trans (hb1.mono (by simp; omega))).trans (hb2.mono (by omega))⟩
    rw [show subB a b a d = (a == 7) by simp [subB, hra, hrc, h6, hne, e8]]
    replace A0 := Lib.hid (by have := A0.out; rw [hra] at this; exact this)
    replace C0 := Lib.hid (by have := C0.out; rw [hrc] at this; exact this)
    clear hra hrc
    have e6 : (a == 6) = false := by simpa using h6
    clear h6
    go_enter Try.func86, Try.ntmps86
    go_wp2_with (first | (go_at_call 87; with_reducible refine (A0.out _).mono ?_; rintro e w1 ⟨rfl, hb1⟩; obtain ⟨hc1, -⟩ := bcell hb1; have hz1 : w.heap.size + 1 < w1.heap.size := by { have := hb1.size; simp at this; omega }; have hz0 : w.heap.size < w1.heap.size := by omega) | (go_at_call 87; with_reducible refine (C0.out _).mono ?_; rintro e w2 ⟨rfl, hb2⟩; obtain ⟨hc2, -⟩ := bcell hb2))
    go_ret
    exact ⟨rfl, ((((Below.refl _ _).alloc (Nat.le_refl _) _).alloc (by simp) _).trans (hb1.mono (by simp; omega))).trans (hb2.mono (by omega))⟩
  have hne : (a == c) = false := by simpa using hac
  cases hra : refB a
  · rw [show subB a b c d = false by simp [subB, hra, hne, e8]]
    replace A0 := Lib.hid (by have := A0.out; rw [hra] at this; exact this)
    clear hra
    go_enter Try.func86, Try.ntmps86
    go_wp2_with (first | (go_at_call 87; with_reducible refine (A0.out _).mono ?_; rintro e w1 ⟨rfl, hb1⟩; obtain ⟨hc1, -⟩ := bcell hb1; have hz1 : w.heap.size + 1 < w1.heap.size := by { have := hb1.size; simp at this; omega }; have hz0 : w.heap.size < w1.heap.size := by omega))
    go_ret
    exact ⟨rfl, (((Below.refl _ _).alloc (Nat.le_refl _) _).alloc (by simp) _).trans (hb1.mono (by simp; omega))⟩
  cases hrc : refB c
  · rw [show subB a b c d = false by simp [subB, hrc, hne, e8]]
    replace A0 := Lib.hid (by have := A0.out; rw [hra] at this; exact this)
    replace C0 := Lib.hid (by have := C0.out; rw [hrc] at this; exact this)
    clear hra hrc
    go_enter Try.func86, Try.ntmps86
    go_wp2_with (first | (go_at_call 87; with_reducible refine (A0.out _).mono ?_; rintro e w1 ⟨rfl, hb1⟩; obtain ⟨hc1, -⟩ := bcell hb1; have hz1 : w.heap.size + 1 < w1.heap.size := by { have := hb1.size; simp at this; omega }; have hz0 : w.heap.size < w1.heap.size := by omega) | (go_at_call 87; with_reducible refine (C0.out _).mono ?_; rintro e w2 ⟨rfl, hb2⟩; obtain ⟨hc2, -⟩ := bcell hb2))
    go_ret
    exact ⟨rfl, ((((Below.refl _ _).alloc (Nat.le_refl _) _).alloc (by simp) _).trans (hb1.mono (by simp; omega))).trans (hb2.mono (by omega))⟩
  by_cases h6 : a = 6
  · rw [show subB a b c d = true by simp only [subB, hra, hrc]; simp [h6]]
    replace A0 := Lib.hid (by have := A0.out; rw [hra] at this; exact this)
    replace C0 := Lib.hid (by have := C0.out; rw [hrc] at this; exact this)
    clear hra hrc
    have e6 : (a == 6) = true := by simpa using h6
    clear h6
    go_enter Try.func86, Try.ntmps86
    go_wp2_with (first | (go_at_call 87; with_reducible refine (A0.out _).mono ?_; rintro e w1 ⟨rfl, hb1⟩; obtain ⟨hc1, -⟩ := bcell hb1; have hz1 : w.heap.size + 1 < w1.heap.size := by { have := hb1.size; simp at this; omega }; have hz0 : w.heap.size < w1.heap.size := by omega) | (go_at_call 87; with_reducible refine (C0.out _).mono ?_; rintro e w2 ⟨rfl, hb2⟩; obtain ⟨hc2, -⟩ := bcell hb2))
    go_ret
    exact ⟨rfl, ((((Below.refl _ _).alloc (Nat.le_refl _) _).alloc (by simp) _).trans (hb1.mono (by simp; omega))).trans (hb2.mono (by omega))⟩
  rw [show subB a b c d = (c == 7) by simp [subB, hra, hrc, h6, hne, e8]]
  replace A0 := Lib.hid (by have := A0.out; rw [hra] at this; exact this)
  replace C0 := Lib.hid (by have := C0.out; rw [hrc] at this; exact this)
  clear hra hrc
  have e6 : (a == 6) = false := by simpa using h6
  clear h6
  go_enter Try.func86, Try.ntmps86
  go_wp2_with (first | (go_at_call 87; with_reducible refine (A0.out _).mono ?_; rintro e w1 ⟨rfl, hb1⟩; obtain ⟨hc1, -⟩ := bcell hb1; have hz1 : w.heap.size + 1 < w1.heap.size := by { have := hb1.size; simp at this; omega }; have hz0 : w.heap.size < w1.heap.size := by omega) | (go_at_call 87; with_reducible refine (C0.out _).mono ?_; rintro e w2 ⟨rfl, hb2⟩; obtain ⟨hc2, -⟩ := bcell hb2))
  go_ret
  exact ⟨rfl, ((((Below.refl _ _).alloc (Nat.le_refl _) _).alloc (by simp) _).trans (hb1.mono (by simp; omega))).trans (hb2.mono (by omega))⟩
end Go.Proofs.Ytpjanfkliaaflaa
namespace Go.Proofs.Ytpjanfkliaaflaa
open Go.RowKit

set_option maxRecDepth 100000 in
set_option maxHeartbeats 1000000 in
theorem equalFunc_sub (A B : Option Addr) (n m c d : Nat) (xs ys : List Typ) (w : World) (hl : xs.length = n) (hm : ys.length = m) (h : Sq typL (· < w.heap.size) w A xs) (h' : Sq typL (· < w.heap.size) w B ys) (hn2 : n ≤ 9223372036854775807) (hm2 : m ≤ 9223372036854775807) :
    Calls Try.prog 95 #[.slice A n c, .slice B m d, .func (.func 86) #[] #[]] w (Tells (belowT xs ys) w) := by
  have HL := Lib.hid hl
  have HM := Lib.hid hm
  have HS := Lib.hid h
  have HT := Lib.hid h'
  clear hl hm h h'
  by_cases hnm : n = m
  · subst hnm
    go_enter Try.func95, Try.ntmps95
    go_wp2_with fail
    go_loopw [17] (fun i wr => ∃ k : Nat, k ≤ n ∧ i = .int .i64 (k : Nat) ∧ belowT (xs.take k) (ys.take k) = true ∧ Below w.heap.size w wr) (fun i _ => n - (intOf i).toNat)
    case atStart => exact ⟨0, Nat.zero_le _, rfl, by simp [belowT], Below.refl _ _⟩
    case round =>
      obtain ⟨k, hk, rfl, heq, hbel⟩ := hrel
      have HE := Lib.hid heq
      have HB := Lib.hid hbel
      have hs := hbel.size
      clear heq hbel
      by_cases hlt : k < n
      · skip
        obtain ⟨x, hx⟩ : ∃ x, xs[k]? = some x := ⟨xs[k]'(by rw [HL.out]; exact hlt), List.getElem?_eq_getElem _⟩
        obtain ⟨y, hy⟩ : ∃ y, ys[k]? = some y := ⟨ys[k]'(by rw [HM.out]; exact hlt), List.getElem?_eq_getElem _⟩
        obtain ⟨a, cs, rfl, hab, hc, hr⟩ := HS.out.at hx
        obtain ⟨b, cs2, rfl, hbb, hc2, hr2⟩ := HT.out.at hy
        have HX := Lib.hid hx
        have HY := Lib.hid hy
        clear hx hy
        obtain ⟨rfl, -, -⟩ := hr
        obtain ⟨rfl, -, -⟩ := hr2
        have c0 := (HB.out.cell (p := a.add (k * 2)) (by rw [addBlock]; exact hab)).trans (hc 0 _ rfl)
        have c1 := (HB.out.cell (p := a.add (k * 2 + 1)) (by rw [addBlock]; exact hab)).trans (hc 1 _ rfl)
        rw [next_cell a (k * 2) 1 (by omega)] at c1
        have k0 := fun ob => ((HB.out.alloc hs ob).cell (p := b.add (k * 2)) (by rw [addBlock]; exact hbb)).trans (hc2 0 _ rfl)
        have k1 := fun ob => ((HB.out.alloc hs ob).cell (p := b.add (k * 2 + 1)) (by rw [addBlock]; exact hbb)).trans (hc2 1 _ rfl)
        rw [next_cell b (k * 2) 1 (by omega)] at k1
        have HP : Hid (∀ w1, Calls Try.prog 86 #[.agg #[.int .i64 x.1, .int .i64 x.2], .agg #[.int .i64 y.1, .int .i64 y.2]] w1 (Tells (subT x y) w1)) := fun w1 => ksub x.1 x.2 y.1 y.2 w1
        clear hc hc2
        cases hg : subT x y
        all_goals
          rw [hg] at HP
          have HG := Lib.hid hg
          clear hg
          go_wp2_with (first
            | (go_at_call 86
               refine (HP.out _).mono ?_
               rintro e w2 ⟨rfl, hb2⟩
               have Hb2 := Lib.hid (((HB.out.alloc hs _).alloc (by simp; omega) _).trans (hb2.mono (by simp; omega)))
               clear hb2))
        · go_ret
          exact ⟨by rw [below_not HX.out HY.out HG.out]; rfl, Hb2.out⟩
        · refine ⟨⟨k + 1, by omega, by simp, below_step HE.out HX.out HY.out HG.out, Hb2.out⟩, by simp [intOf]; omega⟩
      · obtain rfl : k = n := by omega
        go_wp2_with fail
        go_ret
        refine ⟨?_, HB.out⟩
        have e := HE.out
        rw [List.take_of_length_le (by rw [HL.out]; exact Nat.le_refl _), List.take_of_length_le (by rw [HM.out]; exact Nat.le_refl _)] at e
        rw [e]
        rfl
  · have h1 : ((n : Int) != (m : Int)) = true := by simp; omega
    have h2 : (n != m) = true := by simpa using hnm
    have HNM := Lib.hid hnm
    clear hnm
    go_enter Try.func95, Try.ntmps95
    go_wp2_with fail
    go_ret
    refine ⟨?_, Below.refl _ _⟩
    rw [below_len_not (fun e => HNM.out (by rw [← HL.out, ← HM.out, e]))]
    rfl
end Go.Proofs.Ytpjanfkliaaflaa
namespace Go.Proofs.Ytpjanfkliaaflaa
open Go.RowKit

set_option maxRecDepth 100000 in
set_option maxHeartbeats 400000 in
theorem grow_tys (n : Nat) (w : World) (hn : n ≤ 1000000000) :
    Calls Try.prog 99 #[.slice none 0 0, .int .i64 (n : Nat)] w fun e w' => ∃ v, e = .returned v ∧ w'.ownsRow w.heap.size 23 2 v 0 (T2 []) ∧ Below w.heap.size w w' := by
  rcases Nat.eq_zero_or_pos n with h | h
  · subst h
    go_enter Try.func99, Try.ntmps99
    go_wp2
    go_ret
    exact ⟨_, rfl, World.ownsRow_nil _ _ _ _, Below.refl _ _⟩
  · go_enter Try.func99, Try.ntmps99
    go_wp2_with (at_builtin
                 refine walk_make_tys _ rfl (.tmp 20) (.tmp 21) rfl n h hn rfl rfl ?_
                 intro G w1 hG hG2 hown hb
                 have hG3 : G ≤ 9223372036854775807 := by unfold maxLen at hG2; omega
                 have HO := Lib.hid hown
                 clear hown hG2)
    go_ret
    exact ⟨_, rfl, HO.out, hb⟩

theorem flatT_le (xss : List (List Typ)) (k : Nat) : (xss.take k).flatten.length ≤ xss.flatten.length := by
  conv => rhs; rw [← List.take_append_drop k xss, List.flatten_append]
  rw [List.length_append]
  omega
theorem flatT_take {xss : List (List Typ)} {k : Nat} {x : List Typ} (h : xss[k]? = some x) : (xss.take (k + 1)).flatten = (xss.take k).flatten ++ x := by
  obtain ⟨hk, rfl⟩ := List.getElem?_eq_some_iff.1 h
  rw [List.take_succ_eq_append_getElem hk, List.flatten_append]
  simp

set_option maxRecDepth 100000 in
set_option maxHeartbeats 1000000 in
theorem concat_tys (A : Option Addr) (n c : Nat) (xss : List (List Typ)) (w : World) (hl : xss.length = n) (hR : Sq tysL (· < w.heap.size) w A xss) (hn : xss.flatten.length ≤ 1000000) (hn2 : n ≤ 1000000) :
    Calls Try.prog 96 #[.slice A n c] w fun e w' => ∃ v, e = .returned v ∧ w'.ownsRow w.heap.size 23 2 v xss.flatten.length (T2 xss.flatten) ∧ Below w.heap.size w w' := by
  have HL := Lib.hid hl
  have HR := Lib.hid hR
  clear hl hR
  go_enter Try.func96, Try.ntmps96
  go_wp2_with fail
  go_loop [3, 11] (fun s i => ∃ k : Nat, k ≤ n ∧ i = .int .i64 (k : Nat) ∧ s = .int .i64 (((xss.take k).flatten.length : Nat) : Int)) (fun _ i => n - (intOf i).toNat)
  case atStart => exact ⟨0, Nat.zero_le _, rfl, by simp⟩
  case round =>
    obtain ⟨k, hk, rfl, rfl⟩ := hrel
    have hle := flatT_le xss k
    obtain ⟨m, hm⟩ : ∃ m, (xss.take k).flatten.length = m := ⟨_, rfl⟩
    rw [hm] at hle ⊢
    have HM := Lib.hid hm
    clear hm
    by_cases hlt : k < n
    · obtain ⟨x, hx⟩ : ∃ x, xss[k]? = some x := ⟨xss[k]'(by rw [HL.out]; exact hlt), List.getElem?_eq_getElem _⟩
      obtain ⟨a, cs, rfl, hab, hc, hr⟩ := HR.out.at hx
      obtain ⟨A2, d2, rfl, -, -, -⟩ := hr
      have hcell := one_cell (K := tysL.k) rfl (hc 0 _ rfl)
      clear hc
      have HF := Lib.hid (flatT_take hx)
      have hle2 := flatT_le xss (k + 1)
      rw [HF.out, List.length_append, HM.out] at hle2
      clear hx
      go_wp2_with fail
      refine ⟨⟨k + 1, by omega, by simp, ?_⟩, by simp [intOf]; omega⟩
      rw [HF.out, List.length_append, HM.out]
      simp
    · obtain rfl : k = n := by omega
      have HE : Hid (m = xss.flatten.length) := by
        show m = xss.flatten.length
        rw [← HM.out, List.take_of_length_le (by rw [HL.out]; exact Nat.le_refl _)]
      go_wp2_with fail
      refine (grow_tys m w (by omega)).mono ?_
      rintro e w1 ⟨v1, rfl, hown1, hb1⟩
      have HO1 := Lib.hid hown1
      have HB1 := Lib.hid hb1
      clear hown1 hb1
      go_wp2_with fail
      go_loopw [6, 27] (fun s i wr => ∃ j : Nat, j ≤ k ∧ i = .int .i64 (j : Nat) ∧ wr.ownsRow w.heap.size 23 2 s (xss.take j).flatten.length (T2 (xss.take j).flatten) ∧ Below w.heap.size w wr) (fun _ i _ => k - (intOf i).toNat)
      case atStart => exact ⟨0, Nat.zero_le _, rfl, by simpa using HO1.out, HB1.out⟩
      case round =>
        obtain ⟨j, hj, rfl, hown, hbel⟩ := hrel
        have HO := Lib.hid hown
        have HB := Lib.hid hbel
        have hs := hbel.size
        clear hown hbel
        have hlej := flatT_le xss j
        by_cases hlt2 : j < k
        · obtain ⟨x, hx⟩ : ∃ x, xss[j]? = some x := ⟨xss[j]'(by rw [HL.out]; exact hlt2), List.getElem?_eq_getElem _⟩
          obtain ⟨a, cs, rfl, hab, hc, hr⟩ := HR.out.at hx
          obtain ⟨A2, d2, rfl, -, -, hsq⟩ := hr
          have hcell2 := (HB.out.cell (p := a.add j) (by rw [addBlock]; exact hab)).trans (one_cell (K := tysL.k) rfl (hc 0 _ rfl))
          clear hc
          have HF := Lib.hid (flatT_take hx)
          have hle2 := flatT_le xss (j + 1)
          rw [HF.out, List.length_append] at hle2
          have HY := Lib.hid hsq
          clear hx hsq
          obtain ⟨q, hq⟩ : ∃ q, (xss.take j).flatten = q := ⟨_, rfl⟩
          have HQ := Lib.hid hq
          have HO2 : Hid (wr.ownsRow w.heap.size 23 2 u6 q.length (T2 q)) := by
            show wr.ownsRow w.heap.size 23 2 u6 q.length (T2 q)
            rw [← hq]; exact HO.out
          rw [hq] at hle2 hlej
          clear hq HO
          go_wp2_with (at_builtin
                       refine walk_append_tys _ rfl (.tmp 31) (.tmp 32) rfl w.heap.size u6 q.length q rfl HO2.out A2 x.length d2 x rfl rfl (· < w.heap.size) (HY.out.below HB.out (Nat.le_refl _)) (by omega) hs ?_
                       intro v2 w2 hown2 hg2 _
                       have HO3 := Lib.hid hown2
                       clear hown2)
          refine ⟨⟨j + 1, by omega, by simp, ?_, HB.out.grown hg2 hs (fun i hi => (HO2.out.lt i hi).1)⟩, by simp [intOf]; omega⟩
          rw [HF.out, HQ.out, List.length_append]
          exact HO3.out
        · obtain rfl : j = k := by omega
          go_wp2_with fail
          go_ret
          refine ⟨_, rfl, ?_, HB.out⟩
          have := HO.out
          rw [List.take_of_length_le (by rw [HL.out]; exact Nat.le_refl _)] at this
          exact this
end Go.Proofs.Ytpjanfkliaaflaa
namespace Go.Proofs.Ytpjanfkliaaflaa
open Go.RowKit

def Moved (r : Option (List Typ)) (w : World) (e : Ending) (w' : World) : Prop :=
  Below w.heap.size w w' ∧ ((r = none ∧ e = .returned (.tuple #[.slice none 0 0, .bool false])) ∨ ∃ t v, r = some t ∧ e = .returned (.tuple #[v, .bool true]) ∧ w'.ownsRow w.heap.size 23 2 v t.length (T2 t))
theorem movB_few {s ins outs : List Typ} (h : s.length < ins.length) : movB s ins outs = none := by
  rw [movB, if_neg]
  omega
theorem movB_not {s ins outs : List Typ} {b : Nat} (hb : s.length - ins.length = b) (h : belowT (s.drop b) ins = false) : movB s ins outs = none := by
  rw [movB, if_neg]
  rw [hb, h]
  simp
theorem movB_many {s ins outs : List Typ} {b : Nat} (hb : s.length - ins.length = b) (h : 8 < b + outs.length) : movB s ins outs = none := by
  rw [movB, if_neg]
  omega
theorem movB_yes {s ins outs : List Typ} {b : Nat} (hb : s.length - ins.length = b) (hl : ins.length ≤ s.length) (h : belowT (s.drop b) ins = true) (h8 : b + outs.length ≤ 8) : movB s ins outs = some (s.take b ++ outs) := by
  rw [movB, hb, if_pos ⟨hl, h8, h⟩]
theorem sq_from {S : Nat → Prop} {w : World} {D : Option Addr} {ts : List Typ} {b : Nat} (h : Sq typL S w D ts) (D' : Option Addr) (h' : b < ts.length → D' = D.map (·.add (b * 2))) : Sq typL S w D' (ts.drop b) := fun hn => by
  have hl : (ts.drop b).length = ts.length - b := by simp
  rw [h' (by omega)]
  exact h.drop b hn
end Go.Proofs.Ytpjanfkliaaflaa
namespace Go.Proofs.Ytpjanfkliaaflaa
open Go.RowKit

theorem topB_0 {s r : List Typ} {x : Typ} (h : s.reverse = x :: r) : topB s 0 = x := by
  have e : s = r.reverse ++ [x] := by rw [← List.reverse_reverse s, h]; simp
  subst e
  simp [topB]
theorem topB_1 {s r : List Typ} {x y : Typ} (h : s.reverse = x :: y :: r) : topB s 1 = y := by
  have e : s = r.reverse ++ [y, x] := by rw [← List.reverse_reverse s, h]; simp
  subst e
  simp [topB]
def chgB (m : Mod) (f : Fn) (i : Ins) (s : List Typ) : List Typ × List Typ :=
  if i.1 = 6 then ([topB s 0], [topB s 0, topB s 0])
  else if i.1 = 7 then ([topB s 1, topB s 0], [topB s 0, topB s 1])
  else if i.1 = 41 then ([(5, (topB s 0).2)], [])
  else (ruleB m f i s).getD ([], [])
theorem ite_some {α : Type} {c : Prop} [Decidable c] {a b : Option α} (ha : ∃ p, a = some p) (hb : ∃ p, b = some p) : ∃ p, (if c then a else b) = some p := by
  split
  · exact ha
  · exact hb
theorem rule_some {m : Mod} {f : Fn} {i : Ins} {s : List Typ} (h0 : 0 ≤ i.2.1) (hn : namedB m f i = true) (h6 : i.1 ≠ 6) (h7 : i.1 ≠ 7) (h41 : i.1 ≠ 41) : ∃ p, ruleB m f i s = some p := by
  by_cases h25 : i.1 = 25
  · simp [namedB, h25] at hn
    have hj : i.2.1.toNat < m.funcs.length := by omega
    exact ⟨(_, _), by simp [ruleB, h25, hj]; exact ⟨rfl, rfl⟩⟩
  by_cases h27 : i.1 = 27
  · simp [namedB, h27] at hn
    have hj : i.2.1.toNat < m.imps.length := by omega
    exact ⟨(_, _), by simp [ruleB, h27, hj]; exact ⟨rfl, rfl⟩⟩
  by_cases h28 : i.1 = 28
  · simp [namedB, h28] at hn
    have hj : i.2.1.toNat < m.recs.length := by omega
    exact ⟨(_, _), by simp [ruleB, h28, hj]; exact ⟨rfl, rfl⟩⟩
  · simp only [ruleB, h6, h7, h41, h25, h27, h28, if_false]
    repeat (first | refine ite_some ⟨_, rfl⟩ ?_ | exact ⟨_, rfl⟩)
theorem rule_chg {m : Mod} {f : Fn} {i : Ins} {s : List Typ} (h0 : 0 ≤ i.2.1) (hn : namedB m f i = true) : (match ruleB m f i s with | none => none | some p => movB s p.1 p.2) = movB s (chgB m f i s).1 (chgB m f i s).2 := by
  by_cases h6 : i.1 = 6
  · cases hs : s.reverse with
    | nil =>
      obtain rfl : s = [] := by simpa using hs
      rw [movB_few (by simp [chgB, h6])]
      simp [ruleB, h6]
    | cons x r => simp [ruleB, chgB, h6, hs, topB_0 hs]
  by_cases h7 : i.1 = 7
  · cases hs : s.reverse with
    | nil =>
      obtain rfl : s = [] := by simpa using hs
      rw [movB_few (by simp [chgB, h7])]
      simp [ruleB, h7]
    | cons x r =>
      cases r with
      | nil =>
        have hl : s.length = 1 := by rw [← List.length_reverse, hs]; rfl
        rw [movB_few (by simp [chgB, h7, hl])]
        simp [ruleB, h7, hs]
      | cons y r => simp [ruleB, chgB, h7, hs, topB_0 hs, topB_1 hs]
  by_cases h41 : i.1 = 41
  · cases hs : s.reverse with
    | nil =>
      obtain rfl : s = [] := by simpa using hs
      rw [movB_few (by simp [chgB, h41])]
      simp [ruleB, h41]
    | cons x r =>
      have e : s = r.reverse ++ [x] := by rw [← List.reverse_reverse s, hs]; simp
      by_cases h5 : x.1 = 5
      · have ex : (5, x.2) = x := Prod.ext h5.symm rfl
        simp [ruleB, chgB, h41, hs, topB_0 hs, h5, ex]
      · have hb : belowT (s.drop (s.length - 1)) [(5, x.2)] = false := by
          subst e
          simp [belowT, subT, subB, refB, h5]
        rw [movB_not (b := s.length - 1) (by simp [chgB, h41]) (by simpa [chgB, h41, topB_0 hs] using hb)]
        simp [ruleB, h41, hs, h5]
  · obtain ⟨p, hp⟩ := rule_some (s := s) h0 hn h6 h7 h41
    simp [chgB, h6, h7, h41, hp]
theorem ins_chg {m : Mod} {f : Fn} {i : Ins} {pc : Nat} {s : List Typ} (h0 : 0 ≤ i.2.1) (hn : namedB m f i = true) :
    insB8 m f i pc s = (match movB s (chgB m f i s).1 (chgB m f i s).2 with | none => (4, [], []) | some t => match nextB f i pc with | none => (1, [], []) | some l => (0, t, l)) := by
  rw [← rule_chg h0 hn, insB8]
  cases ruleB m f i s with
  | none => rfl
  | some p => rfl
end Go.Proofs.Ytpjanfkliaaflaa
namespace Go.Proofs.Ytpjanfkliaaflaa
open Go.RowKit

def follB (i : Ins) (pc : Int) : List Int := if i.1 = 26 then [] else if i.1 = 23 then [i.2.1] else if i.1 = 24 then [pc + 1, i.2.1] else [pc + 1]
def Nums (l : List Int) (w : World) (e : Ending) (w' : World) : Prop := Below w.heap.size w w' ∧ ∃ v, e = .returned v ∧ w'.ownsRow w.heap.size 3 1 v l.length (Is l)
theorem nums_one {w : World} {g N : Nat} {x : Int} (h : Blk w g 3 #[.int .i64 x]) (hg : N ≤ g) : w.ownsRow N 3 1 (.slice (some ⟨g, 0, none⟩) 1 1) 1 (Is [x]) :=
  ⟨rfl, .inr ⟨g, 1, _, rfl, hg, h, Nat.le_refl _, by simp [maxLen], rfl, rfl⟩⟩
theorem nums_two {w : World} {g N : Nat} {x y : Int} (h : Blk w g 3 #[.int .i64 x, .int .i64 y]) (hg : N ≤ g) : w.ownsRow N 3 1 (.slice (some ⟨g, 0, none⟩) 2 2) 2 (Is [x, y]) :=
  ⟨rfl, .inr ⟨g, 2, _, rfl, hg, h, Nat.le_refl _, by simp [maxLen], rfl, rfl⟩⟩

set_option maxRecDepth 100000 in
set_option maxHeartbeats 1000000 in
theorem follow_any (o a b pc : Int) (w : World) (hp : 0 ≤ pc) (hp2 : pc ≤ 1000000) : Calls Try.prog 79 #[.agg #[.int .i64 o, .int .i64 a, .int .i64 b], .int .i64 pc] w (Nums (follB (o, a, b) pc) w) := by
  by_cases h26 : o = 26
  · subst h26
    go_enter Try.func79, Try.ntmps79
    go_wp2_with fail
    go_ret
    exact ⟨below_new _ _, _, rfl, ⟨rfl, .inl ⟨rfl, rfl⟩⟩⟩
  by_cases h23 : o = 23
  · subst h23
    go_enter Try.func79, Try.ntmps79
    go_wp2_with fail
    go_ret
    exact ⟨(below_new _ _).alloc (by simp) _, _, rfl, nums_one (blk_at (by simp)) (by simp)⟩
  by_cases h24 : o = 24
  · subst h24
    go_enter Try.func79, Try.ntmps79
    go_wp2_with fail
    go_ret
    exact ⟨(below_new _ _).alloc (by simp) _, _, rfl, nums_two (blk_at (by simp)) (by simp)⟩
  · have e26 : (o == 26) = false := by simpa using h26
    have e23 : (o == 23) = false := by simpa using h23
    have e24 : (o == 24) = false := by simpa using h24
    have HF : Hid (follB (o, a, b) pc = [pc + 1]) := by show follB _ _ = _; simp [follB, h26, h23, h24]
    clear h26 h23 h24
    go_enter Try.func79, Try.ntmps79
    go_wp2_with fail
    go_ret
    refine ⟨(below_new _ _).alloc (by simp) _, _, rfl, ?_⟩
    rw [HF.out]
    exact nums_one (blk_at (by simp)) (by simp)

set_option maxRecDepth 100000 in
set_option maxHeartbeats 1000000 in
theorem index_ints (A : Option Addr) (n c : Nat) (l : List Int) (y : Int) (w : World) (hl : l.length = n) (hn : n ≤ 1000) (h : ∀ j x, l[j]? = some x → ∃ a, A = some a ∧ w.cell? (a.add j) = some (.int .i64 x)) :
    Calls Try.prog 97 #[.slice A n c, .int .i64 y] w fun e w' => ∃ z : Int, e = .returned (.int .i64 z) ∧ w' = w ∧ (0 ≤ z ↔ y ∈ l) := by
  have HL := Lib.hid hl
  have HS := Lib.hid h
  clear hl h
  go_enter Try.func97, Try.ntmps97
  go_wp2_with fail
  go_loop [8] (fun i => ∃ k : Nat, k ≤ n ∧ i = .int .i64 (k : Nat) ∧ ¬ y ∈ l.take k) (fun i => n - (intOf i).toNat)
  case atStart => exact ⟨0, Nat.zero_le _, rfl, by simp⟩
  case round =>
    obtain ⟨k, hk, rfl, hno⟩ := hrel
    have HN := Lib.hid hno
    clear hno
    by_cases hlt : k < n
    · obtain ⟨x, hx⟩ : ∃ x, l[k]? = some x := ⟨l[k]'(by rw [HL.out]; exact hlt), List.getElem?_eq_getElem _⟩
      obtain ⟨a, rfl, hc⟩ := HS.out k x hx
      have HX := Lib.hid hx
      clear hx
      by_cases hxy : y = x
      · subst hxy
        go_wp2_with fail
        go_ret
        exact ⟨_, rfl, rfl, fun _ => List.mem_of_getElem? HX.out, fun _ => by simp⟩
      · have e1 : (y == x) = false := by simpa using hxy
        have HXY := Lib.hid hxy
        clear hxy
        go_wp2_with fail
        refine ⟨⟨k + 1, by omega, by simp, ?_⟩, by simp [intOf]; omega⟩
        obtain ⟨hk2, e⟩ := List.getElem?_eq_some_iff.1 HX.out
        rw [List.take_succ_eq_append_getElem hk2, e]
        simp only [List.mem_append, List.mem_singleton, not_or]
        exact ⟨HN.out, HXY.out⟩
    · obtain rfl : k = n := by omega
      go_wp2_with fail
      go_ret
      refine ⟨_, rfl, rfl, fun h => absurd h (by omega), fun h => absurd h ?_⟩
      have := HN.out
      rwa [List.take_of_length_le (by rw [HL.out]; exact Nat.le_refl _)] at this

set_option maxRecDepth 100000 in
theorem contains_ints (A : Option Addr) (n c : Nat) (l : List Int) (y : Int) (w : World) (hl : l.length = n) (hn : n ≤ 1000) (h : ∀ j x, l[j]? = some x → ∃ a, A = some a ∧ w.cell? (a.add j) = some (.int .i64 x)) :
    Calls Try.prog 80 #[.slice A n c, .int .i64 y] w fun e w' => e = .returned (.bool (decide (y ∈ l))) ∧ w' = w := by
  have HI := Lib.hid (index_ints A n c l y w hl hn h)
  clear h hl hn
  go_enter Try.func80, Try.ntmps80
  go_wp2_with fail
  refine (HI.out).mono ?_
  rintro e w1 ⟨z, rfl, rfl, hz⟩
  have HZ := Lib.hid hz
  clear hz
  go_wp2_with fail
  go_ret
  refine ⟨?_, rfl⟩
  have : decide (0 ≤ z) = decide (y ∈ l) := by rw [decide_eq_decide]; exact HZ.out
  rw [← this]
  rfl
theorem own_ints {w : World} {N n : Nat} {v : Value} {l : List Int} (h : w.ownsRow N 3 1 v n (Is l)) : ∃ A c, v = .slice A n c ∧ n = l.length ∧ n ≤ c ∧ (∀ j x, l[j]? = some x → ∃ a, A = some a ∧ N ≤ a.block ∧ a.block < w.heap.size ∧ w.cell? (a.add j) = some (.int .i64 x)) := by
  have hn : n = l.length := by have := h.1; rw [Is_length] at this; omega
  rcases h.2 with ⟨rfl, h0⟩ | ⟨g, cap, cur, rfl, hb, hg, hnc, hcm, _, _⟩
  · refine ⟨none, 0, by rw [h0], hn, by omega, fun j x hx => ?_⟩
    have := (List.getElem?_eq_some_iff.1 hx).1
    omega
  · exact ⟨some ⟨g, 0, none⟩, cap, rfl, hn, hnc, fun j x hx => ⟨_, rfl, hb, (Array.getElem?_eq_some_iff.1 hg).1, h.cells rfl j _ (Is_get hx)⟩⟩
end Go.Proofs.Ytpjanfkliaaflaa
namespace Go.Proofs.Ytpjanfkliaaflaa

theorem sane_fn {x : Mod} {fn : Fn} (h : checkN x = 0) (hf : fn ∈ x.funcs) : fn.args.length ≤ 4 ∧ fn.locs.length ≤ 8 ∧ fn.code.length ≤ 64 ∧ ∀ i ∈ fn.code, goodIn i = true ∧ namedB x fn i = true := by
  have hF := fitB_iff.1 (checkN_fit h)
  have ho := hF.funcs fn hf
  simp only [fnOk, Bool.and_eq_true, witB_iff] at ho
  have hb : badM x = false := by
    cases hb : badM x
    · rfl
    · rw [checkN_bad (checkN_fit h) hb] at h; cases h
  refine ⟨by omega, by omega, by omega, fun i hi => ⟨ho.2.2 i hi, ?_⟩⟩
  cases hn : namedB x fn i
  · rw [badFn_any hf (bad_code hi hn)] at hb; cases hb
  · rfl
theorem sane_imp {x : Mod} {p : Imp} (h : checkN x = 0) (hf : p ∈ x.imps) : p.args.length ≤ 4 := by
  have ho := (fitB_iff.1 (checkN_fit h)).imps p hf
  simp only [impOk, Bool.and_eq_true, witB_iff] at ho
  omega
theorem sane_rec {x : Mod} {r : List Typ} (h : checkN x = 0) (hf : r ∈ x.recs) : r.length ≤ 6 := by
  have ho := (fitB_iff.1 (checkN_fit h)).recs r hf
  simp only [recOk, witB_iff] at ho
  omega
def short2 (p : List Typ × List Typ) : Prop := p.1.length ≤ 8 ∧ p.2.length ≤ 8
theorem short_ite {c : Prop} [Decidable c] {a b : List Typ × List Typ} (ha : short2 a) (hb : short2 b) : short2 (if c then a else b) := by
  split
  · exact ha
  · exact hb
theorem short_iteo {c : Prop} [Decidable c] {a b : Option (List Typ × List Typ)} (ha : short2 (a.getD ([], []))) (hb : short2 (b.getD ([], []))) : short2 ((if c then a else b).getD ([], [])) := by
  split
  · exact ha
  · exact hb
theorem chg_len {x : Mod} {f : Fn} {i : Ins} {s : List Typ} (h : checkN x = 0) : short2 (chgB x f i s) := by
  have e0 : short2 ((none : Option (List Typ × List Typ)).getD ([], [])) := ⟨by simp, by simp⟩
  unfold chgB
  refine short_ite ⟨by simp, by simp⟩ (short_ite ⟨by simp, by simp⟩ (short_ite ⟨by simp, by simp⟩ ?_))
  unfold ruleB
  repeat (first
    | (refine short_iteo ?_ ?_
       (first
        | (refine ⟨?_, ?_⟩ <;> (simp <;> done))
        | (split
           · rename_i g hg
             first
             | exact ⟨by have := (sane_fn h (List.mem_of_getElem? hg)).1; simp; omega, by simp⟩
             | exact ⟨by have := sane_imp h (List.mem_of_getElem? hg); simp; omega, by simp⟩
             | exact ⟨by have := sane_rec h (List.mem_of_getElem? hg); simp; omega, by simp⟩
           · exact e0)
        | (split <;> first | exact e0 | (refine ⟨?_, ?_⟩ <;> (simp <;> done)) | (split <;> first | exact e0 | (refine ⟨?_, ?_⟩ <;> (simp <;> done))))))
    | (refine ⟨?_, ?_⟩ <;> (simp <;> done)))
theorem next_foll {x : Mod} {f : Fn} {i : Ins} {p : Nat} (hn : namedB x f i = true) (hp : p < f.code.length) : nextB f i p = if ((f.code.length : Nat) : Int) ∈ follB i (p : Int) then none else some (follB i (p : Int)) := by
  unfold nextB follB
  by_cases h26 : i.1 = 26
  · simp [h26]
  by_cases h23 : i.1 = 23
  · simp [namedB, h23] at hn
    simp [h23]
    omega
  by_cases h24 : i.1 = 24
  · simp [namedB, h24] at hn
    by_cases hq : f.code.length ≤ p + 1
    · have hq2 : ((f.code.length : Nat) : Int) = (p : Int) + 1 := by omega
      simp [h24, hq, hq2]
    · have hq2 : ¬ ((f.code.length : Nat) : Int) = (p : Int) + 1 := by omega
      have hq3 : ¬ ((f.code.length : Nat) : Int) = i.2.1 := by omega
      simp [h24, hq, hq2, hq3]
  · simp only [h26, h23, h24, if_false, List.mem_singleton]
    by_cases hq : f.code.length ≤ p + 1
    · rw [if_pos hq, if_pos (by omega)]
    · rw [if_neg hq, if_neg (by omega)]
end Go.Proofs.Ytpjanfkliaaflaa
