/-
  Knd Tyr Eft Wityp Wiins Iar Ift
-/
import Derived.Test.YtikhhcmfjncabaaQ01
import Derived.Test.YtikhhcmfjncabaaQ02
import Derived.Lib.AppendZeros
import Derived.LoopN
set_option linter.unusedSimpArgs false
set_option linter.unusedVariables false
namespace Go.Proofs.Ytikhhcmfjncabaa
open Go.RowKit

theorem kref (k n : Int) (w : World) : Calls Try.prog 16 #[.agg #[.int .i64 k, .int .i64 n]] w fun e w' => e = .returned (.bool (refB k)) ∧ Below w.heap.size w w' := by
  by_cases h2 : k = 2
  · subst h2
    go_enter Try.func16, Try.ntmps16
    go_wp2_with fail
    go_ret
    exact ⟨rfl, (Below.refl _ _).alloc (Nat.le_refl _) _⟩
  by_cases h3 : k = 3
  · subst h3
    go_enter Try.func16, Try.ntmps16
    go_wp2_with fail
    go_ret
    exact ⟨rfl, (Below.refl _ _).alloc (Nat.le_refl _) _⟩
  by_cases h4 : k = 4
  · subst h4
    go_enter Try.func16, Try.ntmps16
    go_wp2_with fail
    go_ret
    exact ⟨rfl, (Below.refl _ _).alloc (Nat.le_refl _) _⟩
  by_cases h6 : k = 6
  · subst h6
    go_enter Try.func16, Try.ntmps16
    go_wp2_with fail
    go_ret
    exact ⟨rfl, (Below.refl _ _).alloc (Nat.le_refl _) _⟩
  by_cases h7 : k = 7
  · subst h7
    go_enter Try.func16, Try.ntmps16
    go_wp2_with fail
    go_ret
    exact ⟨rfl, (Below.refl _ _).alloc (Nat.le_refl _) _⟩
  have e : refB k = false := by simp [refB, h2, h3, h4, h6, h7]
  rw [e]
  clear e
  go_enter Try.func16, Try.ntmps16
  go_wp2_with fail
  go_ret
  exact ⟨rfl, (Below.refl _ _).alloc (Nat.le_refl _) _⟩

set_option maxHeartbeats 1000000 in
theorem ksub (a b c d : Int) (w : World) : Calls Try.prog 10 #[.agg #[.int .i64 a, .int .i64 b], .agg #[.int .i64 c, .int .i64 d]] w fun e w' => e = .returned (.bool (subB a b c d)) ∧ Below w.heap.size w w' := by
  have A0 := Lib.hid (fun w => kref a b w)
  have C0 := Lib.hid (fun w => kref c d w)
  by_cases h8 : c = 8
  · subst h8
    rw [show subB a b 8 d = true by simp [subB]]
    go_enter Try.func10, Try.ntmps10
    go_wp2_with fail
    all_goals (go_ret; exact ⟨rfl, ((Below.refl _ _).alloc (Nat.le_refl _) _).alloc (by simp) _⟩)
  have e8 : (c == 8) = false := by simpa using h8
  by_cases hac : a = c
  · subst hac
    by_cases hbd : b = d
    · subst hbd
      rw [show subB a b a b = true by simp [subB]]
      go_enter Try.func10, Try.ntmps10
      go_wp2_with fail
      go_ret
      exact ⟨rfl, ((Below.refl _ _).alloc (Nat.le_refl _) _).alloc (by simp) _⟩
    have hne : (b == d) = false := by simpa using hbd
    cases hra : refB a
    · rw [show subB a b a d = false by simp [subB, hra, hne, e8]]
      replace A0 := Lib.hid (by have := A0.out; rw [hra] at this; exact this)
      clear hra
      go_enter Try.func10, Try.ntmps10
      go_wp2_with (first | (go_at_call 16; with_reducible refine (A0.out _).mono ?_; rintro e w1 ⟨rfl, hb1⟩; obtain ⟨hc1, -⟩ := bcell hb1; have hz1 : w.heap.size + 1 < w1.heap.size := by { have := hb1.size; simp at this; omega }; have hz0 : w.heap.size < w1.heap.size := by omega))
      go_ret
      exact ⟨rfl, (((Below.refl _ _).alloc (Nat.le_refl _) _).alloc (by simp) _).trans (hb1.mono (by simp; omega))⟩
    cases hrc : refB a
    · rw [show subB a b a d = false by simp [subB, hrc, hne, e8]]
      replace A0 := Lib.hid (by have := A0.out; rw [hra] at this; exact this)
      replace C0 := Lib.hid (by have := C0.out; rw [hrc] at this; exact this)
      clear hra hrc
      go_enter Try.func10, Try.ntmps10
      go_wp2_with (first | (go_at_call 16; with_reducible refine (A0.out _).mono ?_; rintro e w1 ⟨rfl, hb1⟩; obtain ⟨hc1, -⟩ := bcell hb1; have hz1 : w.heap.size + 1 < w1.heap.size := by { have := hb1.size; simp at this; omega }; have hz0 : w.heap.size < w1.heap.size := by omega) | (go_at_call 16; with_reducible refine (C0.out _).mono ?_; rintro e w2 ⟨rfl, hb2⟩; obtain ⟨hc2, -⟩ := bcell hb2))
      go_ret
      exact ⟨rfl, ((((Below.refl _ _).alloc (Nat.le_refl _) _).alloc (by simp) _).trans (hb1.mono (by simp; omega))).trans (hb2.mono (by omega))⟩
    by_cases h6 : a = 6
    · rw [show subB a b a d = true by simp only [subB, hra, hrc]; simp [h6]]
      replace A0 := Lib.hid (by have := A0.out; rw [hra] at this; exact this)
      replace C0 := Lib.hid (by have := C0.out; rw [hrc] at this; exact this)
      clear hra hrc
      have e6 : (a == 6) = true := by simpa using h6
      clear h6
      go_enter Try.func10, Try.ntmps10
      go_wp2_with (first | (go_at_call 16; with_reducible refine (A0.out _).mono ?_; rintro e w1 ⟨rfl, hb1⟩; obtain ⟨hc1, -⟩ := bcell hb1; have hz1 : w.heap.size + 1 < w1.heap.size := by { have := hb1.size; simp at this; omega }; have hz0 : w.heap.size < w1.heap.size := by omega) | (go_at_call 16; with_reducible refine (C0.out _).mono ?_; rintro e w2 ⟨rfl, hb2⟩; obtain ⟨hc2, -⟩ := bcell hb2))
      go_ret
      exact ⟨rfl, ((((Below.refl _ _).alloc (Nat.le_refl _) _).alloc (by simp) _).trans (hb1.mono (by simp; omega))).trans (hb2.mono (by omega))⟩
    rw [show subB a b a d = (a == 7) by simp [subB, hra, hrc, h6, hne, e8]]
    replace A0 := Lib.hid (by have := A0.out; rw [hra] at this; exact this)
    replace C0 := Lib.hid (by have := C0.out; rw [hrc] at this; exact this)
    clear hra hrc
    have e6 : (a == 6) = false := by simpa using h6
    clear h6
    go_enter Try.func10, Try.ntmps10
    go_wp2_with (first | (go_at_call 16; with_reducible refine (A0.out _).mono ?_; rintro e w1 ⟨rfl, hb1⟩; obtain ⟨hc1, -⟩ := bcell hb1; have hz1 : w.heap.size + 1 < w1.heap.size := by { have := hb1.size; simp at this; omega }; have hz0 : w.heap.size < w1.heap.size := by omega) | (go_at_call 16; with_reducible refine (C0.out _).mono ?_; rintro e w2 ⟨rfl, hb2⟩; obtain ⟨hc2, -⟩ := bcell hb2))
    go_ret
    exact ⟨rfl, ((((Below.refl _ _).alloc (Nat.le_refl _) _).alloc (by simp) _).trans (hb1.mono (by simp; omega))).trans (hb2.mono (by omega))⟩
  have hne : (a == c) = false := by simpa using hac
  cases hra : refB a
  · rw [show subB a b c d = false by simp [subB, hra, hne, e8]]
    replace A0 := Lib.hid (by have := A0.out; rw [hra] at this; exact this)
    clear hra
    go_enter Try.func10, Try.ntmps10
    go_wp2_with (first | (go_at_call 16; with_reducible refine (A0.out _).mono ?_; rintro e w1 ⟨rfl, hb1⟩; obtain ⟨hc1, -⟩ := bcell hb1; have hz1 : w.heap.size + 1 < w1.heap.size := by { have := hb1.size; simp at this; omega }; have hz0 : w.heap.size < w1.heap.size := by omega))
    go_ret
    exact ⟨rfl, (((Below.refl _ _).alloc (Nat.le_refl _) _).alloc (by simp) _).trans (hb1.mono (by simp; omega))⟩
  cases hrc : refB c
  · rw [show subB a b c d = false by simp [subB, hrc, hne, e8]]
    replace A0 := Lib.hid (by have := A0.out; rw [hra] at this; exact this)
    replace C0 := Lib.hid (by have := C0.out; rw [hrc] at this; exact this)
    clear hra hrc
    go_enter Try.func10, Try.ntmps10
    go_wp2_with (first | (go_at_call 16; with_reducible refine (A0.out _).mono ?_; rintro e w1 ⟨rfl, hb1⟩; obtain ⟨hc1, -⟩ := bcell hb1; have hz1 : w.heap.size + 1 < w1.heap.size := by { have := hb1.size; simp at this; omega }; have hz0 : w.heap.size < w1.heap.size := by omega) | (go_at_call 16; with_reducible refine (C0.out _).mono ?_; rintro e w2 ⟨rfl, hb2⟩; obtain ⟨hc2, -⟩ := bcell hb2))
    go_ret
    exact ⟨rfl, ((((Below.refl _ _).alloc (Nat.le_refl _) _).alloc (by simp) _).trans (hb1.mono (by simp; omega))).trans (hb2.mono (by omega))⟩
  by_cases h6 : a = 6
  · rw [show subB a b c d = true by simp only [subB, hra, hrc]; simp [h6]]
    replace A0 := Lib.hid (by have := A0.out; rw [hra] at this; exact this)
    replace C0 := Lib.hid (by have := C0.out; rw [hrc] at this; exact this)
    clear hra hrc
    have e6 : (a == 6) = true := by simpa using h6
    clear h6
    go_enter Try.func10, Try.ntmps10
    go_wp2_with (first | (go_at_call 16; with_reducible refine (A0.out _).mono ?_; rintro e w1 ⟨rfl, hb1⟩; obtain ⟨hc1, -⟩ := bcell hb1; have hz1 : w.heap.size + 1 < w1.heap.size := by { have := hb1.size; simp at this; omega }; have hz0 : w.heap.size < w1.heap.size := by omega) | (go_at_call 16; with_reducible refine (C0.out _).mono ?_; rintro e w2 ⟨rfl, hb2⟩; obtain ⟨hc2, -⟩ := bcell hb2))
    go_ret
    exact ⟨rfl, ((((Below.refl _ _).alloc (Nat.le_refl _) _).alloc (by simp) _).trans (hb1.mono (by simp; omega))).trans (hb2.mono (by omega))⟩
  rw [show subB a b c d = (c == 7) by simp [subB, hra, hrc, h6, hne, e8]]
  replace A0 := Lib.hid (by have := A0.out; rw [hra] at this; exact this)
  replace C0 := Lib.hid (by have := C0.out; rw [hrc] at this; exact this)
  clear hra hrc
  have e6 : (a == 6) = false := by simpa using h6
  clear h6
  go_enter Try.func10, Try.ntmps10
  go_wp2_with (first | (go_at_call 16; with_reducible refine (A0.out _).mono ?_; rintro e w1 ⟨rfl, hb1⟩; obtain ⟨hc1, -⟩ := bcell hb1; have hz1 : w.heap.size + 1 < w1.heap.size := by { have := hb1.size; simp at this; omega }; have hz0 : w.heap.size < w1.heap.size := by omega) | (go_at_call 16; with_reducible refine (C0.out _).mono ?_; rintro e w2 ⟨rfl, hb2⟩; obtain ⟨hc2, -⟩ := bcell hb2))
  go_ret
  exact ⟨rfl, ((((Below.refl _ _).alloc (Nat.le_refl _) _).alloc (by simp) _).trans (hb1.mono (by simp; omega))).trans (hb2.mono (by omega))⟩
end Go.Proofs.Ytikhhcmfjncabaa
namespace Go.Proofs.Ytikhhcmfjncabaa
open Go.RowKit

def T2 : List Typ → List Value
  | [] => []
  | t :: ts => .int .i64 t.1 :: .int .i64 t.2 :: T2 ts
theorem T2_app (ts us : List Typ) : T2 (ts ++ us) = T2 ts ++ T2 us := by
  induction ts with
  | nil => rfl
  | cons t ts ih => simp [T2, ih]
theorem T2_length (ts : List Typ) : (T2 ts).length = ts.length * 2 := by
  induction ts with
  | nil => rfl
  | cons t ts ih => simp [T2, ih]; omega
theorem T2_get0 {ts : List Typ} {j : Nat} {t : Typ} (h : ts[j]? = some t) : (T2 ts)[j * 2]? = some (.int .i64 t.1) := by
  induction ts generalizing j with
  | nil => simp at h
  | cons u ts ih =>
    cases j with
    | zero => simp at h; subst h; simp [T2]
    | succ j => rw [show (j + 1) * 2 = j * 2 + 1 + 1 by omega]; simp [T2]; exact ih (by simpa using h)
theorem T2_get1 {ts : List Typ} {j : Nat} {t : Typ} (h : ts[j]? = some t) : (T2 ts)[j * 2 + 1]? = some (.int .i64 t.2) := by
  induction ts generalizing j with
  | nil => simp at h
  | cons u ts ih =>
    cases j with
    | zero => simp at h; subst h; simp [T2]
    | succ j => rw [show (j + 1) * 2 + 1 = j * 2 + 1 + 1 + 1 by omega]; simp [T2]; exact ih (by simpa using h)
theorem T2_one (ts : List Typ) : ∀ u ∈ T2 ts, u.oneCell' = true := by
  induction ts with
  | nil => simp [T2]
  | cons t ts ih =>
    intro u hu
    simp only [T2, List.mem_cons] at hu
    rcases hu with rfl | rfl | hu
    · rfl
    · rfl
    · exact ih u hu
def A64 (ts : List Typ) : Prop := ∀ t ∈ ts, I64 t.1 ∧ I64 t.2
theorem A64.app {ts us : List Typ} (h : A64 ts) (h' : A64 us) : A64 (ts ++ us) := fun t ht => by
  rcases List.mem_append.1 ht with h1 | h1
  · exact h t h1
  · exact h' t h1
theorem A64.take {ts : List Typ} (h : A64 ts) (k : Nat) : A64 (ts.take k) := fun t ht => h t (List.mem_of_mem_take ht)
theorem A64.drop {ts : List Typ} (h : A64 ts) (k : Nat) : A64 (ts.drop k) := fun t ht => h t (List.mem_of_mem_drop ht)
theorem A64.nil : A64 [] := fun t ht => by simp at ht
theorem A64.one {t : Typ} (h : I64 t.1) (h' : I64 t.2) : A64 [t] := fun u hu => by simp at hu; subst hu; exact ⟨h, h'⟩
theorem Sq.a64 {S : Nat → Prop} {w : World} {A : Option Addr} {ts : List Typ} (h : Sq typL S w A ts) : A64 ts := fun t ht => by
  obtain ⟨j, hj⟩ := List.mem_iff_getElem?.1 ht
  obtain ⟨a, cs, -, -, -, hr⟩ := h.at hj
  exact hr.2
theorem Sq.take {α : Type} {L : Lay α} {S : Nat → Prop} {w : World} {A : Option Addr} {xs : List α} (h : Sq L S w A xs) (k : Nat) : Sq L S w A (xs.take k) := fun hn => by
  have hl : (xs.take k).length ≤ xs.length := by simp; omega
  obtain ⟨a, e, hs, hc⟩ := h (by omega)
  refine ⟨a, e, hs, fun j x hx => hc j x ?_⟩
  have hj : j < k := by
    have := (List.getElem?_eq_some_iff.1 hx).1
    simp at this
    omega
  rwa [List.getElem?_take_of_lt hj] at hx
theorem Sq.drop {α : Type} {L : Lay α} {S : Nat → Prop} {w : World} {A : Option Addr} {xs : List α} (h : Sq L S w A xs) (k : Nat) : Sq L S w (A.map (·.add (k * L.k))) (xs.drop k) := fun hn => by
  have hl : (xs.drop k).length = xs.length - k := by simp
  obtain ⟨a, e, hs, hc⟩ := h (by omega)
  refine ⟨a.add (k * L.k), by rw [e]; rfl, by rw [addBlock]; exact hs, fun j x hx => ?_⟩
  rw [List.getElem?_drop] at hx
  obtain ⟨cs, h1, h2⟩ := hc (k + j) x hx
  refine ⟨cs, fun i u hu => ?_, h2⟩
  rw [addAdd, ← h1 i u hu, Nat.add_mul, Nat.add_assoc]
theorem own_sq {w : World} {base n : Nat} {v : Value} {ts : List Typ} (h : w.ownsRow base 27 2 v n (T2 ts)) (ha : A64 ts) :
    ∃ A c, v = .slice A n c ∧ n = ts.length ∧ n ≤ c ∧ c ≤ maxLen ∧ Sq typL (fun b => base ≤ b ∧ b < w.heap.size) w A ts := by
  have hn : n = ts.length := by have := h.1; rw [T2_length] at this; omega
  rcases h.2 with ⟨rfl, h0⟩ | ⟨g, cap, cur, rfl, hb, hg, hnc, hcm, _, _⟩
  · refine ⟨none, 0, by rw [h0], hn, by omega, by simp [maxLen], fun hpos => absurd hpos (by omega)⟩
  · refine ⟨some ⟨g, 0, none⟩, cap, rfl, hn, hnc, hcm, fun _ => ⟨⟨g, 0, none⟩, rfl, ⟨hb, (Array.getElem?_eq_some_iff.1 hg).1⟩, fun j t hj => ⟨_, fun i u hu => ?_, rfl, ha t (List.mem_of_getElem? hj)⟩⟩⟩
    match i, hu with
    | 0, hu => simp at hu; subst hu; exact h.cells rfl (j * 2) _ (T2_get0 hj)
    | 1, hu => simp at hu; subst hu; exact h.cells rfl (j * 2 + 1) _ (T2_get1 hj)
    | i + 2, hu => simp at hu
theorem sq_cells {S : Nat → Prop} {w : World} {a : Addr} {ts : List Typ} (h : Sq typL S w (some a) ts) : ∀ j u, (T2 ts)[j]? = some u → w.cell? (a.add j) = some u := fun j u hu => by
  have hj := (List.getElem?_eq_some_iff.1 hu).1
  rw [T2_length] at hj
  obtain ⟨a', e, -, hc⟩ := h (by omega)
  injection e with e
  subst e
  obtain ⟨t, ht⟩ : ∃ t, ts[j / 2]? = some t := ⟨ts[j / 2]'(by omega), List.getElem?_eq_getElem _⟩
  obtain ⟨cs, h1, rfl, -⟩ := hc _ t ht
  rcases Nat.mod_two_eq_zero_or_one j with e | e
  · have ej : j = j / 2 * 2 := by omega
    have k0 := h1 0 _ rfl
    rw [ej, T2_get0 ht] at hu
    injection hu with hu
    subst hu
    rw [show j / 2 * typL.k + 0 = j by show j / 2 * 2 + 0 = j; omega] at k0
    exact k0
  · have ej : j = j / 2 * 2 + 1 := by omega
    have k0 := h1 1 _ rfl
    rw [ej, T2_get1 ht] at hu
    injection hu with hu
    subst hu
    rw [show j / 2 * typL.k + 1 = j by show j / 2 * 2 + 1 = j; omega] at k0
    exact k0

theorem typ_info : (Try.prog.info? 27).map (fun i => (i.zero, i.size, i.bytes)) = some (some (.agg #[.int .i64 0, .int .i64 0]), 2, 16) := by kernel_rfl

set_option maxRecDepth 100000 in
theorem run_append_tys (w : World) (base ty : Nat) (v : Value) (n : Nat) (xs : List Typ) (hown : w.ownsRow base 27 2 v n (T2 xs)) (A : Option Addr) (m c : Nat) (ys : List Typ) (hm : ys.length = m)
    (S : Nat → Prop) (hy : Sq typL S w A ys) (hbig : n + m ≤ 1000000000) (hbase : base ≤ w.heap.size) :
    ∃ v' w', (Builtin.append_ #[22, 22] ty #[v, .slice A m c]).run Try.prog w = .ok v' w' ∧ w'.ownsRow base 27 2 v' (n + m) (T2 (xs ++ ys)) ∧ w.grownBy w' v.ownBlock ∧
      (v'.ownBlock = v.ownBlock ∨ v'.ownBlock = some w.heap.size) := by
  obtain ⟨i0, hi0, hz0, hz1, hz2⟩ := info_parts typ_info
  rw [T2_app]
  rcases A with _ | a
  · have h0 : m = 0 := by
      rcases Nat.eq_zero_or_pos m with h | h
      · exact h
      · obtain ⟨a, h, _⟩ := hy (by omega)
        cases h
    subst h0
    obtain rfl : ys = [] := List.eq_nil_of_length_eq_zero hm
    refine ⟨v, w, ?_, by simpa [T2] using hown, ⟨rfl, rfl, rfl, Nat.le_refl _, fun _ _ _ => rfl⟩, .inl rfl⟩
    have ht := run_underlying (P := Try.prog) (w := w) Try.underlying22
    rcases hown.2 with ⟨rfl, rfl⟩ | ⟨g, cap, cur, rfl, _, _, hnc, _⟩
    · simp [Builtin.append_, ht, sizeOf, typeInfo, hi0, Builtin.lenOf, Builtin.firstCells]
    · simp [Builtin.append_, ht, sizeOf, typeInfo, hi0, Builtin.lenOf, Builtin.firstCells, hnc, storeCells]
  · obtain ⟨v', w', hrun, h2, h3, _, h5⟩ := run_append_own_at (P := Try.prog) w base 22 ty 27 i0 (.agg #[.int .i64 0, .int .i64 0]) 2 16 Try.underlying22 hi0 hz0 hz1 hz2 rfl (by omega) v n (T2 xs) hown a m c (T2 ys) (by rw [T2_length]; omega) (sq_cells hy) (T2_one ys)
      (by simp only [maxLen]; omega) (by omega) hbase
    exact ⟨v', w', hrun, h2, h3, h5⟩

theorem walk_append_tys (w : World) {ops : Array Oper} {rest : List Oper} {o : Oper} {a : Act} {Q : Exit → Act → World → Prop} (hgd : o.guard = none) (s x : Operand)
    (ho : o.op = .call { callee := .builtin .append, args := #[s, x], argTypes := #[22, 22] })
    (base : Nat) (v : Value) (n : Nat) (xs : List Typ) (hs : a.eval s = v) (hown : w.ownsRow base 27 2 v n (T2 xs)) (A : Option Addr) (m c : Nat) (ys : List Typ) (hx : a.eval x = .slice A m c) (hm : ys.length = m)
    (S : Nat → Prop) (hy : Sq typL S w A ys) (hbig : n + m ≤ 1000000000) (hbase : base ≤ w.heap.size)
    (h : ∀ v' w', w'.ownsRow base 27 2 v' (n + m) (T2 (xs ++ ys)) → w.grownBy w' v.ownBlock → (v'.ownBlock = v.ownBlock ∨ v'.ownBlock = some w.heap.size) → wpList Try.prog ops Q rest (a.put o.dst v') w') :
    wpList Try.prog ops Q (o :: rest) a w := by
  refine wpList_plain hgd fun _ hK => ?_
  obtain ⟨v', w', hrun, h2, h3, h4⟩ := run_append_tys w base o.type v n xs hown A m c ys hm S hy hbig hbase
  unfold Oper.wp execOp
  simp only [ho, resolve, invoke, builtin, Sem.run_bind, Sem.run_pure, Result.andThen_ok, List.map_toArray, List.map_cons, List.map_nil, hs, hx, hrun]
  exact hK _ _ (h v' w' h2 h3 h4)

theorem walk_make_tys (w : World) {ops : Array Oper} {rest : List Oper} {o : Oper} {a : Act} {Q : Exit → Act → World → Prop} (hgd : o.guard = none) (s x : Operand)
    (ho : o.op = .call { callee := .builtin .append, args := #[s, x], argTypes := #[22, 3] })
    (n : Nat) (h0 : 0 < n) (hn : n ≤ 1000000000) (hs : a.eval s = .slice none 0 0) (hx : a.eval x = .int .i64 (n : Nat))
    (h : ∀ G w', n ≤ G → G ≤ maxLen → w'.ownsRow w.heap.size 27 2 (.slice (some ⟨w.heap.size, 0, none⟩) 0 G) 0 (T2 []) → Below w.heap.size w w' → wpList Try.prog ops Q rest (a.put o.dst (.slice (some ⟨w.heap.size, 0, none⟩) n G)) w') :
    wpList Try.prog ops Q (o :: rest) a w := by
  obtain ⟨i0, hi0, hz0, hz1, hz2⟩ := info_parts typ_info
  refine wpList_plain hgd fun _ hK => ?_
  have hrun := Lib.run_append_nil_zeros (P := Try.prog) w 22 3 o.type 27 i0 (.agg #[.int .i64 0, .int .i64 0]) .i64 .i64 Try.underlying22 Try.underlying3 hi0 hz0 n h0 (by omega) (by omega) (by rw [hz2]; omega)
  have hG := grownCap_ge w n 0 27
  have hG2 := grownCap_le_maxLen w n 0 27 (by unfold maxLen; omega)
  generalize grownCap w n 0 27 = G at hrun hG hG2
  unfold Oper.wp execOp
  simp only [ho, resolve, invoke, builtin, Sem.run_bind, Sem.run_pure, Result.andThen_ok, List.map_toArray, List.map_cons, List.map_nil, hs, hx, hrun]
  refine hK _ _ (h G _ hG hG2 ?_ ((Below.refl _ w).drew.alloc (Nat.le_refl _) _))
  refine World.ownsRow_made (base := w.heap.size) (e := 27) (size := 2) w.drew _ G (Nat.le_refl _) hG2 ?_
  simp [Builtin.zeroCells, Value.cells]
  omega

def Is (l : List Int) : List Value := l.map fun x => Value.int .i64 x
theorem Is_length (l : List Int) : (Is l).length = l.length := by simp [Is]
theorem Is_get {l : List Int} {j : Nat} {x : Int} (h : l[j]? = some x) : (Is l)[j]? = some (.int .i64 x) := by simp [Is, h]
end Go.Proofs.Ytikhhcmfjncabaa
namespace Go.Proofs.Ytikhhcmfjncabaa
open Go.RowKit

set_option maxRecDepth 100000 in
set_option maxHeartbeats 1000000 in
theorem equalFunc_sub (A B : Option Addr) (n m c d : Nat) (xs ys : List Typ) (w : World) (hl : xs.length = n) (hm : ys.length = m) (h : Sq typL (· < w.heap.size) w A xs) (h' : Sq typL (· < w.heap.size) w B ys) (hn2 : n ≤ 9223372036854775807) (hm2 : m ≤ 9223372036854775807) :
    Calls Try.prog 9 #[.slice A n c, .slice B m d, .func (.func 10) #[] #[]] w (Tells (belowT xs ys) w) := by
  have HL := Lib.hid hl
  have HM := Lib.hid hm
  have HS := Lib.hid h
  have HT := Lib.hid h'
  clear hl hm h h'
  by_cases hnm : n = m
  · subst hnm
    go_enter Try.func9, Try.ntmps9
    go_wp2_with fail
    go_loopw [17] (fun i wr => ∃ k : Nat, k ≤ n ∧ i = .int .i64 (k : Nat) ∧ belowT (xs.take k) (ys.take k) = true ∧ Below w.heap.size w wr) (fun i _ => n - (intOf i).toNat)
    case atStart => exact ⟨0, Nat.zero_le _, rfl, by simp [belowT], Below.refl _ _⟩
    case round =>
      obtain ⟨k, hk, rfl, heq, hbel⟩ := hrel
      have HE := Lib.hid heq
      have HB := Lib.hid hbel
      have hs := hbel.size
      clear heq hbel
      by_cases hlt : k < n
      · skip
        obtain ⟨x, hx⟩ : ∃ x, xs[k]? = some x := ⟨xs[k]'(by rw [HL.out]; exact hlt), List.getElem?_eq_getElem _⟩
        obtain ⟨y, hy⟩ : ∃ y, ys[k]? = some y := ⟨ys[k]'(by rw [HM.out]; exact hlt), List.getElem?_eq_getElem _⟩
        obtain ⟨a, cs, rfl, hab, hc, hr⟩ := HS.out.at hx
        obtain ⟨b, cs2, rfl, hbb, hc2, hr2⟩ := HT.out.at hy
        have HX := Lib.hid hx
        have HY := Lib.hid hy
        clear hx hy
        obtain ⟨rfl, -, -⟩ := hr
        obtain ⟨rfl, -, -⟩ := hr2
        have c0 := (HB.out.cell (p := a.add (k * 2)) (by rw [addBlock]; exact hab)).trans (hc 0 _ rfl)
        have c1 := (HB.out.cell (p := a.add (k * 2 + 1)) (by rw [addBlock]; exact hab)).trans (hc 1 _ rfl)
        rw [next_cell a (k * 2) 1 (by omega)] at c1
        have k0 := fun ob => ((HB.out.alloc hs ob).cell (p := b.add (k * 2)) (by rw [addBlock]; exact hbb)).trans (hc2 0 _ rfl)
        have k1 := fun ob => ((HB.out.alloc hs ob).cell (p := b.add (k * 2 + 1)) (by rw [addBlock]; exact hbb)).trans (hc2 1 _ rfl)
        rw [next_cell b (k * 2) 1 (by omega)] at k1
        have HP : Hid (∀ w1, Calls Try.prog 10 #[.agg #[.int .i64 x.1, .int .i64 x.2], .agg #[.int .i64 y.1, .int .i64 y.2]] w1 (Tells (subT x y) w1)) := fun w1 => ksub x.1 x.2 y.1 y.2 w1
        clear hc hc2
        cases hg : subT x y
        all_goals
          rw [hg] at HP
          have HG := Lib.hid hg
          clear hg
          go_wp2_with (first
            | (go_at_call 10
               refine (HP.out _).mono ?_
               rintro e w2 ⟨rfl, hb2⟩
               have Hb2 := Lib.hid (((HB.out.alloc hs _).alloc (by simp; omega) _).trans (hb2.mono (by simp; omega)))
               clear hb2))
        · go_ret
          exact ⟨by rw [below_not HX.out HY.out HG.out]; rfl, Hb2.out⟩
        · refine ⟨⟨k + 1, by omega, by simp, below_step HE.out HX.out HY.out HG.out, Hb2.out⟩, by simp [intOf]; omega⟩
      · obtain rfl : k = n := by omega
        go_wp2_with fail
        go_ret
        refine ⟨?_, HB.out⟩
        have e := HE.out
        rw [List.take_of_length_le (by rw [HL.out]; exact Nat.le_refl _), List.take_of_length_le (by rw [HM.out]; exact Nat.le_refl _)] at e
        rw [e]
        rfl
  · have h1 : ((n : Int) != (m : Int)) = true := by simp; omega
    have h2 : (n != m) = true := by simpa using hnm
    have HNM := Lib.hid hnm
    clear hnm
    go_enter Try.func9, Try.ntmps9
    go_wp2_with fail
    go_ret
    refine ⟨?_, Below.refl _ _⟩
    rw [below_len_not (fun e => HNM.out (by rw [← HL.out, ← HM.out, e]))]
    rfl
end Go.Proofs.Ytikhhcmfjncabaa
namespace Go.Proofs.Ytikhhcmfjncabaa
open Go.RowKit

set_option maxRecDepth 100000 in
set_option maxHeartbeats 1000000 in
theorem within_typ (A : Option Addr) (n c : Nat) (xs : List Typ) (lo hi : Int) (g : Typ → Bool) (p7 : Addr) (w : World) (hl : xs.length = n) (h : Sq typL (· < w.heap.size) w A xs) (hn2 : n ≤ 9223372036854775807) (hlo : -1000 ≤ lo ∧ lo ≤ 1000) (hhi : -9223372036854775808 ≤ hi ∧ hi ≤ 1000)
    (hG : ∀ (w1 : World) (cs : List Value) (x : Typ), Below w.heap.size w w1 → x ∈ xs → typL.R (· < w1.heap.size) w1 cs x → Calls Try.prog 67 #[vAgg cs, .pointer (some p7)] w1 (Tells (g x) w1)) :
    Calls Try.prog 70 #[.slice A n c, .int .i64 lo, .int .i64 hi, .func (.func 67) #[] #[.pointer (some p7)]] w (Tells (witB lo hi g xs) w) := by
  have HL := Lib.hid hl
  have HS := Lib.hid h
  have HP0 := Lib.hid hG
  have HW : Hid (witB lo hi g xs = (decide (lo ≤ (n : Int) ∧ (n : Int) ≤ hi) && xs.all g)) := by rw [← hl]; exact rfl
  clear hl h hG
  obtain ⟨wb, hwb⟩ : ∃ wb, witB lo hi g xs = wb := ⟨_, rfl⟩
  rw [hwb] at HW ⊢
  clear hwb
  by_cases h1 : (n : Int) < lo
  · have e : wb = false := by rw [HW.out]; simp; omega
    rw [e]
    clear HW e
    go_enter Try.func70, Try.ntmps70
    go_wp2_with fail
    go_ret
    exact ⟨rfl, Below.refl _ _⟩
  by_cases h2 : hi < (n : Int)
  · have e : wb = false := by rw [HW.out]; simp; omega
    rw [e]
    clear HW e
    go_enter Try.func70, Try.ntmps70
    go_wp2_with fail
    go_ret
    exact ⟨rfl, Below.refl _ _⟩
  replace HW : Hid (wb = xs.all g) := by
    show wb = xs.all g
    rw [HW.out]
    simp
    omega
  go_enter Try.func70, Try.ntmps70
  go_wp2_with fail
  go_loopw [23] (fun i wr => ∃ k : Nat, k ≤ n ∧ i = .int .i64 (k : Nat) ∧ (xs.take k).all g = true ∧ Below w.heap.size w wr) (fun i _ => n - (intOf i).toNat)
  case atStart => exact ⟨0, Nat.zero_le _, rfl, by simp, Below.refl _ _⟩
  case round =>
    obtain ⟨k, hk, rfl, hall, hbel⟩ := hrel
    have HA := Lib.hid hall
    have HB := Lib.hid hbel
    have hs := hbel.size
    clear hall hbel
    by_cases hlt : k < n
    · skip
      obtain ⟨x, hx⟩ : ∃ x, xs[k]? = some x := ⟨xs[k]'(by rw [HL.out]; exact hlt), List.getElem?_eq_getElem _⟩
      have hmem : x ∈ xs := List.mem_of_getElem? hx
      obtain ⟨a, cs, rfl, hab, hc, hr⟩ := HS.out.at hx
      have HX := Lib.hid hx
      clear hx
      have HR := Lib.hid hr
      obtain ⟨rfl, -, -⟩ := hr
      have c0 := (HB.out.cell (p := a.add (k * 2)) (by rw [addBlock]; exact hab)).trans (hc 0 _ rfl)
      have c1 := (HB.out.cell (p := a.add (k * 2 + 1)) (by rw [addBlock]; exact hab)).trans (hc 1 _ rfl)
      rw [next_cell a (k * 2) 1 (by omega)] at c1
      have HP : Hid (∀ w1, Below w.heap.size w w1 → Calls Try.prog 67 #[.agg #[.int .i64 x.1, .int .i64 x.2], .pointer (some p7)] w1 (Tells (g x) w1)) := fun w1 hb => HP0.out w1 [.int .i64 x.1, .int .i64 x.2] x hb hmem (typL.wide (typL.keep HR.out fun b hb1 => hb.block b hb1) fun b hb1 => Nat.lt_of_lt_of_le hb1 hb.size)
      clear hc
      cases hg : g x
      · rw [hg] at HP
        have e : wb = false := by
          rw [HW.out, List.all_eq_false]
          exact ⟨x, hmem, by rw [hg]; simp⟩
        have E := Lib.hid e
        clear e hg
        go_wp2_with (first
          | (go_at_call 67
             refine (HP.out _ (HB.out.alloc hs _)).mono ?_
             rintro e w2 ⟨rfl, hb2⟩
             have Hb2 := Lib.hid ((HB.out.alloc hs _).trans (hb2.mono (by simp; omega)))
             clear hb2))
        go_ret
        exact ⟨by rw [E.out]; rfl, Hb2.out⟩
      · rw [hg] at HP
        have HG := Lib.hid hg
        clear hg
        go_wp2_with (first
          | (go_at_call 67
             refine (HP.out _ (HB.out.alloc hs _)).mono ?_
             rintro e w2 ⟨rfl, hb2⟩
             have Hb2 := Lib.hid ((HB.out.alloc hs _).trans (hb2.mono (by simp; omega)))
             clear hb2))
        refine ⟨⟨k + 1, by omega, by simp, all_take HA.out HX.out HG.out, Hb2.out⟩, by simp [intOf]; omega⟩
    · obtain rfl : k = n := by omega
      go_wp2_with fail
      go_ret
      refine ⟨?_, HB.out⟩
      have e := HA.out
      rw [List.take_of_length_le (by rw [HL.out]; exact Nat.le_refl _)] at e
      rw [HW.out, e]
      rfl
end Go.Proofs.Ytikhhcmfjncabaa
namespace Go.Proofs.Ytikhhcmfjncabaa
open Go.RowKit

set_option maxRecDepth 100000 in
set_option maxHeartbeats 1000000 in
theorem within_ins (A : Option Addr) (n c : Nat) (xs : List Ins) (lo hi : Int) (g : Ins → Bool) (w : World) (hl : xs.length = n) (h : Sq insL (· < w.heap.size) w A xs) (hn2 : n ≤ 9223372036854775807) (hlo : -1000 ≤ lo ∧ lo ≤ 1000) (hhi : -9223372036854775808 ≤ hi ∧ hi ≤ 1000)
    (hG : ∀ (w1 : World) (cs : List Value) (x : Ins), Below w.heap.size w w1 → x ∈ xs → insL.R (· < w1.heap.size) w1 cs x → Calls Try.prog 74 #[vAgg cs] w1 (Tells (g x) w1)) :
    Calls Try.prog 73 #[.slice A n c, .int .i64 lo, .int .i64 hi, .func (.func 74) #[] #[]] w (Tells (witB lo hi g xs) w) := by
  have HL := Lib.hid hl
  have HS := Lib.hid h
  have HP0 := Lib.hid hG
  have HW : Hid (witB lo hi g xs = (decide (lo ≤ (n : Int) ∧ (n : Int) ≤ hi) && xs.all g)) := by rw [← hl]; exact rfl
  clear hl h hG
  obtain ⟨wb, hwb⟩ : ∃ wb, witB lo hi g xs = wb := ⟨_, rfl⟩
  rw [hwb] at HW ⊢
  clear hwb
  by_cases h1 : (n : Int) < lo
  · have e : wb = false := by rw [HW.out]; simp; omega
    rw [e]
    clear HW e
    go_enter Try.func73, Try.ntmps73
    go_wp2_with fail
    go_ret
    exact ⟨rfl, Below.refl _ _⟩
  by_cases h2 : hi < (n : Int)
  · have e : wb = false := by rw [HW.out]; simp; omega
    rw [e]
    clear HW e
    go_enter Try.func73, Try.ntmps73
    go_wp2_with fail
    go_ret
    exact ⟨rfl, Below.refl _ _⟩
  replace HW : Hid (wb = xs.all g) := by
    show wb = xs.all g
    rw [HW.out]
    simp
    omega
  go_enter Try.func73, Try.ntmps73
  go_wp2_with fail
  go_loopw [23] (fun i wr => ∃ k : Nat, k ≤ n ∧ i = .int .i64 (k : Nat) ∧ (xs.take k).all g = true ∧ Below w.heap.size w wr) (fun i _ => n - (intOf i).toNat)
  case atStart => exact ⟨0, Nat.zero_le _, rfl, by simp, Below.refl _ _⟩
  case round =>
    obtain ⟨k, hk, rfl, hall, hbel⟩ := hrel
    have HA := Lib.hid hall
    have HB := Lib.hid hbel
    have hs := hbel.size
    clear hall hbel
    by_cases hlt : k < n
    · skip
      obtain ⟨x, hx⟩ : ∃ x, xs[k]? = some x := ⟨xs[k]'(by rw [HL.out]; exact hlt), List.getElem?_eq_getElem _⟩
      have hmem : x ∈ xs := List.mem_of_getElem? hx
      obtain ⟨a, cs, rfl, hab, hc, hr⟩ := HS.out.at hx
      have HX := Lib.hid hx
      clear hx
      have HR := Lib.hid hr
      obtain ⟨rfl, -, -, -⟩ := hr
      have c0 := (HB.out.cell (p := a.add (k * 3)) (by rw [addBlock]; exact hab)).trans (hc 0 _ rfl)
      have c1 := (HB.out.cell (p := a.add (k * 3 + 1)) (by rw [addBlock]; exact hab)).trans (hc 1 _ rfl)
      rw [next_cell a (k * 3) 1 (by omega)] at c1
      have c2 := (HB.out.cell (p := a.add (k * 3 + 2)) (by rw [addBlock]; exact hab)).trans (hc 2 _ rfl)
      rw [next_cell a (k * 3) 2 (by omega)] at c2
      have HP : Hid (∀ w1, Below w.heap.size w w1 → Calls Try.prog 74 #[.agg #[.int .i64 x.1, .int .i64 x.2.1, .int .i64 x.2.2]] w1 (Tells (g x) w1)) := fun w1 hb => HP0.out w1 [.int .i64 x.1, .int .i64 x.2.1, .int .i64 x.2.2] x hb hmem (insL.wide (insL.keep HR.out fun b hb1 => hb.block b hb1) fun b hb1 => Nat.lt_of_lt_of_le hb1 hb.size)
      clear hc
      cases hg : g x
      · rw [hg] at HP
        have e : wb = false := by
          rw [HW.out, List.all_eq_false]
          exact ⟨x, hmem, by rw [hg]; simp⟩
        have E := Lib.hid e
        clear e hg
        go_wp2_with (first
          | (go_at_call 74
             refine (HP.out _ (HB.out.alloc hs _)).mono ?_
             rintro e w2 ⟨rfl, hb2⟩
             have Hb2 := Lib.hid ((HB.out.alloc hs _).trans (hb2.mono (by simp; omega)))
             clear hb2))
        go_ret
        exact ⟨by rw [E.out]; rfl, Hb2.out⟩
      · rw [hg] at HP
        have HG := Lib.hid hg
        clear hg
        go_wp2_with (first
          | (go_at_call 74
             refine (HP.out _ (HB.out.alloc hs _)).mono ?_
             rintro e w2 ⟨rfl, hb2⟩
             have Hb2 := Lib.hid ((HB.out.alloc hs _).trans (hb2.mono (by simp; omega)))
             clear hb2))
        refine ⟨⟨k + 1, by omega, by simp, all_take HA.out HX.out HG.out, Hb2.out⟩, by simp [intOf]; omega⟩
    · obtain rfl : k = n := by omega
      go_wp2_with fail
      go_ret
      refine ⟨?_, HB.out⟩
      have e := HA.out
      rw [List.take_of_length_le (by rw [HL.out]; exact Nat.le_refl _)] at e
      rw [HW.out, e]
      rfl
end Go.Proofs.Ytikhhcmfjncabaa
namespace Go.Proofs.Ytikhhcmfjncabaa
open Go.RowKit

set_option maxHeartbeats 1000000 in
theorem args_any (op : Int) (w : World) : Calls Try.prog 92 #[.int .i64 op] w fun e w' => e = .returned (.int .i64 (argN op)) ∧ w = w' := by
  by_cases hc : op = 29 ∨ op = 30 ∨ op = 0 ∨ op = 1 ∨ op = 3 ∨ op = 4 ∨ op = 23 ∨ op = 24 ∨ op = 25 ∨ op = 27 ∨ op = 28
  · rcases hc with rfl | rfl | rfl | rfl | rfl | rfl | rfl | rfl | rfl | rfl | rfl
    all_goals
      go_enter Try.func92, Try.ntmps92
      go_wp2_with fail
      go_ret
      exact ⟨rfl, rfl⟩
  · obtain ⟨n29, n30, n0, n1, n3, n4, n23, n24, n25, n27, n28⟩ : op ≠ 29 ∧ op ≠ 30 ∧ op ≠ 0 ∧ op ≠ 1 ∧ op ≠ 3 ∧ op ≠ 4 ∧ op ≠ 23 ∧ op ≠ 24 ∧ op ≠ 25 ∧ op ≠ 27 ∧ op ≠ 28 := by omega
    clear hc
    by_cases hlo : op < 0
    · have e : argN op = -1 := by unfold argN; rw [if_neg (by omega), if_neg (by omega), if_pos (by omega)]
      rw [e]
      clear e
      go_enter Try.func92, Try.ntmps92
      go_wp2_with fail
      go_ret
      exact ⟨rfl, rfl⟩
    by_cases hhi : 42 ≤ op
    · have e : argN op = -1 := by unfold argN; rw [if_neg (by omega), if_neg (by omega), if_pos (by omega)]
      rw [e]
      clear e
      go_enter Try.func92, Try.ntmps92
      go_wp2_with fail
      go_ret
      exact ⟨rfl, rfl⟩
    have e : argN op = 0 := by unfold argN; rw [if_neg (by omega), if_neg (by omega), if_neg (by omega)]
    rw [e]
    clear e
    go_enter Try.func92, Try.ntmps92
    go_wp2_with fail
    go_ret
    exact ⟨rfl, rfl⟩
end Go.Proofs.Ytikhhcmfjncabaa
namespace Go.Proofs.Ytikhhcmfjncabaa
open Go.RowKit

set_option maxHeartbeats 2000000 in
theorem fit_any (n a b : Int) (w : World) : Calls Try.prog 93 #[.agg #[.int .i64 a, .int .i64 b], .int .i64 n] w fun e w' => e = .returned (.bool (fitN n a b)) ∧ Below w.heap.size w w' := by
  have i0 : ∀ w, (Instr.index 130 (.agg #[.int .i64 a, .int .i64 b]) (.int .i64 0)).run Try.prog w = .ok (.int .i64 a) w := fun _ => by kernel_rfl
  have i1 : ∀ w, (Instr.index 130 (.agg #[.int .i64 a, .int .i64 b]) (.int .i64 1)).run Try.prog w = .ok (.int .i64 b) w := fun _ => by kernel_rfl
  unfold fitN
  by_cases h0 : 0 < n
  · rw [if_pos h0]
    by_cases h1 : 1 < n
    · rw [if_pos h1]
      by_cases a0 : a < 0
      · rw [decide_eq_false (by omega)]
        go_enter Try.func93, Try.ntmps93
        go_wp2_with fail
        refine wp_loop_rounds 3 ?_
        rw [rounds_succ]
        go_wp2_with fail
        go_ret
        exact ⟨rfl, (Below.refl _ _).alloc (Nat.le_refl _) _⟩
      by_cases a1 : 255 < a
      · rw [decide_eq_false (by omega)]
        go_enter Try.func93, Try.ntmps93
        go_wp2_with fail
        refine wp_loop_rounds 3 ?_
        rw [rounds_succ]
        go_wp2_with fail
        go_ret
        exact ⟨rfl, (Below.refl _ _).alloc (Nat.le_refl _) _⟩
      by_cases b0 : b < 0
      · rw [decide_eq_false (by omega)]
        go_enter Try.func93, Try.ntmps93
        go_wp2_with fail
        refine wp_loop_rounds 3 ?_
        rw [rounds_succ]
        go_wp2_with fail
        rw [rounds_succ]
        go_wp2_with fail
        go_ret
        exact ⟨rfl, (Below.refl _ _).alloc (Nat.le_refl _) _⟩
      by_cases b1 : 255 < b
      · rw [decide_eq_false (by omega)]
        go_enter Try.func93, Try.ntmps93
        go_wp2_with fail
        refine wp_loop_rounds 3 ?_
        rw [rounds_succ]
        go_wp2_with fail
        rw [rounds_succ]
        go_wp2_with fail
        go_ret
        exact ⟨rfl, (Below.refl _ _).alloc (Nat.le_refl _) _⟩
      rw [decide_eq_true (by omega)]
      go_enter Try.func93, Try.ntmps93
      go_wp2_with fail
      refine wp_loop_rounds 3 ?_
      rw [rounds_succ]
      go_wp2_with fail
      rw [rounds_succ]
      go_wp2_with fail
      rw [rounds_succ]
      go_wp2_with fail
      go_ret
      exact ⟨rfl, (Below.refl _ _).alloc (Nat.le_refl _) _⟩
    · rw [if_neg h1]
      by_cases a0 : a < 0
      · rw [decide_eq_false (by omega)]
        go_enter Try.func93, Try.ntmps93
        go_wp2_with fail
        refine wp_loop_rounds 3 ?_
        rw [rounds_succ]
        go_wp2_with fail
        go_ret
        exact ⟨rfl, (Below.refl _ _).alloc (Nat.le_refl _) _⟩
      by_cases a1 : 255 < a
      · rw [decide_eq_false (by omega)]
        go_enter Try.func93, Try.ntmps93
        go_wp2_with fail
        refine wp_loop_rounds 3 ?_
        rw [rounds_succ]
        go_wp2_with fail
        go_ret
        exact ⟨rfl, (Below.refl _ _).alloc (Nat.le_refl _) _⟩
      by_cases b0 : b < 0
      · rw [decide_eq_false (by omega)]
        go_enter Try.func93, Try.ntmps93
        go_wp2_with fail
        refine wp_loop_rounds 3 ?_
        rw [rounds_succ]
        go_wp2_with fail
        rw [rounds_succ]
        go_wp2_with fail
        go_ret
        exact ⟨rfl, (Below.refl _ _).alloc (Nat.le_refl _) _⟩
      by_cases b1 : 0 < b
      · rw [decide_eq_false (by omega)]
        go_enter Try.func93, Try.ntmps93
        go_wp2_with fail
        refine wp_loop_rounds 3 ?_
        rw [rounds_succ]
        go_wp2_with fail
        rw [rounds_succ]
        go_wp2_with fail
        go_ret
        exact ⟨rfl, (Below.refl _ _).alloc (Nat.le_refl _) _⟩
      rw [decide_eq_true (by omega)]
      go_enter Try.func93, Try.ntmps93
      go_wp2_with fail
      refine wp_loop_rounds 3 ?_
      rw [rounds_succ]
      go_wp2_with fail
      rw [rounds_succ]
      go_wp2_with fail
      rw [rounds_succ]
      go_wp2_with fail
      go_ret
      exact ⟨rfl, (Below.refl _ _).alloc (Nat.le_refl _) _⟩
  · rw [if_neg h0, if_neg (by omega)]
    have h1 : ¬ 1 < n := by omega
    by_cases a0 : a < 0
    · rw [decide_eq_false (by omega)]
      go_enter Try.func93, Try.ntmps93
      go_wp2_with fail
      refine wp_loop_rounds 3 ?_
      rw [rounds_succ]
      go_wp2_with fail
      go_ret
      exact ⟨rfl, (Below.refl _ _).alloc (Nat.le_refl _) _⟩
    by_cases a1 : 0 < a
    · rw [decide_eq_false (by omega)]
      go_enter Try.func93, Try.ntmps93
      go_wp2_with fail
      refine wp_loop_rounds 3 ?_
      rw [rounds_succ]
      go_wp2_with fail
      go_ret
      exact ⟨rfl, (Below.refl _ _).alloc (Nat.le_refl _) _⟩
    by_cases b0 : b < 0
    · rw [decide_eq_false (by omega)]
      go_enter Try.func93, Try.ntmps93
      go_wp2_with fail
      refine wp_loop_rounds 3 ?_
      rw [rounds_succ]
      go_wp2_with fail
      rw [rounds_succ]
      go_wp2_with fail
      go_ret
      exact ⟨rfl, (Below.refl _ _).alloc (Nat.le_refl _) _⟩
    by_cases b1 : 0 < b
    · rw [decide_eq_false (by omega)]
      go_enter Try.func93, Try.ntmps93
      go_wp2_with fail
      refine wp_loop_rounds 3 ?_
      rw [rounds_succ]
      go_wp2_with fail
      rw [rounds_succ]
      go_wp2_with fail
      go_ret
      exact ⟨rfl, (Below.refl _ _).alloc (Nat.le_refl _) _⟩
    rw [decide_eq_true (by omega)]
    go_enter Try.func93, Try.ntmps93
    go_wp2_with fail
    refine wp_loop_rounds 3 ?_
    rw [rounds_succ]
    go_wp2_with fail
    rw [rounds_succ]
    go_wp2_with fail
    rw [rounds_succ]
    go_wp2_with fail
    go_ret
    exact ⟨rfl, (Below.refl _ _).alloc (Nat.le_refl _) _⟩
end Go.Proofs.Ytikhhcmfjncabaa
