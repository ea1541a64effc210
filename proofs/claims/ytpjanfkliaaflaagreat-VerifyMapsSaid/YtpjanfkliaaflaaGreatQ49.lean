/-
  Vrk Rkj Rty
-/
import Derived.Test.YtpjanfkliaaflaaGreatQ02
import Derived.Test.YtpjanfkliaaflaaGreatQ19
import Derived.Test.YtpjanfkliaaflaaGreatQ33
import Derived.BigQuiet
import Derived.Laws.Strings
set_option linter.unusedSimpArgs false
set_option linter.unusedVariables false
namespace Go.Proofs.YtpjanfkliaaflaaGreat
open Go.RowKit

theorem least_of {P : Nat → Prop} (h : ∃ n, P n) : ∃ m, P m ∧ ∀ k, P k → m ≤ k := by
  obtain ⟨n, hn⟩ := h
  induction n using Nat.strongRecOn with
  | _ n ih =>
    by_cases hk : ∃ k, k < n ∧ P k
    · obtain ⟨k, h1, h2⟩ := hk
      exact ih k h1 h2
    · exact ⟨n, hn, fun k h => Nat.le_of_not_lt fun h1 => hk ⟨k, h1, h⟩⟩
theorem rank_of {σ : Type} (J : Nat → σ → Prop) : ∃ f : σ → Nat, ∀ s, (∃ n, J n s) → J (f s) s ∧ ∀ k, J k s → f s ≤ k := by
  refine Classical.axiomOfChoice (r := fun (s : σ) (m : Nat) => (∃ n, J n s) → J m s ∧ ∀ k, J k s → m ≤ k) fun s => ?_
  by_cases h : ∃ n, J n s
  · obtain ⟨m, hm⟩ := least_of h
    exact ⟨m, fun _ => hm⟩
  · exact ⟨0, fun h' => absurd h' h⟩

theorem joinL_64 {a b : List Typ} (ha : A64 a) (hb : A64 b) : A64 (joinL a b) := by
  induction a generalizing b with
  | nil => intro t ht; cases b <;> simp [joinL] at ht
  | cons x a ih =>
    cases b with
    | nil => intro t ht; simp [joinL] at ht
    | cons y b =>
      intro t ht
      simp only [joinL, List.mem_cons] at ht
      rcases ht with rfl | ht
      · exact joinT_64 (ha x (by simp)) (hb y (by simp))
      · exact ih (fun t ht => ha t (by simp [ht])) (fun t ht => hb t (by simp [ht])) t ht
structure Rk (B p : Nat) (w : World) (l : List Shape) (r : List (Bool × Value)) : Prop where
  hp : B ≤ p
  row : w.ownsRow B 48 2 (.slice (some ⟨p, 0, none⟩) l.length l.length) l.length (CS2 r)
  stk : ∀ (k : Nat) (x : Shape), l[k]? = some x → ∃ A c, r[k]? = some (x.1, .slice A x.2.length c) ∧ x.2.length ≤ c ∧ c ≤ maxLen ∧ (A = none → c = 0) ∧ Sq typL (fun b => B ≤ b ∧ b < w.heap.size ∧ b ≠ p) w A x.2
theorem Rk.lenr {B p : Nat} {w : World} {l : List Shape} {r : List (Bool × Value)} (h : Rk B p w l r) : r.length = l.length := by
  have := h.row.1
  rw [CS2_length] at this
  omega
theorem Rk.lt {B p : Nat} {w : World} {l : List Shape} {r : List (Bool × Value)} (h : Rk B p w l r) : p < w.heap.size := (h.row.lt p rfl).2
theorem Rk.below {B p : Nat} {w w' : World} {l : List Shape} {r : List (Bool × Value)} (h : Rk B p w l r) (hb : Below w.heap.size w w') : Rk B p w' l r := by
  refine ⟨h.hp, row_keep h.row (hb.block p h.lt), fun k x hx => ?_⟩
  obtain ⟨A, c, h1, h2, h3, h4, h5⟩ := h.stk k x hx
  exact ⟨A, c, h1, h2, h3, h4, (h5.keep fun b hb2 => hb.block b hb2.2.1).wide fun b hb2 => ⟨hb2.1, Nat.lt_of_lt_of_le hb2.2.1 hb.size, hb2.2.2⟩⟩
theorem Rk.cells {B p : Nat} {w : World} {l : List Shape} {r : List (Bool × Value)} (h : Rk B p w l r) {k : Nat} {x : Shape} (hx : l[k]? = some x) :
    ∃ A c, r[k]? = some (x.1, .slice A x.2.length c) ∧ w.cell? ⟨p, k * 2, none⟩ = some (.bool x.1) ∧ w.cell? ⟨p, k * 2 + 1, none⟩ = some (.slice A x.2.length c) ∧ x.2.length ≤ c ∧ c ≤ maxLen ∧ (A = none → c = 0) ∧ Sq typL (fun b => B ≤ b ∧ b < w.heap.size ∧ b ≠ p) w A x.2 := by
  obtain ⟨A, c, h1, h2, h3, h4, h5⟩ := h.stk k x hx
  have hk := (List.getElem?_eq_some_iff.1 hx).1
  exact ⟨A, c, h1, (h.row.cellAt (k * 2) (by omega)).trans (CS2_get0 h1), (h.row.cellAt (k * 2 + 1) (by omega)).trans (CS2_get1 h1), h2, h3, h4, h5⟩
theorem Rk.seen {B p : Nat} {w : World} {l : List Shape} {r : List (Bool × Value)} (h : Rk B p w l r) {k : Nat} (hk : k < l.length) {A : Option Addr} {c : Nat} {t : List Typ} (h1 : t.length ≤ c) (h2 : c ≤ maxLen) (h3 : A = none → c = 0) (h4 : Sq typL (fun b => B ≤ b ∧ b < w.heap.size ∧ b ≠ p) w A t) :
    Rk B p ((w.setCell ⟨p, k * 2, none⟩ (.bool true)).setCell ⟨p, k * 2 + 1, none⟩ (.slice A t.length c)) (l.set k (true, t)) (r.set k (true, .slice A t.length c)) := by
  have hz : ∀ i, i ≠ p → ((w.setCell ⟨p, k * 2, none⟩ (.bool true)).setCell ⟨p, k * 2 + 1, none⟩ (.slice A t.length c)).heap[i]? = w.heap[i]? := fun i hi => (Below.heap_setCell _ ⟨p, k * 2 + 1, none⟩ _ i hi).trans (Below.heap_setCell w ⟨p, k * 2, none⟩ (.bool true) i hi)
  have hsz : ((w.setCell ⟨p, k * 2, none⟩ (.bool true)).setCell ⟨p, k * 2 + 1, none⟩ (.slice A t.length c)).heap.size = w.heap.size := by simp [World.setCell]
  obtain ⟨x, hx⟩ : ∃ x, l[k]? = some x := ⟨_, List.getElem?_eq_getElem hk⟩
  obtain ⟨A0, c0, hr0, -⟩ := h.stk k x hx
  refine ⟨h.hp, ?_, fun j y hy => ?_⟩
  · have k1 := (h.row.stored (k * 2) (.bool true)).1
    have k2 := (k1.stored (k * 2 + 1) (.slice A t.length c)).1
    have hr1 : (r.set k (true, .slice A0 x.2.length c0))[k]? = some (true, .slice A0 x.2.length c0) := by rw [List.getElem?_set_self (by rw [h.lenr]; exact hk)]
    rw [CS2_set0 hr0, CS2_set1 hr1, List.set_set] at k2
    simpa using k2
  · rw [List.getElem?_set] at hy
    by_cases e : k = j
    · subst e
      rw [if_pos rfl, if_pos hk] at hy
      injection hy with hy
      subst hy
      exact ⟨A, c, by rw [List.getElem?_set_self (by rw [h.lenr]; exact hk)], h1, h2, h3, (h4.keep fun b hb => hz b hb.2.2).wide fun b hb => by rw [hsz]; exact hb⟩
    · rw [if_neg e] at hy
      obtain ⟨A1, c1, q1, q2, q3, q4, q5⟩ := h.stk j y hy
      exact ⟨A1, c1, by rw [List.getElem?_set_ne e]; exact q1, q2, q3, q4, (q5.keep fun b hb => hz b hb.2.2).wide fun b hb => by rw [hsz]; exact hb⟩
theorem Rk.stack {B p : Nat} {w : World} {l : List Shape} {r : List (Bool × Value)} (h : Rk B p w l r) {k : Nat} {u : List Typ} (hx : l[k]? = some (true, u)) {A : Option Addr} {c : Nat} {t : List Typ} (h1 : t.length ≤ c) (h2 : c ≤ maxLen) (h3 : A = none → c = 0) (h4 : Sq typL (fun b => B ≤ b ∧ b < w.heap.size ∧ b ≠ p) w A t) :
    Rk B p (w.setCell ⟨p, k * 2 + 1, none⟩ (.slice A t.length c)) (l.set k (true, t)) (r.set k (true, .slice A t.length c)) := by
  have hk := (List.getElem?_eq_some_iff.1 hx).1
  have hz : ∀ i, i ≠ p → (w.setCell ⟨p, k * 2 + 1, none⟩ (.slice A t.length c)).heap[i]? = w.heap[i]? := fun i hi => Below.heap_setCell _ ⟨p, k * 2 + 1, none⟩ _ i hi
  have hsz : (w.setCell ⟨p, k * 2 + 1, none⟩ (.slice A t.length c)).heap.size = w.heap.size := by simp [World.setCell]
  obtain ⟨A0, c0, hr0, -⟩ := h.stk k _ hx
  refine ⟨h.hp, ?_, fun j y hy => ?_⟩
  · have k2 := (h.row.stored (k * 2 + 1) (.slice A t.length c)).1
    rw [CS2_set1 hr0] at k2
    simpa using k2
  · rw [List.getElem?_set] at hy
    by_cases e : k = j
    · subst e
      rw [if_pos rfl, if_pos hk] at hy
      injection hy with hy
      subst hy
      exact ⟨A, c, by rw [List.getElem?_set_self (by rw [h.lenr]; exact hk)], h1, h2, h3, (h4.keep fun b hb => hz b hb.2.2).wide fun b hb => by rw [hsz]; exact hb⟩
    · rw [if_neg e] at hy
      obtain ⟨A1, c1, q1, q2, q3, q4, q5⟩ := h.stk j y hy
      exact ⟨A1, c1, by rw [List.getElem?_set_ne e]; exact q1, q2, q3, q4, (q5.keep fun b hb => hz b hb.2.2).wide fun b hb => by rw [hsz]; exact hb⟩
theorem Rk.mark {B p : Nat} {w : World} {l : List Shape} {r : List (Bool × Value)} (h : Rk B p w l r) {k : Nat} {b : Bool} {u : List Typ} (hx : l[k]? = some (b, u)) : ∃ r', Rk B p (w.setCell ⟨p, k * 2, none⟩ (.bool true)) (l.set k (true, u)) r' := by
  have hk := (List.getElem?_eq_some_iff.1 hx).1
  have hz : ∀ i, i ≠ p → (w.setCell ⟨p, k * 2, none⟩ (.bool true)).heap[i]? = w.heap[i]? := fun i hi => Below.heap_setCell _ ⟨p, k * 2, none⟩ _ i hi
  have hsz : (w.setCell ⟨p, k * 2, none⟩ (.bool true)).heap.size = w.heap.size := by simp [World.setCell]
  obtain ⟨A0, c0, hr0, g1, g2, g3, g4⟩ := h.stk k _ hx
  refine ⟨r.set k (true, .slice A0 u.length c0), h.hp, ?_, fun j y hy => ?_⟩
  · have k2 := (h.row.stored (k * 2) (.bool true)).1
    rw [CS2_set0 hr0] at k2
    simpa using k2
  · rw [List.getElem?_set] at hy
    by_cases e : k = j
    · subst e
      rw [if_pos rfl, if_pos hk] at hy
      injection hy with hy
      subst hy
      exact ⟨A0, c0, by rw [List.getElem?_set_self (by rw [h.lenr]; exact hk)], g1, g2, g3, (g4.keep fun b hb => hz b hb.2.2).wide fun b hb => by rw [hsz]; exact hb⟩
    · rw [if_neg e] at hy
      obtain ⟨A1, c1, q1, q2, q3, q4, q5⟩ := h.stk j y hy
      exact ⟨A1, c1, by rw [List.getElem?_set_ne e]; exact q1, q2, q3, q4, (q5.keep fun b hb => hz b hb.2.2).wide fun b hb => by rw [hsz]; exact hb⟩
theorem rk_begin {w W : World} {n p : Nat} (hn : n ≤ 1000) (hp : w.heap.size ≤ p) (hP : Blk W p 48 (madeCells #[.bool false, .slice none 0 0] (n * 2))) (hm : (madeCells #[.bool false, .slice none 0 0] (n * 2)).toList = CS2 (List.replicate n (false, .slice none 0 0))) : Rk w.heap.size p W (List.replicate n (false, [])) (List.replicate n (false, .slice none 0 0)) := by
  have hnm : n ≤ maxLen := by unfold maxLen; omega
  refine ⟨hp, ?_, fun k x hx => ?_⟩
  · rw [List.length_replicate]
    refine ⟨by rw [CS2_length, List.length_replicate], .inr ⟨p, n, _, rfl, hp, hP, Nat.le_refl _, hnm, size_madeCells _ _, ?_⟩⟩
    rw [hm, List.take_of_length_le (by rw [CS2_length, List.length_replicate]; exact Nat.le_refl _)]
  · have hk := (List.getElem?_eq_some_iff.1 hx).1
    rw [List.length_replicate] at hk
    rw [List.getElem?_replicate, if_pos hk] at hx
    injection hx with hx
    subst hx
    exact ⟨none, 0, (by rw [List.getElem?_replicate, if_pos hk]; rfl), Nat.le_refl _, by simp [maxLen], fun _ => rfl, Sq.nil _ _ _ _⟩
theorem Rk.done {B p : Nat} {w : World} {l : List Shape} {r : List (Bool × Value)} (h : Rk B p w l r) : rowL.R (fun b => B ≤ b ∧ b < w.heap.size) w [.slice (some ⟨p, 0, none⟩) l.length l.length] l := by
  have hlm : l.length ≤ maxLen := by
    rcases h.row.2 with ⟨e, _⟩ | ⟨g', cap, cur, e, _, _, hnc, hcm, _⟩
    · cases e
    · omega
  refine ⟨_, _, rfl, Nat.le_refl _, hlm, fun _ => ⟨_, rfl, ⟨h.hp, h.lt⟩, fun k x hx => ?_⟩⟩
  obtain ⟨A, c, hr, h0, h1, h2, h3, h4, h5⟩ := h.cells hx
  have e : ∀ i, (⟨p, 0, none⟩ : Addr).add i = ⟨p, i, none⟩ := fun i => by unfold Addr.add; split <;> simp_all
  refine ⟨[.bool x.1, .slice A x.2.length c], fun i u hu => ?_, _, rfl, A, c, rfl, h2, h3, h4, h5.wide fun b hb => ⟨hb.1, hb.2.1⟩⟩
  rw [e]
  match i, hu with
  | 0, hu => simp at hu; subst hu; exact h0
  | 1, hu => simp at hu; subst hu; exact h1
  | i + 2, hu => simp at hu

structure Rnd (m : Mod) (fn : Fn) (l0 l : List Shape) (b : Bool) (ok : Prop) : Prop where
  runF : RunF m fn l
  out : ∀ (p : Nat) (s : List Typ), l[p]? = some (false, s) → s = []
  same : b = false → l = l0 ∧ ok
  less : b = true → rkS (toS l) fn.code.length < rkS (toS l0) fn.code.length
theorem Rnd.ok {m : Mod} {fn : Fn} {l0 l : List Shape} {b : Bool} {ok ok' : Prop} (h : Rnd m fn l0 l b ok) (hk : b = false → l = l0 → ok → ok') : Rnd m fn l0 l b ok' :=
  ⟨h.runF, h.out, fun hb => ⟨(h.same hb).1, hk hb (h.same hb).1 (h.same hb).2⟩, h.less⟩
theorem Rnd.le {m : Mod} {fn : Fn} {l0 l : List Shape} {b : Bool} {ok : Prop} (h : Rnd m fn l0 l b ok) : rkS (toS l) fn.code.length ≤ rkS (toS l0) fn.code.length := by
  cases b
  · rw [(h.same rfl).1]; exact Nat.le_refl _
  · exact Nat.le_of_lt (h.less rfl)
theorem Rnd.seen {m : Mod} {fn : Fn} {l0 l : List Shape} {b : Bool} {ok ok' : Prop} {pc k : Nat} {i : Ins} {s t : List Typ} {ks : List Int} (h : Rnd m fn l0 l b ok) {z : List Typ} (hx : l[k]? = some (false, z)) (hu : Und m fn pc s) (hi : fn.code[pc]? = some i) (hf : insB8 m fn i pc s = (0, t, ks)) (hk : (k : Int) ∈ ks) (hc : canL t) (h8 : t.length ≤ 8) : Rnd m fn l0 (l.set k (true, t)) true ok' := by
  have hlk := (List.getElem?_eq_some_iff.1 hx).1
  have hlt : k < fn.code.length := by rw [← h.runF.len]; exact hlk
  refine ⟨⟨by simpa using h.runF.len, by rw [toS_set hlk]; exact run_new h.runF.run hu hi hf hk (toS_no hx) hc h8 hlt⟩, fun p s hp => ?_, fun e => (by cases e), fun _ => ?_⟩
  · by_cases e : k = p
    · subst e
      rw [List.getElem?_set_self hlk] at hp
      cases hp
    · rw [List.getElem?_set_ne e] at hp
      exact h.out p s hp
  · rw [toS_set hlk]
    exact Nat.lt_of_lt_of_le (rkS_new hlt (toS_no hx) h8) h.le
theorem Rnd.join {m : Mod} {fn : Fn} {l0 l : List Shape} {b : Bool} {ok ok' : Prop} {pc k : Nat} {i : Ins} {s t u : List Typ} {ks : List Int} (h : Rnd m fn l0 l b ok) (hx : l[k]? = some (true, u)) (hu : Und m fn pc s) (hi : fn.code[pc]? = some i) (hf : insB8 m fn i pc s = (0, t, ks)) (hk : (k : Int) ∈ ks) (hn : u.length = t.length) (hc : canL t) (hne : joinL u t ≠ u) : Rnd m fn l0 (l.set k (true, joinL u t)) true ok' := by
  have hlk := (List.getElem?_eq_some_iff.1 hx).1
  have hlt : k < fn.code.length := by rw [← h.runF.len]; exact hlk
  have hcu := (h.runF.run.can k u (toS_yes hx)).1
  refine ⟨⟨by simpa using h.runF.len, by rw [toS_set hlk]; exact run_join h.runF.run hu hi hf hk (toS_yes hx) hn hc⟩, fun p s hp => ?_, fun e => (by cases e), fun _ => ?_⟩
  · by_cases e : k = p
    · subst e
      rw [List.getElem?_set_self hlk] at hp
      cases hp
    · rw [List.getElem?_set_ne e] at hp
      exact h.out p s hp
  · rw [toS_set hlk]
    exact Nat.lt_of_lt_of_le (rkS_join hlt (toS_yes hx) hcu hc hn hne) h.le
end Go.Proofs.YtpjanfkliaaflaaGreat
namespace Go.Proofs.YtpjanfkliaaflaaGreat
open Go.RowKit

set_option maxHeartbeats 1000000 in
theorem rjoin2 (a b c d : Int) (w : World) : Calls Tryz.prog 22 #[.agg #[.int .i64 a, .int .i64 b], .agg #[.int .i64 c, .int .i64 d]] w fun e w' => e = .returned (.agg #[.int .i64 (joinK a b c d), .int .i64 (joinN a b c d)]) ∧ Below w.heap.size w w' := by
  have S1 := Lib.hid (fun w => rsub a b c d w)
  have S2 := Lib.hid (fun w => rsub c d a b w)
  have R1 := Lib.hid (fun w => rref a b w)
  have R2 := Lib.hid (fun w => rref c d w)
  cases h1 : subB a b c d
  · cases h2 : subB c d a b
    · cases h3 : refB a
      · rw [show joinK a b c d = 8 by simp [joinK, h1, h2, h3], show joinN a b c d = 0 by simp [joinN, h1, h2]]
        replace S1 := Lib.hid (by have := S1.out; rw [h1] at this; exact this)
        replace S2 := Lib.hid (by have := S2.out; rw [h2] at this; exact this)
        replace R1 := Lib.hid (by have := R1.out; rw [h3] at this; exact this)
        clear h1 h2 h3
        go_enter Tryz.func22, Tryz.ntmps22
        go_wp2_with (first | (go_at_call 24; with_reducible refine (S1.out _).mono ?_; rintro e w1 ⟨rfl, hb1⟩; obtain ⟨hc1, hf1⟩ := bcell hb1; have hz1 : w.heap.size + 2 < w1.heap.size := by { have := hb1.size; simp at this; omega }; have hy1 : w.heap.size + 1 < w1.heap.size := (by omega); have hx1 : w.heap.size < w1.heap.size := by omega) | (go_at_call 24; with_reducible refine (S2.out _).mono ?_; rintro e w2 ⟨rfl, hb2⟩; obtain ⟨hc2, hf2⟩ := bcell hb2; have hz2 : w.heap.size + 2 < w2.heap.size := by { have := hb2.size; omega }; have hy2 : w.heap.size + 1 < w2.heap.size := (by omega); have hx2 : w.heap.size < w2.heap.size := by omega) | (go_at_call 44; with_reducible refine (R1.out _).mono ?_; rintro e w3 ⟨rfl, hb3⟩; obtain ⟨hc3, hf3⟩ := bcell hb3; have hz3 : w.heap.size + 2 < w3.heap.size := by { have := hb3.size; omega }; have hy3 : w.heap.size + 1 < w3.heap.size := (by omega); have hx3 : w.heap.size < w3.heap.size := by omega))
        exact bodyPost_ret (v := .agg #[.int .i64 8, .int .i64 0]) (by simp [results, Tryz.results22, go_sem, hc1, hz1, hy1, hx1, hc2, hz2, hy2, hx2, hc3, hz3, hy3, hx3]) rfl ⟨rfl, ((((((((Below.refl _ _).alloc (Nat.le_refl _) _).alloc (by simp) _).alloc (by simp <;> omega) _).trans (hb1.mono (by simp; omega))).trans (hb2.mono (by omega))).trans (hb3.mono (by omega))).setCell (by simp <;> omega) _).setCell (by simp <;> omega) _⟩
      · cases h4 : refB c
        · rw [show joinK a b c d = 8 by simp [joinK, h1, h2, h4], show joinN a b c d = 0 by simp [joinN, h1, h2]]
          replace S1 := Lib.hid (by have := S1.out; rw [h1] at this; exact this)
          replace S2 := Lib.hid (by have := S2.out; rw [h2] at this; exact this)
          replace R1 := Lib.hid (by have := R1.out; rw [h3] at this; exact this)
          replace R2 := Lib.hid (by have := R2.out; rw [h4] at this; exact this)
          clear h1 h2 h3 h4
          go_enter Tryz.func22, Tryz.ntmps22
          go_wp2_with (first | (go_at_call 24; with_reducible refine (S1.out _).mono ?_; rintro e w1 ⟨rfl, hb1⟩; obtain ⟨hc1, hf1⟩ := bcell hb1; have hz1 : w.heap.size + 2 < w1.heap.size := by { have := hb1.size; simp at this; omega }; have hy1 : w.heap.size + 1 < w1.heap.size := (by omega); have hx1 : w.heap.size < w1.heap.size := by omega) | (go_at_call 24; with_reducible refine (S2.out _).mono ?_; rintro e w2 ⟨rfl, hb2⟩; obtain ⟨hc2, hf2⟩ := bcell hb2; have hz2 : w.heap.size + 2 < w2.heap.size := by { have := hb2.size; omega }; have hy2 : w.heap.size + 1 < w2.heap.size := (by omega); have hx2 : w.heap.size < w2.heap.size := by omega) | (go_at_call 44; with_reducible refine (R1.out _).mono ?_; rintro e w3 ⟨rfl, hb3⟩; obtain ⟨hc3, hf3⟩ := bcell hb3; have hz3 : w.heap.size + 2 < w3.heap.size := by { have := hb3.size; omega }; have hy3 : w.heap.size + 1 < w3.heap.size := (by omega); have hx3 : w.heap.size < w3.heap.size := by omega) | (go_at_call 44; with_reducible refine (R2.out _).mono ?_; rintro e w4 ⟨rfl, hb4⟩; obtain ⟨hc4, hf4⟩ := bcell hb4; have hz4 : w.heap.size + 2 < w4.heap.size := by { have := hb4.size; omega }; have hy4 : w.heap.size + 1 < w4.heap.size := (by omega); have hx4 : w.heap.size < w4.heap.size := by omega))
          exact bodyPost_ret (v := .agg #[.int .i64 8, .int .i64 0]) (by simp [results, Tryz.results22, go_sem, hc1, hz1, hy1, hx1, hc2, hz2, hy2, hx2, hc3, hz3, hy3, hx3, hc4, hz4, hy4, hx4]) rfl ⟨rfl, (((((((((Below.refl _ _).alloc (Nat.le_refl _) _).alloc (by simp) _).alloc (by simp <;> omega) _).trans (hb1.mono (by simp; omega))).trans (hb2.mono (by omega))).trans (hb3.mono (by omega))).trans (hb4.mono (by omega))).setCell (by simp <;> omega) _).setCell (by simp <;> omega) _⟩
        · rw [show joinK a b c d = 7 by simp [joinK, h1, h2, h3, h4], show joinN a b c d = 0 by simp [joinN, h1, h2]]
          replace S1 := Lib.hid (by have := S1.out; rw [h1] at this; exact this)
          replace S2 := Lib.hid (by have := S2.out; rw [h2] at this; exact this)
          replace R1 := Lib.hid (by have := R1.out; rw [h3] at this; exact this)
          replace R2 := Lib.hid (by have := R2.out; rw [h4] at this; exact this)
          clear h1 h2 h3 h4
          go_enter Tryz.func22, Tryz.ntmps22
          go_wp2_with (first | (go_at_call 24; with_reducible refine (S1.out _).mono ?_; rintro e w1 ⟨rfl, hb1⟩; obtain ⟨hc1, hf1⟩ := bcell hb1; have hz1 : w.heap.size + 2 < w1.heap.size := by { have := hb1.size; simp at this; omega }; have hy1 : w.heap.size + 1 < w1.heap.size := (by omega); have hx1 : w.heap.size < w1.heap.size := by omega) | (go_at_call 24; with_reducible refine (S2.out _).mono ?_; rintro e w2 ⟨rfl, hb2⟩; obtain ⟨hc2, hf2⟩ := bcell hb2; have hz2 : w.heap.size + 2 < w2.heap.size := by { have := hb2.size; omega }; have hy2 : w.heap.size + 1 < w2.heap.size := (by omega); have hx2 : w.heap.size < w2.heap.size := by omega) | (go_at_call 44; with_reducible refine (R1.out _).mono ?_; rintro e w3 ⟨rfl, hb3⟩; obtain ⟨hc3, hf3⟩ := bcell hb3; have hz3 : w.heap.size + 2 < w3.heap.size := by { have := hb3.size; omega }; have hy3 : w.heap.size + 1 < w3.heap.size := (by omega); have hx3 : w.heap.size < w3.heap.size := by omega) | (go_at_call 44; with_reducible refine (R2.out _).mono ?_; rintro e w4 ⟨rfl, hb4⟩; obtain ⟨hc4, hf4⟩ := bcell hb4; have hz4 : w.heap.size + 2 < w4.heap.size := by { have := hb4.size; omega }; have hy4 : w.heap.size + 1 < w4.heap.size := (by omega); have hx4 : w.heap.size < w4.heap.size := by omega))
          exact bodyPost_ret (v := .agg #[.int .i64 7, .int .i64 0]) (by simp [results, Tryz.results22, go_sem, hc1, hz1, hy1, hx1, hc2, hz2, hy2, hx2, hc3, hz3, hy3, hx3, hc4, hz4, hy4, hx4]) rfl ⟨rfl, (((((((((Below.refl _ _).alloc (Nat.le_refl _) _).alloc (by simp) _).alloc (by simp <;> omega) _).trans (hb1.mono (by simp; omega))).trans (hb2.mono (by omega))).trans (hb3.mono (by omega))).trans (hb4.mono (by omega))).setCell (by simp <;> omega) _).setCell (by simp <;> omega) _⟩
    · rw [show joinK a b c d = a by simp [joinK, h1, h2], show joinN a b c d = b by simp [joinN, h1, h2]]
      replace S1 := Lib.hid (by have := S1.out; rw [h1] at this; exact this)
      replace S2 := Lib.hid (by have := S2.out; rw [h2] at this; exact this)
      clear h1 h2
      go_enter Tryz.func22, Tryz.ntmps22
      go_wp2_with (first | (go_at_call 24; with_reducible refine (S1.out _).mono ?_; rintro e w1 ⟨rfl, hb1⟩; obtain ⟨hc1, hf1⟩ := bcell hb1; have hz1 : w.heap.size + 2 < w1.heap.size := by { have := hb1.size; simp at this; omega }; have hy1 : w.heap.size + 1 < w1.heap.size := (by omega); have hx1 : w.heap.size < w1.heap.size := by omega) | (go_at_call 24; with_reducible refine (S2.out _).mono ?_; rintro e w2 ⟨rfl, hb2⟩; obtain ⟨hc2, hf2⟩ := bcell hb2; have hz2 : w.heap.size + 2 < w2.heap.size := by { have := hb2.size; omega }; have hy2 : w.heap.size + 1 < w2.heap.size := (by omega); have hx2 : w.heap.size < w2.heap.size := by omega))
      exact bodyPost_ret (v := .agg #[.int .i64 a, .int .i64 b]) (by simp [results, Tryz.results22, go_sem, hc1, hz1, hy1, hx1, hc2, hz2, hy2, hx2]) rfl ⟨rfl, (((((((Below.refl _ _).alloc (Nat.le_refl _) _).alloc (by simp) _).alloc (by simp <;> omega) _).trans (hb1.mono (by simp; omega))).trans (hb2.mono (by omega))).setCell (by simp <;> omega) _).setCell (by simp <;> omega) _⟩
  · rw [show joinK a b c d = c by simp [joinK, h1], show joinN a b c d = d by simp [joinN, h1]]
    replace S1 := Lib.hid (by have := S1.out; rw [h1] at this; exact this)
    clear h1
    go_enter Tryz.func22, Tryz.ntmps22
    go_wp2_with (first | (go_at_call 24; with_reducible refine (S1.out _).mono ?_; rintro e w1 ⟨rfl, hb1⟩; obtain ⟨hc1, hf1⟩ := bcell hb1; have hz1 : w.heap.size + 2 < w1.heap.size := by { have := hb1.size; simp at this; omega }; have hy1 : w.heap.size + 1 < w1.heap.size := (by omega); have hx1 : w.heap.size < w1.heap.size := by omega))
    exact bodyPost_ret (v := .agg #[.int .i64 c, .int .i64 d]) (by simp [results, Tryz.results22, go_sem, hc1, hz1, hy1, hx1]) rfl ⟨rfl, ((((((Below.refl _ _).alloc (Nat.le_refl _) _).alloc (by simp) _).alloc (by simp <;> omega) _).trans (hb1.mono (by simp; omega))).setCell (by simp <;> omega) _).setCell (by simp <;> omega) _⟩
end Go.Proofs.YtpjanfkliaaflaaGreat
namespace Go.Proofs.YtpjanfkliaaflaaGreat
open Go.RowKit

set_option maxRecDepth 100000 in
set_option maxHeartbeats 1000000 in
theorem refTypes_any (A B : Option Addr) (n m c d : Nat) (xs ys : List Typ) (w : World) (S T : Nat → Prop) (hl : xs.length = n) (hm : ys.length = m) (h : Sq typL S w A xs) (h' : Sq typL T w B ys) (hn2 : n ≤ 9223372036854775807) (hm2 : m ≤ 9223372036854775807) :
    Calls Tryz.prog 23 #[.slice A n c, .slice B m d] w fun e w' => e = .returned (.bool (eqB xs ys)) ∧ ∃ q, w' = w.drewN q := by
  have HL := Lib.hid hl
  have HM := Lib.hid hm
  have HS := Lib.hid h
  have HT := Lib.hid h'
  clear hl hm h h'
  by_cases hnm : n = m
  · subst hnm
    go_enter Tryz.func23, Tryz.ntmps23
    go_wp2_with fail
    go_loopw [5] (fun i wr => ∃ k q : Nat, k ≤ n ∧ i = .int .i64 (k : Nat) ∧ xs.take k = ys.take k ∧ wr = w.drewN q) (fun i _ => n - (intOf i).toNat)
    case atStart => exact ⟨0, 0, Nat.zero_le _, rfl, by simp, rfl⟩
    case round =>
      obtain ⟨k, q, hk, rfl, heq, rfl⟩ := hrel
      have HE := Lib.hid heq
      clear heq
      by_cases hlt : k < n
      · skip
        obtain ⟨x, hx⟩ : ∃ x, xs[k]? = some x := ⟨xs[k]'(by rw [HL.out]; exact hlt), List.getElem?_eq_getElem _⟩
        obtain ⟨y, hy⟩ : ∃ y, ys[k]? = some y := ⟨ys[k]'(by rw [HM.out]; exact hlt), List.getElem?_eq_getElem _⟩
        obtain ⟨a, cs, rfl, hab, hc, hr⟩ := HS.out.at hx
        obtain ⟨b, cs2, rfl, hbb, hc2, hr2⟩ := HT.out.at hy
        have HX := Lib.hid hx
        have HY := Lib.hid hy
        clear hx hy
        obtain ⟨rfl, -, -⟩ := hr
        obtain ⟨rfl, -, -⟩ := hr2
        have c0 := hc 0 _ rfl
        rw [show k * typL.k + 0 = k * 2 from rfl] at c0
        have c1 := hc 1 _ rfl
        rw [show k * typL.k + 1 = k * 2 + 1 from rfl, next_cell a (k * 2) 1 (by omega)] at c1
        have e0 := hc2 0 _ rfl
        rw [show k * typL.k + 0 = k * 2 from rfl] at e0
        have e1 := hc2 1 _ rfl
        rw [show k * typL.k + 1 = k * 2 + 1 from rfl, next_cell b (k * 2) 1 (by omega)] at e1
        clear hc hc2
        have k0 : 0 ≤ (k : Int) := by omega
        have k1 : (k : Int) < (n : Int) := by omega
        by_cases hxy : x = y
        · have HXY := Lib.hid hxy
          subst hxy
          go_wp2_with fail
          go_quiet (fail)
          go_wp2_with fail
          refine ⟨⟨k + 1, _, by omega, by simp, take_same HE.out HX.out HY.out rfl, rfl⟩, by simp [intOf]; omega⟩
        · have HXY := Lib.hid hxy
          by_cases g0 : x.1 = y.1
          · have b0 : (x.1 == y.1) = true := by simpa using g0
            by_cases g1 : x.2 = y.2
            · exact absurd (Prod.ext g0 g1) HXY.out
            · have b1 : (x.2 == y.2) = false := by simpa using g1
              clear g0 g1
              go_wp2_with fail
              go_quiet (fail)
              go_wp2_with fail
              go_ret
              exact ⟨by rw [eqB_ne (get_ne HX.out HY.out HXY.out)]; rfl, _, World.drewN_drewN _ _ _⟩
          · have b0 : (x.1 == y.1) = false := by simpa using g0
            clear g0
            go_wp2_with fail
            go_quiet (fail)
            go_wp2_with fail
            go_ret
            exact ⟨by rw [eqB_ne (get_ne HX.out HY.out HXY.out)]; rfl, _, World.drewN_drewN _ _ _⟩
      · obtain rfl : k = n := by omega
        go_wp2_with fail
        go_ret
        refine ⟨?_, _, rfl⟩
        have e := HE.out
        rw [List.take_of_length_le (by rw [HL.out]; exact Nat.le_refl _), List.take_of_length_le (by rw [HM.out]; exact Nat.le_refl _)] at e
        rw [e, eqB_self]
        rfl
  · have h1 : ((n : Int) != (m : Int)) = true := by simp; omega
    have h2 : (n != m) = true := by simpa using hnm
    have HNM := Lib.hid hnm
    clear hnm
    go_enter Tryz.func23, Tryz.ntmps23
    go_wp2_with fail
    go_ret
    refine ⟨?_, 0, rfl⟩
    rw [eqB_ne (fun e => HNM.out (by rw [← HL.out, ← HM.out, e]))]
    rfl
end Go.Proofs.YtpjanfkliaaflaaGreat
