/-
  What a heap's Len, Used, Objs and New do; what its methods do where it is none.
  Conditions: as each theorem says.
-/
import Derived.Test.YtdadaklkaehmjaaHg
import Derived.Test.YtdadaklkaehmjaaHe
namespace Go.Proofs.Ytdadaklkaehmjaa
open Go.RowKit
set_option linter.unusedSimpArgs false
set_option linter.unusedVariables false

set_option maxRecDepth 100000 in
set_option maxHeartbeats 1000000 in
theorem len_any {S : Nat → Prop} {O : List Ob} {q u : Int} (g r : Nat) (w : World) (h : IsHp S w g O q u) (h64 : r < B64) (hO : O.length ≤ 1000000) (hz : ∀ o ∈ O, o.small) :
    Calls Try.prog 19 #[.pointer (some ⟨g, 0, none⟩), .int .u64 (r : Int)] w fun e w' => e = .returned (.tuple #[.int .i64 (lenA O r).1, .int .i64 (lenA O r).2]) ∧ Below w.heap.size w w' := by
  obtain ⟨v, css, tag, hb, hg, htg, hr⟩ := h
  have HR := Lib.hid hr
  clear hr hg htg
  unfold lenA
  cases ha : atO O r with
  | none =>
    have hno := atO_none ha
    clear ha
    go_enter Try.func19, Try.ntmps19
    go_wp2_with (first
      | (go_at_call 26
         refine (find_none g r w hb HR.out h64 hO hno).mono ?_
         rintro e w1 ⟨rfl, hb1⟩
         have HB1 := Lib.hid hb1
         clear hb1))
    go_ret2
    exact ⟨rfl, HB1.out.alloc HB1.out.size _⟩
  | some o =>
    obtain ⟨h0, h1, ho⟩ := atO_some ha
    obtain ⟨A, c, B, d, hcs⟩ := HR.out.flat ho
    have HC := Lib.hid hcs
    clear ha hcs ho hz
    dsimp only
    obtain ⟨kk, ek⟩ : ∃ k, o.kind = k := ⟨_, rfl⟩
    rw [ek] at HC ⊢
    clear ek
    generalize o.n = nn at *
    generalize o.words.length = pp at *
    generalize o.bytes.length = qq at *
    by_cases hk : kk = 2
    · subst hk
      rw [if_pos rfl]
      go_enter Try.func19, Try.ntmps19
      go_wp2_with (first
        | (go_at_call 26
           refine (find_some g r w hb HR.out h64 hO h0 h1 HC.out).mono ?_
           rintro e w1 ⟨rfl, hb1⟩
           have HB1 := Lib.hid hb1
           clear hb1))
      go_ret2
      exact ⟨rfl, HB1.out.alloc HB1.out.size _⟩
    · rw [if_neg hk]
      have hk2 : (kk == 2) = false := by simp; exact hk
      go_enter Try.func19, Try.ntmps19
      go_wp2_with (first
        | (go_at_call 26
           refine (find_some g r w hb HR.out h64 hO h0 h1 HC.out).mono ?_
           rintro e w1 ⟨rfl, hb1⟩
           have HB1 := Lib.hid hb1
           clear hb1))
      go_ret2
      exact ⟨rfl, HB1.out.alloc HB1.out.size _⟩

theorem used_any {S : Nat → Prop} {O : List Ob} {q u : Int} (g : Nat) (w : World) (h : IsHp S w g O q u) :
    Calls Try.prog 20 #[.pointer (some ⟨g, 0, none⟩)] w fun e w' => e = .returned (.int .i64 u) ∧ w = w' := by
  obtain ⟨v, css, tag, hb, -⟩ := h
  have c2 := hb.cell 2
  go_enter Try.func20, Try.ntmps20
  go_wp2
  go_ret
  exact ⟨rfl, rfl⟩
theorem used_nil (w : World) : Calls Try.prog 20 #[.pointer none] w fun e w' => e = .returned (.int .i64 0) ∧ w = w' := by
  go_enter Try.func20, Try.ntmps20
  go_wp2
  go_ret
  exact ⟨rfl, rfl⟩
theorem objs_nil (w : World) : Calls Try.prog 22 #[.pointer none] w fun e w' => e = .returned (.slice none 0 0) ∧ w = w' := by
  go_enter Try.func22, Try.ntmps22
  go_wp2
  go_ret
  exact ⟨rfl, rfl⟩
set_option maxRecDepth 100000 in
theorem objs_any {S : Nat → Prop} {O : List Ob} {q u : Int} (g : Nat) (w : World) (h : IsHp S w g O q u) (hO : O.length ≤ 100000) (hz : ∀ o ∈ O, o.small) (hS : ∀ b, S b → b < w.heap.size) :
    Calls Try.prog 22 #[.pointer (some ⟨g, 0, none⟩)] w fun e w' => ∃ v css tag, e = .returned v ∧ Row (fun b => w.heap.size ≤ b ∧ b < w'.heap.size) tag w' v css O ∧ Below w.heap.size w w' := by
  obtain ⟨v, css, tag, hb, -, -, hr⟩ := h
  obtain ⟨A, c, rfl, hc1, hc2⟩ := hr.shape
  obtain ⟨A', c', e, -, -, hsq⟩ := hr.sl
  simp only [List.cons.injEq, Value.slice.injEq, and_true] at e
  obtain ⟨rfl, -, rfl⟩ := e
  have HC := Lib.hid (copies_any A O.length c O w rfl (hsq.wide hS) hz hO)
  have c0 := hb.cell 0
  clear hr hsq hz
  go_enter Try.func22, Try.ntmps22
  go_wp2_with (first
    | (go_at_call 23
       refine HC.out.mono ?_
       rintro e w1 ⟨v1, css1, tag1, rfl, hr1, hb1⟩
       have HR1 := Lib.hid hr1
       have HB1 := Lib.hid hb1
       clear hr1 hb1))
  go_ret
  exact ⟨_, css1, tag1, rfl, HR1.out, HB1.out⟩

set_option maxRecDepth 100000 in
theorem new_any (A : Option Addr) (n c : Nat) (O : List Ob) (q u : Int) (w : World) (hl : O.length = n) (h : Sq obL (· < w.heap.size) w A O) (hz : ∀ o ∈ O, o.small) (hn : n ≤ 100000) (hq : I64 q) (hu : I64 u) :
    Calls Try.prog 10 #[.slice A n c, .int .i64 q, .int .i64 u] w fun e w' => ∃ g, e = .returned (.pointer (some ⟨g, 0, none⟩)) ∧ w.heap.size ≤ g ∧ IsHp (fun b => w.heap.size ≤ b ∧ b < w'.heap.size) w' g O (max (-1099511627776) (min q 1099511627776)) (max (-1099511627776) (min u 1099511627776)) ∧ Below w.heap.size w w' := by
  have HC := Lib.hid (copies_any A n c O w hl h hz hn)
  have HQ := Lib.hid (fun w => held_any q w hq)
  have HU := Lib.hid (fun w => held_any u w hu)
  clear hl h hz hq hu
  generalize (max (-1099511627776) (min q 1099511627776)) = q' at *
  generalize (max (-1099511627776) (min u 1099511627776)) = u' at *
  go_enter Try.func10, Try.ntmps10
  go_wp2_with (first
    | (go_at_call 23
       refine HC.out.mono ?_
       rintro e w1 ⟨v1, css1, tag1, rfl, hr1, hb1⟩
       obtain ⟨A1, c1, rfl, -, -⟩ := hr1.shape
       have HR1 := Lib.hid hr1
       have HB1 := Lib.hid hb1
       have hs1 := hb1.size
       clear hr1 hb1)
    | (go_at_call 24
       with_reducible refine (HQ.out _).mono ?_
       rintro e w2 ⟨rfl, rfl⟩)
    | (go_at_call 24
       with_reducible refine (HU.out _).mono ?_
       rintro e w2 ⟨rfl, rfl⟩))
  go_ret
  refine ⟨w1.heap.size, rfl, hs1, ?_, HB1.out.alloc hs1 _⟩
  classical
  refine ⟨_, css1, fun b => if b = w1.heap.size then 0 else tag1 b, blk_at rfl, ⟨hs1, by simp⟩, by simp, ?_⟩
  have hr := HR1.out
  refine ⟨hr.1, ownr_keep hr.2.1 fun b e => Below.heap_alloc _ _ _ (hr.2.1.lt b e).2, fun b e => ?_, fun j o cs e1 e2 => ?_⟩
  · obtain ⟨h1, h2⟩ := hr.2.2.1 b e
    exact ⟨⟨h1.1, by simp; omega⟩, by show (if b = w1.heap.size then 0 else tag1 b) = 1; rw [if_neg (by omega)]; exact h2⟩
  · refine ((hr.2.2.2 j o cs e1 e2).keep (w' := w1.alloc _) (fun b hb => Below.heap_alloc _ _ _ hb.1.2) fun b hb => Below.heap_alloc _ _ _ hb.1.2).wide (fun b _ hb => ⟨⟨hb.1.1, by simp; omega⟩, ?_⟩) fun b _ hb => ⟨⟨hb.1.1, by simp; omega⟩, ?_⟩
    · show (if b = w1.heap.size then 0 else tag1 b) = _
      rw [if_neg (by omega)]
      exact hb.2
    · show (if b = w1.heap.size then 0 else tag1 b) = _
      rw [if_neg (by omega)]
      exact hb.2
end Go.Proofs.Ytdadaklkaehmjaa
