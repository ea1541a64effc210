/-
  What the small calls of a num.Reader do: Bad, Left, spoil, NewReader, cut.
  Conditions: as each theorem says (where a Reader lies, what bytes it holds).
-/
import Derived.Test.YtolofgifcjkaaaaWds
import Derived.Test.YtolofgifcjkaaaaCln
namespace Go.Proofs.Ytolofgifcjkaaaa
open Go.RowKit

/-- The Reader in block g is good, and holds the bytes xs. -/
def Good (w : World) (g : Nat) (xs : List Nat) : Prop :=
  ∃ A c, Blk w g 47 #[.slice A xs.length c, .bool false] ∧ xs.length ≤ c ∧ c ≤ maxLen ∧ Byt (· < g) w A xs

/-- The Reader in block g is bad. -/
def Bad (w : World) (g : Nat) : Prop := Blk w g 47 #[.slice none 0 0, .bool true]

theorem Good.lt {w : World} {g : Nat} {xs : List Nat} (h : Good w g xs) : g < w.heap.size := by
  obtain ⟨_, _, h, _⟩ := h
  exact h.lt

theorem Bad.lt {w : World} {g : Nat} (h : Bad w g) : g < w.heap.size := Blk.lt h

theorem Good.keep {w w' : World} {g : Nat} {xs : List Nat} (h : Good w g xs) (hk : ∀ b, b ≤ g → w'.heap[b]? = w.heap[b]?) : Good w' g xs := by
  obtain ⟨A, c, h, hlc, hcm, hB⟩ := h
  exact ⟨A, c, (hk g (Nat.le_refl _)).trans h, hlc, hcm, hB.keep fun b hb => hk b (Nat.le_of_lt hb)⟩

theorem Good.below {w w' : World} {g B : Nat} {xs : List Nat} (h : Good w g xs) (hb : Below B w w') (hg : g < B) : Good w' g xs := h.keep fun b hbg => hb.block b (by omega)

theorem Bad.below {w w' : World} {g B : Nat} (h : Bad w g) (hb : Below B w w') (hg : g < B) : Bad w' g := (hb.block g hg).trans h

theorem Bad.alloc {w : World} {g : Nat} (h : Bad w g) (o : Obj) : Bad (w.alloc o) g := (Below.heap_alloc w o g h.lt).trans h

theorem Good.alloc {w : World} {g : Nat} {xs : List Nat} (h : Good w g xs) (o : Obj) : Good (w.alloc o) g xs := h.keep fun b hb => Below.heap_alloc w o b (by have := h.lt; omega)

set_option maxHeartbeats 400000 in
theorem bad_nil (w : World) : Calls Try.prog 23 #[.pointer none] w fun e w' => e = .returned (.bool true) ∧ w = w' := by
  go_enter Try.func23, Try.ntmps23
  go_wp2
  go_ret
  exact ⟨rfl, rfl⟩

set_option maxHeartbeats 400000 in
theorem bad_at (g : Nat) (v : Value) (b : Bool) (w : World) (h : Blk w g 47 #[v, .bool b]) : Calls Try.prog 23 #[.pointer (some ⟨g, 0, none⟩)] w fun e w' => e = .returned (.bool b) ∧ w = w' := by
  have h1 := h.cell 1
  simp at h1
  clear h
  go_enter Try.func23, Try.ntmps23
  go_wp2
  go_ret
  exact ⟨rfl, rfl⟩

set_option maxHeartbeats 400000 in
theorem left_nil (w : World) : Calls Try.prog 15 #[.pointer none] w fun e w' => e = .returned (.int .i64 0) ∧ w = w' := by
  go_enter Try.func15, Try.ntmps15
  go_wp2_with (go_at_call 23; refine (bad_nil _).mono ?_; rintro e w' ⟨rfl, rfl⟩)
  go_ret
  exact ⟨rfl, rfl⟩

set_option maxHeartbeats 400000 in
theorem left_bad (g : Nat) (w : World) (h : Bad w g) : Calls Try.prog 15 #[.pointer (some ⟨g, 0, none⟩)] w fun e w' => e = .returned (.int .i64 0) ∧ w = w' := by
  have hb := Lib.hid (bad_at g _ _ w h)
  clear h
  go_enter Try.func15, Try.ntmps15
  go_wp2_with (go_at_call 23; refine hb.out.mono ?_; rintro e w' ⟨rfl, rfl⟩)
  go_ret
  exact ⟨rfl, rfl⟩

set_option maxHeartbeats 400000 in
theorem left_good (g : Nat) (xs : List Nat) (w : World) (h : Good w g xs) : Calls Try.prog 15 #[.pointer (some ⟨g, 0, none⟩)] w fun e w' => e = .returned (.int .i64 (xs.length : Nat)) ∧ w = w' := by
  obtain ⟨A, c, h, _, _, _⟩ := h
  have hb := Lib.hid (bad_at g _ _ w h)
  have h0 := h.cell 0
  simp at h0
  clear h
  go_enter Try.func15, Try.ntmps15
  go_wp2_with (go_at_call 23; refine hb.out.mono ?_; rintro e w' ⟨rfl, rfl⟩)
  go_ret
  exact ⟨rfl, rfl⟩

set_option maxHeartbeats 400000 in
theorem spoil_at (g : Nat) (xs : List Nat) (w : World) (h : Good w g xs) : Calls Try.prog 28 #[.pointer (some ⟨g, 0, none⟩)] w fun e w' => e = .returned (.tuple #[]) ∧ Bad w' g ∧ Only g w w' := by
  obtain ⟨A, c, h, _, _, _⟩ := h
  have hk := Lib.hid h
  have h0 := h.cell 0
  have h1 := h.cell 1
  have f0 := h.frozen 0
  have f1 := h.frozen 1
  simp at h0 h1
  clear h
  go_enter Try.func28, Try.ntmps28
  go_wp2
  go_end0
  refine ⟨rfl, ?_, ?_⟩
  · have := (hk.out.set 0 (.slice none 0 0)).set 1 (.bool true)
    unfold Bad
    simpa using this
  · exact only_set (only_set (only_refl g w) _ _) _ _

set_option maxHeartbeats 400000 in
theorem newReader_any (A : Option Addr) (n c : Nat) (xs : List Nat) (w : World) (hx : xs.length = n) (hb : Byt (· < w.heap.size) w A xs) (hn : n ≤ 140737488355328) :
    Calls Try.prog 13 #[.slice A n c] w fun e w' => ∃ g, e = .returned (.pointer (some ⟨g, 0, none⟩)) ∧ Good w' g xs ∧ w.heap.size ≤ g ∧ Below w.heap.size w w' := by
  have hc := Lib.hid (clone_any A n c xs w hx hb hn)
  clear hx hb
  go_enter Try.func13, Try.ntmps13
  go_wp2_with (go_at_call 20
               refine hc.out.mono ?_
               rintro e w1 ⟨v, rfl, hown, hbel⟩
               obtain ⟨A', c', rfl, hl, hlc, hcm, hB⟩ := own_slice hown
               have HO := Lib.hid hown
               have HL := Lib.hid hl
               have HB := Lib.hid hB
               clear hown hl hB)
  go_ret
  have hsz := hbel.size
  refine ⟨w1.heap.size, rfl, ⟨A', c', ?_, by rw [← HL.out]; exact hlc, hcm, ?_⟩, hsz, hbel.alloc hsz _⟩
  · rw [← HL.out]; exact heap_alloc_new w1 _
  · exact (HB.out.keep fun b hb => Below.heap_alloc w1 _ b hb.2).wide fun b hb => hb.2

set_option maxHeartbeats 400000 in
theorem cut_nil (n : Int) (w : World) : Calls Try.prog 26 #[.pointer none, .int .i64 n] w fun e w' => e = .returned (.slice none 0 0) ∧ w = w' := by
  go_enter Try.func26, Try.ntmps26
  go_wp2_with (go_at_call 23; refine (bad_nil _).mono ?_; rintro e w' ⟨rfl, rfl⟩)
  go_ret
  exact ⟨rfl, rfl⟩

set_option maxHeartbeats 400000 in
theorem cut_bad (g : Nat) (n : Int) (w : World) (h : Bad w g) : Calls Try.prog 26 #[.pointer (some ⟨g, 0, none⟩), .int .i64 n] w fun e w' => e = .returned (.slice none 0 0) ∧ w = w' := by
  have hb := Lib.hid (bad_at g _ _ w h)
  clear h
  go_enter Try.func26, Try.ntmps26
  go_wp2_with (go_at_call 23; refine hb.out.mono ?_; rintro e w' ⟨rfl, rfl⟩)
  go_ret
  exact ⟨rfl, rfl⟩

set_option maxHeartbeats 400000 in
theorem cut_short (g : Nat) (n : Int) (xs : List Nat) (w : World) (h : Good w g xs) (hn : n < 0 ∨ (xs.length : Int) < n) :
    Calls Try.prog 26 #[.pointer (some ⟨g, 0, none⟩), .int .i64 n] w fun e w' => e = .returned (.slice none 0 0) ∧ Bad w' g ∧ Only g w w' := by
  have hs := Lib.hid (spoil_at g xs w h)
  obtain ⟨A, c, h, _, _, _⟩ := h
  have hb := Lib.hid (bad_at g _ _ w h)
  have h0 := h.cell 0
  simp at h0
  clear h
  rcases hn with hn | hn
  · go_enter Try.func26, Try.ntmps26
    go_wp2_with (first | (go_at_call 23; refine hb.out.mono ?_; rintro e w' ⟨rfl, rfl⟩) | (go_at_call 28; refine hs.out.mono ?_; rintro e w' ⟨rfl, hB, hO⟩))
    go_ret
    exact ⟨rfl, hB, hO⟩
  · have hn' : ¬ n < 0 := by omega
    go_enter Try.func26, Try.ntmps26
    go_wp2_with (first | (go_at_call 23; refine hb.out.mono ?_; rintro e w' ⟨rfl, rfl⟩) | (go_at_call 28; refine hs.out.mono ?_; rintro e w' ⟨rfl, hB, hO⟩))
    go_ret
    exact ⟨rfl, hB, hO⟩

set_option maxHeartbeats 400000 in
theorem cut_ok (g : Nat) (k : Nat) (xs : List Nat) (w : World) (h : Good w g xs) (hk : k ≤ xs.length) :
    Calls Try.prog 26 #[.pointer (some ⟨g, 0, none⟩), .int .i64 (k : Nat)] w fun e w' => ∃ A c, e = .returned (.slice A k c) ∧ Byt (· < g) w' A (xs.take k) ∧ k ≤ c ∧ c ≤ maxLen ∧ Good w' g (xs.drop k) ∧ Only g w w' := by
  obtain ⟨A, c, h, hlc, hcm, hB⟩ := h
  have hb := Lib.hid (bad_at g _ _ w h)
  have h0 := h.cell 0
  have f0 := h.frozen 0
  simp at h0
  have hk' := Lib.hid h
  have HB := Lib.hid hB
  have hkc : k ≤ c := by omega
  have hk0 : ¬ (k : Int) < 0 := by omega
  clear h hB
  by_cases hck : c = k
  · go_enter Try.func26, Try.ntmps26
    go_wp2_with (first | (go_at_call 23; refine hb.out.mono ?_; rintro e w' ⟨rfl, rfl⟩))
    go_ret
    refine ⟨A, k, rfl, (HB.out.keep fun b hb => Below.heap_setCell _ _ _ _ (by simp; omega)).take k, Nat.le_refl _, by omega, ⟨A, 0, ?_, by simp; omega, by simp [maxLen], ?_⟩, only_set (only_refl g w) _ _⟩
    · have := hk'.out.set 0 (.slice A (xs.length - k) 0)
      rw [List.length_drop]
      simpa using this
    · have e : xs.drop k = [] := List.eq_nil_of_length_eq_zero (by simp; omega)
      rw [e]
      exact Byt.nil _ _ _
  · go_enter Try.func26, Try.ntmps26
    go_wp2_with (first | (go_at_call 23; refine hb.out.mono ?_; rintro e w' ⟨rfl, rfl⟩))
    go_ret
    refine ⟨A, c, rfl, (HB.out.keep fun b hb => Below.heap_setCell _ _ _ _ (by simp; omega)).take k, hkc, hcm, ⟨_, c - k, ?_, by simp; omega, by omega, (HB.out.keep fun b hb => Below.heap_setCell _ _ _ _ (by simp; omega)).drop k⟩, only_set (only_refl g w) _ _⟩
    have := hk'.out.set 0 (.slice (A.map (·.add k)) (xs.length - k) (c - k))
    rw [List.length_drop]
    simpa using this
end Go.Proofs.Ytolofgifcjkaaaa
