/-
  What inst's Args and the document's do.
  Conditions: none.
-/
import Derived.Test.YtolofgifcjkaaaaIm
import Derived.Test.YtolofgifcjkaaaaKwo
namespace Go.Proofs.Ytolofgifcjkaaaa
open Go.RowKit
set_option linter.unusedSimpArgs false

set_option maxHeartbeats 1000000 in
theorem args_any (op : Int) (w : World) : Calls Try.prog 11 #[.int .i64 op] w fun e w' => e = .returned (.int .i64 (argN op)) ∧ w = w' := by
  by_cases hc : op = 29 ∨ op = 30 ∨ op = 0 ∨ op = 1 ∨ op = 3 ∨ op = 4 ∨ op = 23 ∨ op = 24 ∨ op = 25 ∨ op = 27 ∨ op = 28
  · rcases hc with rfl | rfl | rfl | rfl | rfl | rfl | rfl | rfl | rfl | rfl | rfl
    all_goals
      go_enter Try.func11, Try.ntmps11
      go_wp2_with fail
      go_ret
      exact ⟨rfl, rfl⟩
  · obtain ⟨n29, n30, n0, n1, n3, n4, n23, n24, n25, n27, n28⟩ : op ≠ 29 ∧ op ≠ 30 ∧ op ≠ 0 ∧ op ≠ 1 ∧ op ≠ 3 ∧ op ≠ 4 ∧ op ≠ 23 ∧ op ≠ 24 ∧ op ≠ 25 ∧ op ≠ 27 ∧ op ≠ 28 := by omega
    clear hc
    by_cases hlo : op < 0
    · have e : argN op = -1 := by unfold argN; rw [if_neg (by omega), if_neg (by omega), if_pos (by omega)]
      rw [e]
      clear e
      go_enter Try.func11, Try.ntmps11
      go_wp2_with fail
      go_ret
      exact ⟨rfl, rfl⟩
    by_cases hhi : 42 ≤ op
    · have e : argN op = -1 := by unfold argN; rw [if_neg (by omega), if_neg (by omega), if_pos (by omega)]
      rw [e]
      clear e
      go_enter Try.func11, Try.ntmps11
      go_wp2_with fail
      go_ret
      exact ⟨rfl, rfl⟩
    have e : argN op = 0 := by unfold argN; rw [if_neg (by omega), if_neg (by omega), if_neg (by omega)]
    rw [e]
    clear e
    go_enter Try.func11, Try.ntmps11
    go_wp2_with fail
    go_ret
    exact ⟨rfl, rfl⟩

/-- The ones that have one number. -/
def ones : List Int := [0, 1, 3, 4, 23, 24, 25, 27, 28]
theorem argN_one (op : Int) (k : Nat) (hk : k < 9) (h : ones[k]?.getD 0 = op) : argN op = 1 := by
  subst h
  unfold argN ones
  have : k = 0 ∨ k = 1 ∨ k = 2 ∨ k = 3 ∨ k = 4 ∨ k = 5 ∨ k = 6 ∨ k = 7 ∨ k = 8 := by omega
  rcases this with rfl | rfl | rfl | rfl | rfl | rfl | rfl | rfl | rfl <;> rfl
theorem argN_zero (op : Int) (h0 : ¬ op < 0) (h1 : op < 42) (h2 : op ≠ 29) (h3 : op ≠ 30) (h : ∀ j, j < 9 → ones[j]?.getD 0 ≠ op) : argN op = 0 := by
  have a0 := h 0 (by omega)
  have a1 := h 1 (by omega)
  have a2 := h 2 (by omega)
  have a3 := h 3 (by omega)
  have a4 := h 4 (by omega)
  have a5 := h 5 (by omega)
  have a6 := h 6 (by omega)
  have a7 := h 7 (by omega)
  have a8 := h 8 (by omega)
  simp [ones] at a0 a1 a2 a3 a4 a5 a6 a7 a8
  unfold argN
  rw [if_neg (by omega), if_neg (by omega), if_neg (by omega)]

set_option maxRecDepth 100000 in
set_option maxHeartbeats 1000000 in
theorem refArgs_any (op : Int) (w : World) : Calls Try.prog 12 #[.int .i64 op] w fun e w' => e = .returned (.int .i64 (argN op)) ∧ Below w.heap.size w w' := by
  by_cases hlo : op < 0
  · have e : argN op = -1 := by unfold argN; rw [if_neg (by omega), if_neg (by omega), if_pos (by omega)]
    rw [e]
    clear e
    go_enter Try.func12, Try.ntmps12
    go_wp2
    go_ret
    exact ⟨rfl, Below.refl _ _⟩
  by_cases hhi : 42 ≤ op
  · have e : argN op = -1 := by unfold argN; rw [if_neg (by omega), if_neg (by omega), if_pos (by omega)]
    rw [e]
    clear e
    go_enter Try.func12, Try.ntmps12
    go_wp2
    go_ret
    exact ⟨rfl, Below.refl _ _⟩
  by_cases h29 : op = 29
  · subst h29
    go_enter Try.func12, Try.ntmps12
    go_wp2
    go_ret
    exact ⟨rfl, Below.refl _ _⟩
  by_cases h30 : op = 30
  · subst h30
    go_enter Try.func12, Try.ntmps12
    go_wp2
    go_ret
    exact ⟨rfl, Below.refl _ _⟩
  have e29 : (op == 29) = false := by simp [h29]
  have e30 : (op == 30) = false := by simp [h30]
  go_enter Try.func12, Try.ntmps12
  go_wp2_with fail
  refine wp_world fun W hW => ?_
  have hcell : Hid (∀ k, k < 9 → W.cell? ⟨w.heap.size, k, none⟩ = some (.int .i64 (ones[k]?.getD 0))) := by
    intro k hk
    rw [hW]
    have : k = 0 ∨ k = 1 ∨ k = 2 ∨ k = 3 ∨ k = 4 ∨ k = 5 ∨ k = 6 ∨ k = 7 ∨ k = 8 := by omega
    rcases this with rfl | rfl | rfl | rfl | rfl | rfl | rfl | rfl | rfl <;> simp [go_sem, ones]
  have HB : Hid (Below w.heap.size w W) := by
    show Below w.heap.size w W
    rw [hW]
    exact (Below.refl _ _).alloc (Nat.le_refl _) _
  clear hW
  go_loop [4] (fun i => ∃ k : Nat, k ≤ 9 ∧ i = .int .i64 (k : Nat) ∧ ∀ j, j < k → ones[j]?.getD 0 ≠ op) (fun i => 9 - (intOf i).toNat)
  case atStart => exact ⟨0, by omega, rfl, fun j hj => absurd hj (by omega)⟩
  case round =>
    obtain ⟨k, hk, rfl, hall⟩ := hrel
    have HA := Lib.hid hall
    clear hall
    by_cases hlt : k < 9
    · have hc := hcell.out k hlt
      obtain ⟨z, hz⟩ : ∃ z, ones[k]?.getD 0 = z := ⟨_, rfl⟩
      rw [hz] at hc
      have HZ := Lib.hid hz
      clear hz
      by_cases he : z = op
      · subst he
        go_wp2_with fail
        go_ret
        exact ⟨ret_int (argN_one z k hlt HZ.out).symm, HB.out⟩
      · have he2 : (z == op) = false := by simp [he]
        go_wp2_with fail
        refine ⟨⟨k + 1, by omega, by simp, fun j hj => ?_⟩, by simp [intOf]; omega⟩
        rcases Nat.lt_or_ge j k with h | h
        · exact HA.out j h
        · obtain rfl : j = k := by omega
          rw [HZ.out]
          exact he
    · obtain rfl : k = 9 := by omega
      go_wp2_with fail
      go_ret
      exact ⟨ret_int (argN_zero op (by omega) (by omega) h29 h30 HA.out).symm, HB.out⟩
end Go.Proofs.Ytolofgifcjkaaaa
