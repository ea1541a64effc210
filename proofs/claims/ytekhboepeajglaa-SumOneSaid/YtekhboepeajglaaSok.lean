/-
  What is asked of package sum, and that the call that every law of layer 2 makes ('answers') hands back true then.
  Conditions: that the three calls of package sum do what 'SumOK' says.
-/
import Derived.Test.YtekhboepeajglaaRsm
import Derived.Test.YtekhboepeajglaaSme
import Derived.Lib.SlBytesConst
namespace Go.Proofs.Ytekhboepeajglaa
open Go.RowKit

/-- What Of, Seal and Open do, whatever bytes they are handed. -/
structure SumOK : Prop where
  of : ∀ (A : Option Addr) (n c : Nat) (xs : List Nat) (w : World), xs.length = n → (∀ x ∈ xs, x < 256) → Byt (· < w.heap.size) w A xs → n ≤ 1000000 → n ≤ c →
    Calls Try.prog 11 #[.slice A n c] w fun e w' => e = .returned (.int .u32 ((crc xs : Nat) : Int)) ∧ Below w.heap.size w w'
  put : ∀ (A : Option Addr) (n c : Nat) (xs : List Nat) (w : World), xs.length = n → (∀ x ∈ xs, x < 256) → Byt (· < w.heap.size) w A xs → n ≤ 1000000 → n ≤ c →
    Calls Try.prog 9 #[.slice A n c] w fun e w' => ∃ A' c', e = .returned (.slice A' (n + 4) c') ∧ n + 4 ≤ c' ∧ Byt (· < w'.heap.size) w' A' (sealB xs) ∧ Below w.heap.size w w'
  yes : ∀ (A : Option Addr) (n c : Nat) (xs : List Nat) (w : World), xs.length = n → (∀ x ∈ xs, x < 256) → Byt (· < w.heap.size) w A (sealB xs) → n ≤ 1000000 → n + 4 ≤ c →
    Calls Try.prog 10 #[.slice A (n + 4) c] w fun e w' => ∃ A' c', e = .returned (.tuple #[.slice A' n c', .int .i64 0]) ∧ n ≤ c' ∧ Byt (· < w'.heap.size) w' A' xs ∧ Below w.heap.size w w'
  no : ∀ (A : Option Addr) (n c : Nat) (xs : List Nat) (w : World), xs.length = n → (∀ x ∈ xs, x < 256) → Byt (· < w.heap.size) w A xs → n ≤ 1000000 → n ≤ c → (¬ ∃ m, xs = sealB m) →
    Calls Try.prog 10 #[.slice A n c] w fun e w' => ∃ A' c', e = .returned (.tuple #[.slice A' 0 c', .int .i64 3]) ∧ Below w.heap.size w w'

def digits : List Nat := [49, 50, 51, 52, 53, 54, 55, 56, 57]
theorem crc_digits : crc digits = 3421780262 := by decide +kernel

theorem byt_digits (w : World) : Byt (· < (w.alloc (.cells #[.int .u8 49, .int .u8 50, .int .u8 51, .int .u8 52, .int .u8 53, .int .u8 54, .int .u8 55, .int .u8 56, .int .u8 57] 5 (9, 10))).heap.size)
    (w.alloc (.cells #[.int .u8 49, .int .u8 50, .int .u8 51, .int .u8 52, .int .u8 53, .int .u8 54, .int .u8 55, .int .u8 56, .int .u8 57] 5 (9, 10))) (some ⟨w.heap.size, 0, none⟩) digits := fun _ =>
  ⟨_, rfl, by simp, fun j hj => by
    have e : (⟨w.heap.size, 0, none⟩ : Addr).add j = ⟨w.heap.size, j, none⟩ := by unfold Addr.add; split <;> simp_all
    rw [e, World.cell?_alloc_mark]
    have : j = 0 ∨ j = 1 ∨ j = 2 ∨ j = 3 ∨ j = 4 ∨ j = 5 ∨ j = 6 ∨ j = 7 ∨ j = 8 := by simp [digits] at hj; omega
    rcases this with rfl | rfl | rfl | rfl | rfl | rfl | rfl | rfl | rfl <;> rfl⟩

set_option maxRecDepth 100000 in
set_option maxHeartbeats 1000000 in
theorem answers2 (H : SumOK) (w : World) : Calls Try.prog 8 #[] w fun e w' => e = .returned (.bool true) ∧ Below w.heap.size w w' := by
  have HH := Lib.hid H
  clear H
  have kc := fun (w : World) (C : Array Value) (n c : Nat) => Lib.run_convert_bytes_const (P := Try.prog) w 22 5 C n c Try.underlying22 Try.underlying5
  go_enter Try.func8, Try.ntmps8
  go_wp2_with fail
  refine (HH.out.of _ 9 9 digits _ rfl (by simp [digits]) (byt_digits w) (by omega) (Nat.le_refl _)).mono ?_
  rintro e w1 ⟨he, hb1⟩
  rw [crc_digits] at he
  subst he
  have hs1 := hb1.size
  have hb01 : Below w.heap.size w w1 := ((Below.refl _ w).alloc (Nat.le_refl _) _).trans (hb1.mono (by simp))
  clear kc
  go_wp2_with fail
  refine (HH.out.put none 0 0 [] w1 rfl (by simp) (Byt.nil _ _ _) (by omega) (Nat.le_refl _)).mono ?_
  rintro e w2 ⟨A2, c2, rfl, -, -, hb2⟩
  go_wp2
  go_ret
  exact ⟨rfl, hb01.trans (hb2.mono hb01.size)⟩
end Go.Proofs.Ytekhboepeajglaa
