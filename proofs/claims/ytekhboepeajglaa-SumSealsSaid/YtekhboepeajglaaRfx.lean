/-
  What the document's Fixed does: the lowest bytes of a number.
  Conditions: as each theorem says.
-/
import Derived.Test.YtekhboepeajglaaWds
import Derived.Test.YtekhboepeajglaaLe
import Derived.Test.YtekhboepeajglaaMath
namespace Go.Proofs.Ytekhboepeajglaa
open Go.RowKit
set_option maxHeartbeats 1000000 in
theorem refFixed_any (v : Nat) (n : Int) (w : World) (hv : v < B64) :
    Calls Try.prog 21 #[.int .u64 (v : Nat), .int .i64 n] w fun e w' => ∃ u, e = .returned u ∧ w'.ownsRow w.heap.size 5 1 u (wid n) (Bs (fb v (wid n))) ∧ Below w.heap.size w w' := by
  go_enter Try.func21, Try.ntmps21
  go_wp2
  go_loopw [0, 5, 6] (fun x o i wr => ∃ k : Nat, k ≤ wid n ∧ x = .int .u64 ((v / 256 ^ k : Nat) : Int) ∧ i = .int .i64 (k : Nat) ∧ wr.ownsRow w.heap.size 5 1 o k (Bs (fb v k)) ∧ Below w.heap.size w wr) (fun _ _ i _ => 8 - (intOf i).toNat)
  case atStart => exact ⟨0, Nat.zero_le _, by simp, rfl, World.ownsRow_nil _ _ _ _, Below.refl _ _⟩
  case round =>
    obtain ⟨k, hk, rfl, rfl, hown, hbel⟩ := hrel
    have hw8 := wid_le n
    have hvk : v / 256 ^ k < B64 := Nat.lt_of_le_of_lt (Nat.div_le_self _ _) hv
    obtain ⟨u, hu⟩ : ∃ u, v / 256 ^ k = u := ⟨_, rfl⟩
    rw [hu] at hvk ⊢
    have HU := Lib.hid hu
    have HO := Lib.hid hown
    have HV := Lib.hid hvk
    clear hu hown hvk hv
    have hs := hbel.size
    by_cases hlt : k < wid n
    · have t1 : decide ((k : Int) < n) = true := by unfold wid at hlt; simp; omega
      have t2 : decide ((k : Int) < 8) = true := by simp; omega
      have t3 : k < 8 := by omega
      go_wp2_with (at_builtin
                   refine walk_append _ rfl (.tmp 16) (.tmp 20) rfl w.heap.size u5 k (fb v k) rfl (HO.out.alloc _) (some ⟨wr.heap.size, 0, none⟩) 1 1 [u % 256] rfl rfl (· = wr.heap.size) (byt_one wr _ (u % 256) (by first | rfl | omega | simp)) (by omega) (by simp; omega) ?_
                   intro v1 w1 hown1 hg1 _)
      refine ⟨⟨k + 1, hlt, ?_, by simp, ?_, (hbel.alloc hs _).grown hg1 (by simp; omega) (fun j hj => (HO.out.lt j hj).1)⟩, by simp [intOf]; omega⟩
      · have e : v / 256 ^ (k + 1) = u / 256 := by rw [Nat.pow_succ, ← Nat.div_div_eq_div_mul, HU.out]
        have h := HV.out
        unfold B64 at h
        rw [e, IntKind.wrap_u64]
        congr 1
        omega
      · rw [fb_succ, HU.out]
        exact hown1
    · obtain rfl : k = wid n := by omega
      by_cases hn : ((wid n : Nat) : Int) < n
      · have t1 : decide (((wid n : Nat) : Int) < n) = true := by simpa using hn
        have t2 : decide (((wid n : Nat) : Int) < 8) = false := by unfold wid at hn ⊢; simp; omega
        have t3 : ¬ wid n < 8 := by unfold wid at hn ⊢; omega
        go_wp2
        go_ret
        exact ⟨_, rfl, HO.out, hbel⟩
      · have t1 : decide (((wid n : Nat) : Int) < n) = false := by simpa using hn
        go_wp2
        go_ret
        exact ⟨_, rfl, HO.out, hbel⟩
end Go.Proofs.Ytekhboepeajglaa
