/-
  What num.Var does.
  Conditions: as each theorem says.
-/
import Derived.Test.YtolofgifcjkaaaaWds
import Derived.Test.YtolofgifcjkaaaaMath
namespace Go.Proofs.Ytolofgifcjkaaaa
open Go.RowKit

theorem or128 (u : Nat) : bits .or .u8 ((u : Int) % 256) 128 = ((u % 128 + 128 : Nat) : Int) := by
  have h := u8_or_nat (u % 256) 128 (by omega) (by omega)
  have h3 : (u % 256) ||| 128 = u % 128 + 128 := by
    have e : u % 256 = u % 128 ∨ u % 256 = 128 + u % 128 := by omega
    have j : 128 ||| u % 128 = 128 + u % 128 := nat_join 7 128 (u % 128) (by omega) (by omega)
    rcases e with e | e
    · rw [e, Nat.or_comm, j]; omega
    · rw [e, ← j, Nat.or_assoc, Nat.or_comm (u % 128), ← Nat.or_assoc, Nat.or_self, j]; omega
  rw [h3] at h
  rw [← h]
  congr 1

set_option maxHeartbeats 1000000 in
theorem var_any (v : Nat) (w : World) (hv : v < B64) :
    Calls Try.prog 18 #[.int .u64 (v : Nat)] w fun e w' => ∃ u, e = .returned u ∧ w'.ownsRow w.heap.size 5 1 u (vb v).length (Bs (vb v)) ∧ Below w.heap.size w w' := by
  have HV0 := hv
  go_enter Try.func18, Try.ntmps18
  go_wp2
  go_loopw [0, 3] (fun x o wr => ∃ (u : Nat) (pre : List Nat), x = .int .u64 (u : Nat) ∧ wr.ownsRow w.heap.size 5 1 o pre.length (Bs pre) ∧ vb v = pre ++ vb u ∧ u < B64 ∧ Below w.heap.size w wr) (fun x _ _ => (intOf x).toNat)
  case atStart => exact ⟨v, [], rfl, World.ownsRow_nil _ _ _ _, by simp, hv, Below.refl _ _⟩
  case round =>
    obtain ⟨u, pre, rfl, hown, hvb, hu, hbel⟩ := hrel
    have HV := Lib.hid hvb
    have HO := Lib.hid hown
    have HU := Lib.hid hu
    clear hvb hown hu hv
    have hlen : pre.length + (vb u).length ≤ 10 := by
      have h1 := vb_len 9 v (by unfold B64 at HV0; omega)
      rw [HV.out] at h1
      simpa using h1
    have hpos := vb_pos u
    by_cases hlt : u < 128
    · have h1 : (decide ((128 : Int) ≤ (u : Int))) = false := by simp; omega
      go_wp2_with (at_builtin
                   refine walk_append _ rfl (.tmp 14) (.tmp 17) rfl w.heap.size u3 pre.length pre rfl (HO.out.alloc _) (some ⟨wr.heap.size, 0, none⟩) 1 1 [u] rfl rfl (· = wr.heap.size) (byt_one wr _ u rfl) (by omega) (by have := hbel.size; simp; omega) ?_
                   intro v1 w1 hown1 hg1 _)
      go_ret
      refine ⟨v1, rfl, ?_, (hbel.alloc hbel.size _).grown hg1 (by have := hbel.size; simp; omega) (fun k hk => (HO.out.lt k hk).1)⟩
      rw [HV.out, vb_small u hlt]
      simpa using hown1
    · have h1 : (decide ((128 : Int) ≤ (u : Int))) = true := by simp; omega
      go_wp2_with (at_builtin
                   refine walk_append _ rfl (.tmp 6) (.tmp 10) rfl w.heap.size u3 pre.length pre rfl (HO.out.alloc _) (some ⟨wr.heap.size, 0, none⟩) 1 1 [u % 128 + 128] rfl rfl (· = wr.heap.size) (byt_one wr _ (u % 128 + 128) (or128 u)) (by omega) (by have := hbel.size; simp; omega) ?_
                   intro v1 w1 hown1 hg1 _)
      go_roundw
      case rel =>
        refine ⟨u / 128, pre ++ [u % 128 + 128], by simp, by simpa using hown1, ?_, by have := HU.out; omega, (hbel.alloc hbel.size _).grown hg1 (by have := hbel.size; simp; omega) (fun k hk => (HO.out.lt k hk).1)⟩
        rw [HV.out, vb_big u hlt]
        simp
      case measure => simp [intOf]; omega
end Go.Proofs.Ytolofgifcjkaaaa
