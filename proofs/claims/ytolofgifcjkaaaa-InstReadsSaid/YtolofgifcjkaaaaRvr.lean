/-
  What the document's Var does.
  Conditions: as each theorem says.
-/
import Derived.Test.YtolofgifcjkaaaaWds
import Derived.Test.YtolofgifcjkaaaaMath
namespace Go.Proofs.Ytolofgifcjkaaaa
open Go.RowKit

set_option maxHeartbeats 1000000 in
theorem refVar_any (v : Nat) : ∀ (w : World), v < B64 →
    Calls Try.prog 19 #[.int .u64 (v : Nat)] w fun e w' => ∃ u, e = .returned u ∧ w'.ownsRow w.heap.size 5 1 u (vb v).length (Bs (vb v)) ∧ Below w.heap.size w w' := by
  induction v using Nat.strongRecOn with
  | _ v ih =>
    intro w hv
    by_cases hlt : v < 128
    · have h1 : decide ((v : Int) < 128) = true := by simp; omega
      clear ih
      go_enter Try.func19, Try.ntmps19
      go_wp2
      go_ret
      refine ⟨_, rfl, ?_, (Below.refl _ w).alloc (Nat.le_refl _) _⟩
      rw [vb_small v hlt]
      exact own_one w _ v rfl
    · have h1 : decide ((v : Int) < 128) = false := by simp; omega
      have IH := Lib.hid (fun w' => ih (v / 128) (by omega) w' (by omega))
      have HV := Lib.hid hv
      clear ih hv
      go_enter Try.func19, Try.ntmps19
      go_wp2_with fail
      have e1 : IntKind.u64.wrap ((v : Int) / 128) = ((v / 128 : Nat) : Int) := by have := HV.out; unfold B64 at this; rw [IntKind.wrap_u64]; omega
      rw [e1]
      clear e1
      refine (IH.out _).mono ?_
      rintro e w2 ⟨u, rfl, hown, hbel⟩
      obtain ⟨A, c, rfl, hl, hlc, hcm, hB⟩ := own_slice hown
      have hlen : (vb (v / 128)).length ≤ 10 := vb_len 9 _ (by have := HV.out; unfold B64 at this; omega)
      have HB := Lib.hid hB
      have hsz := hbel.size
      have HO := Lib.hid (own_below (own_one w (128 + (v : Int) % 128) (v % 128 + 128) (by omega)) hbel (Nat.le_refl _))
      simp at hsz
      clear hown hl hB
      go_wp2_with (at_builtin
                   refine walk_append _ rfl (.tmp 12) (.tmp 15) rfl w.heap.size (.slice (some ⟨w.heap.size, 0, none⟩) 1 1) 1 [v % 128 + 128] rfl HO.out A _ c (vb (v / 128)) rfl rfl _ HB.out (by omega) (by omega) ?_
                   intro v1 w1 hown1 hg1 _)
      go_ret
      refine ⟨v1, rfl, ?_, ?_⟩
      · rw [vb_big v hlt]
        have e : (vb (v / 128)).length + 1 = 1 + (vb (v / 128)).length := by omega
        rw [List.length_cons, e]
        exact hown1
      · refine (((Below.refl _ w).alloc (Nat.le_refl _) _).trans (hbel.mono (by simp))).grown hg1 (by omega) (fun k hk => ?_)
        simp [Value.ownBlock] at hk
        omega

theorem nat_u64 (a : Int) (h : (Lit.int .u64 a).wf = true) : ∃ v : Nat, a = (v : Int) ∧ v < B64 := by
  obtain ⟨h1, h2⟩ := bounds_u64 h
  exact ⟨a.toNat, by omega, by unfold B64; omega⟩

theorem nat_u8 (a : Int) (h : (Lit.int .u8 a).wf = true) : ∃ v : Nat, a = (v : Int) ∧ v < 256 := by
  obtain ⟨h1, h2⟩ := bounds_u8 h
  exact ⟨a.toNat, by omega, by omega⟩
end Go.Proofs.Ytolofgifcjkaaaa
