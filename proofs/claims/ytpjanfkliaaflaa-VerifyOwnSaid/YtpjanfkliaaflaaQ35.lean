/-
  Vsm
-/
import Derived.Test.YtpjanfkliaaflaaQ10
import Derived.Test.YtpjanfkliaaflaaQ33
import Derived.BigQuiet
import Derived.Deep.RegionWith
set_option linter.unusedSimpArgs false
set_option linter.unusedVariables false
namespace Go.Proofs.Ytpjanfkliaaflaa
open Go.RowKit

theorem quiet_at9 {P : Program} {f : FuncId} {args : Array Value} {w : World} {q r : Nat} {v : Value}
    (h : Calls P f args (w.drewN (q + r)) fun e w' => e = .returned v ∧ ∃ m, w' = (w.drewN (q + r)).drewN m) : Calls P f args (w.drewN (q + r)) fun e w'' => e = .returned v ∧ ∃ n, w'' = w.drewN (q + n) :=
  h.mono fun _ _ ⟨he, m, hm⟩ => ⟨he, r + m, by rw [hm, World.drewN_drewN, Nat.add_assoc]⟩

set_option maxRecDepth 100000 in
set_option maxHeartbeats 4000000 in
theorem rsame_same (A B : Option Addr) (n c d : Nat) (L : List (List Shape)) (w : World) (S T : Nat → Prop) (hl : L.length = n) (h : Sq rowL S w A L) (h' : Sq rowL T w B L) (hn : n ≤ 1000) :
    Calls Try.prog 11 #[.slice A n c, .slice B n d] w fun e w' => e = .returned (.bool true) ∧ ∃ q, w' = w.drewN q := by
  have HL := Lib.hid hl
  have HS := Lib.hid h
  have HT := Lib.hid h'
  have TT := Lib.hid refTypes_any
  clear hl h h'
  go_enter Try.func11, Try.ntmps11
  go_wp2_with fail
  go_loopw [5] (fun i wr => ∃ k q : Nat, k ≤ n ∧ i = .int .i64 (k : Nat) ∧ wr = w.drewN q) (fun i _ => n - (intOf i).toNat)
  case atStart => exact ⟨0, 0, Nat.zero_le _, rfl, rfl⟩
  case round =>
    obtain ⟨k, q, hk, rfl, rfl⟩ := hrel
    by_cases hlt : k < n
    · obtain ⟨l, hx⟩ : ∃ l, L[k]? = some l := ⟨L[k]'(by rw [HL.out]; exact hlt), List.getElem?_eq_getElem _⟩
      obtain ⟨a, D, e, rfl, -, hc0, hle, hcm, hsq⟩ := row_at HS.out hx
      obtain ⟨b, G, g, rfl, -, hd0, hle2, hcm2, hsq2⟩ := row_at HT.out hx
      obtain ⟨m, hm⟩ : ∃ m, l.length = m := ⟨_, rfl⟩
      rw [hm] at hc0 hd0 hle hle2
      have HM := Lib.hid hm
      have HQ := Lib.hid hsq
      have HQ2 := Lib.hid hsq2
      have hm63 : m ≤ 9223372036854775807 := by unfold maxLen at hcm; omega
      have k0 : (0 : Int) ≤ (k : Int) := by omega
      have k1 : (k : Int) < (n : Int) := by omega
      clear hm hsq hsq2 hx hcm hcm2
      go_wp2_with fail
      go_quiet (fail)
      go_wp2_with fail
      go_loopw [6] (fun i wr => ∃ j q : Nat, j ≤ m ∧ i = .int .i64 (j : Nat) ∧ wr = w.drewN q) (fun i _ => m - (intOf i).toNat)
      case atStart => exact ⟨0, _, Nat.zero_le _, rfl, World.drewN_drewN _ _ _⟩
      case round =>
        obtain ⟨j, q2, hj, rfl, rfl⟩ := hrel
        by_cases hltj : j < m
        · obtain ⟨⟨sb, s⟩, hy⟩ : ∃ y, l[j]? = some y := ⟨l[j]'(by rw [HM.out]; exact hltj), List.getElem?_eq_getElem _⟩
          obtain ⟨a2, D2, e2, rfl, -, x0, x1, hz0, hz1, -, hs1⟩ := shp_at HQ.out hy
          obtain ⟨b2, G2, g2, rfl, -, y0, y1, -, hz2, -, hs2⟩ := shp_at HQ2.out hy
          simp only at x0 x1 y0 y1 hs1 hs2
          have hl2 : s.length ≤ 9223372036854775807 := by unfold maxLen at hz1; simp only at hz0; omega
          have hsb : (sb != sb) = false := by simp
          have TC : Hid (∀ q, Calls Try.prog 18 #[.slice D2 s.length e2, .slice G2 s.length g2] (w.drewN q) fun e w' => e = .returned (.bool true) ∧ ∃ m, w' = (w.drewN q).drewN m) := fun q => by
            have := TT.out D2 G2 s.length s.length e2 g2 s s (w.drewN q) S T rfl rfl (hs1.keep fun _ _ => rfl) (hs2.keep fun _ _ => rfl) hl2 hl2
            rwa [eqB_self] at this
          obtain ⟨ns, hns⟩ : ∃ ns, s.length = ns := ⟨_, rfl⟩
          rw [hns] at x1 y1 TC
          have j0 : (0 : Int) ≤ (j : Int) := by omega
          have j1 : (j : Int) < (m : Int) := by omega
          clear hs1 hs2 hl2 hns hy
          go_wp2_with fail
          go_quiet (first | (go_at_call 18; refine quiet_at9 (TC.out _)))
          go_wp2_with fail
          exact ⟨⟨j + 1, _, by omega, by simp, rfl⟩, by simp [intOf]; omega⟩
        · obtain rfl : j = m := by omega
          go_wp2_with fail
          exact ⟨⟨k + 1, _, by omega, by simp, rfl⟩, by simp [intOf]; omega⟩
    · obtain rfl : k = n := by omega
      go_wp2_with fail
      go_ret
      exact ⟨rfl, _, rfl⟩
end Go.Proofs.Ytpjanfkliaaflaa
