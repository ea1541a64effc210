/-
  What the laws' own 'parts' does: whether two slices of slices of bytes hold the same.
  Conditions: as the theorem says.
-/
import Derived.Test.YtjjfifgkklpkkaaRws
import Derived.Test.YtjjfifgkklpkkaaSme
namespace Go.Proofs.Ytjjfifgkklpkkaa
open Go.RowKit

theorem drewN_byt {S : Nat → Prop} {w : World} {A : Option Addr} {xs : List Nat} (h : Byt S w A xs) (q : Nat) : Byt S (w.drewN q) A xs := h.keep fun _ _ => rfl

theorem quiet_from {P : Program} {f : FuncId} {args : Array Value} {w : World} {q r : Nat} {v : Value}
    (h : Calls P f args (w.drewN (q + r)) fun e w' => e = .returned v ∧ ∃ m, w' = (w.drewN (q + r)).drewN m) : Calls P f args (w.drewN (q + r)) fun e w'' => e = .returned v ∧ ∃ m, w'' = w.drewN (q + m) :=
  h.mono fun _ _ ⟨he, m, hm⟩ => ⟨he, r + m, by rw [hm, World.drewN_drewN, Nat.add_assoc]⟩

set_option maxRecDepth 100000 in
set_option maxHeartbeats 1000000 in
theorem parts_any (A B : Option Addr) (n m c d : Nat) (xss yss : List (List Nat)) (w : World) (S T : Nat → Prop) (hn : xss.length = n) (hm : yss.length = m) (hA : Rws S w A xss) (hB : Rws T w B yss) (hn0 : n ≤ 1000000) (hm0 : m ≤ 1000000)
    (hx : ∀ j, j < n → (xss[j]?.getD []).length ≤ 1000000) (hy : ∀ j, j < m → (yss[j]?.getD []).length ≤ 1000000) :
    Calls Try.prog 13 #[.slice A n c, .slice B m d] w fun e w' => e = .returned (.bool (decide (xss = yss))) ∧ ∃ q, w' = w.drewN q := by
  have HN := Lib.hid hn
  have HM := Lib.hid hm
  have HA := Lib.hid hA
  have HB := Lib.hid hB
  have HX := Lib.hid hx
  have HY := Lib.hid hy
  clear hn hm hA hB hx hy
  by_cases hl : n = m
  · subst hl
    go_enter Try.func13, Try.ntmps13
    go_wp2_with fail
    go_loopw [5] (fun i wr => ∃ k q : Nat, k ≤ n ∧ i = .int .i64 (k : Nat) ∧ (∀ j, j < k → xss[j]?.getD [] = yss[j]?.getD []) ∧ wr = w.drewN q) (fun i _ => n - (intOf i).toNat)
    case atStart => exact ⟨0, 0, Nat.zero_le _, rfl, fun j hj => absurd hj (by omega), rfl⟩
    case round =>
      obtain ⟨k, q, hk, rfl, heq, rfl⟩ := hrel
      have HE := Lib.hid heq
      clear heq
      by_cases hlt : k < n
      · obtain ⟨a, A1, c1, rfl, _, ha, _, hA1⟩ := HA.out.at (k := k) (by rw [HN.out]; exact hlt)
        obtain ⟨b, B1, d1, rfl, _, hb, _, hB1⟩ := HB.out.at (k := k) (by rw [HM.out]; exact hlt)
        have hx1 := HX.out k hlt
        have hy1 := HY.out k hlt
        obtain ⟨x, hx⟩ : ∃ x, xss[k]?.getD [] = x := ⟨_, rfl⟩
        obtain ⟨y, hy⟩ : ∃ y, yss[k]?.getD [] = y := ⟨_, rfl⟩
        rw [hx] at ha hA1 hx1
        rw [hy] at hb hB1 hy1
        have HXx := Lib.hid hx
        have HYy := Lib.hid hy
        have HA1 := Lib.hid hA1
        have HB1 := Lib.hid hB1
        have k0 : 0 ≤ (k : Int) := by omega
        have k1 : (k : Int) < (n : Int) := by omega
        clear hx hy hA1 hB1
        by_cases hxy : x = y
        · have hXY := Lib.hid hxy
          clear hxy
          go_wp2_with fail
          go_quiet (first | (go_at_call 11; refine quiet_from (same_yes A1 B1 x.length y.length c1 d1 x y _ _ _ rfl rfl hXY.out (drewN_byt HA1.out _) (drewN_byt HB1.out _) (by omega))))
          go_wp2_with fail
          refine ⟨⟨k + 1, _, by omega, by simp, fun j hj => ?_, rfl⟩, by simp [intOf]; omega⟩
          rcases Nat.lt_or_ge j k with h | h
          · exact HE.out j h
          · obtain rfl : j = k := by omega
            rw [HXx.out, HYy.out]
            exact hXY.out
        · have hXY := Lib.hid hxy
          clear hxy
          go_wp2_with fail
          go_quiet (first | (go_at_call 11; refine quiet_from (same_no A1 B1 x.length y.length c1 d1 x y _ _ _ rfl rfl hXY.out (drewN_byt HA1.out _) (drewN_byt HB1.out _) (by omega) (by omega))))
          go_wp2_with fail
          go_ret
          have h3 : decide (xss = yss) = false := by
            rw [decide_eq_false_iff_not]
            rintro rfl
            exact hXY.out (HXx.out.symm.trans HYy.out)
          exact ⟨by rw [h3]; rfl, _, World.drewN_drewN _ _ _⟩
      · obtain rfl : k = n := by omega
        go_wp2_with fail
        go_ret
        have h3 : decide (xss = yss) = true := by
          rw [decide_eq_true_eq]
          refine List.ext_getElem (by rw [HN.out, HM.out]) fun j h1 h2 => ?_
          have := HE.out j (by rw [← HN.out]; exact h1)
          simpa [h1, h2] using this
        exact ⟨by rw [h3]; rfl, _, rfl⟩
  · have h3 : decide (xss = yss) = false := by
      rw [decide_eq_false_iff_not]
      rintro rfl
      exact hl (HN.out.symm.trans HM.out)
    have h1 : ((n : Int) != (m : Int)) = true := by simp; omega
    have HL := Lib.hid hl
    clear hl
    go_enter Try.func13, Try.ntmps13
    go_wp2_with fail
    go_ret
    exact ⟨by rw [h3]; rfl, 0, rfl⟩
end Go.Proofs.Ytjjfifgkklpkkaa
