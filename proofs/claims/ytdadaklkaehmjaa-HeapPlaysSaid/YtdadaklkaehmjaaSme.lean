/-
  What the document's Same does.
  Conditions: as each theorem says.
-/
import Derived.Test.YtdadaklkaehmjaaWds
import Derived.Deep.QuietTactic
import Derived.BigQuiet
namespace Go.Proofs.Ytdadaklkaehmjaa
open Go.RowKit
/-- Same: whether two rows of bytes are the same. -/
def sameB (xs ys : List Nat) : Bool := decide (xs = ys)

set_option maxHeartbeats 1000000 in
theorem same_any (A B : Option Addr) (c d : Nat) (xs ys : List Nat) (w : World) (S T : Nat → Prop) (hA : Byt S w A xs) (hB : Byt T w B ys) (hx : xs.length ≤ 140737488355328) (hy : ys.length ≤ 140737488355328) :
    Calls Try.prog 29 #[.slice A xs.length c, .slice B ys.length d] w fun e w' => e = .returned (.bool (sameB xs ys)) ∧ ∃ n, w' = w.drewN n := by
  have HA := Lib.hid hA
  have HB := Lib.hid hB
  clear hA hB
  by_cases hl : xs.length = ys.length
  · have HL := Lib.hid hl
    have h1 : ((xs.length : Int) != (ys.length : Int)) = false := by simp; omega
    have h2 : ((xs.length) != (ys.length)) = false := by simp; omega
    clear hl
    go_enter Try.func29, Try.ntmps29
    go_wp2_with fail
    go_loopw [5] (fun i wr => ∃ k n : Nat, k ≤ xs.length ∧ i = .int .i64 (k : Nat) ∧ (∀ j, j < k → xs[j]?.getD 0 = ys[j]?.getD 0) ∧ wr = w.drewN n) (fun i _ => xs.length - (intOf i).toNat)
    case atStart => exact ⟨0, 0, Nat.zero_le _, rfl, fun j hj => absurd hj (by omega), rfl⟩
    case round =>
      obtain ⟨k, n, hk, rfl, heq, rfl⟩ := hrel
      have HE := Lib.hid heq
      clear heq
      by_cases hlt : k < xs.length
      · have hlt2 : k < ys.length := by have := HL.out; omega
        obtain ⟨a, rfl, _, ha⟩ := HA.out.at (k := k) hlt
        obtain ⟨b, rfl, _, hb⟩ := HB.out.at (k := k) hlt2
        obtain ⟨x, hx⟩ : ∃ x, xs[k]?.getD 0 = x := ⟨_, rfl⟩
        obtain ⟨y, hy⟩ : ∃ y, ys[k]?.getD 0 = y := ⟨_, rfl⟩
        rw [hx] at ha
        rw [hy] at hb
        have HX := Lib.hid hx
        have HY := Lib.hid hy
        have k0 : 0 ≤ (k : Int) := by omega
        have k1 : (k : Int) < (xs.length : Int) := by omega
        have k2 : (k : Int) < (ys.length : Int) := by omega
        clear hx hy
        by_cases hxy : x = y
        · have t1 : ((x : Int) != (y : Int)) = false := by simp; omega
          have hXY := Lib.hid hxy
          clear hxy
          go_wp2
          go_quiet (fail)
          go_wp2
          refine ⟨⟨k + 1, _, by omega, by simp, fun j hj => ?_, rfl⟩, by simp [intOf]; omega⟩
          rcases Nat.lt_or_ge j k with h | h
          · exact HE.out j h
          · obtain rfl : j = k := by omega
            rw [HX.out, HY.out]
            exact hXY.out
        · have t1 : ((x : Int) != (y : Int)) = true := by simp; omega
          have hXY := Lib.hid hxy
          clear hxy
          go_wp2
          go_quiet (fail)
          go_wp2
          go_ret
          have h3 : sameB xs ys = false := by
            simp only [sameB, decide_eq_false_iff_not]
            rintro rfl
            exact hXY.out (HX.out.symm.trans HY.out)
          exact ⟨by rw [h3]; rfl, _, World.drewN_drewN _ _ _⟩
      · go_wp2
        go_ret
        have h3 : sameB xs ys = true := by
          simp only [sameB, decide_eq_true_eq]
          refine List.ext_getElem HL.out fun j h1 h2 => ?_
          have := HE.out j (by omega)
          simpa [h1, h2] using this
        exact ⟨by rw [h3]; rfl, _, rfl⟩
  · have h1 : ((xs.length : Int) != (ys.length : Int)) = true := by simp; omega
    have h2 : ((xs.length) != (ys.length)) = true := by simp; omega
    have h3 : sameB xs ys = false := by
      simp only [sameB, decide_eq_false_iff_not]
      rintro rfl
      exact hl rfl
    have HL := Lib.hid hl
    clear hl
    go_enter Try.func29, Try.ntmps29
    go_wp2
    go_ret
    exact ⟨by rw [h3]; rfl, 0, rfl⟩

theorem same_yes (A B : Option Addr) (n m c d : Nat) (xs ys : List Nat) (w : World) (S T : Nat → Prop) (hn : xs.length = n) (hm : ys.length = m) (he : xs = ys) (hA : Byt S w A xs) (hB : Byt T w B ys) (hx : n ≤ 140737488355328) :
    Calls Try.prog 29 #[.slice A n c, .slice B m d] w fun e w' => e = .returned (.bool true) ∧ ∃ q, w' = w.drewN q := by
  subst he hn hm
  refine (same_any A B c d xs xs w S T hA hB hx hx).mono ?_
  rintro e w' ⟨rfl, h⟩
  exact ⟨by simp [sameB], h⟩

theorem same_no (A B : Option Addr) (n m c d : Nat) (xs ys : List Nat) (w : World) (S T : Nat → Prop) (hn : xs.length = n) (hm : ys.length = m) (he : ¬ xs = ys) (hA : Byt S w A xs) (hB : Byt T w B ys) (hx : n ≤ 140737488355328) (hy : m ≤ 140737488355328) :
    Calls Try.prog 29 #[.slice A n c, .slice B m d] w fun e w' => e = .returned (.bool false) ∧ ∃ q, w' = w.drewN q := by
  subst hn hm
  refine (same_any A B c d xs ys w S T hA hB hx hy).mono ?_
  rintro e w' ⟨rfl, h⟩
  exact ⟨by simp [sameB, he], h⟩
end Go.Proofs.Ytdadaklkaehmjaa
