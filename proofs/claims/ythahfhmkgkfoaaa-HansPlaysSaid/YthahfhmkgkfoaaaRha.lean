/-
  What the document's Hans does: whether two lists of handles are the same.
  Conditions: as the theorem says.
-/
import Derived.Test.YthahfhmkgkfoaaaHn
import Derived.BigQuiet
namespace Go.Proofs.Ythahfhmkgkfoaaa
open Go.RowKit
set_option linter.unusedSimpArgs false
set_option linter.unusedVariables false

set_option maxRecDepth 100000 in
set_option maxHeartbeats 1000000 in
theorem rhans_any (A B : Option Addr) (n m c d : Nat) (xs ys : List Hnd) (w : World) (S T : Nat → Prop) (hl : xs.length = n) (hm : ys.length = m) (h : Sq hdL S w A xs) (h' : Sq hdL T w B ys) (hn2 : n ≤ 9223372036854775807) (hm2 : m ≤ 9223372036854775807) :
    Calls Try.prog 12 #[.slice A n c, .slice B m d] w fun e w' => e = .returned (.bool (decide (xs = ys))) ∧ ∃ q, w' = w.drewN q := by
  have HL := Lib.hid hl
  have HM := Lib.hid hm
  have HS := Lib.hid h
  have HT := Lib.hid h'
  clear hl hm h h'
  by_cases hnm : n = m
  · subst hnm
    go_enter Try.func12, Try.ntmps12
    go_wp2_with fail
    go_loopw [5] (fun i wr => ∃ k q : Nat, k ≤ n ∧ i = .int .i64 (k : Nat) ∧ xs.take k = ys.take k ∧ wr = w.drewN q) (fun i _ => n - (intOf i).toNat)
    case atStart => exact ⟨0, 0, Nat.zero_le _, rfl, by simp, rfl⟩
    case round =>
      obtain ⟨k, q, hk, rfl, heq, rfl⟩ := hrel
      have HE := Lib.hid heq
      clear heq
      by_cases hlt : k < n
      · obtain ⟨x, hx⟩ : ∃ x, xs[k]? = some x := ⟨xs[k]'(by rw [HL.out]; exact hlt), List.getElem?_eq_getElem _⟩
        obtain ⟨y, hy⟩ : ∃ y, ys[k]? = some y := ⟨ys[k]'(by rw [HM.out]; exact hlt), List.getElem?_eq_getElem _⟩
        obtain ⟨a, cs, rfl, hab, hc, hr⟩ := HS.out.at hx
        obtain ⟨b, cs2, rfl, hbb, hc2, hr2⟩ := HT.out.at hy
        have HX := Lib.hid hx
        have HY := Lib.hid hy
        clear hx hy
        obtain ⟨rfl, -, -⟩ := hr
        obtain ⟨rfl, -, -⟩ := hr2
        have c0 := hc 0 _ rfl
        rw [show k * hdL.k + 0 = k * 3 from rfl] at c0
        have c1 := hc 1 _ rfl
        rw [show k * hdL.k + 1 = k * 3 + 1 from rfl, next_cell a (k * 3) 1 (by omega)] at c1
        have c2 := hc 2 _ rfl
        rw [show k * hdL.k + 2 = k * 3 + 2 from rfl, next_cell a (k * 3) 2 (by omega)] at c2
        have e0 := hc2 0 _ rfl
        rw [show k * hdL.k + 0 = k * 3 from rfl] at e0
        have e1 := hc2 1 _ rfl
        rw [show k * hdL.k + 1 = k * 3 + 1 from rfl, next_cell b (k * 3) 1 (by omega)] at e1
        have e2 := hc2 2 _ rfl
        rw [show k * hdL.k + 2 = k * 3 + 2 from rfl, next_cell b (k * 3) 2 (by omega)] at e2
        clear hc hc2
        have k0 : 0 ≤ (k : Int) := by omega
        have k1 : (k : Int) < (n : Int) := by omega
        by_cases hxy : x = y
        · subst hxy
          go_wp2_with fail
          go_quiet (fail)
          go_wp2_with fail
          refine ⟨⟨k + 1, _, by omega, by simp, take_same HE.out HX.out HY.out rfl, rfl⟩, by simp [intOf]; omega⟩
        · have HXY := Lib.hid hxy
          have hout : Hid (xs ≠ ys) := get_ne HX.out HY.out hxy
          clear hxy
          obtain ⟨x0, x1, x2⟩ := x
          obtain ⟨y0, y1, y2⟩ := y
          have HNE : Hid (¬ (x0 = y0 ∧ x1 = y1 ∧ x2 = y2)) := fun ⟨h0, h1, h2⟩ => HXY.out (by rw [h0, h1, h2])
          clear HXY HX HY
          simp only [hdC] at *
          by_cases g0 : x0 = y0
          · by_cases g1 : x1 = y1
            · have g2 : ¬ x2 = y2 := fun h => HNE.out ⟨g0, g1, h⟩
              have b0 : (x0 == y0) = true := by simpa using g0
              have b1 : ((x1 : Int) == (y1 : Int)) = true := by simp; omega
              have b2 : (x2 == y2) = false := by simpa using g2
              clear g0 g1 g2
              go_wp2_with fail
              go_quiet (fail)
              go_wp2_with fail
              go_ret
              exact ⟨by rw [decide_eq_false hout.out]; rfl, _, World.drewN_drewN _ _ _⟩
            · have b0 : (x0 == y0) = true := by simpa using g0
              have b1 : ((x1 : Int) == (y1 : Int)) = false := by simp; omega
              clear g0 g1
              go_wp2_with fail
              go_quiet (fail)
              go_wp2_with fail
              go_ret
              exact ⟨by rw [decide_eq_false hout.out]; rfl, _, World.drewN_drewN _ _ _⟩
          · have b0 : (x0 == y0) = false := by simpa using g0
            clear g0
            go_wp2_with fail
            go_quiet (fail)
            go_wp2_with fail
            go_ret
            exact ⟨by rw [decide_eq_false hout.out]; rfl, _, World.drewN_drewN _ _ _⟩
      · obtain rfl : k = n := by omega
        go_wp2_with fail
        go_ret
        refine ⟨?_, _, rfl⟩
        have e := HE.out
        rw [List.take_of_length_le (by rw [HL.out]; exact Nat.le_refl _), List.take_of_length_le (by rw [HM.out]; exact Nat.le_refl _)] at e
        rw [decide_eq_true e]
        rfl
  · have h1 : ((n : Int) != (m : Int)) = true := by simp; omega
    have h2 : (n != m) = true := by simpa using hnm
    have HNM := Lib.hid hnm
    clear hnm
    go_enter Try.func12, Try.ntmps12
    go_wp2_with fail
    go_ret
    refine ⟨?_, 0, rfl⟩
    rw [decide_eq_false (fun e => HNM.out (by rw [← HL.out, ← HM.out, e]))]
    rfl
end Go.Proofs.Ythahfhmkgkfoaaa
