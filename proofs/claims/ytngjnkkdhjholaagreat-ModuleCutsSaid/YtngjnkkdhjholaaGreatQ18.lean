/-
  What slices.Equal does over elements of one kind (chrysalis/api.Type): whether two lists are the same. Conditions: as the theorem says.
  What slices.Equal does over elements of one kind (chrysalis/api.Instr): whether two lists are the same. Conditions: as the theorem says.
  What slices.Equal does over elements of one kind (uint64): whether two lists are the same. Conditions: as the theorem says.
  What slices.Equal does over elements of one kind (string): whether two lists are the same. Conditions: as the theorem says.
  What slices.EqualFunc does over elements of one kind ([]chrysalis/api.Type): whether two lists are the same, by module's test. Conditions: as the theorem says.
  What slices.EqualFunc does over elements of one kind (chrysalis/api.Func): whether two lists are the same, by module's test. Conditions: as the theorem says.
  What slices.EqualFunc does over elements of one kind (chrysalis/api.Import): whether two lists are the same, by module's test. Conditions: as the theorem says.
  What module's sameTypes, sameFunction, sameImport and Same do: whether two are the same. Conditions: none but that there are such.
-/
import Derived.Test.YtngjnkkdhjholaaGreatQ03
import Derived.BigQuiet
import Derived.Laws.Strings
namespace Go.Proofs.YtngjnkkdhjholaaGreat
open Go.RowKit
set_option linter.unusedSimpArgs false
set_option linter.unusedVariables false

set_option maxRecDepth 100000 in
set_option maxHeartbeats 1000000 in
theorem equal_typ (A B : Option Addr) (n m c d : Nat) (xs ys : List Typ) (w : World) (S T : Nat → Prop) (hl : xs.length = n) (hm : ys.length = m) (h : Sq typL S w A xs) (h' : Sq typL T w B ys) (hn2 : n ≤ 9223372036854775807) (hm2 : m ≤ 9223372036854775807) :
    Calls Tryz.prog 91 #[.slice A n c, .slice B m d] w fun e w' => e = .returned (.bool (eqB xs ys)) ∧ ∃ q, w' = w.drewN q := by
  have HL := Lib.hid hl
  have HM := Lib.hid hm
  have HS := Lib.hid h
  have HT := Lib.hid h'
  clear hl hm h h'
  by_cases hnm : n = m
  · subst hnm
    go_enter Tryz.func91, Tryz.ntmps91
    go_wp2_with fail
    go_loopw [13] (fun i wr => ∃ k q : Nat, k ≤ n ∧ i = .int .i64 (k : Nat) ∧ xs.take k = ys.take k ∧ wr = w.drewN q) (fun i _ => n - (intOf i).toNat)
    case atStart => exact ⟨0, 0, Nat.zero_le _, rfl, by simp, rfl⟩
    case round =>
      obtain ⟨k, q, hk, rfl, heq, rfl⟩ := hrel
      have HE := Lib.hid heq
      clear heq
      by_cases hlt : k < n
      · skip
        obtain ⟨x, hx⟩ : ∃ x, xs[k]? = some x := ⟨xs[k]'(by rw [HL.out]; exact hlt), List.getElem?_eq_getElem _⟩
        obtain ⟨y, hy⟩ : ∃ y, ys[k]? = some y := ⟨ys[k]'(by rw [HM.out]; exact hlt), List.getElem?_eq_getElem _⟩
        obtain ⟨a, cs, rfl, hab, hc, hr⟩ := HS.out.at hx
        obtain ⟨b, cs2, rfl, hbb, hc2, hr2⟩ := HT.out.at hy
        have HX := Lib.hid hx
        have HY := Lib.hid hy
        clear hx hy
        obtain ⟨rfl, -, -⟩ := hr
        obtain ⟨rfl, -, -⟩ := hr2
        have c0 := hc 0 _ rfl
        rw [show k * typL.k + 0 = k * 2 from rfl] at c0
        have c1 := hc 1 _ rfl
        rw [show k * typL.k + 1 = k * 2 + 1 from rfl, next_cell a (k * 2) 1 (by omega)] at c1
        have e0 := hc2 0 _ rfl
        rw [show k * typL.k + 0 = k * 2 from rfl] at e0
        have e1 := hc2 1 _ rfl
        rw [show k * typL.k + 1 = k * 2 + 1 from rfl, next_cell b (k * 2) 1 (by omega)] at e1
        clear hc hc2
        have k0 : 0 ≤ (k : Int) := by omega
        have k1 : (k : Int) < (n : Int) := by omega
        by_cases hxy : x = y
        · have HXY := Lib.hid hxy
          subst hxy
          go_wp2_with fail
          go_quiet (fail)
          go_wp2_with fail
          refine ⟨⟨k + 1, _, by omega, by simp, take_same HE.out HX.out HY.out rfl, rfl⟩, by simp [intOf]; omega⟩
        · have HXY := Lib.hid hxy
          by_cases g0 : x.1 = y.1
          · have b0 : (x.1 == y.1) = true := by simpa using g0
            by_cases g1 : x.2 = y.2
            · exact absurd (Prod.ext g0 g1) HXY.out
            · have b1 : (x.2 == y.2) = false := by simpa using g1
              clear g0 g1
              go_wp2_with fail
              go_quiet (fail)
              go_wp2_with fail
              go_ret
              exact ⟨by rw [eqB_ne (get_ne HX.out HY.out HXY.out)]; rfl, _, World.drewN_drewN _ _ _⟩
          · have b0 : (x.1 == y.1) = false := by simpa using g0
            clear g0
            go_wp2_with fail
            go_quiet (fail)
            go_wp2_with fail
            go_ret
            exact ⟨by rw [eqB_ne (get_ne HX.out HY.out HXY.out)]; rfl, _, World.drewN_drewN _ _ _⟩
      · obtain rfl : k = n := by omega
        go_wp2_with fail
        go_ret
        refine ⟨?_, _, rfl⟩
        have e := HE.out
        rw [List.take_of_length_le (by rw [HL.out]; exact Nat.le_refl _), List.take_of_length_le (by rw [HM.out]; exact Nat.le_refl _)] at e
        rw [e, eqB_self]
        rfl
  · have h1 : ((n : Int) != (m : Int)) = true := by simp; omega
    have h2 : (n != m) = true := by simpa using hnm
    have HNM := Lib.hid hnm
    clear hnm
    go_enter Tryz.func91, Tryz.ntmps91
    go_wp2_with fail
    go_ret
    refine ⟨?_, 0, rfl⟩
    rw [eqB_ne (fun e => HNM.out (by rw [← HL.out, ← HM.out, e]))]
    rfl
end Go.Proofs.YtngjnkkdhjholaaGreat
namespace Go.Proofs.YtngjnkkdhjholaaGreat
open Go.RowKit
set_option linter.unusedSimpArgs false
set_option linter.unusedVariables false

set_option maxRecDepth 100000 in
set_option maxHeartbeats 1000000 in
theorem equal_ins (A B : Option Addr) (n m c d : Nat) (xs ys : List Ins) (w : World) (S T : Nat → Prop) (hl : xs.length = n) (hm : ys.length = m) (h : Sq insL S w A xs) (h' : Sq insL T w B ys) (hn2 : n ≤ 9223372036854775807) (hm2 : m ≤ 9223372036854775807) :
    Calls Tryz.prog 92 #[.slice A n c, .slice B m d] w fun e w' => e = .returned (.bool (eqB xs ys)) ∧ ∃ q, w' = w.drewN q := by
  have HL := Lib.hid hl
  have HM := Lib.hid hm
  have HS := Lib.hid h
  have HT := Lib.hid h'
  clear hl hm h h'
  by_cases hnm : n = m
  · subst hnm
    go_enter Tryz.func92, Tryz.ntmps92
    go_wp2_with fail
    go_loopw [13] (fun i wr => ∃ k q : Nat, k ≤ n ∧ i = .int .i64 (k : Nat) ∧ xs.take k = ys.take k ∧ wr = w.drewN q) (fun i _ => n - (intOf i).toNat)
    case atStart => exact ⟨0, 0, Nat.zero_le _, rfl, by simp, rfl⟩
    case round =>
      obtain ⟨k, q, hk, rfl, heq, rfl⟩ := hrel
      have HE := Lib.hid heq
      clear heq
      by_cases hlt : k < n
      · skip
        obtain ⟨x, hx⟩ : ∃ x, xs[k]? = some x := ⟨xs[k]'(by rw [HL.out]; exact hlt), List.getElem?_eq_getElem _⟩
        obtain ⟨y, hy⟩ : ∃ y, ys[k]? = some y := ⟨ys[k]'(by rw [HM.out]; exact hlt), List.getElem?_eq_getElem _⟩
        obtain ⟨a, cs, rfl, hab, hc, hr⟩ := HS.out.at hx
        obtain ⟨b, cs2, rfl, hbb, hc2, hr2⟩ := HT.out.at hy
        have HX := Lib.hid hx
        have HY := Lib.hid hy
        clear hx hy
        obtain ⟨rfl, -, -, -⟩ := hr
        obtain ⟨rfl, -, -, -⟩ := hr2
        have c0 := hc 0 _ rfl
        rw [show k * insL.k + 0 = k * 3 from rfl] at c0
        have c1 := hc 1 _ rfl
        rw [show k * insL.k + 1 = k * 3 + 1 from rfl, next_cell a (k * 3) 1 (by omega)] at c1
        have c2 := hc 2 _ rfl
        rw [show k * insL.k + 2 = k * 3 + 2 from rfl, next_cell a (k * 3) 2 (by omega)] at c2
        have e0 := hc2 0 _ rfl
        rw [show k * insL.k + 0 = k * 3 from rfl] at e0
        have e1 := hc2 1 _ rfl
        rw [show k * insL.k + 1 = k * 3 + 1 from rfl, next_cell b (k * 3) 1 (by omega)] at e1
        have e2 := hc2 2 _ rfl
        rw [show k * insL.k + 2 = k * 3 + 2 from rfl, next_cell b (k * 3) 2 (by omega)] at e2
        clear hc hc2
        have k0 : 0 ≤ (k : Int) := by omega
        have k1 : (k : Int) < (n : Int) := by omega
        by_cases hxy : x = y
        · have HXY := Lib.hid hxy
          subst hxy
          go_wp2_with fail
          go_quiet (fail)
          go_wp2_with fail
          refine ⟨⟨k + 1, _, by omega, by simp, take_same HE.out HX.out HY.out rfl, rfl⟩, by simp [intOf]; omega⟩
        · have HXY := Lib.hid hxy
          by_cases g0 : x.1 = y.1
          · have b0 : (x.1 == y.1) = true := by simpa using g0
            by_cases g1 : x.2.1 = y.2.1
            · have b1 : (x.2.1 == y.2.1) = true := by simpa using g1
              by_cases g2 : x.2.2 = y.2.2
              · exact absurd (Prod.ext g0 (Prod.ext g1 g2)) HXY.out
              · have b2 : (x.2.2 == y.2.2) = false := by simpa using g2
                clear g0 g1 g2
                go_wp2_with fail
                go_quiet (fail)
                go_wp2_with fail
                go_ret
                exact ⟨by rw [eqB_ne (get_ne HX.out HY.out HXY.out)]; rfl, _, World.drewN_drewN _ _ _⟩
            · have b1 : (x.2.1 == y.2.1) = false := by simpa using g1
              clear g0 g1
              go_wp2_with fail
              go_quiet (fail)
              go_wp2_with fail
              go_ret
              exact ⟨by rw [eqB_ne (get_ne HX.out HY.out HXY.out)]; rfl, _, World.drewN_drewN _ _ _⟩
          · have b0 : (x.1 == y.1) = false := by simpa using g0
            clear g0
            go_wp2_with fail
            go_quiet (fail)
            go_wp2_with fail
            go_ret
            exact ⟨by rw [eqB_ne (get_ne HX.out HY.out HXY.out)]; rfl, _, World.drewN_drewN _ _ _⟩
      · obtain rfl : k = n := by omega
        go_wp2_with fail
        go_ret
        refine ⟨?_, _, rfl⟩
        have e := HE.out
        rw [List.take_of_length_le (by rw [HL.out]; exact Nat.le_refl _), List.take_of_length_le (by rw [HM.out]; exact Nat.le_refl _)] at e
        rw [e, eqB_self]
        rfl
  · have h1 : ((n : Int) != (m : Int)) = true := by simp; omega
    have h2 : (n != m) = true := by simpa using hnm
    have HNM := Lib.hid hnm
    clear hnm
    go_enter Tryz.func92, Tryz.ntmps92
    go_wp2_with fail
    go_ret
    refine ⟨?_, 0, rfl⟩
    rw [eqB_ne (fun e => HNM.out (by rw [← HL.out, ← HM.out, e]))]
    rfl
end Go.Proofs.YtngjnkkdhjholaaGreat
namespace Go.Proofs.YtngjnkkdhjholaaGreat
open Go.RowKit
set_option linter.unusedSimpArgs false
set_option linter.unusedVariables false

set_option maxRecDepth 100000 in
set_option maxHeartbeats 1000000 in
theorem equal_num (A B : Option Addr) (n m c d : Nat) (xs ys : List Nat) (w : World) (S T : Nat → Prop) (hl : xs.length = n) (hm : ys.length = m) (h : Sq numL S w A xs) (h' : Sq numL T w B ys) (hn2 : n ≤ 9223372036854775807) (hm2 : m ≤ 9223372036854775807) :
    Calls Tryz.prog 52 #[.slice A n c, .slice B m d] w fun e w' => e = .returned (.bool (eqB xs ys)) ∧ ∃ q, w' = w.drewN q := by
  have HL := Lib.hid hl
  have HM := Lib.hid hm
  have HS := Lib.hid h
  have HT := Lib.hid h'
  clear hl hm h h'
  by_cases hnm : n = m
  · subst hnm
    go_enter Tryz.func52, Tryz.ntmps52
    go_wp2_with fail
    go_loopw [13] (fun i wr => ∃ k q : Nat, k ≤ n ∧ i = .int .i64 (k : Nat) ∧ xs.take k = ys.take k ∧ wr = w.drewN q) (fun i _ => n - (intOf i).toNat)
    case atStart => exact ⟨0, 0, Nat.zero_le _, rfl, by simp, rfl⟩
    case round =>
      obtain ⟨k, q, hk, rfl, heq, rfl⟩ := hrel
      have HE := Lib.hid heq
      clear heq
      by_cases hlt : k < n
      · skip
        obtain ⟨x, hx⟩ : ∃ x, xs[k]? = some x := ⟨xs[k]'(by rw [HL.out]; exact hlt), List.getElem?_eq_getElem _⟩
        obtain ⟨y, hy⟩ : ∃ y, ys[k]? = some y := ⟨ys[k]'(by rw [HM.out]; exact hlt), List.getElem?_eq_getElem _⟩
        obtain ⟨a, cs, rfl, hab, hc, hr⟩ := HS.out.at hx
        obtain ⟨b, cs2, rfl, hbb, hc2, hr2⟩ := HT.out.at hy
        have HX := Lib.hid hx
        have HY := Lib.hid hy
        clear hx hy
        obtain ⟨rfl, -⟩ := hr
        obtain ⟨rfl, -⟩ := hr2
        have c0 := one_cell (K := numL.k) rfl (hc 0 _ rfl)
        have e0 := one_cell (K := numL.k) rfl (hc2 0 _ rfl)
        clear hc hc2
        have k0 : 0 ≤ (k : Int) := by omega
        have k1 : (k : Int) < (n : Int) := by omega
        by_cases hxy : x = y
        · have HXY := Lib.hid hxy
          have t1 : ((x : Int) == (y : Int)) = true := by simp; omega
          have t2 : ((x : Int) != (y : Int)) = false := by simp; omega
          have t3 : (x == y) = true := by simp; omega
          have t4 : (x != y) = false := by simp; omega
          clear  hxy
          go_wp2_with fail
          go_quiet (fail)
          go_wp2_with fail
          refine ⟨⟨k + 1, _, by omega, by simp, take_same HE.out HX.out HY.out HXY.out, rfl⟩, by simp [intOf]; omega⟩
        · have HXY := Lib.hid hxy
          have t1 : ((x : Int) == (y : Int)) = false := by simp; omega
          have t2 : ((x : Int) != (y : Int)) = true := by simp; omega
          have t3 : (x == y) = false := by simp; omega
          have t4 : (x != y) = true := by simp; omega
          go_wp2_with fail
          go_quiet (fail)
          go_wp2_with fail
          go_ret
          exact ⟨by rw [eqB_ne (get_ne HX.out HY.out HXY.out)]; rfl, _, World.drewN_drewN _ _ _⟩
      · obtain rfl : k = n := by omega
        go_wp2_with fail
        go_ret
        refine ⟨?_, _, rfl⟩
        have e := HE.out
        rw [List.take_of_length_le (by rw [HL.out]; exact Nat.le_refl _), List.take_of_length_le (by rw [HM.out]; exact Nat.le_refl _)] at e
        rw [e, eqB_self]
        rfl
  · have h1 : ((n : Int) != (m : Int)) = true := by simp; omega
    have h2 : (n != m) = true := by simpa using hnm
    have HNM := Lib.hid hnm
    clear hnm
    go_enter Tryz.func52, Tryz.ntmps52
    go_wp2_with fail
    go_ret
    refine ⟨?_, 0, rfl⟩
    rw [eqB_ne (fun e => HNM.out (by rw [← HL.out, ← HM.out, e]))]
    rfl
end Go.Proofs.YtngjnkkdhjholaaGreat
namespace Go.Proofs.YtngjnkkdhjholaaGreat
open Go.RowKit
set_option linter.unusedSimpArgs false
set_option linter.unusedVariables false

set_option maxRecDepth 100000 in
set_option maxHeartbeats 1000000 in
theorem equal_str (A B : Option Addr) (n m c d : Nat) (xs ys : List (List Nat)) (w : World) (S T : Nat → Prop) (hl : xs.length = n) (hm : ys.length = m) (h : Sq strL S w A xs) (h' : Sq strL T w B ys) (hn2 : n ≤ 9223372036854775807) (hm2 : m ≤ 9223372036854775807) :
    Calls Tryz.prog 53 #[.slice A n c, .slice B m d] w fun e w' => e = .returned (.bool (eqB xs ys)) ∧ ∃ q, w' = w.drewN q := by
  have HL := Lib.hid hl
  have HM := Lib.hid hm
  have HS := Lib.hid h
  have HT := Lib.hid h'
  clear hl hm h h'
  by_cases hnm : n = m
  · subst hnm
    go_enter Tryz.func53, Tryz.ntmps53
    go_wp2_with fail
    go_loopw [13] (fun i wr => ∃ k q : Nat, k ≤ n ∧ i = .int .i64 (k : Nat) ∧ xs.take k = ys.take k ∧ wr = w.drewN q) (fun i _ => n - (intOf i).toNat)
    case atStart => exact ⟨0, 0, Nat.zero_le _, rfl, by simp, rfl⟩
    case round =>
      obtain ⟨k, q, hk, rfl, heq, rfl⟩ := hrel
      have HE := Lib.hid heq
      clear heq
      by_cases hlt : k < n
      · skip
        obtain ⟨x, hx⟩ : ∃ x, xs[k]? = some x := ⟨xs[k]'(by rw [HL.out]; exact hlt), List.getElem?_eq_getElem _⟩
        obtain ⟨y, hy⟩ : ∃ y, ys[k]? = some y := ⟨ys[k]'(by rw [HM.out]; exact hlt), List.getElem?_eq_getElem _⟩
        obtain ⟨a, cs, rfl, hab, hc, hr⟩ := HS.out.at hx
        obtain ⟨b, cs2, rfl, hbb, hc2, hr2⟩ := HT.out.at hy
        have HX := Lib.hid hx
        have HY := Lib.hid hy
        clear hx hy
        obtain ⟨s0, rfl, ex⟩ := hr
        obtain ⟨s1, rfl, ey⟩ := hr2
        have c0 := one_cell (K := strL.k) rfl (hc 0 _ rfl)
        have e0 := one_cell (K := strL.k) rfl (hc2 0 _ rfl)
        clear hc hc2
        have k0 : 0 ≤ (k : Int) := by omega
        have k1 : (k : Int) < (n : Int) := by omega
        by_cases hxy : x = y
        · have HXY := Lib.hid hxy
          have t1 : (s0.toList == s1.toList) = true := by rw [strB_inj (ex.symm.trans (hxy.trans ey))]; simp
          have t2 : (s0.toList != s1.toList) = false := by rw [bne, t1]; rfl
          clear ex ey hxy
          go_wp2_with fail
          go_quiet (fail)
          go_wp2_with fail
          refine ⟨⟨k + 1, _, by omega, by simp, take_same HE.out HX.out HY.out HXY.out, rfl⟩, by simp [intOf]; omega⟩
        · have HXY := Lib.hid hxy
          have t1 : (s0.toList == s1.toList) = false := by
            cases hb : s0.toList == s1.toList
            · rfl
            · exact absurd (by rw [ex, ey, strB, strB, ← ByteArray.toList_eq, ← ByteArray.toList_eq, eq_of_beq hb]) hxy
          have t2 : (s0.toList != s1.toList) = true := by rw [bne, t1]; rfl
          clear ex ey
          go_wp2_with fail
          go_quiet (fail)
          go_wp2_with fail
          go_ret
          exact ⟨by rw [eqB_ne (get_ne HX.out HY.out HXY.out)]; rfl, _, World.drewN_drewN _ _ _⟩
      · obtain rfl : k = n := by omega
        go_wp2_with fail
        go_ret
        refine ⟨?_, _, rfl⟩
        have e := HE.out
        rw [List.take_of_length_le (by rw [HL.out]; exact Nat.le_refl _), List.take_of_length_le (by rw [HM.out]; exact Nat.le_refl _)] at e
        rw [e, eqB_self]
        rfl
  · have h1 : ((n : Int) != (m : Int)) = true := by simp; omega
    have h2 : (n != m) = true := by simpa using hnm
    have HNM := Lib.hid hnm
    clear hnm
    go_enter Tryz.func53, Tryz.ntmps53
    go_wp2_with fail
    go_ret
    refine ⟨?_, 0, rfl⟩
    rw [eqB_ne (fun e => HNM.out (by rw [← HL.out, ← HM.out, e]))]
    rfl
end Go.Proofs.YtngjnkkdhjholaaGreat
namespace Go.Proofs.YtngjnkkdhjholaaGreat
open Go.RowKit
set_option linter.unusedSimpArgs false
set_option linter.unusedVariables false

set_option maxRecDepth 100000 in
set_option maxHeartbeats 1000000 in
theorem equalFunc_rec (A B : Option Addr) (n m c d : Nat) (xs ys : List (List Typ)) (w : World) (hl : xs.length = n) (hm : ys.length = m) (h : Sq tysL (· < w.heap.size) w A xs) (h' : Sq tysL (· < w.heap.size) w B ys) (hn2 : n ≤ 9223372036854775807) (hm2 : m ≤ 9223372036854775807)
    (hP : ∀ (w1 : World) (cs cs2 : List Value) (x y : (List Typ)), tysL.R (· < w1.heap.size) w1 cs x → tysL.R (· < w1.heap.size) w1 cs2 y → Calls Tryz.prog 47 #[vOne cs, vOne cs2] w1 (Tells (eqB x y) w1)) :
    Calls Tryz.prog 46 #[.slice A n c, .slice B m d, .func (.func 47) #[] #[]] w (Tells (eqB xs ys) w) := by
  have HL := Lib.hid hl
  have HM := Lib.hid hm
  have HS := Lib.hid h
  have HT := Lib.hid h'
  have HP0 := Lib.hid hP
  clear hl hm h h' hP
  by_cases hnm : n = m
  · subst hnm
    go_enter Tryz.func46, Tryz.ntmps46
    go_wp2_with fail
    go_loopw [17] (fun i wr => ∃ k : Nat, k ≤ n ∧ i = .int .i64 (k : Nat) ∧ xs.take k = ys.take k ∧ Below w.heap.size w wr) (fun i _ => n - (intOf i).toNat)
    case atStart => exact ⟨0, Nat.zero_le _, rfl, by simp, Below.refl _ _⟩
    case round =>
      obtain ⟨k, hk, rfl, heq, hbel⟩ := hrel
      have HE := Lib.hid heq
      have HB := Lib.hid hbel
      have hs := hbel.size
      clear heq hbel
      by_cases hlt : k < n
      · skip
        obtain ⟨x, hx⟩ : ∃ x, xs[k]? = some x := ⟨xs[k]'(by rw [HL.out]; exact hlt), List.getElem?_eq_getElem _⟩
        obtain ⟨y, hy⟩ : ∃ y, ys[k]? = some y := ⟨ys[k]'(by rw [HM.out]; exact hlt), List.getElem?_eq_getElem _⟩
        obtain ⟨a, cs, rfl, hab, hc, hr⟩ := HS.out.at hx
        obtain ⟨b, cs2, rfl, hbb, hc2, hr2⟩ := HT.out.at hy
        have HX := Lib.hid hx
        have HY := Lib.hid hy
        have HR := Lib.hid hr
        have HR2 := Lib.hid hr2
        clear hx hy
        obtain ⟨A2, d2, rfl, -, -, -⟩ := hr
        obtain ⟨B2, g2, rfl, -, -, -⟩ := hr2
        have c0 := (HB.out.cell (p := a.add k) (by rw [addBlock]; exact hab)).trans (one_cell (K := tysL.k) rfl (hc 0 _ rfl))
        have k0 := (HB.out.cell (p := b.add k) (by rw [addBlock]; exact hbb)).trans (one_cell (K := tysL.k) rfl (hc2 0 _ rfl))
        have HP : Hid (∀ w1, Below w.heap.size w w1 → Calls Tryz.prog 47 #[.slice A2 x.length d2, .slice B2 y.length g2] w1 (Tells (eqB x y) w1)) := fun w1 hb => HP0.out w1 [.slice A2 x.length d2] [.slice B2 y.length g2] x y (tysL.wide (tysL.keep HR.out fun b hb1 => hb.block b hb1) fun b hb1 => Nat.lt_of_lt_of_le hb1 hb.size) (tysL.wide (tysL.keep HR2.out fun b hb1 => hb.block b hb1) fun b hb1 => Nat.lt_of_lt_of_le hb1 hb.size)
        clear hc hc2
        cases hg : eqB x y
        all_goals
          rw [hg] at HP
          have HG := Lib.hid hg
          clear hg
          go_wp2_with (first
            | (go_at_call 47
               refine (HP.out _ (HB.out)).mono ?_
               rintro e w2 ⟨rfl, hb2⟩
               have Hb2 := Lib.hid ((HB.out).trans (hb2.mono (hs)))
               clear hb2))
        · go_ret
          exact ⟨by rw [eqB_ne (get_ne HX.out HY.out (eqB_false HG.out))]; rfl, Hb2.out⟩
        · refine ⟨⟨k + 1, by omega, by simp, take_same HE.out HX.out HY.out (eqB_iff.1 HG.out), Hb2.out⟩, by simp [intOf]; omega⟩
      · obtain rfl : k = n := by omega
        go_wp2_with fail
        go_ret
        refine ⟨?_, HB.out⟩
        have e := HE.out
        rw [List.take_of_length_le (by rw [HL.out]; exact Nat.le_refl _), List.take_of_length_le (by rw [HM.out]; exact Nat.le_refl _)] at e
        rw [e, eqB_self]
        rfl
  · have h1 : ((n : Int) != (m : Int)) = true := by simp; omega
    have h2 : (n != m) = true := by simpa using hnm
    have HNM := Lib.hid hnm
    clear hnm
    go_enter Tryz.func46, Tryz.ntmps46
    go_wp2_with fail
    go_ret
    refine ⟨?_, Below.refl _ _⟩
    rw [eqB_ne (fun e => HNM.out (by rw [← HL.out, ← HM.out, e]))]
    rfl
end Go.Proofs.YtngjnkkdhjholaaGreat
namespace Go.Proofs.YtngjnkkdhjholaaGreat
open Go.RowKit
set_option linter.unusedSimpArgs false
set_option linter.unusedVariables false

set_option maxRecDepth 100000 in
set_option maxHeartbeats 1000000 in
theorem equalFunc_fn (A B : Option Addr) (n m c d : Nat) (xs ys : List Fn) (w : World) (hl : xs.length = n) (hm : ys.length = m) (h : Sq fnL (· < w.heap.size) w A xs) (h' : Sq fnL (· < w.heap.size) w B ys) (hn2 : n ≤ 9223372036854775807) (hm2 : m ≤ 9223372036854775807)
    (hP : ∀ (w1 : World) (cs cs2 : List Value) (x y : Fn), fnL.R (· < w1.heap.size) w1 cs x → fnL.R (· < w1.heap.size) w1 cs2 y → Calls Tryz.prog 49 #[vAgg cs, vAgg cs2] w1 (Tells (eqB x y) w1)) :
    Calls Tryz.prog 48 #[.slice A n c, .slice B m d, .func (.func 49) #[] #[]] w (Tells (eqB xs ys) w) := by
  have HL := Lib.hid hl
  have HM := Lib.hid hm
  have HS := Lib.hid h
  have HT := Lib.hid h'
  have HP0 := Lib.hid hP
  clear hl hm h h' hP
  by_cases hnm : n = m
  · subst hnm
    go_enter Tryz.func48, Tryz.ntmps48
    go_wp2_with fail
    go_loopw [17] (fun i wr => ∃ k : Nat, k ≤ n ∧ i = .int .i64 (k : Nat) ∧ xs.take k = ys.take k ∧ Below w.heap.size w wr) (fun i _ => n - (intOf i).toNat)
    case atStart => exact ⟨0, Nat.zero_le _, rfl, by simp, Below.refl _ _⟩
    case round =>
      obtain ⟨k, hk, rfl, heq, hbel⟩ := hrel
      have HE := Lib.hid heq
      have HB := Lib.hid hbel
      have hs := hbel.size
      clear heq hbel
      by_cases hlt : k < n
      · skip
        obtain ⟨x, hx⟩ : ∃ x, xs[k]? = some x := ⟨xs[k]'(by rw [HL.out]; exact hlt), List.getElem?_eq_getElem _⟩
        obtain ⟨y, hy⟩ : ∃ y, ys[k]? = some y := ⟨ys[k]'(by rw [HM.out]; exact hlt), List.getElem?_eq_getElem _⟩
        obtain ⟨a, cs, rfl, hab, hc, hr⟩ := HS.out.at hx
        obtain ⟨b, cs2, rfl, hbb, hc2, hr2⟩ := HT.out.at hy
        have HX := Lib.hid hx
        have HY := Lib.hid hy
        have HR := Lib.hid hr
        have HR2 := Lib.hid hr2
        clear hx hy
        obtain ⟨p0, p1, p2, rfl, -, -, ⟨A4, d4, e4, -⟩, ⟨A5, d5, e5, -⟩, ⟨A6, d6, e6, -⟩⟩ := hr
        simp only [List.cons.injEq, and_true] at e4 e5 e6
        subst e4 e5 e6
        obtain ⟨q0, q1, q2, rfl, -, -, ⟨B4, g4, i4, -⟩, ⟨B5, g5, i5, -⟩, ⟨B6, g6, i6, -⟩⟩ := hr2
        simp only [List.cons.injEq, and_true] at i4 i5 i6
        subst i4 i5 i6
        have c0 := (HB.out.cell (p := a.add (k * 5)) (by rw [addBlock]; exact hab)).trans (hc 0 _ rfl)
        have c1 := (HB.out.cell (p := a.add (k * 5 + 1)) (by rw [addBlock]; exact hab)).trans (hc 1 _ rfl)
        rw [next_cell a (k * 5) 1 (by omega)] at c1
        have c2 := (HB.out.cell (p := a.add (k * 5 + 2)) (by rw [addBlock]; exact hab)).trans (hc 2 _ rfl)
        rw [next_cell a (k * 5) 2 (by omega)] at c2
        have c3 := (HB.out.cell (p := a.add (k * 5 + 3)) (by rw [addBlock]; exact hab)).trans (hc 3 _ rfl)
        rw [next_cell a (k * 5) 3 (by omega)] at c3
        have c4 := (HB.out.cell (p := a.add (k * 5 + 4)) (by rw [addBlock]; exact hab)).trans (hc 4 _ rfl)
        rw [next_cell a (k * 5) 4 (by omega)] at c4
        have k0 := fun ob => ((HB.out.alloc hs ob).cell (p := b.add (k * 5)) (by rw [addBlock]; exact hbb)).trans (hc2 0 _ rfl)
        have k1 := fun ob => ((HB.out.alloc hs ob).cell (p := b.add (k * 5 + 1)) (by rw [addBlock]; exact hbb)).trans (hc2 1 _ rfl)
        rw [next_cell b (k * 5) 1 (by omega)] at k1
        have k2 := fun ob => ((HB.out.alloc hs ob).cell (p := b.add (k * 5 + 2)) (by rw [addBlock]; exact hbb)).trans (hc2 2 _ rfl)
        rw [next_cell b (k * 5) 2 (by omega)] at k2
        have k3 := fun ob => ((HB.out.alloc hs ob).cell (p := b.add (k * 5 + 3)) (by rw [addBlock]; exact hbb)).trans (hc2 3 _ rfl)
        rw [next_cell b (k * 5) 3 (by omega)] at k3
        have k4 := fun ob => ((HB.out.alloc hs ob).cell (p := b.add (k * 5 + 4)) (by rw [addBlock]; exact hbb)).trans (hc2 4 _ rfl)
        rw [next_cell b (k * 5) 4 (by omega)] at k4
        have HP : Hid (∀ w1, Below w.heap.size w w1 → Calls Tryz.prog 49 #[.agg #[.slice A4 x.args.length d4, .int .i64 x.ret.1, .int .i64 x.ret.2, .slice A5 x.locs.length d5, .slice A6 x.code.length d6], .agg #[.slice B4 y.args.length g4, .int .i64 y.ret.1, .int .i64 y.ret.2, .slice B5 y.locs.length g5, .slice B6 y.code.length g6]] w1 (Tells (eqB x y) w1)) := fun w1 hb => HP0.out w1 [.slice A4 x.args.length d4, .int .i64 x.ret.1, .int .i64 x.ret.2, .slice A5 x.locs.length d5, .slice A6 x.code.length d6] [.slice B4 y.args.length g4, .int .i64 y.ret.1, .int .i64 y.ret.2, .slice B5 y.locs.length g5, .slice B6 y.code.length g6] x y (fnL.wide (fnL.keep HR.out fun b hb1 => hb.block b hb1) fun b hb1 => Nat.lt_of_lt_of_le hb1 hb.size) (fnL.wide (fnL.keep HR2.out fun b hb1 => hb.block b hb1) fun b hb1 => Nat.lt_of_lt_of_le hb1 hb.size)
        clear hc hc2
        cases hg : eqB x y
        all_goals
          rw [hg] at HP
          have HG := Lib.hid hg
          clear hg
          go_wp2_with (first
            | (go_at_call 49
               refine (HP.out _ ((HB.out.alloc hs _).alloc (by simp; omega) _)).mono ?_
               rintro e w2 ⟨rfl, hb2⟩
               have Hb2 := Lib.hid (((HB.out.alloc hs _).alloc (by simp; omega) _).trans (hb2.mono (by simp; omega)))
               clear hb2))
        · go_ret
          exact ⟨by rw [eqB_ne (get_ne HX.out HY.out (eqB_false HG.out))]; rfl, Hb2.out⟩
        · refine ⟨⟨k + 1, by omega, by simp, take_same HE.out HX.out HY.out (eqB_iff.1 HG.out), Hb2.out⟩, by simp [intOf]; omega⟩
      · obtain rfl : k = n := by omega
        go_wp2_with fail
        go_ret
        refine ⟨?_, HB.out⟩
        have e := HE.out
        rw [List.take_of_length_le (by rw [HL.out]; exact Nat.le_refl _), List.take_of_length_le (by rw [HM.out]; exact Nat.le_refl _)] at e
        rw [e, eqB_self]
        rfl
  · have h1 : ((n : Int) != (m : Int)) = true := by simp; omega
    have h2 : (n != m) = true := by simpa using hnm
    have HNM := Lib.hid hnm
    clear hnm
    go_enter Tryz.func48, Tryz.ntmps48
    go_wp2_with fail
    go_ret
    refine ⟨?_, Below.refl _ _⟩
    rw [eqB_ne (fun e => HNM.out (by rw [← HL.out, ← HM.out, e]))]
    rfl
end Go.Proofs.YtngjnkkdhjholaaGreat
namespace Go.Proofs.YtngjnkkdhjholaaGreat
open Go.RowKit
set_option linter.unusedSimpArgs false
set_option linter.unusedVariables false

set_option maxRecDepth 100000 in
set_option maxHeartbeats 1000000 in
theorem equalFunc_imp (A B : Option Addr) (n m c d : Nat) (xs ys : List Imp) (w : World) (hl : xs.length = n) (hm : ys.length = m) (h : Sq impL (· < w.heap.size) w A xs) (h' : Sq impL (· < w.heap.size) w B ys) (hn2 : n ≤ 9223372036854775807) (hm2 : m ≤ 9223372036854775807)
    (hP : ∀ (w1 : World) (cs cs2 : List Value) (x y : Imp), impL.R (· < w1.heap.size) w1 cs x → impL.R (· < w1.heap.size) w1 cs2 y → Calls Tryz.prog 51 #[vAgg cs, vAgg cs2] w1 (Tells (eqB x y) w1)) :
    Calls Tryz.prog 50 #[.slice A n c, .slice B m d, .func (.func 51) #[] #[]] w (Tells (eqB xs ys) w) := by
  have HL := Lib.hid hl
  have HM := Lib.hid hm
  have HS := Lib.hid h
  have HT := Lib.hid h'
  have HP0 := Lib.hid hP
  clear hl hm h h' hP
  by_cases hnm : n = m
  · subst hnm
    go_enter Tryz.func50, Tryz.ntmps50
    go_wp2_with fail
    go_loopw [17] (fun i wr => ∃ k : Nat, k ≤ n ∧ i = .int .i64 (k : Nat) ∧ xs.take k = ys.take k ∧ Below w.heap.size w wr) (fun i _ => n - (intOf i).toNat)
    case atStart => exact ⟨0, Nat.zero_le _, rfl, by simp, Below.refl _ _⟩
    case round =>
      obtain ⟨k, hk, rfl, heq, hbel⟩ := hrel
      have HE := Lib.hid heq
      have HB := Lib.hid hbel
      have hs := hbel.size
      clear heq hbel
      by_cases hlt : k < n
      · skip
        obtain ⟨x, hx⟩ : ∃ x, xs[k]? = some x := ⟨xs[k]'(by rw [HL.out]; exact hlt), List.getElem?_eq_getElem _⟩
        obtain ⟨y, hy⟩ : ∃ y, ys[k]? = some y := ⟨ys[k]'(by rw [HM.out]; exact hlt), List.getElem?_eq_getElem _⟩
        obtain ⟨a, cs, rfl, hab, hc, hr⟩ := HS.out.at hx
        obtain ⟨b, cs2, rfl, hbb, hc2, hr2⟩ := HT.out.at hy
        have HX := Lib.hid hx
        have HY := Lib.hid hy
        have HR := Lib.hid hr
        have HR2 := Lib.hid hr2
        clear hx hy
        obtain ⟨p0, rfl, -, -, ⟨A4, d4, e4, -⟩⟩ := hr
        simp only [List.cons.injEq, and_true] at e4
        subst e4
        obtain ⟨q0, rfl, -, -, ⟨B4, g4, i4, -⟩⟩ := hr2
        simp only [List.cons.injEq, and_true] at i4
        subst i4
        have c0 := (HB.out.cell (p := a.add (k * 3)) (by rw [addBlock]; exact hab)).trans (hc 0 _ rfl)
        have c1 := (HB.out.cell (p := a.add (k * 3 + 1)) (by rw [addBlock]; exact hab)).trans (hc 1 _ rfl)
        rw [next_cell a (k * 3) 1 (by omega)] at c1
        have c2 := (HB.out.cell (p := a.add (k * 3 + 2)) (by rw [addBlock]; exact hab)).trans (hc 2 _ rfl)
        rw [next_cell a (k * 3) 2 (by omega)] at c2
        have k0 := fun ob => ((HB.out.alloc hs ob).cell (p := b.add (k * 3)) (by rw [addBlock]; exact hbb)).trans (hc2 0 _ rfl)
        have k1 := fun ob => ((HB.out.alloc hs ob).cell (p := b.add (k * 3 + 1)) (by rw [addBlock]; exact hbb)).trans (hc2 1 _ rfl)
        rw [next_cell b (k * 3) 1 (by omega)] at k1
        have k2 := fun ob => ((HB.out.alloc hs ob).cell (p := b.add (k * 3 + 2)) (by rw [addBlock]; exact hbb)).trans (hc2 2 _ rfl)
        rw [next_cell b (k * 3) 2 (by omega)] at k2
        have HP : Hid (∀ w1, Below w.heap.size w w1 → Calls Tryz.prog 51 #[.agg #[.slice A4 x.args.length d4, .int .i64 x.ret.1, .int .i64 x.ret.2], .agg #[.slice B4 y.args.length g4, .int .i64 y.ret.1, .int .i64 y.ret.2]] w1 (Tells (eqB x y) w1)) := fun w1 hb => HP0.out w1 [.slice A4 x.args.length d4, .int .i64 x.ret.1, .int .i64 x.ret.2] [.slice B4 y.args.length g4, .int .i64 y.ret.1, .int .i64 y.ret.2] x y (impL.wide (impL.keep HR.out fun b hb1 => hb.block b hb1) fun b hb1 => Nat.lt_of_lt_of_le hb1 hb.size) (impL.wide (impL.keep HR2.out fun b hb1 => hb.block b hb1) fun b hb1 => Nat.lt_of_lt_of_le hb1 hb.size)
        clear hc hc2
        cases hg : eqB x y
        all_goals
          rw [hg] at HP
          have HG := Lib.hid hg
          clear hg
          go_wp2_with (first
            | (go_at_call 51
               refine (HP.out _ ((HB.out.alloc hs _).alloc (by simp; omega) _)).mono ?_
               rintro e w2 ⟨rfl, hb2⟩
               have Hb2 := Lib.hid (((HB.out.alloc hs _).alloc (by simp; omega) _).trans (hb2.mono (by simp; omega)))
               clear hb2))
        · go_ret
          exact ⟨by rw [eqB_ne (get_ne HX.out HY.out (eqB_false HG.out))]; rfl, Hb2.out⟩
        · refine ⟨⟨k + 1, by omega, by simp, take_same HE.out HX.out HY.out (eqB_iff.1 HG.out), Hb2.out⟩, by simp [intOf]; omega⟩
      · obtain rfl : k = n := by omega
        go_wp2_with fail
        go_ret
        refine ⟨?_, HB.out⟩
        have e := HE.out
        rw [List.take_of_length_le (by rw [HL.out]; exact Nat.le_refl _), List.take_of_length_le (by rw [HM.out]; exact Nat.le_refl _)] at e
        rw [e, eqB_self]
        rfl
  · have h1 : ((n : Int) != (m : Int)) = true := by simp; omega
    have h2 : (n != m) = true := by simpa using hnm
    have HNM := Lib.hid hnm
    clear hnm
    go_enter Tryz.func50, Tryz.ntmps50
    go_wp2_with fail
    go_ret
    refine ⟨?_, Below.refl _ _⟩
    rw [eqB_ne (fun e => HNM.out (by rw [← HL.out, ← HM.out, e]))]
    rfl
end Go.Proofs.YtngjnkkdhjholaaGreat
namespace Go.Proofs.YtngjnkkdhjholaaGreat
open Go.RowKit
set_option linter.unusedSimpArgs false
set_option linter.unusedVariables false

theorem below_drewN (w : World) (q : Nat) : Below w.heap.size w (w.drewN q) := ⟨rfl, rfl, rfl, Nat.le_refl _, fun _ _ => rfl⟩

theorem sameTypes_any (cs cs2 : List Value) (x y : List Typ) (w : World) (h : tysL.R (· < w.heap.size) w cs x) (h' : tysL.R (· < w.heap.size) w cs2 y) :
    Calls Tryz.prog 47 #[vOne cs, vOne cs2] w (Tells (eqB x y) w) := by
  obtain ⟨A, c, rfl, l1, l2, l3⟩ := h
  obtain ⟨B, d, rfl, m1, m2, m3⟩ := h'
  unfold maxLen at l2 m2
  show Calls Tryz.prog 47 #[.slice A x.length c, .slice B y.length d] w (Tells (eqB x y) w)
  have HC := Lib.hid (equal_typ A B x.length y.length c d x y w _ _ rfl rfl l3 m3 (by omega) (by omega))
  generalize x.length = n at *
  generalize y.length = m at *
  clear l3 m3
  generalize eqB x y = b at *
  go_enter Tryz.func47, Tryz.ntmps47
  go_wp2_with (first | (go_at_call 91; refine HC.out.mono ?_; rintro e w1 ⟨rfl, q, rfl⟩))
  go_ret
  exact ⟨rfl, below_drewN _ _⟩

theorem eqB_imp (x y : Imp) : eqB x y = (eqB x.ret y.ret && eqB x.args y.args) := by
  obtain ⟨a, r⟩ := x
  obtain ⟨a', r'⟩ := y
  by_cases h1 : r = r'
  · by_cases h2 : a = a'
    · subst h1 h2
      simp [eqB_self]
    · rw [eqB_ne h2, Bool.and_false]
      exact eqB_ne (fun e => h2 (by injection e))
  · rw [eqB_ne h1, Bool.false_and]
    exact eqB_ne (fun e => h1 (by injection e))
theorem eqB_fn (x y : Fn) : eqB x y = (eqB x.ret y.ret && eqB x.args y.args && eqB x.locs y.locs && eqB x.code y.code) := by
  obtain ⟨a, r, l, c⟩ := x
  obtain ⟨a', r', l', c'⟩ := y
  by_cases h : a = a' ∧ r = r' ∧ l = l' ∧ c = c'
  · obtain ⟨rfl, rfl, rfl, rfl⟩ := h
    simp [eqB_self]
  · rw [eqB_ne (fun e => h (by injection e with e1 e2 e3 e4; exact ⟨e1, e2, e3, e4⟩))]
    cases hh : (eqB r r' && eqB a a' && eqB l l' && eqB c c')
    · rfl
    · simp only [Bool.and_eq_true, eqB_iff] at hh
      exact absurd ⟨hh.1.1.2, hh.1.1.1, hh.1.2, hh.2⟩ h
theorem eqB_mod (x y : Mod) : eqB x y = (eqB x.recs y.recs && eqB x.funcs y.funcs && eqB x.imps y.imps && eqB x.ints y.ints && eqB x.texts y.texts) := by
  obtain ⟨a, r, l, c, t⟩ := x
  obtain ⟨a', r', l', c', t'⟩ := y
  by_cases h : a = a' ∧ r = r' ∧ l = l' ∧ c = c' ∧ t = t'
  · obtain ⟨rfl, rfl, rfl, rfl, rfl⟩ := h
    simp [eqB_self]
  · rw [eqB_ne (fun e => h (by injection e with e1 e2 e3 e4 e5; exact ⟨e1, e2, e3, e4, e5⟩))]
    cases hh : (eqB a a' && eqB r r' && eqB l l' && eqB c c' && eqB t t')
    · rfl
    · simp only [Bool.and_eq_true, eqB_iff] at hh
      exact absurd ⟨hh.1.1.1.1, hh.1.1.1.2, hh.1.1.2, hh.1.2, hh.2⟩ h
theorem eqB_typ (x y : Typ) : eqB x y = (x.1 == y.1 && x.2 == y.2) := by
  obtain ⟨a, b⟩ := x
  obtain ⟨c, d⟩ := y
  by_cases h1 : a = c
  · by_cases h2 : b = d
    · subst h1 h2
      simp [eqB_self]
    · rw [eqB_ne (fun e => h2 (by injection e))]
      simp [h2]
  · rw [eqB_ne (fun e => h1 (by injection e))]
    simp [h1]

set_option maxRecDepth 100000 in
set_option maxHeartbeats 2000000 in
theorem sameImport_any (cs cs2 : List Value) (x y : Imp) (w : World) (h : impL.R (· < w.heap.size) w cs x) (h' : impL.R (· < w.heap.size) w cs2 y) :
    Calls Tryz.prog 51 #[vAgg cs, vAgg cs2] w (Tells (eqB x y) w) := by
  obtain ⟨p0, rfl, -, -, hA⟩ := h
  obtain ⟨q0, rfl, -, -, hB⟩ := h'
  have TS : Hid (∀ w1, Below w.heap.size w w1 → Calls Tryz.prog 47 #[vOne [p0], vOne [q0]] w1 (Tells (eqB x.args y.args) w1)) := fun w1 hb =>
    sameTypes_any _ _ _ _ w1 (tysL.wide (tysL.keep hA fun b hb1 => hb.block b hb1) fun b hb1 => Nat.lt_of_lt_of_le hb1 hb.size) (tysL.wide (tysL.keep hB fun b hb1 => hb.block b hb1) fun b hb1 => Nat.lt_of_lt_of_le hb1 hb.size)
  obtain ⟨A4, d4, e4, -⟩ := hA
  obtain ⟨B4, g4, i4, -⟩ := hB
  simp only [List.cons.injEq, and_true] at e4 i4
  subst e4 i4
  have TS2 : Hid (∀ w1, Below w.heap.size w w1 → Calls Tryz.prog 47 #[.slice A4 x.args.length d4, .slice B4 y.args.length g4] w1 (Tells (eqB x.args y.args) w1)) := TS.out
  clear TS
  show Calls Tryz.prog 51 #[.agg #[.slice A4 x.args.length d4, .int .i64 x.ret.1, .int .i64 x.ret.2], .agg #[.slice B4 y.args.length g4, .int .i64 y.ret.1, .int .i64 y.ret.2]] w (Tells (eqB x y) w)
  rw [eqB_imp, eqB_typ]
  generalize x.args.length = n at *
  generalize y.args.length = m at *
  generalize eqB x.args y.args = b2 at *
  generalize x.ret.1 = k1 at *
  generalize x.ret.2 = k2 at *
  generalize y.ret.1 = k3 at *
  generalize y.ret.2 = k4 at *
  have HB0 : Hid (Below w.heap.size w ((w.alloc (.cells #[.slice A4 n d4, .int .i64 k1, .int .i64 k2] 54)).alloc (.cells #[.slice B4 m g4, .int .i64 k3, .int .i64 k4] 54))) := ((Below.refl _ _).alloc (Nat.le_refl _) _).alloc (by simp) _
  by_cases g1 : k1 = k3
  · subst g1
    by_cases g2 : k2 = k4
    · subst g2
      go_enter Tryz.func51, Tryz.ntmps51
      go_wp2_with (first | (go_at_call 47; refine (TS2.out _ HB0.out).mono ?_; rintro e w1 ⟨rfl, hb1⟩; have HB1 := Lib.hid (HB0.out.trans (hb1.mono HB0.out.size)); clear hb1))
      go_ret
      exact ⟨by simp, HB1.out⟩
    · have b2 : (k2 == k4) = false := by simpa using g2
      clear g2
      go_enter Tryz.func51, Tryz.ntmps51
      go_wp2_with fail
      go_ret
      exact ⟨by simp [b2], HB0.out⟩
  · have b1 : (k1 == k3) = false := by simpa using g1
    clear g1
    go_enter Tryz.func51, Tryz.ntmps51
    go_wp2_with fail
    go_ret
    exact ⟨by simp [b1], HB0.out⟩
end Go.Proofs.YtngjnkkdhjholaaGreat
