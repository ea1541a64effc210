/-
  What the document's Same does. Conditions: as each theorem says.
  Words for the laws of layer 6: a module's five cells, and the empty one. Conditions: as each theorem says.
  That the document's own Light answers, whatever the module is. Conditions: none but that there is a module.
  Arguments opened: what a module that came in holds. Conditions: none.
  Arguments opened: what a module that came in holds, and that each of its lists is within what a machine reaches. Conditions: none.
-/
import Derived.Test.YtngjnkkdhjholaaGreatQ01
import Derived.Test.YtngjnkkdhjholaaGreatQ03
import Derived.Test.YtngjnkkdhjholaaGreatQ18
import Derived.Test.YtngjnkkdhjholaaGreatQ19
import Derived.Test.YtngjnkkdhjholaaGreatQ20
import Derived.Test.YtngjnkkdhjholaaGreatQ24
import Derived.Deep.QuietTactic
import Derived.BigQuiet
import Derived.Deep.SlicePairs
import Derived.SizedLaws
namespace Go.Proofs.YtngjnkkdhjholaaGreat
open Go.RowKit
/-- Same: whether two rows of bytes are the same. -/
def sameB (xs ys : List Nat) : Bool := decide (xs = ys)

set_option maxHeartbeats 1000000 in
theorem same_any (A B : Option Addr) (c d : Nat) (xs ys : List Nat) (w : World) (S T : Nat → Prop) (hA : Byt S w A xs) (hB : Byt T w B ys) (hx : xs.length ≤ 140737488355328) (hy : ys.length ≤ 140737488355328) :
    Calls Tryz.prog 12 #[.slice A xs.length c, .slice B ys.length d] w fun e w' => e = .returned (.bool (sameB xs ys)) ∧ ∃ n, w' = w.drewN n := by
  have HA := Lib.hid hA
  have HB := Lib.hid hB
  clear hA hB
  by_cases hl : xs.length = ys.length
  · have HL := Lib.hid hl
    have h1 : ((xs.length : Int) != (ys.length : Int)) = false := by simp; omega
    have h2 : ((xs.length) != (ys.length)) = false := by simp; omega
    clear hl
    go_enter Tryz.func12, Tryz.ntmps12
    go_wp2_with fail
    go_loopw [5] (fun i wr => ∃ k n : Nat, k ≤ xs.length ∧ i = .int .i64 (k : Nat) ∧ (∀ j, j < k → xs[j]?.getD 0 = ys[j]?.getD 0) ∧ wr = w.drewN n) (fun i _ => xs.length - (intOf i).toNat)
    case atStart => exact ⟨0, 0, Nat.zero_le _, rfl, fun j hj => absurd hj (by omega), rfl⟩
    case round =>
      obtain ⟨k, n, hk, rfl, heq, rfl⟩ := hrel
      have HE := Lib.hid heq
      clear heq
      by_cases hlt : k < xs.length
      · have hlt2 : k < ys.length := by have := HL.out; omega
        obtain ⟨a, rfl, _, ha⟩ := HA.out.at (k := k) hlt
        obtain ⟨b, rfl, _, hb⟩ := HB.out.at (k := k) hlt2
        obtain ⟨x, hx⟩ : ∃ x, xs[k]?.getD 0 = x := ⟨_, rfl⟩
        obtain ⟨y, hy⟩ : ∃ y, ys[k]?.getD 0 = y := ⟨_, rfl⟩
        rw [hx] at ha
        rw [hy] at hb
        have HX := Lib.hid hx
        have HY := Lib.hid hy
        have k0 : 0 ≤ (k : Int) := by omega
        have k1 : (k : Int) < (xs.length : Int) := by omega
        have k2 : (k : Int) < (ys.length : Int) := by omega
        clear hx hy
        by_cases hxy : x = y
        · have t1 : ((x : Int) != (y : Int)) = false := by simp; omega
          have hXY := Lib.hid hxy
          clear hxy
          go_wp2
          go_quiet (fail)
          go_wp2
          refine ⟨⟨k + 1, _, by omega, by simp, fun j hj => ?_, rfl⟩, by simp [intOf]; omega⟩
          rcases Nat.lt_or_ge j k with h | h
          · exact HE.out j h
          · obtain rfl : j = k := by omega
            rw [HX.out, HY.out]
            exact hXY.out
        · have t1 : ((x : Int) != (y : Int)) = true := by simp; omega
          have hXY := Lib.hid hxy
          clear hxy
          go_wp2
          go_quiet (fail)
          go_wp2
          go_ret
          have h3 : sameB xs ys = false := by
            simp only [sameB, decide_eq_false_iff_not]
            rintro rfl
            exact hXY.out (HX.out.symm.trans HY.out)
          exact ⟨by rw [h3]; rfl, _, World.drewN_drewN _ _ _⟩
      · go_wp2
        go_ret
        have h3 : sameB xs ys = true := by
          simp only [sameB, decide_eq_true_eq]
          refine List.ext_getElem HL.out fun j h1 h2 => ?_
          have := HE.out j (by omega)
          simpa [h1, h2] using this
        exact ⟨by rw [h3]; rfl, _, rfl⟩
  · have h1 : ((xs.length : Int) != (ys.length : Int)) = true := by simp; omega
    have h2 : ((xs.length) != (ys.length)) = true := by simp; omega
    have h3 : sameB xs ys = false := by
      simp only [sameB, decide_eq_false_iff_not]
      rintro rfl
      exact hl rfl
    have HL := Lib.hid hl
    clear hl
    go_enter Tryz.func12, Tryz.ntmps12
    go_wp2
    go_ret
    exact ⟨by rw [h3]; rfl, 0, rfl⟩

theorem same_yes (A B : Option Addr) (n m c d : Nat) (xs ys : List Nat) (w : World) (S T : Nat → Prop) (hn : xs.length = n) (hm : ys.length = m) (he : xs = ys) (hA : Byt S w A xs) (hB : Byt T w B ys) (hx : n ≤ 140737488355328) :
    Calls Tryz.prog 12 #[.slice A n c, .slice B m d] w fun e w' => e = .returned (.bool true) ∧ ∃ q, w' = w.drewN q := by
  subst he hn hm
  refine (same_any A B c d xs xs w S T hA hB hx hx).mono ?_
  rintro e w' ⟨rfl, h⟩
  exact ⟨by simp [sameB], h⟩

theorem same_no (A B : Option Addr) (n m c d : Nat) (xs ys : List Nat) (w : World) (S T : Nat → Prop) (hn : xs.length = n) (hm : ys.length = m) (he : ¬ xs = ys) (hA : Byt S w A xs) (hB : Byt T w B ys) (hx : n ≤ 140737488355328) (hy : m ≤ 140737488355328) :
    Calls Tryz.prog 12 #[.slice A n c, .slice B m d] w fun e w' => e = .returned (.bool false) ∧ ∃ q, w' = w.drewN q := by
  subst hn hm
  refine (same_any A B c d xs ys w S T hA hB hx hy).mono ?_
  rintro e w' ⟨rfl, h⟩
  exact ⟨by simp [sameB, he], h⟩
end Go.Proofs.YtngjnkkdhjholaaGreat
namespace Go.Proofs.YtngjnkkdhjholaaGreat
open Go.RowKit

theorem mod_shape {S : Nat → Prop} {w : World} {cs : List Value} {m : Mod} (h : modL.R S w cs m) : ∃ A0 A1 A2 A3 A4 n0 n1 n2 n3 n4 c0 c1 c2 c3 c4, cs = [.slice A0 n0 c0, .slice A1 n1 c1, .slice A2 n2 c2, .slice A3 n3 c3, .slice A4 n4 c4] := by
  obtain ⟨_, _, _, _, _, rfl, ⟨A0, d0, e0, -⟩, ⟨A1, d1, e1, -⟩, ⟨A2, d2, e2, -⟩, ⟨A3, d3, e3, -⟩, ⟨A4, d4, e4, -⟩⟩ := h
  simp only [List.cons.injEq, and_true] at e0 e1 e2 e3 e4
  subst e0 e1 e2 e3 e4
  exact ⟨A0, A1, A2, A3, A4, _, _, _, _, _, d0, d1, d2, d3, d4, rfl⟩
def mE : Mod := ⟨[], [], [], [], []⟩
theorem mE_laid (S : Nat → Prop) (w : World) : modL.R S w [.slice none 0 0, .slice none 0 0, .slice none 0 0, .slice none 0 0, .slice none 0 0] mE := by
  have hm : (0 : Nat) ≤ maxLen := Nat.zero_le _
  exact ⟨_, _, _, _, _, rfl, ⟨none, 0, rfl, Nat.le_refl _, hm, Sq.nil _ _ _ _⟩, ⟨none, 0, rfl, Nat.le_refl _, hm, Sq.nil _ _ _ _⟩, ⟨none, 0, rfl, Nat.le_refl _, hm, Sq.nil _ _ _ _⟩, ⟨none, 0, rfl, Nat.le_refl _, hm, Sq.nil _ _ _ _⟩, ⟨none, 0, rfl, Nat.le_refl _, hm, Sq.nil _ _ _ _⟩⟩
/-- Two empty modules are the same to the document. -/
theorem same_none (w : World) : Calls Tryz.prog 13 #[.agg #[.slice none 0 0, .slice none 0 0, .slice none 0 0, .slice none 0 0, .slice none 0 0], .agg #[.slice none 0 0, .slice none 0 0, .slice none 0 0, .slice none 0 0, .slice none 0 0]] w fun e w' => e = .returned (.bool true) ∧ Below w.heap.size w w' := by
  have := refSame_any _ _ mE mE w (mE_laid _ _) (mE_laid _ _)
  rw [eqB_self] at this
  exact this
end Go.Proofs.YtngjnkkdhjholaaGreat
namespace Go.Proofs.YtngjnkkdhjholaaGreat
open Go.RowKit
set_option linter.unusedSimpArgs false
set_option linter.unusedVariables false

theorem below_drews' {B : Nat} {w w1 : World} (h : Below B w w1) (q : Nat) (hB : B ≤ w1.heap.size) : Below B w (w1.drewN q) := h.trans ((below_drewN w1 q).mono hB)

set_option maxRecDepth 100000 in
set_option maxHeartbeats 4000000 in
theorem light_some (cs : List Value) (x : Mod) (w : World) (h : modL.R (· < w.heap.size) w cs x) : Calls Tryz.prog 6 #[vAgg cs] w fun e w' => ∃ b : Bool, e = .returned (.bool b) ∧ Below w.heap.size w w' := by
  obtain ⟨_, _, _, _, _, rfl, ⟨A0, d0, e0, l0, m0, s0⟩, ⟨A1, d1, e1, l1, m1, s1⟩, ⟨A2, d2, e2, l2, m2, s2⟩, ⟨A3, d3, e3, l3, m3, s3⟩, ⟨A4, d4, e4, l4, m4, s4⟩⟩ := h
  simp only [List.cons.injEq, and_true] at e0 e1 e2 e3 e4
  subst e0 e1 e2 e3 e4
  unfold maxLen at m0 m1 m2 m3 m4
  show Calls Tryz.prog 6 #[.agg #[.slice A0 x.recs.length d0, .slice A1 x.funcs.length d1, .slice A2 x.imps.length d2, .slice A3 x.ints.length d3, .slice A4 x.texts.length d4]] w _
  obtain ⟨n0, hn0⟩ : ∃ n, x.recs.length = n := ⟨_, rfl⟩
  have HL0 := Lib.hid hn0
  have HS0 := Lib.hid s0
  obtain ⟨n1, hn1⟩ : ∃ n, x.funcs.length = n := ⟨_, rfl⟩
  have HL1 := Lib.hid hn1
  have HS1 := Lib.hid s1
  obtain ⟨n2, hn2⟩ : ∃ n, x.imps.length = n := ⟨_, rfl⟩
  have HL2 := Lib.hid hn2
  have HS2 := Lib.hid s2
  obtain ⟨n3, hn3⟩ : ∃ n, x.ints.length = n := ⟨_, rfl⟩
  have HL3 := Lib.hid hn3
  have HS3 := Lib.hid s3
  obtain ⟨n4, hn4⟩ : ∃ n, x.texts.length = n := ⟨_, rfl⟩
  have HL4 := Lib.hid hn4
  have HS4 := Lib.hid s4
  rw [hn0, hn1, hn2, hn3, hn4]
  rw [hn0] at l0
  rw [hn1] at l1
  rw [hn2] at l2
  rw [hn3] at l3
  rw [hn4] at l4
  clear hn0 s0 hn1 s1 hn2 s2 hn3 s3 hn4 s4
  have hw0 : (n0 : Int) ≤ 9223372036854775807 := by omega
  have hw1 : (n1 : Int) ≤ 9223372036854775807 := by omega
  have hw2 : (n2 : Int) ≤ 9223372036854775807 := by omega
  have hw4 : (n4 : Int) ≤ 9223372036854775807 := by omega
  have HB0 : Hid (Below w.heap.size w (w.alloc (.cells #[.slice A0 n0 d0, .slice A1 n1 d1, .slice A2 n2 d2, .slice A3 n3 d3, .slice A4 n4 d4] 28))) := (Below.refl _ _).alloc (Nat.le_refl _) _
  go_enter Tryz.func6, Tryz.ntmps6
  go_wp2_with fail
  · go_ret
    exact ⟨_, rfl, HB0.out⟩
  refine wp_world fun W hW => ?_
  have HBW : Hid (Below w.heap.size w W) := by show Below _ _ _; rw [hW]; exact HB0.out
  have HCW : Hid (C5 w.heap.size (.slice A0 n0 d0) (.slice A1 n1 d1) (.slice A2 n2 d2) (.slice A3 n3 d3) (.slice A4 n4 d4) W) := by rw [hW]; show C5 _ _ _ _ _ _ _; simp [C5, go_sem]
  have hWz : w.heap.size < W.heap.size := by rw [hW]; simp
  have HZ : Hid (∀ wr, Below W.heap.size W wr → C5 w.heap.size (.slice A0 n0 d0) (.slice A1 n1 d1) (.slice A2 n2 d2) (.slice A3 n3 d3) (.slice A4 n4 d4) wr) := fun wr hb => HCW.out.below hb hWz
  have HFin : Hid (∀ wr, Below W.heap.size W wr → Below w.heap.size w wr) := fun wr hb => HBW.out.trans (hb.mono HBW.out.size)
  clear hW HB0 HCW
  have HA0 := Lib.hid ((HS0.out.below HBW.out (Nat.le_refl _)).wide (T := (· < W.heap.size)) fun b hb => Nat.lt_of_lt_of_le hb HBW.out.size)
  clear HS0
  have HA1 := Lib.hid ((HS1.out.below HBW.out (Nat.le_refl _)).wide (T := (· < W.heap.size)) fun b hb => Nat.lt_of_lt_of_le hb HBW.out.size)
  clear HS1
  have HA2 := Lib.hid ((HS2.out.below HBW.out (Nat.le_refl _)).wide (T := (· < W.heap.size)) fun b hb => Nat.lt_of_lt_of_le hb HBW.out.size)
  clear HS2
  have HA3 := Lib.hid ((HS3.out.below HBW.out (Nat.le_refl _)).wide (T := (· < W.heap.size)) fun b hb => Nat.lt_of_lt_of_le hb HBW.out.size)
  clear HS3
  have HA4 := Lib.hid ((HS4.out.below HBW.out (Nat.le_refl _)).wide (T := (· < W.heap.size)) fun b hb => Nat.lt_of_lt_of_le hb HBW.out.size)
  clear HS4
  go_loopw [3, 4] (fun s i wr => ∃ (z : Int) (k : Nat), s = .int .i64 z ∧ k ≤ n0 ∧ i = .int .i64 (k : Nat) ∧ Below W.heap.size W wr) (fun _ i _ => n0 - (intOf i).toNat)
  case atStart => exact ⟨_, 0, rfl, Nat.zero_le _, rfl, Below.refl _ _⟩
  case round =>
    obtain ⟨z, k, rfl, hk, rfl, hbel⟩ := hrel
    have HB := Lib.hid hbel
    have hs := hbel.size
    clear hbel
    by_cases hlt : k < n0
    · skip
      obtain ⟨p, hp⟩ : ∃ p, x.recs[k]? = some p := ⟨x.recs[k]'(by rw [HL0.out]; exact hlt), List.getElem?_eq_getElem _⟩
      obtain ⟨a, cs, ea, hab, hc, hR⟩ := HA0.out.at hp
      clear hp
      subst ea
      obtain ⟨P0, c3, rfl, -, -, -⟩ := hR
      have ca0 := (HB.out.cell (p := a.add k) (by rw [addBlock]; exact hab)).trans (one_cell (K := tysL.k) rfl (hc 0 _ rfl))
      clear hc
      obtain ⟨z0, z1, z2, z3, z4⟩ := HZ.out wr HB.out
      have k0' : 0 ≤ (k : Int) := by omega
      have k1' : (k : Int) < (n0 : Int) := by omega
      generalize p.length = u9 at *
      go_wp2_with fail
      exact ⟨⟨_, k + 1, rfl, by omega, by simp, HB.out⟩, by simp [intOf]; omega⟩
    · obtain rfl : k = n0 := by omega
      obtain ⟨z0, z1, z2, z3, z4⟩ := HZ.out wr HB.out
      go_wp2_with fail
      go_loopw [3, 5] (fun s i wr => ∃ (z : Int) (k : Nat), s = .int .i64 z ∧ k ≤ n1 ∧ i = .int .i64 (k : Nat) ∧ Below W.heap.size W wr) (fun _ i _ => n1 - (intOf i).toNat)
      case atStart => exact ⟨_, 0, rfl, Nat.zero_le _, rfl, HB.out⟩
      case round =>
        obtain ⟨z, k, rfl, hk, rfl, hbel⟩ := hrel
        clear HB
        have HB := Lib.hid hbel
        have hs := hbel.size
        clear hbel
        by_cases hlt : k < n1
        · skip
          obtain ⟨p, hp⟩ : ∃ p, x.funcs[k]? = some p := ⟨x.funcs[k]'(by rw [HL1.out]; exact hlt), List.getElem?_eq_getElem _⟩
          obtain ⟨a, cs, ea, hab, hc, hR⟩ := HA1.out.at hp
          clear hp
          subst ea
          obtain ⟨_, _, _, rfl, -, -, ⟨P0, c3, e4, -⟩, ⟨P2, c5, e6, -⟩, ⟨P4, c7, e8, -⟩⟩ := hR
          simp only [List.cons.injEq, and_true] at e4 e6 e8
          subst e4 e6 e8
          have ca0 := (HB.out.cell (p := a.add (k * 5)) (by rw [addBlock]; exact hab)).trans (hc 0 _ rfl)
          have ca1 := (HB.out.cell (p := a.add (k * 5 + 1)) (by rw [addBlock]; exact hab)).trans (hc 1 _ rfl)
          rw [next_cell a (k * 5) 1 (by omega)] at ca1
          have ca2 := (HB.out.cell (p := a.add (k * 5 + 2)) (by rw [addBlock]; exact hab)).trans (hc 2 _ rfl)
          rw [next_cell a (k * 5) 2 (by omega)] at ca2
          have ca3 := (HB.out.cell (p := a.add (k * 5 + 3)) (by rw [addBlock]; exact hab)).trans (hc 3 _ rfl)
          rw [next_cell a (k * 5) 3 (by omega)] at ca3
          have ca4 := (HB.out.cell (p := a.add (k * 5 + 4)) (by rw [addBlock]; exact hab)).trans (hc 4 _ rfl)
          rw [next_cell a (k * 5) 4 (by omega)] at ca4
          clear hc
          obtain ⟨z0, z1, z2, z3, z4⟩ := HZ.out wr HB.out
          have k0' : 0 ≤ (k : Int) := by omega
          have k1' : (k : Int) < (n1 : Int) := by omega
          generalize p.args.length = v1 at *
          generalize p.locs.length = v2 at *
          generalize p.code.length = v3 at *
          go_wp2_with fail
          go_quiet (fail)
          go_wp2_with fail
          exact ⟨⟨_, k + 1, rfl, by omega, by simp, below_drews' HB.out _ hs⟩, by simp [intOf]; omega⟩
        · obtain rfl : k = n1 := by omega
          obtain ⟨z0, z1, z2, z3, z4⟩ := HZ.out wr HB.out
          go_wp2_with fail
          go_loopw [3, 6] (fun s i wr => ∃ (z : Int) (k : Nat), s = .int .i64 z ∧ k ≤ n2 ∧ i = .int .i64 (k : Nat) ∧ Below W.heap.size W wr) (fun _ i _ => n2 - (intOf i).toNat)
          case atStart => exact ⟨_, 0, rfl, Nat.zero_le _, rfl, HB.out⟩
          case round =>
            obtain ⟨z, k, rfl, hk, rfl, hbel⟩ := hrel
            clear HB
            have HB := Lib.hid hbel
            have hs := hbel.size
            clear hbel
            by_cases hlt : k < n2
            · skip
              obtain ⟨p, hp⟩ : ∃ p, x.imps[k]? = some p := ⟨x.imps[k]'(by rw [HL2.out]; exact hlt), List.getElem?_eq_getElem _⟩
              obtain ⟨a, cs, ea, hab, hc, hR⟩ := HA2.out.at hp
              clear hp
              subst ea
              obtain ⟨_, rfl, -, -, ⟨P0, c3, e4, -⟩⟩ := hR
              simp only [List.cons.injEq, and_true] at e4
              subst e4
              have ca0 := (HB.out.cell (p := a.add (k * 3)) (by rw [addBlock]; exact hab)).trans (hc 0 _ rfl)
              have ca1 := (HB.out.cell (p := a.add (k * 3 + 1)) (by rw [addBlock]; exact hab)).trans (hc 1 _ rfl)
              rw [next_cell a (k * 3) 1 (by omega)] at ca1
              have ca2 := (HB.out.cell (p := a.add (k * 3 + 2)) (by rw [addBlock]; exact hab)).trans (hc 2 _ rfl)
              rw [next_cell a (k * 3) 2 (by omega)] at ca2
              clear hc
              obtain ⟨z0, z1, z2, z3, z4⟩ := HZ.out wr HB.out
              have k0' : 0 ≤ (k : Int) := by omega
              have k1' : (k : Int) < (n2 : Int) := by omega
              generalize p.args.length = v1 at *
              go_wp2_with fail
              exact ⟨⟨_, k + 1, rfl, by omega, by simp, HB.out⟩, by simp [intOf]; omega⟩
            · obtain rfl : k = n2 := by omega
              obtain ⟨z0, z1, z2, z3, z4⟩ := HZ.out wr HB.out
              go_wp2_with fail
              go_loopw [3, 7] (fun s i wr => ∃ (z : Int) (k : Nat), s = .int .i64 z ∧ k ≤ n4 ∧ i = .int .i64 (k : Nat) ∧ Below W.heap.size W wr) (fun _ i _ => n4 - (intOf i).toNat)
              case atStart => exact ⟨_, 0, rfl, Nat.zero_le _, rfl, HB.out⟩
              case round =>
                obtain ⟨z, k, rfl, hk, rfl, hbel⟩ := hrel
                clear HB
                have HB := Lib.hid hbel
                have hs := hbel.size
                clear hbel
                by_cases hlt : k < n4
                · skip
                  obtain ⟨p, hp⟩ : ∃ p, x.texts[k]? = some p := ⟨x.texts[k]'(by rw [HL4.out]; exact hlt), List.getElem?_eq_getElem _⟩
                  obtain ⟨a, cs, ea, hab, hc, hR⟩ := HA4.out.at hp
                  clear hp
                  subst ea
                  obtain ⟨v0, rfl, -⟩ := hR
                  have ca0 := (HB.out.cell (p := a.add k) (by rw [addBlock]; exact hab)).trans (one_cell (K := strL.k) rfl (hc 0 _ rfl))
                  clear hc
                  obtain ⟨z0, z1, z2, z3, z4⟩ := HZ.out wr HB.out
                  have k0' : 0 ≤ (k : Int) := by omega
                  have k1' : (k : Int) < (n4 : Int) := by omega
                  go_wp2_with fail
                  exact ⟨⟨_, k + 1, rfl, by omega, by simp, HB.out⟩, by simp [intOf]; omega⟩
                · obtain rfl : k = n4 := by omega
                  obtain ⟨z0, z1, z2, z3, z4⟩ := HZ.out wr HB.out
                  go_wp2_with fail
                  go_ret
                  exact ⟨_, rfl, HFin.out _ HB.out⟩
end Go.Proofs.YtngjnkkdhjholaaGreat
namespace Go.Proofs.YtngjnkkdhjholaaGreat
open Go.ChangeShapes Go.WideShapes Go.ChangeAt Go.RowKit

/-- Cells that are read as a datum of type t hold a thing, as L has it. -/
def Opens {α : Type} (t : TypeId) (L : Lay α) : Prop := ∀ {H : Type} {enc : TypeId × Value → H} {W : World} {cs : List Value} {x : DataW H × List MemPlace} {fuel : Nat}, DataW.trod enc Tryz.prog W 0 (fun _ => true) true fuel t cs = some x → ∃ y, L.R (· < W.heap.size) W cs y

instance : Inhabited Fn := ⟨⟨[], (0, 0), [], []⟩⟩
instance : Inhabited Imp := ⟨⟨[], (0, 0)⟩⟩
theorem opens_slice {α : Type} [Inhabited α] {t e : TypeId} {L : Lay α} (hk : 0 < L.k) (ht : Tryz.prog.underlying t = some (.slice e)) (hc : Tryz.prog.cellsOf e = L.k) (h : Opens e L) : Opens t (slL L) := by
  intro H enc W cs x fuel hf
  rcases Go.Deep.open_slice ht hf with ⟨hcs, _⟩ | ⟨a, l, c, m, n, D, Pl, hcs, _, hl, hm, hmm, _, hx⟩
  · exact ⟨[], none, 0, hcs, Nat.le_refl _, by simp [maxLen], Sq.nil _ _ _ _⟩
  · simp only [if_true] at hmm
    have hall : ∀ i, i < l → ∃ y cs', (∀ j u, cs'[j]? = some u → W.cell? (a.add (i * L.k + j)) = some u) ∧ L.R (· < W.heap.size) W cs' y := fun i hi => by
      obtain ⟨cs', h1, h2⟩ := hx i (by omega)
      rw [hc] at h1
      obtain ⟨_, hlen, hcell⟩ := World.cells?_some h1
      obtain ⟨y, hy⟩ := h h2
      refine ⟨y, cs', fun j u hu => ?_, hy⟩
      have hj : j < cs'.length := (List.getElem?_eq_some_iff.1 hu).1
      have := hcell j (by omega)
      rw [addAdd] at this
      rw [this, hu]
    obtain ⟨f, hf2⟩ := Go.Deep.choose_lt hall
    refine ⟨(List.range l).map f, some a, c, by simpa using hcs, by simpa using hl, hm, fun hpos => ⟨a, rfl, ?_, fun j y hj => ?_⟩⟩
    · simp at hpos
      obtain ⟨cs', h1, h2⟩ := hf2 0 hpos
      have hlen := L.len h2
      have := World.block_lt_of_cell? W _ (h1 0 (cs'[0]'(by omega)) (List.getElem?_eq_getElem _))
      rwa [addBlock] at this
    · have hjl : j < l := by
        have := (List.getElem?_eq_some_iff.1 hj).1
        simpa using this
      have e : f j = y := by simpa [hjl] using hj
      obtain ⟨cs', h1, h2⟩ := hf2 j hjl
      exact ⟨cs', h1, e ▸ h2⟩

theorem i64_of {n : Int} (h : (Lit.int .i64 n).wf = true) : I64 n := by
  have hmin : IntKind.i64.min = -9223372036854775808 := rfl
  have hmax : IntKind.i64.max = 9223372036854775807 := rfl
  simp only [Lit.wf, Bool.and_eq_true, decide_eq_true_eq] at h
  unfold I64
  omega

set_option maxRecDepth 100000 in
theorem opens_typ : Opens 49 typL := by
  intro H enc W cs x fuel hf
  obtain ⟨xs, k, hk, hxy, hl, hxl, hfl⟩ := DataW.trod_struct Tryz.underlying49 hf
  rw [show Tryz.prog.cellsOf 49 = 2 by kernel_rfl] at hl
  match xs, hxl, cs, hl with
  | [y0, y1], _, [v0, v1], _ =>
    have g0 := hfl 0 _ rfl
    have g1 := hfl 1 _ rfl
    simp [show Tryz.prog.cellsOf 3 = 1 by kernel_rfl] at g0 g1
    obtain ⟨z0, e0, _, w0⟩ := DataW.trod_int Tryz.underlying3 g0
    obtain ⟨z1, e1, _, w1⟩ := DataW.trod_int Tryz.underlying3 g1
    simp at e0 e1
    subst e0 e1
    exact ⟨(z0, z1), rfl, i64_of w0, i64_of w1⟩
set_option maxRecDepth 100000 in
theorem opens_ins : Opens 56 insL := by
  intro H enc W cs x fuel hf
  obtain ⟨xs, k, hk, hxy, hl, hxl, hfl⟩ := DataW.trod_struct Tryz.underlying56 hf
  rw [show Tryz.prog.cellsOf 56 = 3 by kernel_rfl] at hl
  match xs, hxl, cs, hl with
  | [y0, y1, y2], _, [v0, v1, v2], _ =>
    have g0 := hfl 0 _ rfl
    have g1 := hfl 1 _ rfl
    have g2 := hfl 2 _ rfl
    simp [show Tryz.prog.cellsOf 3 = 1 by kernel_rfl] at g0 g1 g2
    obtain ⟨z0, e0, _, w0⟩ := DataW.trod_int Tryz.underlying3 g0
    obtain ⟨z1, e1, _, w1⟩ := DataW.trod_int Tryz.underlying3 g1
    obtain ⟨z2, e2, _, w2⟩ := DataW.trod_int Tryz.underlying3 g2
    simp at e0 e1 e2
    subst e0 e1 e2
    exact ⟨(z0, z1, z2), rfl, i64_of w0, i64_of w1, i64_of w2⟩
theorem opens_num : Opens 65 numL := by
  intro H enc W cs x fuel hf
  obtain ⟨z, rfl, _, hw⟩ := DataW.trod_int Tryz.underlying65 hf
  have hb := bounds_u64 hw
  exact ⟨z.toNat, by show [Value.int .u64 z] = _; rw [Int.toNat_of_nonneg hb.1], by unfold B64; omega⟩
theorem opens_str : Opens 9 strL := by
  intro H enc W cs x fuel hf
  obtain ⟨s, rfl, _, _⟩ := DataW.trod_string Tryz.underlying9 hf
  exact ⟨strB s, s, rfl, rfl⟩
theorem opens_tys : Opens 47 tysL := opens_slice (by decide) Tryz.underlying47 (by kernel_rfl) opens_typ
theorem opens_cod : Opens 50 codL := opens_slice (by decide) Tryz.underlying50 (by kernel_rfl) opens_ins

set_option maxRecDepth 100000 in
theorem opens_fn : Opens 52 fnL := by
  intro H enc W cs x fuel hf
  obtain ⟨xs, k, hk, hxy, hl, hxl, hfl⟩ := DataW.trod_struct Tryz.underlying52 hf
  rw [show Tryz.prog.cellsOf 52 = 5 by kernel_rfl] at hl
  match xs, hxl, cs, hl with
  | [y0, y1, y2, y3], _, [v0, v1, v2, v3, v4], _ =>
    have g0 := hfl 0 _ rfl
    have g1 := hfl 1 _ rfl
    have g2 := hfl 2 _ rfl
    have g3 := hfl 3 _ rfl
    simp [show Tryz.prog.cellsOf 47 = 1 by kernel_rfl, show Tryz.prog.cellsOf 49 = 2 by kernel_rfl, show Tryz.prog.cellsOf 50 = 1 by kernel_rfl] at g0 g1 g2 g3
    obtain ⟨a, ha⟩ := opens_tys g0
    obtain ⟨r, hr, i1, i2⟩ := opens_typ g1
    obtain ⟨l, hl⟩ := opens_tys g2
    obtain ⟨c, hc⟩ := opens_cod g3
    simp at hr
    obtain ⟨rfl, rfl⟩ := hr
    exact ⟨⟨a, r, l, c⟩, v0, v3, v4, rfl, i1, i2, ha, hl, hc⟩
set_option maxRecDepth 100000 in
theorem opens_imp : Opens 54 impL := by
  intro H enc W cs x fuel hf
  obtain ⟨xs, k, hk, hxy, hl, hxl, hfl⟩ := DataW.trod_struct Tryz.underlying54 hf
  rw [show Tryz.prog.cellsOf 54 = 3 by kernel_rfl] at hl
  match xs, hxl, cs, hl with
  | [y0, y1], _, [v0, v1, v2], _ =>
    have g0 := hfl 0 _ rfl
    have g1 := hfl 1 _ rfl
    simp [show Tryz.prog.cellsOf 47 = 1 by kernel_rfl, show Tryz.prog.cellsOf 49 = 2 by kernel_rfl] at g0 g1
    obtain ⟨a, ha⟩ := opens_tys g0
    obtain ⟨r, hr, i1, i2⟩ := opens_typ g1
    simp at hr
    obtain ⟨rfl, rfl⟩ := hr
    exact ⟨⟨a, r⟩, v0, rfl, i1, i2, ha⟩
set_option maxRecDepth 100000 in
theorem opens_mod : Opens 28 modL := by
  intro H enc W cs x fuel hf
  obtain ⟨xs, k, hk, hxy, hl, hxl, hfl⟩ := DataW.trod_struct Tryz.underlying28 hf
  rw [show Tryz.prog.cellsOf 28 = 5 by kernel_rfl] at hl
  match xs, hxl, cs, hl with
  | [y0, y1, y2, y3, y4], _, [v0, v1, v2, v3, v4], _ =>
    have g0 := hfl 0 _ rfl
    have g1 := hfl 1 _ rfl
    have g2 := hfl 2 _ rfl
    have g3 := hfl 3 _ rfl
    have g4 := hfl 4 _ rfl
    simp [show Tryz.prog.cellsOf 22 = 1 by kernel_rfl, show Tryz.prog.cellsOf 23 = 1 by kernel_rfl, show Tryz.prog.cellsOf 24 = 1 by kernel_rfl, show Tryz.prog.cellsOf 25 = 1 by kernel_rfl, show Tryz.prog.cellsOf 26 = 1 by kernel_rfl] at g0 g1 g2 g3 g4
    obtain ⟨r, hr⟩ := opens_slice (L := tysL) (by decide) Tryz.underlying22 (by kernel_rfl) opens_tys g0
    obtain ⟨f, hf⟩ := opens_slice (L := fnL) (by decide) Tryz.underlying23 (by kernel_rfl) opens_fn g1
    obtain ⟨i, hi⟩ := opens_slice (L := impL) (by decide) Tryz.underlying24 (by kernel_rfl) opens_imp g2
    obtain ⟨n, hn⟩ := opens_slice (L := numL) (by decide) Tryz.underlying25 (by kernel_rfl) opens_num g3
    obtain ⟨s, hs⟩ := opens_slice (L := strL) (by decide) Tryz.underlying26 (by kernel_rfl) opens_str g4
    exact ⟨⟨r, f, i, n, s⟩, v0, v1, v2, v3, v4, rfl, hr, hf, hi, hn, hs⟩

/-- A module that came in. -/
theorem open_mod {H : Type} {enc : TypeId × Value → H} {W : World} {v : Value} {d : DataW H} {p : List MemPlace} (h : DataW.Trod enc Tryz.prog W 0 (fun _ => true) true 28 v d p) :
    ∃ cs m, v = vAgg cs ∧ modL.R (· < W.heap.size) W cs m := by
  obtain ⟨fuel, hf⟩ := h
  obtain ⟨m, hm⟩ := opens_mod hf
  have hl := modL.len hm
  have hv : v = .agg v.cells := by
    cases v <;> first | rfl | exact absurd hl (by simp [Value.cells, modL])
  refine ⟨v.cells.toList, m, ?_, hm⟩
  rw [vAgg, Array.toArray_toList]
  exact hv
end Go.Proofs.YtngjnkkdhjholaaGreat
namespace Go.Proofs.YtngjnkkdhjholaaGreat
open Go.ChangeShapes Go.WideShapes Go.ChangeAt Go.RowKit

def OpensZ {α : Type} (t : TypeId) (L : Lay α) (Z : α → Prop) : Prop := ∀ {H : Type} {enc : TypeId × Value → H} {W : World} {cs : List Value} {x : DataW H × List MemPlace} {fuel : Nat}, DataW.trod enc Tryz.prog W 0 (fun _ => true) true fuel t cs = some x →
  (∀ n ∈ x.1.weights Tryz.prog t, n ≤ reachBytes) → ∃ y, L.R (· < W.heap.size) W cs y ∧ Z y
/-- A list within reach, of things of which Z holds. -/
def Zl {α : Type} (Z : α → Prop) (xs : List α) : Prop := xs.length ≤ reachBytes ∧ ∀ x ∈ xs, Z x

theorem weightsAll_mem {H : Type} {P : Program} {e : TypeId} : ∀ {ds : List (DataW H)} {d : DataW H}, d ∈ ds → ∀ n ∈ d.weights P e, n ∈ DataW.weightsAll P e ds
  | d0 :: ds, d, hd, n, hn => by
    simp only [DataW.weightsAll, List.mem_append]
    rcases List.mem_cons.1 hd with rfl | h
    · exact .inl hn
    · exact .inr (weightsAll_mem h n hn)

theorem opensZ_slice {α : Type} [Inhabited α] {t e : TypeId} {L : Lay α} {Z : α → Prop} (hk : 0 < L.k) (ht : Tryz.prog.underlying t = some (.slice e)) (hc : Tryz.prog.cellsOf e = L.k) (hby : 0 < Tryz.prog.bytesOf e) (h : OpensZ e L Z) : OpensZ t (slL L) (Zl Z) := by
  intro H enc W cs x fuel hf hwt
  rcases Go.Deep.open_slice ht hf with ⟨hcs, _⟩ | ⟨a, l, c, m, n, D, Pl, hcs, _, hl, hm, hmm, hxx, hx⟩
  · exact ⟨[], ⟨none, 0, hcs, Nat.le_refl _, by simp [maxLen], Sq.nil _ _ _ _⟩, by simp, by simp⟩
  · simp only [if_true] at hmm
    rw [hxx] at hwt
    simp only [DataW.weights, ht] at hwt
    have hlr : l ≤ reachBytes := by
      have h1 := hwt _ (List.mem_cons_self ..)
      simp only [List.length_map, List.length_range] at h1
      have h2 := Nat.mul_le_mul (show l ≤ l + (m - l) by omega) (show 1 ≤ Tryz.prog.bytesOf e by omega)
      omega
    have hwe : ∀ i, i < l → ∀ n ∈ (D i).weights Tryz.prog e, n ≤ reachBytes := fun i hi n hn =>
      hwt n (List.mem_cons_of_mem _ (List.mem_append_left _ (weightsAll_mem (List.mem_map.2 ⟨i, List.mem_range.2 hi, rfl⟩) n hn)))
    have hall : ∀ i, i < l → ∃ y cs', (∀ j u, cs'[j]? = some u → W.cell? (a.add (i * L.k + j)) = some u) ∧ L.R (· < W.heap.size) W cs' y ∧ Z y := fun i hi => by
      obtain ⟨cs', h1, h2⟩ := hx i (by omega)
      rw [hc] at h1
      obtain ⟨_, hlen, hcell⟩ := World.cells?_some h1
      obtain ⟨y, hy⟩ := h h2 (hwe i hi)
      refine ⟨y, cs', fun j u hu => ?_, hy⟩
      have hj : j < cs'.length := (List.getElem?_eq_some_iff.1 hu).1
      have := hcell j (by omega)
      rw [addAdd] at this
      rw [this, hu]
    obtain ⟨f, hf2⟩ := Go.Deep.choose_lt hall
    refine ⟨(List.range l).map f, ⟨some a, c, by simpa using hcs, by simpa using hl, hm, fun hpos => ⟨a, rfl, ?_, fun j y hj => ?_⟩⟩, by simpa using hlr, fun y hy => ?_⟩
    · simp at hpos
      obtain ⟨cs', h1, h2, _⟩ := hf2 0 hpos
      have hlen := L.len h2
      have := World.block_lt_of_cell? W _ (h1 0 (cs'[0]'(by omega)) (List.getElem?_eq_getElem _))
      rwa [addBlock] at this
    · have hjl : j < l := by
        have := (List.getElem?_eq_some_iff.1 hj).1
        simpa using this
      have e : f j = y := by simpa [hjl] using hj
      obtain ⟨cs', h1, h2, _⟩ := hf2 j hjl
      exact ⟨cs', h1, e ▸ h2⟩
    · obtain ⟨i, hi, rfl⟩ := List.mem_map.1 hy
      obtain ⟨_, _, _, h3⟩ := hf2 i (List.mem_range.1 hi)
      exact h3

theorem OpensZ.of {α : Type} {t : TypeId} {L : Lay α} (h : Opens t L) : OpensZ t L (fun _ => True) := fun hf _ => by
  obtain ⟨y, hy⟩ := h hf
  exact ⟨y, hy, trivial⟩
theorem opensZ_str : OpensZ 9 strL (fun s => s.length ≤ reachBytes) := by
  intro H enc W cs x fuel hf hwt
  obtain ⟨s, rfl, hx, _⟩ := DataW.trod_string Tryz.underlying9 hf
  refine ⟨strB s, ⟨s, rfl, rfl⟩, ?_⟩
  have := hwt s.size (by rw [hx]; simp [DataW.weights])
  show (strB s).length ≤ reachBytes
  rw [strB_len]
  exact this
abbrev Zt : List Typ → Prop := Zl fun _ => True
theorem opensZ_tys : OpensZ 47 tysL Zt := opensZ_slice (by decide) Tryz.underlying47 (by kernel_rfl) (by decide +kernel) (OpensZ.of opens_typ)
theorem opensZ_cod : OpensZ 50 codL (Zl fun _ => True) := opensZ_slice (by decide) Tryz.underlying50 (by kernel_rfl) (by decide +kernel) (OpensZ.of opens_ins)
def Zf (f : Fn) : Prop := Zt f.args ∧ Zt f.locs ∧ Zl (fun _ => True) f.code
def Zi (f : Imp) : Prop := Zt f.args
def Zm (m : Mod) : Prop := Zl Zt m.recs ∧ Zl Zf m.funcs ∧ Zl Zi m.imps ∧ Zl (fun _ => True) m.ints ∧ Zl (fun s => s.length ≤ reachBytes) m.texts

theorem struct_weights {H : Type} {P : Program} {t : TypeId} {fs : Array Field} {parts : List (DataW H)} (ht : P.underlying t = some (.struct fs)) (h : ∀ n ∈ (DataW.agg parts).weights P t, n ≤ reachBytes) {i : Nat} {f : Field} {d : DataW H} (hf : fs[i]? = some f) (hd : parts[i]? = some d) : ∀ n ∈ d.weights P f.type, n ≤ reachBytes := by
  intro n hn
  refine h n ?_
  simp only [DataW.weights, ht]
  exact DataW.weights_mem_each (by simpa using ⟨f, hf, rfl⟩) hd n hn

set_option maxRecDepth 100000 in
theorem opensZ_fn : OpensZ 52 fnL Zf := by
  intro H enc W cs x fuel hf hwt
  obtain ⟨xs, k, hk, hxy, hl, hxl, hfl⟩ := DataW.trod_struct Tryz.underlying52 hf
  rw [hxy] at hwt
  have hw := fun i f d => struct_weights (i := i) (f := f) (d := d) Tryz.underlying52 hwt
  rw [show Tryz.prog.cellsOf 52 = 5 by kernel_rfl] at hl
  match xs, hxl, cs, hl with
  | [y0, y1, y2, y3], _, [v0, v1, v2, v3, v4], _ =>
    have g0 := hfl 0 _ rfl
    have g1 := hfl 1 _ rfl
    have g2 := hfl 2 _ rfl
    have g3 := hfl 3 _ rfl
    have w0 := hw 0 _ _ rfl rfl
    have w2 := hw 2 _ _ rfl rfl
    have w3 := hw 3 _ _ rfl rfl
    simp [show Tryz.prog.cellsOf 47 = 1 by kernel_rfl, show Tryz.prog.cellsOf 49 = 2 by kernel_rfl, show Tryz.prog.cellsOf 50 = 1 by kernel_rfl] at g0 g1 g2 g3
    obtain ⟨a, ha, za⟩ := opensZ_tys g0 w0
    obtain ⟨r, hr, i1, i2⟩ := opens_typ g1
    obtain ⟨l, hl, zl⟩ := opensZ_tys g2 w2
    obtain ⟨c, hc, zc⟩ := opensZ_cod g3 w3
    simp at hr
    obtain ⟨rfl, rfl⟩ := hr
    exact ⟨⟨a, r, l, c⟩, ⟨v0, v3, v4, rfl, i1, i2, ha, hl, hc⟩, za, zl, zc⟩
set_option maxRecDepth 100000 in
theorem opensZ_imp : OpensZ 54 impL Zi := by
  intro H enc W cs x fuel hf hwt
  obtain ⟨xs, k, hk, hxy, hl, hxl, hfl⟩ := DataW.trod_struct Tryz.underlying54 hf
  rw [hxy] at hwt
  have hw := fun i f d => struct_weights (i := i) (f := f) (d := d) Tryz.underlying54 hwt
  rw [show Tryz.prog.cellsOf 54 = 3 by kernel_rfl] at hl
  match xs, hxl, cs, hl with
  | [y0, y1], _, [v0, v1, v2], _ =>
    have g0 := hfl 0 _ rfl
    have g1 := hfl 1 _ rfl
    have w0 := hw 0 _ _ rfl rfl
    simp [show Tryz.prog.cellsOf 47 = 1 by kernel_rfl, show Tryz.prog.cellsOf 49 = 2 by kernel_rfl] at g0 g1
    obtain ⟨a, ha, za⟩ := opensZ_tys g0 w0
    obtain ⟨r, hr, i1, i2⟩ := opens_typ g1
    simp at hr
    obtain ⟨rfl, rfl⟩ := hr
    exact ⟨⟨a, r⟩, ⟨v0, rfl, i1, i2, ha⟩, za⟩
set_option maxRecDepth 100000 in
theorem opensZ_mod : OpensZ 28 modL Zm := by
  intro H enc W cs x fuel hf hwt
  obtain ⟨xs, k, hk, hxy, hl, hxl, hfl⟩ := DataW.trod_struct Tryz.underlying28 hf
  rw [hxy] at hwt
  have hw := fun i f d => struct_weights (i := i) (f := f) (d := d) Tryz.underlying28 hwt
  rw [show Tryz.prog.cellsOf 28 = 5 by kernel_rfl] at hl
  match xs, hxl, cs, hl with
  | [y0, y1, y2, y3, y4], _, [v0, v1, v2, v3, v4], _ =>
    have g0 := hfl 0 _ rfl
    have g1 := hfl 1 _ rfl
    have g2 := hfl 2 _ rfl
    have g3 := hfl 3 _ rfl
    have g4 := hfl 4 _ rfl
    have w0 := hw 0 _ _ rfl rfl
    have w1 := hw 1 _ _ rfl rfl
    have w2 := hw 2 _ _ rfl rfl
    have w3 := hw 3 _ _ rfl rfl
    have w4 := hw 4 _ _ rfl rfl
    simp [show Tryz.prog.cellsOf 22 = 1 by kernel_rfl, show Tryz.prog.cellsOf 23 = 1 by kernel_rfl, show Tryz.prog.cellsOf 24 = 1 by kernel_rfl, show Tryz.prog.cellsOf 25 = 1 by kernel_rfl, show Tryz.prog.cellsOf 26 = 1 by kernel_rfl] at g0 g1 g2 g3 g4
    obtain ⟨r, hr, zr⟩ := opensZ_slice (L := tysL) (by decide) Tryz.underlying22 (by kernel_rfl) (by decide +kernel) opensZ_tys g0 w0
    obtain ⟨f, hf, zf⟩ := opensZ_slice (L := fnL) (by decide) Tryz.underlying23 (by kernel_rfl) (by decide +kernel) opensZ_fn g1 w1
    obtain ⟨i, hi, zi⟩ := opensZ_slice (L := impL) (by decide) Tryz.underlying24 (by kernel_rfl) (by decide +kernel) opensZ_imp g2 w2
    obtain ⟨n, hn, zn⟩ := opensZ_slice (L := numL) (by decide) Tryz.underlying25 (by kernel_rfl) (by decide +kernel) (OpensZ.of opens_num) g3 w3
    obtain ⟨s, hs, zs⟩ := opensZ_slice (L := strL) (by decide) Tryz.underlying26 (by kernel_rfl) (by decide +kernel) opensZ_str g4 w4
    exact ⟨⟨r, f, i, n, s⟩, ⟨v0, v1, v2, v3, v4, rfl, hr, hf, hi, hn, hs⟩, zr, zf, zi, zn, zs⟩

/-- A module that came in. -/
theorem open_modZ {H : Type} {enc : TypeId × Value → H} {W : World} {v : Value} {d : DataW H} {p : List MemPlace} (h : DataW.Trod enc Tryz.prog W 0 (fun _ => true) true 28 v d p) (hw : ∀ n ∈ d.weights Tryz.prog 28, n ≤ reachBytes) :
    ∃ cs m, v = vAgg cs ∧ modL.R (· < W.heap.size) W cs m ∧ Zm m := by
  obtain ⟨fuel, hf⟩ := h
  obtain ⟨m, hm, hz⟩ := opensZ_mod hf hw
  have hl := modL.len hm
  have hv : v = .agg v.cells := by
    cases v <;> first | rfl | exact absurd hl (by simp [Value.cells, modL])
  refine ⟨v.cells.toList, m, ?_, hm, hz⟩
  rw [vAgg, Array.toArray_toList]
  exact hv
end Go.Proofs.YtngjnkkdhjholaaGreat
