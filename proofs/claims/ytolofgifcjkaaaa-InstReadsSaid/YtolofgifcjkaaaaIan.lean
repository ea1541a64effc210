/-
  What law05's answers says: true.
  Conditions: none.
-/
import Derived.Test.YtolofgifcjkaaaaIpt
import Derived.Test.YtolofgifcjkaaaaIgy
namespace Go.Proofs.Ytolofgifcjkaaaa
open Go.RowKit
set_option linter.unusedSimpArgs false

theorem ins_33 : insB 3 3 0 = [3, 3] := by
  have h : goodI ((3 : Nat) : Int) ((3 : Nat) : Int) ((0 : Nat) : Int) = true := by decide
  have := insB_good h
  rw [show argN ((3 : Nat) : Int) = 1 by decide] at this
  simp [bodyB, vb_small] at this
  exact this
theorem ins_8 : insB ((8 : Nat) : Int) ((0 : Nat) : Int) ((0 : Nat) : Int) = [8] := by
  have h : goodI ((8 : Nat) : Int) ((0 : Nat) : Int) ((0 : Nat) : Int) = true := by decide
  have := insB_good h
  rw [show argN ((8 : Nat) : Int) = 0 by decide] at this
  simpa [bodyB] using this

set_option maxRecDepth 100000 in
set_option maxHeartbeats 2000000 in
theorem answers5 (w : World) : Calls Try.prog 7 #[] w fun e w' => e = .returned (.bool true) ∧ Below w.heap.size w w' := by
  have PT := Lib.hid (fun w => iput_any 3 3 0 w)
  rw [ins_33] at PT
  have AR := Lib.hid (fun w => args_any 30 w)
  rw [show argN 30 = 2 by decide] at AR
  have GT := Lib.hid (fun g w h => iget_yes g 8 0 0 [] w (by decide) h (by simp) (by simp))
  rw [ins_8] at GT
  go_enter Try.func7, Try.ntmps7
  go_wp2_with (first
    | (go_at_call 8
       refine (PT.out _).mono ?_
       rintro e w1 ⟨u1, rfl, hown1, hb1⟩
       obtain ⟨A1, c1, rfl, -, hc1, -, hY1⟩ := own_slice hown1
       obtain ⟨a1, rfl, ha1, hcell1⟩ := hY1.at (k := 1) (by simp)
       simp [Addr.add] at hcell1
       have HB1 := Lib.hid hb1
       have HC1 := Lib.hid hcell1
       have HL1 : Hid (a1.block < w1.heap.size) := ha1.2
       simp at hc1
       clear hown1 hb1 hY1 ha1 hcell1)
    | (go_at_call 13
       refine (newReader_any (some ⟨w1.heap.size, 0, none⟩) 1 1 [8] _ rfl ((byt_one w1 8 8 rfl).wide fun b hb => (by simp; omega)) (by omega)).mono ?_
       rintro e w2 ⟨g, rfl, hG2, hg2, hb2⟩
       have HG2 := Lib.hid hG2
       have HB2 : Hid (Below w1.heap.size w1 w2) := ((Below.refl _ w1).alloc (Nat.le_refl _) _).trans (hb2.mono (by simp))
       have hg2' : w1.heap.size ≤ g := (by simp at hg2; omega)
       clear hG2 hb2 hg2)
    | (go_at_call 14
       refine (GT.out g w2 (by simpa using HG2.out)).mono ?_
       rintro e w3 ⟨rfl, -, ho3⟩
       have HB3 : Hid (Below w1.heap.size w1 w3) := HB2.out.trans (below_only ho3 hg2' HB2.out.size)
       have hcc : (w3.cell? ⟨a1.block, a1.off + 1, none⟩) = some (.int .u8 3) := (HB3.out.cell (p := ⟨a1.block, a1.off + 1, none⟩) HL1.out).trans HC1.out
       have hne : a1.block < w3.heap.size := (by have := HB3.out.size; have := HL1.out; omega)
       clear ho3
       unfold insV)
    | (go_at_call 11
       refine (AR.out _).mono ?_
       rintro e w4 ⟨rfl, rfl⟩))
  go_ret
  exact ⟨rfl, (HB1.out.trans (HB3.out.mono HB1.out.size)).alloc (by have := HB1.out.size; have := HB3.out.size; omega) _⟩
end Go.Proofs.Ytolofgifcjkaaaa
