/-
  The call that every law makes ('answers') hands back true and turns nothing that was there.
  Conditions: none.
-/
import Derived.Test.YtepncmceabkgpaaVar
namespace Go.Proofs.Ytepncmceabkgpaa
open Go.RowKit

theorem vb300 : vb 300 = [172, 2] := by rw [vb_big 300 (by omega), vb_small _ (by omega)]

theorem byt_three (w : World) : Byt (· < (w.alloc (.cells #[.int .u8 172, .int .u8 2, .int .u8 7] 5)).heap.size) (w.alloc (.cells #[.int .u8 172, .int .u8 2, .int .u8 7] 5)) (some ⟨w.heap.size, 0, none⟩) [172, 2, 7] := fun _ =>
  ⟨_, rfl, by simp, fun j hj => by
    have hb : Blk (w.alloc (.cells #[.int .u8 172, .int .u8 2, .int .u8 7] 5)) w.heap.size 5 #[.int .u8 172, .int .u8 2, .int .u8 7] := heap_alloc_new w _
    have e : (⟨w.heap.size, 0, none⟩ : Addr).add j = ⟨w.heap.size, j, none⟩ := by unfold Addr.add; split <;> simp_all
    rw [e, hb.cell j]
    have : j = 0 ∨ j = 1 ∨ j = 2 := by simp at hj; omega
    rcases this with rfl | rfl | rfl <;> rfl⟩

theorem own_two {w : World} {base : Nat} {v : Value} (h : w.ownsRow base 5 1 v 2 (Bs [172, 2])) :
    ∃ g c, v = .slice (some ⟨g, 0, none⟩) 2 c ∧ w.cell? ⟨g, 0, none⟩ = some (.int .u8 172) ∧ w.cell? ⟨g, 1, none⟩ = some (.int .u8 2) ∧ g < w.heap.size := by
  rcases h.2 with ⟨_, h0⟩ | ⟨g, cap, cur, rfl, hb, hg, _⟩
  · cases h0
  · exact ⟨g, cap, rfl, h.cells rfl 0 _ rfl, h.cells (g := g) rfl 1 _ rfl, (Array.getElem?_eq_some_iff.1 hg).1⟩

theorem isVar3 : IsVar [172, 2, 7] 300 2 := ⟨by simp, by rw [vb300]; rfl, by unfold B64; omega⟩

set_option maxRecDepth 100000 in
set_option maxHeartbeats 1000000 in
theorem answers_any (w : World) : Calls Try.prog 9 #[] w fun e w' => e = .returned (.bool true) ∧ Below w.heap.size w w' := by
  go_enter Try.func9, Try.ntmps9
  go_wp2_with fail
  refine (var_any 300 w (by unfold B64; omega)).mono ?_
  rintro e w1 ⟨u, rfl, hown, hb1⟩
  rw [vb300] at hown
  obtain ⟨gb, cb, rfl, hc0, hc1, hgb⟩ := own_two hown
  clear hown
  go_wp2_with fail
  have hs1 := hb1.size
  refine (newReader_any _ 3 3 [172, 2, 7] _ rfl (byt_three w1) (by omega)).mono ?_
  rintro e w2 ⟨g, rfl, hG, hg, hb2⟩
  have hd0 : w2.cell? ⟨gb, 0, none⟩ = some (.int .u8 172) := (hb2.cell (p := ⟨gb, 0, none⟩) (by simp; omega)).trans ((World.cell?_of_block (a := ⟨gb, 0, none⟩) (Below.heap_alloc w1 _ gb hgb)).trans hc0)
  have hd1 : w2.cell? ⟨gb, 1, none⟩ = some (.int .u8 2) := (hb2.cell (p := ⟨gb, 1, none⟩) (by simp; omega)).trans ((World.cell?_of_block (a := ⟨gb, 1, none⟩) (Below.heap_alloc w1 _ gb hgb)).trans hc1)
  clear hc0 hc1
  have HG := Lib.hid hG
  have HB2 := Lib.hid hb2
  clear hG hb2
  go_wp2_with fail
  refine (rvar_ok g _ 300 2 w2 HG.out (by simp) isVar3 (by simp)).mono ?_
  rintro e w3 ⟨rfl, hG3, hO3⟩
  have HG3 := Lib.hid hG3
  have HO3 := Lib.hid hO3
  clear hG3 hO3
  go_wp2_with fail
  refine (left_good g _ w3 HG3.out).mono ?_
  rintro e w4 ⟨rfl, rfl⟩
  go_wp2_with fail
  refine (fixed_ok g 1 _ w3 HG3.out (by simp) (by simp [wid])).mono ?_
  rintro e w5 ⟨rfl, hG5, hO5⟩
  go_wp2
  go_ret
  simp at hg
  refine ⟨rfl, ?_⟩
  have a1 : Below w.heap.size w w2 := (hb1.alloc hs1 _).trans (HB2.out.mono (by simp; omega))
  have s2 := a1.size
  have a3 := below_only (B := w.heap.size) HO3.out (by omega) (by omega)
  have s3 := a3.size
  exact (a1.trans a3).trans (below_only (B := w.heap.size) hO5 (by omega) (by omega))
end Go.Proofs.Ytepncmceabkgpaa
