/-
  Arguments opened: slices of handles.
  Conditions: none.
-/
import Derived.Test.YthahfhmkgkfoaaaOps
import Derived.Test.YthahfhmkgkfoaaaHn
namespace Go.Proofs.Ythahfhmkgkfoaaa
open Go.ChangeShapes Go.WideShapes Go.ChangeAt Go.RowKit
set_option linter.unusedSimpArgs false
set_option linter.unusedVariables false

set_option maxRecDepth 100000 in
theorem opens_hnd : Opens 31 hdL := by
  intro H enc W cs x fuel hf
  obtain ⟨xs, k, hk, hxy, hl, hxl, hfl⟩ := DataW.trod_struct Try.underlying31 hf
  rw [show Try.prog.cellsOf 31 = 3 by kernel_rfl] at hl
  match xs, hxl, cs, hl with
  | [y0, y1, y2], _, [v0, v1, v2], _ =>
    have g0 := hfl 0 _ rfl
    have g1 := hfl 1 _ rfl
    have g2 := hfl 2 _ rfl
    simp [show Try.prog.cellsOf 3 = 1 by kernel_rfl, show Try.prog.cellsOf 27 = 1 by kernel_rfl, show Try.prog.cellsOf 4 = 1 by kernel_rfl] at g0 g1 g2
    obtain ⟨z0, e0, _, b0⟩ := DataW.trod_int Try.underlying3 g0
    obtain ⟨z1, e1, _, b1⟩ := DataW.trod_int Try.underlying27 g1
    obtain ⟨b, e2, _⟩ := DataW.trod_bool Try.underlying4 g2
    simp at e0 e1 e2
    subst e0 e1 e2
    have c1 := bounds_u64 b1
    refine ⟨⟨z0, z1.toNat, b⟩, ?_, i64_of b0, ?_⟩
    · show [Value.int .i64 z0, Value.int .u64 z1, Value.bool b] = [Value.int .i64 z0, Value.int .u64 (z1.toNat : Int), Value.bool b]
      rw [Int.toNat_of_nonneg c1.1]
    · show z1.toNat < B64
      unfold B64
      omega
theorem opens_hnds : Opens 22 (slL hdL) := opens_slice (by decide) Try.underlying22 (by kernel_rfl) opens_hnd
theorem open_hnds {H : Type} {enc : TypeId × Value → H} {W : World} {a : Option Addr} {len cap : Nat} {d : DataW H} {p : List MemPlace} (h : DataW.Trod enc Try.prog W 0 (fun _ => true) true 22 (.slice a len cap) d p) :
    ∃ L : List Hnd, L.length = len ∧ (slL hdL).R (· < W.heap.size) W [.slice a len cap] L := by
  obtain ⟨fuel, hf⟩ := h
  obtain ⟨L, hL⟩ := opens_hnds hf
  have hL' : (slL hdL).R (· < W.heap.size) W [.slice a len cap] L := by simpa [Value.cells] using hL
  have h2 := hL'
  obtain ⟨A, c, e, -⟩ := h2
  simp at e
  exact ⟨L, e.2.1.symm, hL'⟩
end Go.Proofs.Ythahfhmkgkfoaaa
