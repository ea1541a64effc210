/-
  Arguments opened: slices of what happens to a table, as the law has it.
  Conditions: none.
-/
import Derived.Test.YthahfhmkgkfoaaaOhn
namespace Go.Proofs.Ythahfhmkgkfoaaa
open Go.ChangeShapes Go.WideShapes Go.ChangeAt Go.RowKit
set_option linter.unusedSimpArgs false
set_option linter.unusedVariables false

/-- Something that happens. -/
structure Hat where
  what : Int
  kind : Int
  n : Nat
instance : Inhabited Hat := ⟨⟨0, 0, 0⟩⟩
def hatL : Lay Hat where
  k := 3
  R _ _ cs a := cs = [.int .i64 a.what, .int .i64 a.kind, .int .u64 (a.n : Int)] ∧ I64 a.what ∧ I64 a.kind ∧ a.n < B64
  len := by rintro S w cs x ⟨rfl, _⟩; rfl
  keep := by rintro S w w' cs x h _; exact h
  wide := by rintro S T w cs x h _; exact h
  one := by
    rintro S w cs x ⟨rfl, _⟩ u hu
    simp only [List.mem_cons, List.not_mem_nil, or_false] at hu
    rcases hu with rfl | rfl | rfl <;> rfl
set_option maxRecDepth 100000 in
theorem opens_hat : Opens 29 hatL := by
  intro H enc W cs x fuel hf
  obtain ⟨xs, k, hk, hxy, hl, hxl, hfl⟩ := DataW.trod_struct Try.underlying29 hf
  rw [show Try.prog.cellsOf 29 = 3 by kernel_rfl] at hl
  match xs, hxl, cs, hl with
  | [y0, y1, y2], _, [v0, v1, v2], _ =>
    have g0 := hfl 0 _ rfl
    have g1 := hfl 1 _ rfl
    have g2 := hfl 2 _ rfl
    simp [show Try.prog.cellsOf 3 = 1 by kernel_rfl, show Try.prog.cellsOf 27 = 1 by kernel_rfl] at g0 g1 g2
    obtain ⟨z0, e0, _, b0⟩ := DataW.trod_int Try.underlying3 g0
    obtain ⟨z1, e1, _, b1⟩ := DataW.trod_int Try.underlying3 g1
    obtain ⟨z2, e2, _, b2⟩ := DataW.trod_int Try.underlying27 g2
    simp at e0 e1 e2
    subst e0 e1 e2
    have c2 := bounds_u64 b2
    refine ⟨⟨z0, z1, z2.toNat⟩, ?_, i64_of b0, i64_of b1, ?_⟩
    · show [Value.int .i64 z0, Value.int .i64 z1, Value.int .u64 z2] = [Value.int .i64 z0, Value.int .i64 z1, Value.int .u64 (z2.toNat : Int)]
      rw [Int.toNat_of_nonneg c2.1]
    · show z2.toNat < B64
      unfold B64
      omega
theorem opens_hats : Opens 23 (slL hatL) := opens_slice (by decide) Try.underlying23 (by kernel_rfl) opens_hat
theorem open_hats {H : Type} {enc : TypeId × Value → H} {W : World} {a : Option Addr} {len cap : Nat} {d : DataW H} {p : List MemPlace} (h : DataW.Trod enc Try.prog W 0 (fun _ => true) true 23 (.slice a len cap) d p) :
    ∃ L : List Hat, L.length = len ∧ (slL hatL).R (· < W.heap.size) W [.slice a len cap] L := by
  obtain ⟨fuel, hf⟩ := h
  obtain ⟨L, hL⟩ := opens_hats hf
  have hL' : (slL hatL).R (· < W.heap.size) W [.slice a len cap] L := by simpa [Value.cells] using hL
  have h2 := hL'
  obtain ⟨A, c, e, -⟩ := h2
  simp at e
  exact ⟨L, e.2.1.symm, hL'⟩
end Go.Proofs.Ythahfhmkgkfoaaa
