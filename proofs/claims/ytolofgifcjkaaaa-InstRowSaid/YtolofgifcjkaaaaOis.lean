/-
  Arguments opened: what a slice of instructions that came in holds.
  Conditions: none.
-/
import Derived.Test.YtolofgifcjkaaaaOpn
import Derived.Test.YtolofgifcjkaaaaIss
import Derived.Deep.SlicePairs
namespace Go.Proofs.Ytolofgifcjkaaaa
open Go.ChangeShapes Go.WideShapes Go.ChangeAt Go.RowKit

theorem open_iss {H : Type} {enc : TypeId × Value → H} {W : World} {a : Option Addr} {len cap : Nat} {d : DataW H} {p : List MemPlace} (h : DataW.Trod enc Try.prog W 0 (fun _ => true) true 37 (.slice a len cap) d p) :
    ∃ ts : List Ins, ts.length = len ∧ Iss (· < W.heap.size) W a ts ∧ len ≤ cap ∧ cap ≤ maxLen := by
  obtain ⟨fuel, hf⟩ := h
  rcases Go.Deep.open_slice Try.underlying37 hf with ⟨hcs, _⟩ | ⟨x, l, c, m, n, D, Pl, hcs, _, hl, hm, hmm, _, hx⟩
  · simp [Value.cells] at hcs
    obtain ⟨rfl, rfl, rfl⟩ := hcs
    exact ⟨[], rfl, Iss.nil _ _ _, Nat.le_refl _, by simp [maxLen]⟩
  · simp [Value.cells] at hcs
    obtain ⟨rfl, rfl, rfl⟩ := hcs
    simp only [if_true] at hmm
    have hall : ∀ i, i < len → ∃ t : Ins, W.cell? (x.add (i * 3)) = some (.int .i64 t.1) ∧ W.cell? (x.add (i * 3 + 1)) = some (.int .i64 t.2.1) ∧ W.cell? (x.add (i * 3 + 2)) = some (.int .i64 t.2.2) := fun i hi => by
      obtain ⟨cs', h1, h2⟩ := hx i (by omega)
      rw [show Try.prog.cellsOf 23 = 3 by kernel_rfl] at h1
      obtain ⟨_, hlen, hcell⟩ := World.cells?_some h1
      obtain ⟨xs, k, hk, hxy, _, hxl, hf⟩ := DataW.trod_struct Try.underlying23 h2
      match xs, hxl, cs', hlen with
      | [y0, y1, y2], _, [v0, v1, v2], _ =>
        have g0 := hf 0 _ rfl
        have g1 := hf 1 _ rfl
        have g2 := hf 2 _ rfl
        simp [show Try.prog.cellsOf 3 = 1 by kernel_rfl] at g0 g1 g2
        obtain ⟨z0, e0, _⟩ := DataW.trod_int Try.underlying3 g0
        obtain ⟨z1, e1, _⟩ := DataW.trod_int Try.underlying3 g1
        obtain ⟨z2, e2, _⟩ := DataW.trod_int Try.underlying3 g2
        simp at e0 e1 e2
        subst e0 e1 e2
        have c0 := hcell 0 (by omega)
        have c1 := hcell 1 (by omega)
        have c2 := hcell 2 (by omega)
        rw [addAdd] at c0 c1 c2
        exact ⟨(z0, z1, z2), by simpa using c0, by simpa using c1, by simpa using c2⟩
    obtain ⟨f, hf⟩ := Go.Deep.choose_lt hall
    have hg : ∀ j, j < len → ((List.range len).map f)[j]?.getD (0, 0, 0) = f j := fun j hj => by simp [hj]
    refine ⟨(List.range len).map f, by simp, fun hpos => ⟨x, rfl, ?_, fun j hj => ?_⟩, hl, hm⟩
    · simp at hpos
      have := World.block_lt_of_cell? W _ (hf 0 hpos).1
      rwa [addBlock] at this
    · simp at hj
      rw [hg j hj]
      exact hf j hj
end Go.Proofs.Ytolofgifcjkaaaa
