/-
  Blocks that stay.
  Conditions: as each theorem says.
-/
import Derived.Test.YthahfhmkgkfoaaaOw0
namespace Go.Proofs.Ythahfhmkgkfoaaa
open Go.RowKit

theorem blk_keep {v : World} {o : Obj} {b t : Nat} {c : Array Value} (h : Blk v b t c) : Blk (v.alloc o) b t c := (Below.heap_alloc v o b h.lt).trans h
theorem blk_at {v : World} {b t : Nat} {c : Array Value} (h : v.heap.size = b) : Blk (v.alloc (.cells c t)) b t c := by rw [← h]; exact blk_new v t c
theorem blk_below {v w : World} {B b t : Nat} {c : Array Value} (h : Blk v b t c) (hb : Below B v w) (hB : b < B) : Blk w b t c := (hb.block b hB).trans h
theorem blk_other {v : World} {b t g i : Nat} {c : Array Value} {u : Value} (h : Blk v b t c) (hne : b ≠ g) : Blk (v.setCell ⟨g, i, none⟩ u) b t c := (Below.heap_setCell v ⟨g, i, none⟩ u b hne).trans h

theorem list_world {P : Program} {ops : Array Oper} {Q : Exit → Act → World → Prop} {l : List Oper} {a : Act} {w : World} (h : ∀ W, W = w → wpList P ops Q l a W) : wpList P ops Q l a w := h w rfl
/-- The cells of a block, where they lie. -/
theorem blk_cells {w : World} {g ty : Nat} {cs : Array Value} (h : Blk w g ty cs) (j : Nat) (u : Value) (hu : cs.toList[j]? = some u) : w.cell? ((⟨g, 0, none⟩ : Addr).add j) = some u := by
  have e : (⟨g, 0, none⟩ : Addr).add j = ⟨g, j, none⟩ := by unfold Addr.add; split <;> simp_all
  rw [e]
  have := h.cell j
  rw [this]
  simpa using hu
end Go.Proofs.Ythahfhmkgkfoaaa
