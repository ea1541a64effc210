/-
  Blocks that are new or kept.
  Conditions: none.
-/
import Derived.Test.YthahfhmkgkfoaaaW0
namespace Go.Proofs.Ythahfhmkgkfoaaa
open Go.RowKit
theorem blk_new (w : World) (t : TypeId) (cs : Array Value) : Blk (w.alloc (.cells cs t)) w.heap.size t cs := heap_alloc_new w _
theorem only_blk {g b : Nat} {w w' : World} {t : TypeId} {cs : Array Value} (h : Only g w w') (hb : Blk w b t cs) (hne : b ≠ g) : Blk w' b t cs := (h.block b hb.lt (fun e => hne (by injection e))).trans hb
theorem set_blk {b b' i : Nat} {w : World} {t : TypeId} {cs : Array Value} (hb : Blk w b t cs) (u : Value) (hne : b ≠ b') : Blk (w.setCell ⟨b', i, none⟩ u) b t cs := (Below.heap_setCell _ _ _ _ hne).trans hb
end Go.Proofs.Ythahfhmkgkfoaaa
