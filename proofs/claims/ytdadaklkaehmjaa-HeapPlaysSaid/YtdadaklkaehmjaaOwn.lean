/-
  Small words more on memory: slices of bytes that the call owns, blocks that are new or kept.
  Conditions: none.
-/
import Derived.Test.YtdadaklkaehmjaaWds
namespace Go.Proofs.Ytdadaklkaehmjaa
open Go.RowKit

theorem own_wide {w : World} {b b' : Nat} {v : Value} {n : Nat} {xs : List Value} (h : w.ownsRow b 5 1 v n xs) (hb : b' ≤ b) : w.ownsRow b' 5 1 v n xs := by
  refine ⟨h.1, ?_⟩
  rcases h.2 with h | ⟨g', cap, cur, e, hb2, rest⟩
  · exact .inl h
  · exact .inr ⟨g', cap, cur, e, Nat.le_trans hb hb2, rest⟩
theorem own_nil (w : World) (b : Nat) : w.ownsRow b 5 1 (.slice none 0 0) 0 (Bs []) := ⟨rfl, .inl ⟨rfl, rfl⟩⟩
theorem blk_new (w : World) (t : TypeId) (cs : Array Value) : Blk (w.alloc (.cells cs t)) w.heap.size t cs := heap_alloc_new w _
theorem only_blk {g b : Nat} {w w' : World} {t : TypeId} {cs : Array Value} (h : Only g w w') (hb : Blk w b t cs) (hne : b ≠ g) : Blk w' b t cs := (h.block b hb.lt (fun e => hne (by injection e))).trans hb
theorem set_blk {b b' i : Nat} {w : World} {t : TypeId} {cs : Array Value} (hb : Blk w b t cs) (u : Value) (hne : b ≠ b') : Blk (w.setCell ⟨b', i, none⟩ u) b t cs := (Below.heap_setCell _ _ _ _ hne).trans hb
end Go.Proofs.Ytdadaklkaehmjaa
