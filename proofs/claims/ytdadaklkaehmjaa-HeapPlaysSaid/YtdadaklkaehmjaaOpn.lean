/-
  Arguments opened: what a slice of bytes that came in holds.
  Conditions: none.
-/
import Derived.Test.YtdadaklkaehmjaaRows
import Derived.Test.YtdadaklkaehmjaaWds
import Derived.WalkKit
import Derived.ProofKit
import Derived.OpenShut
import Derived.ShutString
import Derived.Deep.Slices
namespace Go.Proofs.Ytdadaklkaehmjaa
open Go.ChangeShapes Go.WideShapes Go.ChangeAt Go.RowKit

theorem own : ownKnob Try.prog.godebug = none := by kernel_rfl
theorem laidOut : laidOutB Try.prog = true := by kernel_rfl

/-- A slice of bytes, by its cells. -/
theorem open_byts {H : Type} {enc : TypeId × Value → H} {W : World} {cs : List Value} {x : DataW H × List MemPlace} {fuel : Nat} (hf : DataW.trod enc Try.prog W 0 (fun _ => true) true fuel 26 cs = some x) :
    ∃ a len cap, cs = [.slice a len cap] ∧ ∃ xs : List Nat, xs.length = len ∧ (∀ y ∈ xs, y < 256) ∧ Byt (· < W.heap.size) W a xs ∧ len ≤ cap ∧ cap ≤ maxLen := by
  rcases open_ints Try.underlying26 Try.underlying5 (by kernel_rfl) hf with ⟨hcs, _⟩ | ⟨y, l, c, zs, hcs, _, hl, hm, hz, _, hcell, hwz⟩
  · exact ⟨none, 0, 0, hcs, [], rfl, by simp, Byt.nil _ _ _, Nat.le_refl _, by simp [maxLen]⟩
  · obtain ⟨xs, h1, h2, h3, h4, h5⟩ := row_bytes (w := W) (a := some y) (len := l) (cap := c) (zs := zs) (.inr ⟨_, rfl, hl, hm, by simpa using hz, hcell, hwz⟩)
    exact ⟨some y, l, c, hcs, xs, h1, h2, h3, h4, h5⟩

theorem open_byt {H : Type} {enc : TypeId × Value → H} {W : World} {a : Option Addr} {len cap : Nat} {d : DataW H} {p : List MemPlace} (h : DataW.Trod enc Try.prog W 0 (fun _ => true) true 26 (.slice a len cap) d p) :
    ∃ xs : List Nat, xs.length = len ∧ (∀ y ∈ xs, y < 256) ∧ Byt (· < W.heap.size) W a xs ∧ len ≤ cap ∧ cap ≤ maxLen := by
  obtain ⟨fuel, hf⟩ := h
  obtain ⟨a', l', c', hcs, hx⟩ := open_byts hf
  simp [Value.cells] at hcs
  obtain ⟨rfl, rfl, rfl⟩ := hcs
  exact hx
end Go.Proofs.Ytdadaklkaehmjaa
