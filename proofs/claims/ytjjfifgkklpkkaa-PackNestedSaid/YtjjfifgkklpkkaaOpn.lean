/-
  Arguments opened: what a slice of bytes, or of slices of bytes, that came in holds.
  Conditions: none.
-/
import Derived.Test.YtjjfifgkklpkkaaRows
import Derived.Test.YtjjfifgkklpkkaaRws
import Derived.WalkKit
import Derived.ProofKit
import Derived.OpenShut
import Derived.ShutString
import Derived.Deep.Slices
namespace Go.Proofs.Ytjjfifgkklpkkaa
open Go.ChangeShapes Go.WideShapes Go.ChangeAt Go.RowKit

theorem own : ownKnob Try.prog.godebug = none := by kernel_rfl
theorem laidOut : laidOutB Try.prog = true := by kernel_rfl

/-- A slice of bytes, by its cells. -/
theorem open_byts {H : Type} {enc : TypeId × Value → H} {W : World} {cs : List Value} {x : DataW H × List MemPlace} {fuel : Nat} (hf : DataW.trod enc Try.prog W 0 (fun _ => true) true fuel 24 cs = some x) :
    ∃ a len cap, cs = [.slice a len cap] ∧ ∃ xs : List Nat, xs.length = len ∧ (∀ y ∈ xs, y < 256) ∧ Byt (· < W.heap.size) W a xs ∧ len ≤ cap ∧ cap ≤ maxLen := by
  rcases open_ints Try.underlying24 Try.underlying5 (by kernel_rfl) hf with ⟨hcs, _⟩ | ⟨y, l, c, zs, hcs, _, hl, hm, hz, _, hcell, hwz⟩
  · exact ⟨none, 0, 0, hcs, [], rfl, by simp, Byt.nil _ _ _, Nat.le_refl _, by simp [maxLen]⟩
  · obtain ⟨xs, h1, h2, h3, h4, h5⟩ := row_bytes (w := W) (a := some y) (len := l) (cap := c) (zs := zs) (.inr ⟨_, rfl, hl, hm, by simpa using hz, hcell, hwz⟩)
    exact ⟨some y, l, c, hcs, xs, h1, h2, h3, h4, h5⟩

theorem open_byt {H : Type} {enc : TypeId × Value → H} {W : World} {a : Option Addr} {len cap : Nat} {d : DataW H} {p : List MemPlace} (h : DataW.Trod enc Try.prog W 0 (fun _ => true) true 24 (.slice a len cap) d p) :
    ∃ xs : List Nat, xs.length = len ∧ (∀ y ∈ xs, y < 256) ∧ Byt (· < W.heap.size) W a xs ∧ len ≤ cap ∧ cap ≤ maxLen := by
  obtain ⟨fuel, hf⟩ := h
  obtain ⟨a', l', c', hcs, hx⟩ := open_byts hf
  simp [Value.cells] at hcs
  obtain ⟨rfl, rfl, rfl⟩ := hcs
  exact hx

/-- A slice of slices of bytes. -/
theorem open_rws {H : Type} {enc : TypeId × Value → H} {W : World} {a : Option Addr} {len cap : Nat} {d : DataW H} {p : List MemPlace} (h : DataW.Trod enc Try.prog W 0 (fun _ => true) true 22 (.slice a len cap) d p) :
    ∃ xss : List (List Nat), xss.length = len ∧ (∀ j, j < len → ∀ y ∈ xss[j]?.getD [], y < 256) ∧ Rws (· < W.heap.size) W a xss ∧ len ≤ cap ∧ cap ≤ maxLen := by
  obtain ⟨fuel, hf⟩ := h
  rcases Go.Deep.open_slice1 Try.underlying22 (by kernel_rfl) hf with ⟨hcs, _⟩ | ⟨x, l, c, m, n, V, D, Pl, hcs, _, hl, hm, hmm, _, hcell⟩
  · simp [Value.cells] at hcs
    obtain ⟨rfl, rfl, rfl⟩ := hcs
    exact ⟨[], rfl, fun j hj => absurd hj (by omega), Rws.nil _ _ _, Nat.le_refl _, by simp [maxLen]⟩
  · simp [Value.cells] at hcs
    obtain ⟨rfl, rfl, rfl⟩ := hcs
    simp only [if_true] at hmm
    have hall : ∀ i, i < len → ∃ xs : List Nat, ∃ B c2, W.cell? (x.add i) = some (.slice B xs.length c2) ∧ xs.length ≤ c2 ∧ Byt (· < W.heap.size) W B xs ∧ ∀ y ∈ xs, y < 256 := fun i hi => by
      obtain ⟨h1, h2⟩ := hcell i (by omega)
      obtain ⟨a', l', c', hcs, xs, e1, e2, e3, e4, _⟩ := open_byts h2
      injection hcs with hcs _
      subst e1
      exact ⟨xs, a', c', by rw [h1, hcs], e4, e3, e2⟩
    obtain ⟨f, hf⟩ := Go.Deep.choose_lt hall
    have hg : ∀ j, j < len → ((List.range len).map f)[j]?.getD [] = f j := fun j hj => by simp [hj]
    refine ⟨(List.range len).map f, by simp, fun j hj => ?_, fun hpos => ⟨x, rfl, ?_, fun j hj => ?_⟩, hl, hm⟩
    · rw [hg j hj]
      obtain ⟨B, c2, _, _, _, h4⟩ := hf j hj
      exact h4
    · simp at hpos
      obtain ⟨B, c2, h1, _⟩ := hf 0 hpos
      have := World.block_lt_of_cell? W _ h1
      rwa [addBlock] at this
    · simp at hj
      rw [hg j hj]
      obtain ⟨B, c2, h1, h2, h3, _⟩ := hf j hj
      exact ⟨B, c2, h1, h2, h3⟩
end Go.Proofs.Ytjjfifgkklpkkaa
