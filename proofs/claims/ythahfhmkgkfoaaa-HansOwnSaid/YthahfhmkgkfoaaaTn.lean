/-
  Of the blocks that there are only some have turned.
  Conditions: none.
-/
import Derived.Test.YthahfhmkgkfoaaaOw0
namespace Go.Proofs.Ythahfhmkgkfoaaa
open Go.RowKit

/-- Only blocks of which S says yes, and new ones, have turned. -/
structure Trn (S : Nat → Prop) (w w' : World) : Prop where
  os : w'.os = w.os
  tape : w'.tape = w.tape
  output : w'.output = w.output
  size : w.heap.size ≤ w'.heap.size
  block : ∀ b, b < w.heap.size → ¬ S b → w'.heap[b]? = w.heap[b]?
theorem Trn.refl (S : Nat → Prop) (w : World) : Trn S w w := ⟨rfl, rfl, rfl, Nat.le_refl _, fun _ _ _ => rfl⟩
theorem Trn.trans {S T : Nat → Prop} {a b c : World} (h : Trn S a b) (k : Trn T b c) (hT : ∀ i, i < a.heap.size → T i → S i) : Trn S a c :=
  ⟨k.os.trans h.os, k.tape.trans h.tape, k.output.trans h.output, Nat.le_trans h.size k.size, fun i hi hn => (k.block i (Nat.lt_of_lt_of_le hi h.size) fun q => hn (hT i hi q)).trans (h.block i hi hn)⟩
theorem Trn.of_below {S : Nat → Prop} {a b : World} (h : Below a.heap.size a b) : Trn S a b := ⟨h.os, h.tape, h.output, h.size, fun i hi _ => h.block i hi⟩
theorem Trn.below {S : Nat → Prop} {B : Nat} {a b : World} (h : Trn S a b) (hB : B ≤ a.heap.size) (hS : ∀ i, S i → B ≤ i) : Below B a b :=
  ⟨h.os, h.tape, h.output, h.size, fun i hi => h.block i (Nat.lt_of_lt_of_le hi hB) fun q => by have := hS i q; omega⟩
theorem Trn.set {S : Nat → Prop} {a b : World} (h : Trn S a b) {g i : Nat} (hg : S g) (u : Value) : Trn S a (b.setCell ⟨g, i, none⟩ u) :=
  ⟨h.os, h.tape, h.output, by simpa [World.setCell] using h.size, fun k hk hn => (Below.heap_setCell _ _ _ _ (fun (e : k = g) => hn (by rw [e]; exact hg))).trans (h.block k hk hn)⟩
theorem Trn.then {S : Nat → Prop} {a b c : World} (h : Trn S a b) (k : Below b.heap.size b c) : Trn S a c := h.trans (T := S) (Trn.of_below k) fun _ _ q => q
end Go.Proofs.Ythahfhmkgkfoaaa
