/-
  Rows of good instructions and their bytes, and two slices that the call owns apart from one another.
  Conditions: as each theorem says.
-/
import Derived.Test.YtolofgifcjkaaaaIm
import Derived.Test.YtolofgifcjkaaaaIss
namespace Go.Proofs.Ytolofgifcjkaaaa
open Go.RowKit

def gt (t : Ins) : Bool := goodI t.1 t.2.1 t.2.2
def insT (t : Ins) : List Nat := insB t.1 t.2.1 t.2.2
/-- The bytes of instructions one behind the other. -/
def rowB : List Ins → List Nat
  | [] => []
  | t :: ts => insT t ++ rowB ts
theorem rowB_app (ts us : List Ins) : rowB (ts ++ us) = rowB ts ++ rowB us := by
  induction ts with
  | nil => rfl
  | cons t ts ih => simp [rowB, ih]
theorem rowB_len (ts : List Ins) : (rowB ts).length ≤ 5 * ts.length := by
  induction ts with
  | nil => simp [rowB]
  | cons t ts ih =>
    have := insB_len t.1 t.2.1 t.2.2
    simp [rowB, insT]
    omega
theorem rowB_bytes (ts : List Ins) : ∀ z ∈ rowB ts, z < 256 := by
  induction ts with
  | nil => simp [rowB]
  | cons t ts ih =>
    intro z hz
    rcases List.mem_append.1 hz with h | h
    · exact insB_bytes _ _ _ z h
    · exact ih z h
theorem rowB_drop (ts : List Ins) (j : Nat) (h : j < ts.length) : rowB (ts.drop j) = insT (ts[j]?.getD (0, 0, 0)) ++ rowB (ts.drop (j + 1)) := by
  rw [List.drop_eq_getElem_cons h, rowB]
  simp [h]
theorem good_at (ts : List Ins) (hg : ∀ t ∈ ts, gt t = true) (j : Nat) (h : j < ts.length) : ∃ o x y : Nat, ts[j]?.getD (0, 0, 0) = ((o : Int), (x : Int), (y : Int)) ∧ goodI o x y = true := by
  have hm : ts[j]?.getD (0, 0, 0) ∈ ts := by simp [h]
  have hh := hg _ hm
  obtain ⟨o, x, y, h0, h1, h2, _⟩ := goodI_parts hh
  refine ⟨o, x, y, ?_, ?_⟩
  · rw [← h0, ← h1, ← h2]
  · unfold gt at hh
    rw [h0, h1, h2] at hh
    exact hh

/-- Two slices lie in blocks of their own. -/
def Apart (v u : Value) : Prop := ∀ i, v.ownBlock = some i → u.ownBlock ≠ some i
theorem Apart.symm {v u : Value} (h : Apart v u) : Apart u v := fun i hu hv => h i hv hu
theorem Apart.ne {v u : Value} (h : Apart v u) : v.ownBlock = none ∨ v.ownBlock ≠ u.ownBlock := by
  cases hv : v.ownBlock with
  | none => exact .inl rfl
  | some i => exact .inr fun e => h i hv e.symm
theorem Apart.grown {v u v' : Value} {n : Nat} (h : Apart v u) (hv : v'.ownBlock = v.ownBlock ∨ v'.ownBlock = some n) (hu : ∀ i, u.ownBlock = some i → i < n) : Apart v' u := fun i hi hui => by
  rcases hv with e | e
  · exact h i (e ▸ hi) hui
  · rw [e] at hi
    injection hi with hi
    have := hu i hui
    omega
theorem ins_below {w w' : World} {base B : Nat} {v : Value} {n : Nat} {xs : List Value} (h : w.ownsRow base 23 3 v n xs) (hb : Below B w w') (hB : w.heap.size ≤ B) : w'.ownsRow base 23 3 v n xs :=
  h.kept (w' := w') (row := none) ⟨hb.os, hb.tape, hb.output, hb.size, fun k hk _ => hb.block k (by omega)⟩ (by cases v.ownBlock <;> simp)
end Go.Proofs.Ytolofgifcjkaaaa
