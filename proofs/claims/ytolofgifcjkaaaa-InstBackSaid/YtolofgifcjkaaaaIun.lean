/-
  Instructions' bytes tell the instruction: one row of bytes begins with one at most, and what is cut off begins with none.
  Conditions: none; nothing here speaks of a program.
-/
import Derived.Test.YtolofgifcjkaaaaIm
namespace Go.Proofs.Ytolofgifcjkaaaa

theorem vb_unique {v u : Nat} (hv : v < B64) (hu : u < B64) {r s : List Nat} (h : vb v ++ r = vb u ++ s) : v = u ∧ r = s := by
  obtain ⟨e, _⟩ := isVar_unique (isVar_app v hv r) (isVar_of h hu)
  subst e
  exact ⟨rfl, List.append_cancel_left h⟩

theorem ins_unique {o x y o' x' y' : Nat} {r s : List Nat} (h : goodI o x y = true) (h' : goodI o' x' y' = true) (e : insB o x y ++ r = insB o' x' y' ++ s) : o = o' ∧ x = x' ∧ y = y' ∧ r = s := by
  rw [insB_good h, insB_good h', List.cons_append, List.cons_append] at e
  injection e with e1 e2
  subst e1
  obtain ⟨_, a, b, q1, q2, q3, _, hx, hy, h0, hx1, hy1⟩ := goodI_parts h
  obtain ⟨_, a', b', q1', q2', q3', _, hx', hy', _, hx1', hy1'⟩ := goodI_parts h'
  obtain rfl : x = a := by omega
  obtain rfl : y = b := by omega
  obtain rfl : x' = a' := by omega
  obtain rfl : y' = b' := by omega
  have k : x < B64 ∧ y < B64 ∧ x' < B64 ∧ y' < B64 := by unfold B64; omega
  rcases argN_cases o with hn | hn | hn | hn
  · omega
  · have := hx1 (by omega)
    have := hx1' (by omega)
    have := hy1 (by omega)
    have := hy1' (by omega)
    rw [hn] at e2
    simp [bodyB] at e2
    exact ⟨rfl, by omega, by omega, e2⟩
  · have := hy1 (by omega)
    have := hy1' (by omega)
    rw [hn] at e2
    simp [bodyB] at e2
    obtain ⟨a, b⟩ := vb_unique k.1 k.2.2.1 e2
    exact ⟨rfl, a, by omega, b⟩
  · rw [hn] at e2
    simp [bodyB] at e2
    obtain ⟨a, b⟩ := vb_unique k.1 k.2.2.1 e2
    obtain ⟨c, d⟩ := vb_unique k.2.1 k.2.2.2 b
    exact ⟨rfl, a, c, d⟩

theorem no_cut {o x y k : Nat} (h : goodI o x y = true) (hk : k < (insB o x y).length) : ¬ HasI ((insB o x y).take k) := by
  rintro ⟨o', x', y', rest, h', e⟩
  have e2 : insB o x y ++ [] = insB o' x' y' ++ (rest ++ (insB o x y).drop k) := by
    rw [List.append_nil, ← List.append_assoc, ← e, List.take_append_drop]
  obtain ⟨_, _, _, e3⟩ := ins_unique h h' e2
  have := congrArg List.length e3
  simp at this
  omega
end Go.Proofs.Ytolofgifcjkaaaa
