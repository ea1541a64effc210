/-
  Instructions as plain facts: how many numbers each has, which are good, their bytes.
  Conditions: none; nothing here speaks of a program.
-/
import Derived.Test.YtolofgifcjkaaaaMath
namespace Go.Proofs.Ytolofgifcjkaaaa

/-- How many of A and B an instruction has. -/
def argN (op : Int) : Int :=
  if op = 29 ∨ op = 30 then 2
  else if op = 0 ∨ op = 1 ∨ op = 3 ∨ op = 4 ∨ op = 23 ∨ op = 24 ∨ op = 25 ∨ op = 27 ∨ op = 28 then 1
  else if op < 0 ∨ 42 ≤ op then -1 else 0

theorem argN_cases (op : Int) : argN op = -1 ∨ argN op = 0 ∨ argN op = 1 ∨ argN op = 2 := by
  unfold argN
  repeat' split
  all_goals simp

theorem argN_op (op : Int) (h : 0 ≤ argN op) : 0 ≤ op ∧ op < 42 := by
  unfold argN at h
  repeat' split at h
  all_goals omega

/-- The numbers fit: those that it has are from 0 to 255, others are 0. -/
def fitN (n a b : Int) : Bool := decide (0 ≤ a ∧ a ≤ (if 0 < n then 255 else 0) ∧ 0 ≤ b ∧ b ≤ (if 1 < n then 255 else 0))
/-- A good instruction. -/
def goodI (op a b : Int) : Bool := decide (0 ≤ argN op) && fitN (argN op) a b

/-- The bytes of what it has. -/
def bodyB (n : Int) (a b : Nat) : List Nat := (if 0 < n then vb a else []) ++ (if 1 < n then vb b else [])
/-- The bytes of an instruction; none, if it is not good. -/
def insB (op a b : Int) : List Nat := if goodI op a b = true then op.toNat :: bodyB (argN op) a.toNat b.toNat else []

theorem goodI_parts {op a b : Int} (h : goodI op a b = true) : ∃ o x y : Nat, op = (o : Int) ∧ a = (x : Int) ∧ b = (y : Int) ∧ o < 42 ∧ x ≤ 255 ∧ y ≤ 255 ∧ 0 ≤ argN op ∧ (¬ 0 < argN op → x = 0) ∧ (¬ 1 < argN op → y = 0) := by
  unfold goodI fitN at h
  simp only [Bool.and_eq_true, decide_eq_true_eq] at h
  obtain ⟨h0, h1, h2, h3, h4⟩ := h
  have := argN_op op h0
  refine ⟨op.toNat, a.toNat, b.toNat, by omega, by omega, by omega, by omega, ?_, ?_, h0, fun hn => ?_, fun hn => ?_⟩
  · split at h2 <;> omega
  · split at h4 <;> omega
  · rw [if_neg hn] at h2; omega
  · rw [if_neg hn] at h4; omega

theorem goodI_mk {o x y : Nat} (h0 : 0 ≤ argN o) (hx : x ≤ 255) (hy : y ≤ 255) (h1 : ¬ 0 < argN o → x = 0) (h2 : ¬ 1 < argN o → y = 0) : goodI o x y = true := by
  unfold goodI fitN
  simp only [Bool.and_eq_true, decide_eq_true_eq]
  refine ⟨h0, by omega, ?_, by omega, ?_⟩
  · split
    · omega
    · rename_i h; have := h1 h; omega
  · split
    · omega
    · rename_i h; have := h2 h; omega

theorem insB_good {o x y : Nat} (h : goodI o x y = true) : insB o x y = o :: bodyB (argN o) x y := by
  unfold insB
  rw [if_pos h]
  simp
theorem insB_none {op a b : Int} (h : ¬ goodI op a b = true) : insB op a b = [] := by
  unfold insB
  rw [if_neg h]

theorem vb255 (x : Nat) (h : x ≤ 255) : (vb x).length ≤ 2 := vb_len 1 x (by omega)
theorem bodyB_len (n : Int) (x y : Nat) (hx : x ≤ 255) (hy : y ≤ 255) : (bodyB n x y).length ≤ 4 := by
  have h1 := vb255 x hx
  have h2 := vb255 y hy
  unfold bodyB
  split <;> split <;> simp <;> omega
theorem insB_len (op a b : Int) : (insB op a b).length ≤ 5 := by
  by_cases h : goodI op a b = true
  · obtain ⟨o, x, y, rfl, rfl, rfl, _, hx, hy, _⟩ := goodI_parts h
    rw [insB_good h]
    have := bodyB_len (argN o) x y hx hy
    simp
    omega
  · rw [insB_none h]; simp
theorem bodyB_bytes (n : Int) (x y : Nat) : ∀ z ∈ bodyB n x y, z < 256 := by
  intro z hz
  unfold bodyB at hz
  rcases List.mem_append.1 hz with h | h
  · split at h
    · exact vb_bytes x z h
    · simp at h
  · split at h
    · exact vb_bytes y z h
    · simp at h
theorem insB_bytes (op a b : Int) : ∀ z ∈ insB op a b, z < 256 := by
  by_cases h : goodI op a b = true
  · obtain ⟨o, x, y, rfl, rfl, rfl, ho, hx, hy, _⟩ := goodI_parts h
    rw [insB_good h]
    intro z hz
    rcases List.mem_cons.1 hz with rfl | hz
    · omega
    · exact bodyB_bytes _ _ _ z hz
  · rw [insB_none h]; simp
theorem insB_pos {op a b : Int} (h : goodI op a b = true) : 0 < (insB op a b).length := by
  obtain ⟨o, x, y, rfl, rfl, rfl, ho, hx, hy, _⟩ := goodI_parts h
  rw [insB_good h]
  simp

/-- The bytes begin with a good instruction. -/
def HasI (xs : List Nat) : Prop := ∃ (o x y : Nat) (rest : List Nat), goodI o x y = true ∧ xs = insB o x y ++ rest
theorem hasI_nil : ¬ HasI [] := by
  rintro ⟨o, x, y, rest, h, e⟩
  have := insB_pos h
  have hl := congrArg List.length e
  simp at hl
  omega

/-- Where a number stands. -/
theorem isVar_split {xs : List Nat} {v n : Nat} (h : IsVar xs v n) : xs = vb v ++ xs.drop n := by
  rw [← h.2.1, List.take_append_drop]
theorem isVar_of {xs rest : List Nat} {v : Nat} (h : xs = vb v ++ rest) (hv : v < B64) : IsVar xs v (vb v).length := by
  subst h
  exact isVar_app v hv rest
end Go.Proofs.Ytolofgifcjkaaaa
