/-
  Types, as plain facts: which are references, which are good, which stands for which, what two have in common.
  Conditions: none; nothing here speaks of a program.
-/
namespace Go.Proofs.Ytcogjdpgnahjiaa

def refB (k : Int) : Bool := k == 2 || k == 3 || k == 4 || k == 6 || k == 7
def goodB (k n r : Int) : Bool := if k = 1 ∨ k = 2 ∨ k = 3 ∨ k = 7 then n == 0 else if k = 4 then decide (0 ≤ n ∧ n < r) else if k = 5 then decide (0 ≤ n ∧ n < 4) else false
def subB (a b c d : Int) : Bool := (a == c && b == d) || c == 8 || (refB a && refB c && (a == 6 || c == 7))
def joinK (a b c d : Int) : Int := if subB a b c d then c else if subB c d a b then a else if refB a && refB c then 7 else 8
def joinN (a b c d : Int) : Int := if subB a b c d then d else if subB c d a b then b else 0
end Go.Proofs.Ytcogjdpgnahjiaa
