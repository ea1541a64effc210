/-
  The law HeapPlays beyond its bounds.
  Conditions: as the theorem says.
-/
import Derived.Test.YtdadaklkaehmjaaHan
namespace Go.Proofs.Ytdadaklkaehmjaa
open Go.RowKit
set_option linter.unusedSimpArgs false
set_option linter.unusedVariables false

set_option maxRecDepth 100000 in
set_option maxHeartbeats 8000000 in
theorem plays_bad (A : Option Addr) (n c : Nat) (q u : Int) (B : Option Addr) (m d : Nat) (w : World) (hbad : (20 : Int) < n ∨ (n : Int) ≤ 20 ∧ (60 : Int) < m ∨ (n : Int) ≤ 20 ∧ (m : Int) ≤ 60 ∧ 1099511627776 < q ∨ (n : Int) ≤ 20 ∧ (m : Int) ≤ 60 ∧ q ≤ 1099511627776 ∧ q < -1099511627776 ∨ (n : Int) ≤ 20 ∧ (m : Int) ≤ 60 ∧ q ≤ 1099511627776 ∧ -1099511627776 ≤ q ∧ 1099511627776 < u ∨ (n : Int) ≤ 20 ∧ (m : Int) ≤ 60 ∧ q ≤ 1099511627776 ∧ -1099511627776 ≤ q ∧ u ≤ 1099511627776 ∧ u < -1099511627776) :
    Calls Try.prog 3 #[.slice A n c, .int .i64 q, .int .i64 u, .slice B m d] w fun e w' => e = .returned (.bool true) ∧ Below w.heap.size w w' := by
  have AN := Lib.hid (fun w => answers12 w)
  rcases hbad with h | ⟨h1, h⟩ | ⟨h1, h2, h⟩ | ⟨h1, h2, h3, h⟩ | ⟨h1, h2, h3, h4, h⟩ | ⟨h1, h2, h3, h4, h5, h⟩
  all_goals
    go_enter Try.func3, Try.ntmps3
    go_wp2_with (first
      | (go_at_call 8
         refine (AN.out w).mono ?_
         rintro e w1 ⟨rfl, hb1⟩
         have HB1 := Lib.hid hb1
         clear hb1))
    go_ret
    exact ⟨rfl, HB1.out⟩
end Go.Proofs.Ytdadaklkaehmjaa
