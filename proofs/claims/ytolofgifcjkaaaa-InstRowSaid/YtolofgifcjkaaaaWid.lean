/-
  What num.width does.
  Conditions: none.
-/
import Derived.Test.YtolofgifcjkaaaaWds
import Derived.Test.YtolofgifcjkaaaaLe
namespace Go.Proofs.Ytolofgifcjkaaaa
open Go.RowKit
set_option maxHeartbeats 400000 in
theorem width_any (n : Int) (w : World) : Calls Try.prog 24 #[.int .i64 n] w fun e w' => e = .returned (.int .i64 (wid n : Nat)) ∧ w = w' := by
  go_enter Try.func24, Try.ntmps24
  go_wp2
  all_goals
    go_ret
    exact ⟨ret_int (by unfold wid; omega), rfl⟩
end Go.Proofs.Ytolofgifcjkaaaa
