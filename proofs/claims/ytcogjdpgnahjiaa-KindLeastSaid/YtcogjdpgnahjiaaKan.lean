/-
  What law04's answers says: true.
  Conditions: none.
-/
import Derived.Test.YtcogjdpgnahjiaaKjn
import Derived.Lib.QuietBelow
import Derived.BigQuiet
namespace Go.Proofs.Ytcogjdpgnahjiaa
open Go.RowKit Go.Sort
set_option linter.unusedSimpArgs false

set_option maxHeartbeats 1000000 in
theorem answers4 (w : World) : Calls Try.prog 8 #[] w fun e w' => e = .returned (.bool true) ∧ Below w.heap.size w w' := by
  have J := Lib.hid (fun w => kjoin 6 0 2 0 w)
  have S1 := Lib.hid (fun w => ksub 6 0 2 0 w)
  have S2 := Lib.hid (fun w => ksub 2 0 6 0 w)
  have R := Lib.hid (fun w => kref 2 0 w)
  rw [show joinK 6 0 2 0 = 2 by decide, show joinN 6 0 2 0 = 0 by decide] at J
  rw [show subB 6 0 2 0 = true by decide] at S1
  rw [show subB 2 0 6 0 = false by decide] at S2
  rw [show refB 2 = true by decide] at R
  go_enter Try.func8, Try.ntmps8
  go_wp2_with fail
  refine wp_world fun W hW => ?_
  have c0 : W.cell? ⟨w.heap.size, 0, none⟩ = some (.int .i64 6) := by rw [hW]; simp [go_sem]
  have c1 : W.cell? ⟨w.heap.size, 1, none⟩ = some (.int .i64 0) := by rw [hW]; simp [go_sem]
  have c2 : W.cell? ⟨w.heap.size + 1, 0, none⟩ = some (.int .i64 2) := by rw [hW]; simp [go_sem]
  have c3 : W.cell? ⟨w.heap.size + 1, 1, none⟩ = some (.int .i64 0) := by rw [hW]; simp [go_sem]
  have HB : Hid (Below w.heap.size w W) := by
    show Below w.heap.size w W
    rw [hW]
    exact ((Below.refl _ _).alloc (Nat.le_refl _) _).alloc (by simp) _
  clear hW
  have k0 := cell_regrown c0
  have k1 := cell_regrown c1
  have k2 := cell_regrown c2
  have k3 := cell_regrown c3
  clear c0 c1 c2 c3
  refine wp_region_quiet_below (by kernel_rfl) (by kernel_rfl) ?_
  repeat (quiet_step (first | with_reducible exact Calls.regrown_of (J.out _) | with_reducible exact Calls.regrown_of (S1.out _) | with_reducible exact Calls.regrown_of (S2.out _) | with_reducible exact Calls.regrown_of (R.out _)))
  refine wpQuiet_nil ?_
  intro _ hw'
  obtain ⟨⟨dq, osq⟩, hw''⟩ := hw'
  subst hw''
  go_wp2_with fail
  go_ret
  exact ⟨rfl, HB.out.trans ((below_regrown W dq osq).mono HB.out.size)⟩
end Go.Proofs.Ytcogjdpgnahjiaa
