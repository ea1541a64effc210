/-
  What the methods of a heap do where it is none.
  Conditions: as each theorem says.
-/
import Derived.Test.YtdadaklkaehmjaaHg
import Derived.Deep.QuietTactic
import Derived.BigQuiet
namespace Go.Proofs.Ytdadaklkaehmjaa
open Go.RowKit
set_option linter.unusedSimpArgs false
set_option linter.unusedVariables false

set_option maxRecDepth 100000 in
set_option maxHeartbeats 400000 in
theorem add_nil (v0 v1 v2 v3 : Value) (w : World) : Calls Try.prog 11 #[.pointer none, .agg #[v0, v1, v2, v3]] w fun e w' => e = .returned (.tuple #[.int .u64 0, .bool false]) ∧ Below w.heap.size w w' := by
  go_enter Try.func11, Try.ntmps11
  go_upto_region 1 with (fail)
  refine wp_world fun W hW => ?_
  have HBW : Hid (Below w.heap.size w W) := by show Below _ _ _; rw [hW]; exact (Below.refl _ _).alloc (Nat.le_refl _) _
  clear hW
  go_quiet (fail)
  go_wp2_with fail
  go_ret2
  exact ⟨rfl, below_drews' HBW.out _ HBW.out.size⟩

set_option maxRecDepth 100000 in
theorem word_nil (r n : Nat) (w : World) (hn : n < B64) : Calls Try.prog 14 #[.pointer none, .int .u64 (r : Int), .int .u64 (n : Int)] w fun e w' => e = .returned (.tuple #[.int .u64 0, .int .i64 4]) ∧ Below w.heap.size w w' := by
  go_enter Try.func14, Try.ntmps14
  go_wp2_with (first
    | (go_at_call 26
       refine (find_nil r w).mono ?_
       rintro e w1 ⟨hb1, rfl⟩
       have HB1 := Lib.hid hb1
       clear hb1)
    | (go_at_call 27
       refine (ask_null n 0 _ hn (by omega)).mono ?_
       rintro e w2 ⟨rfl, rfl⟩))
  go_ret2
  exact ⟨rfl, HB1.out.alloc HB1.out.size _⟩

set_option maxRecDepth 100000 in
theorem byte_nil (r n : Nat) (w : World) (hn : n < B64) : Calls Try.prog 17 #[.pointer none, .int .u64 (r : Int), .int .u64 (n : Int)] w fun e w' => e = .returned (.tuple #[.int .u64 0, .int .i64 4]) ∧ Below w.heap.size w w' := by
  go_enter Try.func17, Try.ntmps17
  go_wp2_with (first
    | (go_at_call 26
       refine (find_nil r w).mono ?_
       rintro e w1 ⟨hb1, rfl⟩
       have HB1 := Lib.hid hb1
       clear hb1)
    | (go_at_call 27
       refine (ask_null n 0 _ hn (by omega)).mono ?_
       rintro e w2 ⟨rfl, rfl⟩))
  go_ret2
  exact ⟨rfl, HB1.out.alloc HB1.out.size _⟩

set_option maxRecDepth 100000 in
theorem setWord_nil (r n x : Nat) (w : World) (hn : n < B64) (hx : x < B64) : Calls Try.prog 16 #[.pointer none, .int .u64 (r : Int), .int .u64 (n : Int), .int .u64 (x : Int)] w fun e w' => e = .returned (.int .i64 4) ∧ Below w.heap.size w w' := by
  go_enter Try.func16, Try.ntmps16
  go_wp2_with (first
    | (go_at_call 26
       refine (find_nil r w).mono ?_
       rintro e w1 ⟨hb1, rfl⟩
       have HB1 := Lib.hid hb1
       clear hb1)
    | (go_at_call 27
       refine (ask_null n 0 _ hn (by omega)).mono ?_
       rintro e w2 ⟨rfl, rfl⟩))
  go_ret
  exact ⟨rfl, HB1.out.alloc HB1.out.size _⟩

set_option maxRecDepth 100000 in
theorem setByte_nil (r n x : Nat) (w : World) (hn : n < B64) (hx : x < B64) : Calls Try.prog 18 #[.pointer none, .int .u64 (r : Int), .int .u64 (n : Int), .int .u64 (x : Int)] w fun e w' => e = .returned (.int .i64 4) ∧ Below w.heap.size w w' := by
  go_enter Try.func18, Try.ntmps18
  go_wp2_with (first
    | (go_at_call 26
       refine (find_nil r w).mono ?_
       rintro e w1 ⟨hb1, rfl⟩
       have HB1 := Lib.hid hb1
       clear hb1)
    | (go_at_call 27
       refine (ask_null n 0 _ hn (by omega)).mono ?_
       rintro e w2 ⟨rfl, rfl⟩))
  go_ret
  exact ⟨rfl, HB1.out.alloc HB1.out.size _⟩

set_option maxRecDepth 100000 in
theorem len_nil (r : Nat) (w : World) : Calls Try.prog 19 #[.pointer none, .int .u64 (r : Int)] w fun e w' => e = .returned (.tuple #[.int .i64 0, .int .i64 4]) ∧ Below w.heap.size w w' := by
  go_enter Try.func19, Try.ntmps19
  go_wp2_with (first
    | (go_at_call 26
       refine (find_nil r w).mono ?_
       rintro e w1 ⟨hb1, rfl⟩
       have HB1 := Lib.hid hb1
       clear hb1))
  go_ret2
  exact ⟨rfl, HB1.out.alloc HB1.out.size _⟩
end Go.Proofs.Ytdadaklkaehmjaa
