/-
  What slices.Clone does with numbers and with bytes; heap.copied, heap.held, heap.Cost; the document's Cost.
  Conditions: as each theorem says.
-/
import Derived.Test.YtdadaklkaehmjaaHr
import Derived.Deep.RegionHeld3
import Derived.Deep.DeepCutAuto
namespace Go.Proofs.Ytdadaklkaehmjaa
open Go.RowKit
set_option linter.unusedSimpArgs false
set_option linter.unusedVariables false

theorem num_info : (Try.prog.info? 31).map (fun i => (i.zero, i.size, i.bytes)) = some (some (.int .u64 0), 1, 8) := by kernel_rfl
theorem nums_flat {S : Nat → Prop} {w : World} : ∀ {css : List (List Value)} {xs : List Nat}, css.length = xs.length → (∀ (j : Nat) (x : Nat) (cs : List Value), xs[j]? = some x → css[j]? = some cs → numL.R S w cs x) → css.flatten = Ns xs
  | [], [], _, _ => rfl
  | [], _ :: _, h, _ => by simp at h
  | _ :: _, [], h, _ => by simp at h
  | c :: css, x :: xs, h, hR => by
    have h0 := hR 0 x c rfl rfl
    have ih := nums_flat (css := css) (xs := xs) (by simpa using h) fun j y cs h1 h2 => hR (j + 1) y cs (by simpa using h1) (by simpa using h2)
    rw [List.flatten_cons, ih, h0.1]
    rfl

set_option maxRecDepth 100000 in
set_option maxHeartbeats 400000 in
theorem clone_nums (A : Option Addr) (n c : Nat) (xs : List Nat) (w : World) (hl : xs.length = n) (hR : Sq numL (· < w.heap.size) w A xs) (hn : n ≤ 1000000) :
    Calls Try.prog 30 #[.slice A n c] w fun e w' => ∃ v, e = .returned v ∧ w'.ownsRow w.heap.size 31 1 v n (Ns xs) ∧ Below w.heap.size w w' := by
  have qq : ∀ (w : World) (a : Option Addr) (n c n' c' : Nat), (binOp .eql 25 (.slice a n c) (.slice none n' c')).run Try.prog w = .ok (.bool a.isNone) w := fun w a n c n' c' => Lib.run_eql_slice_nil w _ _ a n c n' c' Try.underlying25
  have HL := Lib.hid hl
  have HR := Lib.hid hR
  rcases A with _ | a
  · have h0 : xs = [] := by
      cases xs with
      | nil => rfl
      | cons t ts => obtain ⟨a, e, -⟩ := hR (by simp); cases e
    subst h0
    obtain rfl : n = 0 := by simpa using hl.symm
    clear hl hR
    go_enter Try.func30, Try.ntmps30
    go_wp2_with fail
    go_ret
    exact ⟨_, rfl, World.ownsRow_nil _ _ _ _, Below.refl _ _⟩
  · clear hl hR
    go_enter Try.func30, Try.ntmps30
    go_wp2_with (at_builtin
                 refine walk_append_all numL _ rfl (.tmp 5) (.tmp 6) 25 31 rfl (.int .u64 0) 8 Try.underlying25 num_info rfl (by decide) (by omega) w.heap.size (.slice (some ⟨w.heap.size, 0, none⟩) 0 0) rfl (ownr_empty w _ _) a n c xs rfl HL.out (· < w.heap.size) (HR.out.keep fun b hb => Below.heap_alloc w _ b hb) (by omega) (by simp) ?_
                 intro v2 w2 css hcl hown2 hRR hg2
                 rw [nums_flat (hcl.trans HL.out.symm) hRR] at hown2
                 have HO2 := Lib.hid hown2
                 have HB2 := Lib.hid (((Below.refl w.heap.size w).alloc (Nat.le_refl _) (.cells #[] 31)).grown hg2 (by simp) (fun i hi => by simp [Value.ownBlock] at hi; omega))
                 clear hown2 hRR hg2 hcl)
    go_ret
    exact ⟨_, rfl, HO2.out, HB2.out⟩

set_option maxRecDepth 100000 in
set_option maxHeartbeats 400000 in
theorem clone_byts (A : Option Addr) (n c : Nat) (xs : List Nat) (w : World) (hl : xs.length = n) (hR : Byt (· < w.heap.size) w A xs) (hn : n ≤ 1000000) :
    Calls Try.prog 31 #[.slice A n c] w fun e w' => ∃ v, e = .returned v ∧ w'.ownsRow w.heap.size 5 1 v n (Bs xs) ∧ Below w.heap.size w w' := by
  have qq : ∀ (w : World) (a : Option Addr) (n c n' c' : Nat), (binOp .eql 26 (.slice a n c) (.slice none n' c')).run Try.prog w = .ok (.bool a.isNone) w := fun w a n c n' c' => Lib.run_eql_slice_nil w _ _ a n c n' c' Try.underlying26
  have HL := Lib.hid hl
  have HR := Lib.hid hR
  rcases A with _ | a
  · have h0 : xs = [] := by
      cases xs with
      | nil => rfl
      | cons t ts => obtain ⟨a, e, -⟩ := hR (by simp); cases e
    subst h0
    obtain rfl : n = 0 := by simpa using hl.symm
    clear hl hR
    go_enter Try.func31, Try.ntmps31
    go_wp2_with fail
    go_ret
    exact ⟨_, rfl, World.ownsRow_nil _ _ _ _, Below.refl _ _⟩
  · clear hl hR
    go_enter Try.func31, Try.ntmps31
    go_wp2_with (at_builtin
                 refine walk_append _ rfl (.tmp 5) (.tmp 6) rfl w.heap.size (.slice (some ⟨w.heap.size, 0, none⟩) 0 0) 0 [] rfl (own_empty w) (some a) n c xs rfl HL.out (· < w.heap.size)
                   (HR.out.keep fun b hb => Below.heap_alloc w _ b hb) (by omega) (by simp) ?_
                 intro v1 w1 hown1 hg1 _
                 have HO2 := Lib.hid (show w1.ownsRow w.heap.size 5 1 v1 n (Bs xs) from by simpa using hown1)
                 have HB2 := Lib.hid (((Below.refl w.heap.size w).alloc (Nat.le_refl _) (.cells #[] 5)).grown hg1 (by simp) (fun i hi => by simp [Value.ownBlock] at hi; omega))
                 clear hown1 hg1)
    go_ret
    exact ⟨_, rfl, HO2.out, HB2.out⟩

theorem held_any (n : Int) (w : World) (hn : I64 n) : Calls Try.prog 24 #[.int .i64 n] w fun e w' => e = .returned (.int .i64 (max (-1099511627776) (min n 1099511627776))) ∧ w = w' := by
  unfold I64 at hn
  go_enter Try.func24, Try.ntmps24
  go_wp2
  all_goals go_ret
  all_goals (refine ⟨ret_int (k := .i64) ?_, rfl⟩; simp only [Int.max_def, Int.min_def] at *; repeat' split at * <;> omega)
end Go.Proofs.Ytdadaklkaehmjaa
