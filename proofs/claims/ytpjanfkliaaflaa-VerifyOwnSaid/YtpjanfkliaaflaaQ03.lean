/-
  Wiins Kgd Iar Ift Ipt Fi
-/
import Derived.Test.YtpjanfkliaaflaaQ01
import Derived.Test.YtpjanfkliaaflaaQ02
import Derived.LoopN
set_option linter.unusedSimpArgs false
set_option linter.unusedVariables false
namespace Go.Proofs.Ytpjanfkliaaflaa
open Go.RowKit

set_option maxRecDepth 100000 in
set_option maxHeartbeats 1000000 in
theorem within_ins (A : Option Addr) (n c : Nat) (xs : List Ins) (lo hi : Int) (g : Ins → Bool) (w : World) (hl : xs.length = n) (h : Sq insL (· < w.heap.size) w A xs) (hn2 : n ≤ 9223372036854775807) (hlo : -1000 ≤ lo ∧ lo ≤ 1000) (hhi : -9223372036854775808 ≤ hi ∧ hi ≤ 1000)
    (hG : ∀ (w1 : World) (cs : List Value) (x : Ins), Below w.heap.size w w1 → x ∈ xs → insL.R (· < w1.heap.size) w1 cs x → Calls Try.prog 59 #[vAgg cs] w1 (Tells (g x) w1)) :
    Calls Try.prog 58 #[.slice A n c, .int .i64 lo, .int .i64 hi, .func (.func 59) #[] #[]] w (Tells (witB lo hi g xs) w) := by
  have HL := Lib.hid hl
  have HS := Lib.hid h
  have HP0 := Lib.hid hG
  have HW : Hid (witB lo hi g xs = (decide (lo ≤ (n : Int) ∧ (n : Int) ≤ hi) && xs.all g)) := by rw [← hl]; exact rfl
  clear hl h hG
  obtain ⟨wb, hwb⟩ : ∃ wb, witB lo hi g xs = wb := ⟨_, rfl⟩
  rw [hwb] at HW ⊢
  clear hwb
  by_cases h1 : (n : Int) < lo
  · have e : wb = false := by rw [HW.out]; simp; omega
    rw [e]
    clear HW e
    go_enter Try.func58, Try.ntmps58
    go_wp2_with fail
    go_ret
    exact ⟨rfl, Below.refl _ _⟩
  by_cases h2 : hi < (n : Int)
  · have e : wb = false := by rw [HW.out]; simp; omega
    rw [e]
    clear HW e
    go_enter Try.func58, Try.ntmps58
    go_wp2_with fail
    go_ret
    exact ⟨rfl, Below.refl _ _⟩
  replace HW : Hid (wb = xs.all g) := by
    show wb = xs.all g
    rw [HW.out]
    simp
    omega
  go_enter Try.func58, Try.ntmps58
  go_wp2_with fail
  go_loopw [23] (fun i wr => ∃ k : Nat, k ≤ n ∧ i = .int .i64 (k : Nat) ∧ (xs.take k).all g = true ∧ Below w.heap.size w wr) (fun i _ => n - (intOf i).toNat)
  case atStart => exact ⟨0, Nat.zero_le _, rfl, by simp, Below.refl _ _⟩
  case round =>
    obtain ⟨k, hk, rfl, hall, hbel⟩ := hrel
    have HA := Lib.hid hall
    have HB := Lib.hid hbel
    have hs := hbel.size
    clear hall hbel
    by_cases hlt : k < n
    · skip
      obtain ⟨x, hx⟩ : ∃ x, xs[k]? = some x := ⟨xs[k]'(by rw [HL.out]; exact hlt), List.getElem?_eq_getElem _⟩
      have hmem : x ∈ xs := List.mem_of_getElem? hx
      obtain ⟨a, cs, rfl, hab, hc, hr⟩ := HS.out.at hx
      have HX := Lib.hid hx
      clear hx
      have HR := Lib.hid hr
      obtain ⟨rfl, -, -, -⟩ := hr
      have c0 := (HB.out.cell (p := a.add (k * 3)) (by rw [addBlock]; exact hab)).trans (hc 0 _ rfl)
      have c1 := (HB.out.cell (p := a.add (k * 3 + 1)) (by rw [addBlock]; exact hab)).trans (hc 1 _ rfl)
      rw [next_cell a (k * 3) 1 (by omega)] at c1
      have c2 := (HB.out.cell (p := a.add (k * 3 + 2)) (by rw [addBlock]; exact hab)).trans (hc 2 _ rfl)
      rw [next_cell a (k * 3) 2 (by omega)] at c2
      have HP : Hid (∀ w1, Below w.heap.size w w1 → Calls Try.prog 59 #[.agg #[.int .i64 x.1, .int .i64 x.2.1, .int .i64 x.2.2]] w1 (Tells (g x) w1)) := fun w1 hb => HP0.out w1 [.int .i64 x.1, .int .i64 x.2.1, .int .i64 x.2.2] x hb hmem (insL.wide (insL.keep HR.out fun b hb1 => hb.block b hb1) fun b hb1 => Nat.lt_of_lt_of_le hb1 hb.size)
      clear hc
      cases hg : g x
      · rw [hg] at HP
        have e : wb = false := by
          rw [HW.out, List.all_eq_false]
          exact ⟨x, hmem, by rw [hg]; simp⟩
        have E := Lib.hid e
        clear e hg
        go_wp2_with (first
          | (go_at_call 59
             refine (HP.out _ (HB.out.alloc hs _)).mono ?_
             rintro e w2 ⟨rfl, hb2⟩
             have Hb2 := Lib.hid ((HB.out.alloc hs _).trans (hb2.mono (by simp; omega)))
             clear hb2))
        go_ret
        exact ⟨by rw [E.out]; rfl, Hb2.out⟩
      · rw [hg] at HP
        have HG := Lib.hid hg
        clear hg
        go_wp2_with (first
          | (go_at_call 59
             refine (HP.out _ (HB.out.alloc hs _)).mono ?_
             rintro e w2 ⟨rfl, hb2⟩
             have Hb2 := Lib.hid ((HB.out.alloc hs _).trans (hb2.mono (by simp; omega)))
             clear hb2))
        refine ⟨⟨k + 1, by omega, by simp, all_take HA.out HX.out HG.out, Hb2.out⟩, by simp [intOf]; omega⟩
    · obtain rfl : k = n := by omega
      go_wp2_with fail
      go_ret
      refine ⟨?_, HB.out⟩
      have e := HA.out
      rw [List.take_of_length_le (by rw [HL.out]; exact Nat.le_refl _)] at e
      rw [HW.out, e]
      rfl
end Go.Proofs.Ytpjanfkliaaflaa
namespace Go.Proofs.Ytpjanfkliaaflaa
open Go.RowKit

theorem kgood (k n r : Int) (w : World) : Calls Try.prog 53 #[.agg #[.int .i64 k, .int .i64 n], .int .i64 r] w fun e w' => e = .returned (.bool (goodB k n r)) ∧ Below w.heap.size w w' := by
  by_cases h1 : k = 1
  · subst h1
    go_enter Try.func53, Try.ntmps53
    go_wp2_with fail
    go_ret
    exact ⟨rfl, (Below.refl _ _).alloc (Nat.le_refl _) _⟩
  by_cases h2 : k = 2
  · subst h2
    go_enter Try.func53, Try.ntmps53
    go_wp2_with fail
    go_ret
    exact ⟨rfl, (Below.refl _ _).alloc (Nat.le_refl _) _⟩
  by_cases h3 : k = 3
  · subst h3
    go_enter Try.func53, Try.ntmps53
    go_wp2_with fail
    go_ret
    exact ⟨rfl, (Below.refl _ _).alloc (Nat.le_refl _) _⟩
  by_cases h7 : k = 7
  · subst h7
    go_enter Try.func53, Try.ntmps53
    go_wp2_with fail
    go_ret
    exact ⟨rfl, (Below.refl _ _).alloc (Nat.le_refl _) _⟩
  by_cases h4 : k = 4
  · subst h4
    by_cases hn : 0 ≤ n
    · have e : goodB 4 n r = decide (n < r) := by simp [goodB, hn]
      rw [e]
      clear e
      go_enter Try.func53, Try.ntmps53
      go_wp2_with fail
      go_ret
      exact ⟨rfl, (Below.refl _ _).alloc (Nat.le_refl _) _⟩
    · have e : goodB 4 n r = false := by simp [goodB, hn]
      rw [e]
      clear e
      go_enter Try.func53, Try.ntmps53
      go_wp2_with fail
      go_ret
      exact ⟨rfl, (Below.refl _ _).alloc (Nat.le_refl _) _⟩
  by_cases h5 : k = 5
  · subst h5
    by_cases hn : 0 ≤ n
    · have e : goodB 5 n r = decide (n < 4) := by simp [goodB, hn]
      rw [e]
      clear e
      go_enter Try.func53, Try.ntmps53
      go_wp2_with fail
      go_ret
      exact ⟨rfl, (Below.refl _ _).alloc (Nat.le_refl _) _⟩
    · have e : goodB 5 n r = false := by simp [goodB, hn]
      rw [e]
      clear e
      go_enter Try.func53, Try.ntmps53
      go_wp2_with fail
      go_ret
      exact ⟨rfl, (Below.refl _ _).alloc (Nat.le_refl _) _⟩
  have e : goodB k n r = false := by simp [goodB, h1, h2, h3, h7, h4, h5]
  rw [e]
  clear e
  go_enter Try.func53, Try.ntmps53
  go_wp2_with fail
  go_ret
  exact ⟨rfl, (Below.refl _ _).alloc (Nat.le_refl _) _⟩
end Go.Proofs.Ytpjanfkliaaflaa
namespace Go.Proofs.Ytpjanfkliaaflaa
open Go.RowKit

set_option maxHeartbeats 1000000 in
theorem args_any (op : Int) (w : World) : Calls Try.prog 83 #[.int .i64 op] w fun e w' => e = .returned (.int .i64 (argN op)) ∧ w = w' := by
  by_cases hc : op = 29 ∨ op = 30 ∨ op = 0 ∨ op = 1 ∨ op = 3 ∨ op = 4 ∨ op = 23 ∨ op = 24 ∨ op = 25 ∨ op = 27 ∨ op = 28
  · rcases hc with rfl | rfl | rfl | rfl | rfl | rfl | rfl | rfl | rfl | rfl | rfl
    all_goals
      go_enter Try.func83, Try.ntmps83
      go_wp2_with fail
      go_ret
      exact ⟨rfl, rfl⟩
  · obtain ⟨n29, n30, n0, n1, n3, n4, n23, n24, n25, n27, n28⟩ : op ≠ 29 ∧ op ≠ 30 ∧ op ≠ 0 ∧ op ≠ 1 ∧ op ≠ 3 ∧ op ≠ 4 ∧ op ≠ 23 ∧ op ≠ 24 ∧ op ≠ 25 ∧ op ≠ 27 ∧ op ≠ 28 := by omega
    clear hc
    by_cases hlo : op < 0
    · have e : argN op = -1 := by unfold argN; rw [if_neg (by omega), if_neg (by omega), if_pos (by omega)]
      rw [e]
      clear e
      go_enter Try.func83, Try.ntmps83
      go_wp2_with fail
      go_ret
      exact ⟨rfl, rfl⟩
    by_cases hhi : 42 ≤ op
    · have e : argN op = -1 := by unfold argN; rw [if_neg (by omega), if_neg (by omega), if_pos (by omega)]
      rw [e]
      clear e
      go_enter Try.func83, Try.ntmps83
      go_wp2_with fail
      go_ret
      exact ⟨rfl, rfl⟩
    have e : argN op = 0 := by unfold argN; rw [if_neg (by omega), if_neg (by omega), if_neg (by omega)]
    rw [e]
    clear e
    go_enter Try.func83, Try.ntmps83
    go_wp2_with fail
    go_ret
    exact ⟨rfl, rfl⟩
end Go.Proofs.Ytpjanfkliaaflaa
namespace Go.Proofs.Ytpjanfkliaaflaa
open Go.RowKit

set_option maxHeartbeats 2000000 in
theorem fit_any (n a b : Int) (w : World) : Calls Try.prog 84 #[.agg #[.int .i64 a, .int .i64 b], .int .i64 n] w fun e w' => e = .returned (.bool (fitN n a b)) ∧ Below w.heap.size w w' := by
  have i0 : ∀ w, (Instr.index 131 (.agg #[.int .i64 a, .int .i64 b]) (.int .i64 0)).run Try.prog w = .ok (.int .i64 a) w := fun _ => by kernel_rfl
  have i1 : ∀ w, (Instr.index 131 (.agg #[.int .i64 a, .int .i64 b]) (.int .i64 1)).run Try.prog w = .ok (.int .i64 b) w := fun _ => by kernel_rfl
  unfold fitN
  by_cases h0 : 0 < n
  · rw [if_pos h0]
    by_cases h1 : 1 < n
    · rw [if_pos h1]
      by_cases a0 : a < 0
      · rw [decide_eq_false (by omega)]
        go_enter Try.func84, Try.ntmps84
        go_wp2_with fail
        refine wp_loop_rounds 3 ?_
        rw [rounds_succ]
        go_wp2_with fail
        go_ret
        exact ⟨rfl, (Below.refl _ _).alloc (Nat.le_refl _) _⟩
      by_cases a1 : 255 < a
      · rw [decide_eq_false (by omega)]
        go_enter Try.func84, Try.ntmps84
        go_wp2_with fail
        refine wp_loop_rounds 3 ?_
        rw [rounds_succ]
        go_wp2_with fail
        go_ret
        exact ⟨rfl, (Below.refl _ _).alloc (Nat.le_refl _) _⟩
      by_cases b0 : b < 0
      · rw [decide_eq_false (by omega)]
        go_enter Try.func84, Try.ntmps84
        go_wp2_with fail
        refine wp_loop_rounds 3 ?_
        rw [rounds_succ]
        go_wp2_with fail
        rw [rounds_succ]
        go_wp2_with fail
        go_ret
        exact ⟨rfl, (Below.refl _ _).alloc (Nat.le_refl _) _⟩
      by_cases b1 : 255 < b
      · rw [decide_eq_false (by omega)]
        go_enter Try.func84, Try.ntmps84
        go_wp2_with fail
        refine wp_loop_rounds 3 ?_
        rw [rounds_succ]
        go_wp2_with fail
        rw [rounds_succ]
        go_wp2_with fail
        go_ret
        exact ⟨rfl, (Below.refl _ _).alloc (Nat.le_refl _) _⟩
      rw [decide_eq_true (by omega)]
      go_enter Try.func84, Try.ntmps84
      go_wp2_with fail
      refine wp_loop_rounds 3 ?_
      rw [rounds_succ]
      go_wp2_with fail
      rw [rounds_succ]
      go_wp2_with fail
      rw [rounds_succ]
      go_wp2_with fail
      go_ret
      exact ⟨rfl, (Below.refl _ _).alloc (Nat.le_refl _) _⟩
    · rw [if_neg h1]
      by_cases a0 : a < 0
      · rw [decide_eq_false (by omega)]
        go_enter Try.func84, Try.ntmps84
        go_wp2_with fail
        refine wp_loop_rounds 3 ?_
        rw [rounds_succ]
        go_wp2_with fail
        go_ret
        exact ⟨rfl, (Below.refl _ _).alloc (Nat.le_refl _) _⟩
      by_cases a1 : 255 < a
      · rw [decide_eq_false (by omega)]
        go_enter Try.func84, Try.ntmps84
        go_wp2_with fail
        refine wp_loop_rounds 3 ?_
        rw [rounds_succ]
        go_wp2_with fail
        go_ret
        exact ⟨rfl, (Below.refl _ _).alloc (Nat.le_refl _) _⟩
      by_cases b0 : b < 0
      · rw [decide_eq_false (by omega)]
        go_enter Try.func84, Try.ntmps84
        go_wp2_with fail
        refine wp_loop_rounds 3 ?_
        rw [rounds_succ]
        go_wp2_with fail
        rw [rounds_succ]
        go_wp2_with fail
        go_ret
        exact ⟨rfl, (Below.refl _ _).alloc (Nat.le_refl _) _⟩
      by_cases b1 : 0 < b
      · rw [decide_eq_false (by omega)]
        go_enter Try.func84, Try.ntmps84
        go_wp2_with fail
        refine wp_loop_rounds 3 ?_
        rw [rounds_succ]
        go_wp2_with fail
        rw [rounds_succ]
        go_wp2_with fail
        go_ret
        exact ⟨rfl, (Below.refl _ _).alloc (Nat.le_refl _) _⟩
      rw [decide_eq_true (by omega)]
      go_enter Try.func84, Try.ntmps84
      go_wp2_with fail
      refine wp_loop_rounds 3 ?_
      rw [rounds_succ]
      go_wp2_with fail
      rw [rounds_succ]
      go_wp2_with fail
      rw [rounds_succ]
      go_wp2_with fail
      go_ret
      exact ⟨rfl, (Below.refl _ _).alloc (Nat.le_refl _) _⟩
  · rw [if_neg h0, if_neg (by omega)]
    have h1 : ¬ 1 < n := by omega
    by_cases a0 : a < 0
    · rw [decide_eq_false (by omega)]
      go_enter Try.func84, Try.ntmps84
      go_wp2_with fail
      refine wp_loop_rounds 3 ?_
      rw [rounds_succ]
      go_wp2_with fail
      go_ret
      exact ⟨rfl, (Below.refl _ _).alloc (Nat.le_refl _) _⟩
    by_cases a1 : 0 < a
    · rw [decide_eq_false (by omega)]
      go_enter Try.func84, Try.ntmps84
      go_wp2_with fail
      refine wp_loop_rounds 3 ?_
      rw [rounds_succ]
      go_wp2_with fail
      go_ret
      exact ⟨rfl, (Below.refl _ _).alloc (Nat.le_refl _) _⟩
    by_cases b0 : b < 0
    · rw [decide_eq_false (by omega)]
      go_enter Try.func84, Try.ntmps84
      go_wp2_with fail
      refine wp_loop_rounds 3 ?_
      rw [rounds_succ]
      go_wp2_with fail
      rw [rounds_succ]
      go_wp2_with fail
      go_ret
      exact ⟨rfl, (Below.refl _ _).alloc (Nat.le_refl _) _⟩
    by_cases b1 : 0 < b
    · rw [decide_eq_false (by omega)]
      go_enter Try.func84, Try.ntmps84
      go_wp2_with fail
      refine wp_loop_rounds 3 ?_
      rw [rounds_succ]
      go_wp2_with fail
      rw [rounds_succ]
      go_wp2_with fail
      go_ret
      exact ⟨rfl, (Below.refl _ _).alloc (Nat.le_refl _) _⟩
    rw [decide_eq_true (by omega)]
    go_enter Try.func84, Try.ntmps84
    go_wp2_with fail
    refine wp_loop_rounds 3 ?_
    rw [rounds_succ]
    go_wp2_with fail
    rw [rounds_succ]
    go_wp2_with fail
    rw [rounds_succ]
    go_wp2_with fail
    go_ret
    exact ⟨rfl, (Below.refl _ _).alloc (Nat.le_refl _) _⟩
end Go.Proofs.Ytpjanfkliaaflaa
namespace Go.Proofs.Ytpjanfkliaaflaa
open Go.RowKit


theorem wid_one : wid 1 = 1 := by decide
theorem fb_one (o : Nat) (h : o < 256) : fb o 1 = [o] := by simp [fb]; omega

set_option maxRecDepth 100000 in
set_option maxHeartbeats 1000000 in
theorem iput_none (op a b : Int) (w : World) (h : goodI op a b = false) :
    Calls Try.prog 71 #[.agg #[.int .i64 op, .int .i64 a, .int .i64 b]] w fun e w' => e = .returned (.slice none 0 0) ∧ Below w.heap.size w w' := by
  unfold goodI at h
  have AR := Lib.hid (fun w => args_any op w)
  obtain ⟨n, hn⟩ : ∃ n, argN op = n := ⟨_, rfl⟩
  rw [hn] at h AR
  have FT := Lib.hid (fun w => fit_any n a b w)
  clear hn
  by_cases h0 : n < 0
  · clear h
    go_enter Try.func71, Try.ntmps71
    go_wp2_with (first
      | (go_at_call 83
         refine (AR.out _).mono ?_
         rintro e w1 ⟨rfl, rfl⟩))
    go_ret
    exact ⟨rfl, ((Below.refl _ _).alloc (Nat.le_refl _) _).alloc (by simp) _⟩
  · have hf : fitN n a b = false := by
      rw [decide_eq_true (by omega)] at h
      simpa using h
    rw [hf] at FT
    clear hf h
    go_enter Try.func71, Try.ntmps71
    go_wp2_with (first
      | (go_at_call 83
         refine (AR.out _).mono ?_
         rintro e w1 ⟨rfl, rfl⟩)
      | (go_at_call 84
         refine (FT.out _).mono ?_
         rintro e w2 ⟨rfl, hb2⟩
         have HB2 := Lib.hid hb2
         clear hb2))
    go_ret
    exact ⟨rfl, (((Below.refl _ _).alloc (Nat.le_refl _) _).alloc (by simp) _).trans (HB2.out.mono (by simp; omega))⟩
theorem arr_new (w : World) (o : Obj) (t : TypeId) (cs : Array Value) : Blk ((w.alloc o).alloc (.cells cs t)) (w.heap.size + 1) t cs := by
  have := heap_alloc_new (w.alloc o) (.cells cs t)
  simpa [Blk] using this

set_option maxRecDepth 100000 in
set_option maxHeartbeats 1000000 in
theorem iput_0 (o x y : Nat) (w : World) (h : goodI o x y = true) (hn : argN o = 0) :
    Calls Try.prog 71 #[.agg #[.int .i64 (o : Nat), .int .i64 (x : Nat), .int .i64 (y : Nat)]] w fun e w' => ∃ u, e = .returned u ∧ w'.ownsRow w.heap.size 5 1 u (insB o x y).length (Bs (insB o x y)) ∧ Below w.heap.size w w' := by
  have AR := Lib.hid (fun w => args_any o w)
  rw [hn] at AR
  have FT := Lib.hid (fun w => fit_any 0 x y w)
  have hf : fitN 0 x y = true := by
    unfold goodI at h
    rw [hn] at h
    simpa using h
  rw [hf] at FT
  obtain ⟨o', x', y', eo, ex, ey, ho, hx, hy, -⟩ := goodI_parts h
  obtain rfl : o = o' := by omega
  obtain rfl : x = x' := by omega
  obtain rfl : y = y' := by omega
  have HE : Hid (insB o x y = [o] ++ bodyB 0 x y) := by
    show insB o x y = [o] ++ bodyB 0 x y
    rw [insB_good h, hn]
    rfl
  have HO : Hid (o < 256) := by show o < 256; omega
  have HO64 : Hid (o < B64) := by show o < B64; unfold B64; omega
  have HX64 : Hid (x < B64) := by show x < B64; unfold B64; omega
  have HY64 : Hid (y < B64) := by show y < B64; unfold B64; omega
  have HL1 : Hid (1 + (vb x).length ≤ 140737488355328) := by show 1 + (vb x).length ≤ 140737488355328; have := vb255 x hx; omega
  have HL2 : Hid (1 + (vb x).length + (vb y).length ≤ 140737488355328) := by show 1 + (vb x).length + (vb y).length ≤ 140737488355328; have := vb255 x hx; have := vb255 y hy; omega
  clear hf hn h eo ex ey
  go_enter Try.func71, Try.ntmps71
  go_wp2_with (first
    | (go_at_call 83
       refine (AR.out _).mono ?_
       rintro e w1 ⟨rfl, rfl⟩)
    | (go_at_call 84
       refine (FT.out _).mono ?_
       rintro e w2 ⟨rfl, hb2⟩
       have HB2 : Hid (Below w.heap.size w w2) := (((Below.refl _ _).alloc (Nat.le_refl _) _).alloc (by simp) _).trans (hb2.mono (by simp; omega))
       have hk := (hb2.block w.heap.size (by simp; omega)).trans ((Below.heap_alloc _ _ w.heap.size (by simp)).trans (blk_new w 25 #[.int .i64 (o : Nat), .int .i64 (x : Nat), .int .i64 (y : Nat)]))
       have k0 := Blk.cell hk 0
       have hs2 : w.heap.size + 2 ≤ w2.heap.size := (by have := hb2.size; simp at this; omega)
       have HA2 := Lib.hid ((hb2.block (w.heap.size + 1) (by simp)).trans (arr_new w _ 131 #[.int .i64 (x : Nat), .int .i64 (y : Nat)]))
       simp at k0
       clear hb2 hk)
    | (go_at_call 72
       refine (fixed_any o 1 w2 HO64.out).mono ?_
       rintro e w3 ⟨u3, rfl, hown3, hb3⟩
       rw [wid_one, fb_one o HO.out] at hown3
       have HO3 := Lib.hid hown3
       have HB3 := Lib.hid (hb3.mono (Nat.le_refl w2.heap.size))
       have HA3 := Lib.hid ((hb3.block (w.heap.size + 1) (by omega)).trans HA2.out)
       have a30 := Blk.cell HA3.out 0
       simp at a30
       clear hown3 hb3))
  refine wp_loop_rounds 3 ?_
  rw [rounds_succ]
  go_wp2_with fail
  go_ret
  have e : insB o x y = [o] := by rw [HE.out]; simp [bodyB]
  have el : (insB o x y).length = 1 := by rw [e]; simp; try omega
  rw [el, e]
  exact ⟨_, rfl, own_wide HO3.out HB2.out.size, HB2.out.trans (HB3.out.mono HB2.out.size)⟩

set_option maxRecDepth 100000 in
set_option maxHeartbeats 1000000 in
theorem iput_1 (o x y : Nat) (w : World) (h : goodI o x y = true) (hn : argN o = 1) :
    Calls Try.prog 71 #[.agg #[.int .i64 (o : Nat), .int .i64 (x : Nat), .int .i64 (y : Nat)]] w fun e w' => ∃ u, e = .returned u ∧ w'.ownsRow w.heap.size 5 1 u (insB o x y).length (Bs (insB o x y)) ∧ Below w.heap.size w w' := by
  have AR := Lib.hid (fun w => args_any o w)
  rw [hn] at AR
  have FT := Lib.hid (fun w => fit_any 1 x y w)
  have hf : fitN 1 x y = true := by
    unfold goodI at h
    rw [hn] at h
    simpa using h
  rw [hf] at FT
  obtain ⟨o', x', y', eo, ex, ey, ho, hx, hy, -⟩ := goodI_parts h
  obtain rfl : o = o' := by omega
  obtain rfl : x = x' := by omega
  obtain rfl : y = y' := by omega
  have HE : Hid (insB o x y = [o] ++ bodyB 1 x y) := by
    show insB o x y = [o] ++ bodyB 1 x y
    rw [insB_good h, hn]
    rfl
  have HO : Hid (o < 256) := by show o < 256; omega
  have HO64 : Hid (o < B64) := by show o < B64; unfold B64; omega
  have HX64 : Hid (x < B64) := by show x < B64; unfold B64; omega
  have HY64 : Hid (y < B64) := by show y < B64; unfold B64; omega
  have HL1 : Hid (1 + (vb x).length ≤ 140737488355328) := by show 1 + (vb x).length ≤ 140737488355328; have := vb255 x hx; omega
  have HL2 : Hid (1 + (vb x).length + (vb y).length ≤ 140737488355328) := by show 1 + (vb x).length + (vb y).length ≤ 140737488355328; have := vb255 x hx; have := vb255 y hy; omega
  clear hf hn h eo ex ey
  go_enter Try.func71, Try.ntmps71
  go_wp2_with (first
    | (go_at_call 83
       refine (AR.out _).mono ?_
       rintro e w1 ⟨rfl, rfl⟩)
    | (go_at_call 84
       refine (FT.out _).mono ?_
       rintro e w2 ⟨rfl, hb2⟩
       have HB2 : Hid (Below w.heap.size w w2) := (((Below.refl _ _).alloc (Nat.le_refl _) _).alloc (by simp) _).trans (hb2.mono (by simp; omega))
       have hk := (hb2.block w.heap.size (by simp; omega)).trans ((Below.heap_alloc _ _ w.heap.size (by simp)).trans (blk_new w 25 #[.int .i64 (o : Nat), .int .i64 (x : Nat), .int .i64 (y : Nat)]))
       have k0 := Blk.cell hk 0
       have hs2 : w.heap.size + 2 ≤ w2.heap.size := (by have := hb2.size; simp at this; omega)
       have HA2 := Lib.hid ((hb2.block (w.heap.size + 1) (by simp)).trans (arr_new w _ 131 #[.int .i64 (x : Nat), .int .i64 (y : Nat)]))
       simp at k0
       clear hb2 hk)
    | (go_at_call 72
       refine (fixed_any o 1 w2 HO64.out).mono ?_
       rintro e w3 ⟨u3, rfl, hown3, hb3⟩
       rw [wid_one, fb_one o HO.out] at hown3
       have HO3 := Lib.hid hown3
       have HB3 := Lib.hid (hb3.mono (Nat.le_refl w2.heap.size))
       have HA3 := Lib.hid ((hb3.block (w.heap.size + 1) (by omega)).trans HA2.out)
       have a30 := Blk.cell HA3.out 0
       simp at a30
       clear hown3 hb3))
  refine wp_loop_rounds 3 ?_
  rw [rounds_succ]
  go_wp2_with (first
    | (go_at_call 66
       refine (var_any x w3 HX64.out).mono ?_
       rintro e w4 ⟨u4, rfl, hown4, hb4⟩
       obtain ⟨A4, c4, rfl, -, -, -, hY4⟩ := own_slice hown4
       have HY4 := Lib.hid hY4
       have HO4 := Lib.hid (own_below HO3.out hb4 (Nat.le_refl _))
       have HB4 := Lib.hid (HB3.out.trans (hb4.mono HB3.out.size))
       have HS4 := Lib.hid HB4.out.size
       clear hown4 hY4 hb4)
    | (at_builtin
       refine walk_append _ rfl (.tmp 31) (.tmp 36) rfl w2.heap.size u3 1 [o] rfl HO4.out A4 (vb x).length c4 (vb x) rfl rfl _ HY4.out HL1.out HS4.out ?_
       intro v5 w5 hown5 hg5 _
       have HO5 := Lib.hid hown5
       have HB5 := Lib.hid (HB4.out.grown hg5 HS4.out (fun i hi => (HO4.out.lt i hi).1))
       have HA5 := Lib.hid ((HB5.out.block (w.heap.size + 1) (by omega)).trans HA2.out)
       have a51 := Blk.cell HA5.out 1
       simp at a51
       clear hown5 hg5))
  rw [rounds_succ]
  go_wp2_with fail
  go_ret
  have e : insB o x y = [o] ++ vb x := by rw [HE.out]; simp [bodyB]
  have el : (insB o x y).length = 1 + (vb x).length := by rw [e]; simp; try omega
  rw [el, e]
  exact ⟨_, rfl, own_wide HO5.out HB2.out.size, HB2.out.trans (HB5.out.mono HB2.out.size)⟩

set_option maxRecDepth 100000 in
set_option maxHeartbeats 1000000 in
theorem iput_2 (o x y : Nat) (w : World) (h : goodI o x y = true) (hn : argN o = 2) :
    Calls Try.prog 71 #[.agg #[.int .i64 (o : Nat), .int .i64 (x : Nat), .int .i64 (y : Nat)]] w fun e w' => ∃ u, e = .returned u ∧ w'.ownsRow w.heap.size 5 1 u (insB o x y).length (Bs (insB o x y)) ∧ Below w.heap.size w w' := by
  have AR := Lib.hid (fun w => args_any o w)
  rw [hn] at AR
  have FT := Lib.hid (fun w => fit_any 2 x y w)
  have hf : fitN 2 x y = true := by
    unfold goodI at h
    rw [hn] at h
    simpa using h
  rw [hf] at FT
  obtain ⟨o', x', y', eo, ex, ey, ho, hx, hy, -⟩ := goodI_parts h
  obtain rfl : o = o' := by omega
  obtain rfl : x = x' := by omega
  obtain rfl : y = y' := by omega
  have HE : Hid (insB o x y = [o] ++ bodyB 2 x y) := by
    show insB o x y = [o] ++ bodyB 2 x y
    rw [insB_good h, hn]
    rfl
  have HO : Hid (o < 256) := by show o < 256; omega
  have HO64 : Hid (o < B64) := by show o < B64; unfold B64; omega
  have HX64 : Hid (x < B64) := by show x < B64; unfold B64; omega
  have HY64 : Hid (y < B64) := by show y < B64; unfold B64; omega
  have HL1 : Hid (1 + (vb x).length ≤ 140737488355328) := by show 1 + (vb x).length ≤ 140737488355328; have := vb255 x hx; omega
  have HL2 : Hid (1 + (vb x).length + (vb y).length ≤ 140737488355328) := by show 1 + (vb x).length + (vb y).length ≤ 140737488355328; have := vb255 x hx; have := vb255 y hy; omega
  clear hf hn h eo ex ey
  go_enter Try.func71, Try.ntmps71
  go_wp2_with (first
    | (go_at_call 83
       refine (AR.out _).mono ?_
       rintro e w1 ⟨rfl, rfl⟩)
    | (go_at_call 84
       refine (FT.out _).mono ?_
       rintro e w2 ⟨rfl, hb2⟩
       have HB2 : Hid (Below w.heap.size w w2) := (((Below.refl _ _).alloc (Nat.le_refl _) _).alloc (by simp) _).trans (hb2.mono (by simp; omega))
       have hk := (hb2.block w.heap.size (by simp; omega)).trans ((Below.heap_alloc _ _ w.heap.size (by simp)).trans (blk_new w 25 #[.int .i64 (o : Nat), .int .i64 (x : Nat), .int .i64 (y : Nat)]))
       have k0 := Blk.cell hk 0
       have hs2 : w.heap.size + 2 ≤ w2.heap.size := (by have := hb2.size; simp at this; omega)
       have HA2 := Lib.hid ((hb2.block (w.heap.size + 1) (by simp)).trans (arr_new w _ 131 #[.int .i64 (x : Nat), .int .i64 (y : Nat)]))
       simp at k0
       clear hb2 hk)
    | (go_at_call 72
       refine (fixed_any o 1 w2 HO64.out).mono ?_
       rintro e w3 ⟨u3, rfl, hown3, hb3⟩
       rw [wid_one, fb_one o HO.out] at hown3
       have HO3 := Lib.hid hown3
       have HB3 := Lib.hid (hb3.mono (Nat.le_refl w2.heap.size))
       have HA3 := Lib.hid ((hb3.block (w.heap.size + 1) (by omega)).trans HA2.out)
       have a30 := Blk.cell HA3.out 0
       simp at a30
       clear hown3 hb3))
  refine wp_loop_rounds 3 ?_
  rw [rounds_succ]
  go_wp2_with (first
    | (go_at_call 66
       refine (var_any x w3 HX64.out).mono ?_
       rintro e w4 ⟨u4, rfl, hown4, hb4⟩
       obtain ⟨A4, c4, rfl, -, -, -, hY4⟩ := own_slice hown4
       have HY4 := Lib.hid hY4
       have HO4 := Lib.hid (own_below HO3.out hb4 (Nat.le_refl _))
       have HB4 := Lib.hid (HB3.out.trans (hb4.mono HB3.out.size))
       have HS4 := Lib.hid HB4.out.size
       clear hown4 hY4 hb4)
    | (at_builtin
       refine walk_append _ rfl (.tmp 31) (.tmp 36) rfl w2.heap.size u3 1 [o] rfl HO4.out A4 (vb x).length c4 (vb x) rfl rfl _ HY4.out HL1.out HS4.out ?_
       intro v5 w5 hown5 hg5 _
       have HO5 := Lib.hid hown5
       have HB5 := Lib.hid (HB4.out.grown hg5 HS4.out (fun i hi => (HO4.out.lt i hi).1))
       have HA5 := Lib.hid ((HB5.out.block (w.heap.size + 1) (by omega)).trans HA2.out)
       have a51 := Blk.cell HA5.out 1
       simp at a51
       clear hown5 hg5))
  rw [rounds_succ]
  go_wp2_with (first
    | (go_at_call 66
       have hp := HO5.out
       clear hp
       refine (var_any y w5 HY64.out).mono ?_
       rintro e w6 ⟨u6, rfl, hown6, hb6⟩
       obtain ⟨A6, c6, rfl, -, -, -, hY6⟩ := own_slice hown6
       have HY6 := Lib.hid hY6
       have HO6 := Lib.hid (own_below HO5.out hb6 (Nat.le_refl _))
       have HB6 := Lib.hid (HB5.out.trans (hb6.mono HB5.out.size))
       have HS6 := Lib.hid HB6.out.size
       clear hown6 hY6 hb6)
    | (at_builtin
       have hp := HO6.out
       clear hp
       refine walk_append _ rfl (.tmp 31) (.tmp 36) rfl w2.heap.size v5 (1 + (vb x).length) ([o] ++ vb x) rfl HO6.out A6 (vb y).length c6 (vb y) rfl rfl _ HY6.out HL2.out HS6.out ?_
       intro v7 w7 hown7 hg7 _
       have HO7 := Lib.hid hown7
       have HB7 := Lib.hid (HB6.out.grown hg7 HS6.out (fun i hi => (HO6.out.lt i hi).1))
       clear hown7 hg7))
  rw [rounds_succ]
  go_wp2_with fail
  go_ret
  have e : insB o x y = [o] ++ vb x ++ vb y := by rw [HE.out]; simp [bodyB]
  have el : (insB o x y).length = 1 + (vb x).length + (vb y).length := by rw [e]; simp; try omega
  rw [el, e]
  exact ⟨_, rfl, own_wide HO7.out HB2.out.size, HB2.out.trans (HB7.out.mono HB2.out.size)⟩

theorem iput_any (op a b : Int) (w : World) :
    Calls Try.prog 71 #[.agg #[.int .i64 op, .int .i64 a, .int .i64 b]] w fun e w' => ∃ u, e = .returned u ∧ w'.ownsRow w.heap.size 5 1 u (insB op a b).length (Bs (insB op a b)) ∧ Below w.heap.size w w' := by
  by_cases h : goodI op a b = true
  · obtain ⟨o, x, y, rfl, rfl, rfl, -, -, -, h0, -⟩ := goodI_parts h
    rcases argN_cases o with hn | hn | hn | hn
    · omega
    · exact iput_0 o x y w h hn
    · exact iput_1 o x y w h hn
    · exact iput_2 o x y w h hn
  · rw [insB_none h]
    refine (iput_none op a b w (by simpa using h)).mono ?_
    rintro e w' ⟨rfl, hb⟩
    exact ⟨_, rfl, own_nil _ _, hb⟩
end Go.Proofs.Ytpjanfkliaaflaa
namespace Go.Proofs.Ytpjanfkliaaflaa
open Go.RowKit

structure Env (b g t r : Nat) (w : World) : Prop where
  recs : ∃ A c, w.cell? ⟨b, 0, none⟩ = some (.slice A r c)
  good : w.cell? ⟨g, 0, none⟩ = some (.func (.func 52) #[] #[.pointer (some ⟨b, 0, none⟩)])
  types : w.cell? ⟨t, 0, none⟩ = some (.func (.func 54) #[] #[.pointer (some ⟨g, 0, none⟩)])
theorem Env.below {b g t r : Nat} {w w' : World} (h : Env b g t r w) (hb : Below w.heap.size w w') : Env b g t r w' := by
  obtain ⟨A, c, h1⟩ := h.recs
  exact ⟨⟨A, c, (hb.cell (World.block_lt_of_cell? w _ h1)).trans h1⟩, (hb.cell (World.block_lt_of_cell? w _ h.good)).trans h.good, (hb.cell (World.block_lt_of_cell? w _ h.types)).trans h.types⟩

theorem good_any (b : Nat) (x : Typ) (r : Nat) (w : World) (h : ∃ A c, w.cell? ⟨b, 0, none⟩ = some (.slice A r c)) (cs : List Value) (hr : typL.R (· < w.heap.size) w cs x) :
    Calls Try.prog 52 #[vAgg cs, .pointer (some ⟨b, 0, none⟩)] w (Tells (goodT r x) w) := by
  obtain ⟨A, c, h1⟩ := h
  obtain ⟨rfl, i1, i2⟩ := hr
  show Calls Try.prog 52 #[.agg #[.int .i64 x.1, .int .i64 x.2], .pointer (some ⟨b, 0, none⟩)] w (Tells (goodT r x) w)
  have hlt := World.block_lt_of_cell? w _ h1
  simp only at hlt
  have hne : b ≠ w.heap.size := by omega
  have HC : Hid (∀ w, Calls Try.prog 53 #[.agg #[.int .i64 x.1, .int .i64 x.2], .int .i64 (r : Int)] w (Tells (goodT r x) w)) := fun w => kgood x.1 x.2 r w
  generalize goodT r x = gd at *
  go_enter Try.func52, Try.ntmps52
  go_wp2_with (first | (go_at_call 53; refine (HC.out _).mono ?_; rintro e w1 ⟨rfl, hb⟩))
  go_ret
  exact ⟨rfl, ((Below.refl _ _).alloc (Nat.le_refl _) _).trans (hb.mono (by simp))⟩

theorem types_any (b g : Nat) (A : Option Addr) (n c : Nat) (ts : List Typ) (most : Int) (r : Nat) (w : World) (hrec : ∃ A c, w.cell? ⟨b, 0, none⟩ = some (.slice A r c))
    (hg : w.cell? ⟨g, 0, none⟩ = some (.func (.func 52) #[] #[.pointer (some ⟨b, 0, none⟩)])) (hl : ts.length = n) (h : Sq typL (· < w.heap.size) w A ts) (hn : n ≤ 9223372036854775807) (hm : -9223372036854775807 ≤ most ∧ most ≤ 1000) :
    Calls Try.prog 54 #[.slice A n c, .int .i64 most, .pointer (some ⟨g, 0, none⟩)] w (Tells (witB 0 most (goodT r) ts) w) := by
  have HC : Hid (Calls Try.prog 55 #[.slice A n c, .int .i64 0, .int .i64 most, .func (.func 52) #[] #[.pointer (some ⟨b, 0, none⟩)]] w (Tells (witB 0 most (goodT r) ts) w)) :=
    within_typ A n c ts 0 most (goodT r) ⟨b, 0, none⟩ w hl h hn (by omega) ⟨by omega, hm.2⟩ fun w1 cs x hb _ hr => by
      obtain ⟨A', c', h1⟩ := hrec
      exact good_any b x r w1 ⟨A', c', (hb.cell (World.block_lt_of_cell? w _ h1)).trans h1⟩ cs hr
  clear hrec hl h
  go_enter Try.func54, Try.ntmps54
  go_wp2_with (first | (go_at_call 55; refine HC.out.mono ?_; rintro e w1 ⟨rfl, hb⟩))
  go_ret
  exact ⟨rfl, hb⟩

theorem record_any (b g t r : Nat) (x : List Typ) (w : World) (he : Env b g t r w) (cs : List Value) (hr : tysL.R (· < w.heap.size) w cs x) :
    Calls Try.prog 56 #[vOne cs, .pointer (some ⟨t, 0, none⟩)] w (Tells (recOk r x) w) := by
  obtain ⟨A, c, rfl, l1, l2, l3⟩ := hr
  show Calls Try.prog 56 #[.slice A x.length c, .pointer (some ⟨t, 0, none⟩)] w (Tells (recOk r x) w)
  have ht := he.types
  obtain ⟨n, hn⟩ : ∃ n, x.length = n := ⟨_, rfl⟩
  have hn2 : n ≤ 9223372036854775807 := by unfold maxLen at l2; omega
  have HC : Hid (Calls Try.prog 54 #[.slice A n c, .int .i64 6, .pointer (some ⟨g, 0, none⟩)] w (Tells (recOk r x) w)) := types_any b g A n c x 6 r w he.recs he.good hn l3 hn2 (by omega)
  rw [hn]
  clear hn l1 l2 l3 he
  generalize recOk r x = gd at *
  go_enter Try.func56, Try.ntmps56
  go_wp2_with (first | (go_at_call 54; refine HC.out.mono ?_; rintro e w1 ⟨rfl, hb⟩))
  go_ret
  exact ⟨rfl, hb⟩

theorem goodIns_any (x : Ins) (w : World) (cs : List Value) (hr : insL.R (· < w.heap.size) w cs x) : Calls Try.prog 59 #[vAgg cs] w (Tells (goodIn x) w) := by
  obtain ⟨rfl, -⟩ := hr
  show Calls Try.prog 59 #[.agg #[.int .i64 x.1, .int .i64 x.2.1, .int .i64 x.2.2]] w (Tells (goodIn x) w)
  have HC : Hid (∀ w, Calls Try.prog 71 #[.agg #[.int .i64 x.1, .int .i64 x.2.1, .int .i64 x.2.2]] w (Puts (iB x) w)) := fun w => iput_any x.1 x.2.1 x.2.2 w
  have hlen := iB_len x
  have hd : Hid (goodIn x = decide (0 < (iB x).length)) := by
    show goodIn x = decide (0 < (iB x).length)
    cases hg : goodIn x
    · have e : iB x = [] := insB_none (by rw [show goodI x.1 x.2.1 x.2.2 = false from hg]; simp)
      rw [e]
      simp
    · have := insB_pos (op := x.1) (a := x.2.1) (b := x.2.2) hg
      exact (decide_eq_true this).symm
  obtain ⟨y, hy⟩ : ∃ y, iB x = y := ⟨_, rfl⟩
  rw [hy] at HC hd hlen
  generalize goodIn x = gd at *
  clear hy
  generalize x.1 = q1 at *
  generalize x.2.1 = q2 at *
  generalize x.2.2 = q3 at *
  go_enter Try.func59, Try.ntmps59
  go_wp2_with (first | (go_at_call 71; refine (HC.out _).mono ?_; rintro e w1 ⟨u, rfl, hown, hb⟩; obtain ⟨A2, c2, rfl, -, -, -, -⟩ := own_slice hown; clear hown; have HB := Lib.hid hb; clear hb))
  go_ret
  refine ⟨?_, ((Below.refl _ _).alloc (Nat.le_refl _) _).trans (HB.out.mono (by simp))⟩
  rw [hd.out]
  simp

theorem shortText_any (x : List Nat) (w : World) (cs : List Value) (hr : strL.R (· < w.heap.size) w cs x) : Calls Try.prog 65 #[vOne cs] w (Tells (shortB x) w) := by
  obtain ⟨s, rfl, rfl⟩ := hr
  show Calls Try.prog 65 #[.string s] w (Tells (shortB (strB s)) w)
  have hd : Hid (shortB (strB s) = decide (s.size ≤ 32)) := by show shortB (strB s) = _; rw [shortB, strB_len]
  generalize shortB (strB s) = gd at *
  go_enter Try.func65, Try.ntmps65
  go_wp2_with fail
  go_ret
  refine ⟨?_, Below.refl _ _⟩
  rw [hd.out]
  simp
  omega
end Go.Proofs.Ytpjanfkliaaflaa
