/-
  What inst's fit does. Conditions: none.
  What inst's Put does: the bytes of an instruction, or nothing. Conditions: none.
  What the document's own Args does. Conditions: as each theorem says.
  What the document's Instr does: the bytes of an instruction, or nothing. Conditions: none.
-/
import Derived.Test.YtpgfbnilnoopoaaQ01
import Derived.Test.YtpgfbnilnoopoaaQ02
import Derived.Test.YtpgfbnilnoopoaaQ04
import Derived.LoopN
namespace Go.Proofs.Ytpgfbnilnoopoaa
open Go.RowKit
set_option linter.unusedSimpArgs false

set_option maxHeartbeats 2000000 in
theorem fit_any (n a b : Int) (w : World) : Calls Try.prog 75 #[.agg #[.int .i64 a, .int .i64 b], .int .i64 n] w fun e w' => e = .returned (.bool (fitN n a b)) ∧ Below w.heap.size w w' := by
  have i0 : ∀ w, (Instr.index 100 (.agg #[.int .i64 a, .int .i64 b]) (.int .i64 0)).run Try.prog w = .ok (.int .i64 a) w := fun _ => by kernel_rfl
  have i1 : ∀ w, (Instr.index 100 (.agg #[.int .i64 a, .int .i64 b]) (.int .i64 1)).run Try.prog w = .ok (.int .i64 b) w := fun _ => by kernel_rfl
  unfold fitN
  by_cases h0 : 0 < n
  · rw [if_pos h0]
    by_cases h1 : 1 < n
    · rw [if_pos h1]
      by_cases a0 : a < 0
      · rw [decide_eq_false (by omega)]
        go_enter Try.func75, Try.ntmps75
        go_wp2_with fail
        refine wp_loop_rounds 3 ?_
        rw [rounds_succ]
        go_wp2_with fail
        go_ret
        exact ⟨rfl, (Below.refl _ _).alloc (Nat.le_refl _) _⟩
      by_cases a1 : 255 < a
      · rw [decide_eq_false (by omega)]
        go_enter Try.func75, Try.ntmps75
        go_wp2_with fail
        refine wp_loop_rounds 3 ?_
        rw [rounds_succ]
        go_wp2_with fail
        go_ret
        exact ⟨rfl, (Below.refl _ _).alloc (Nat.le_refl _) _⟩
      by_cases b0 : b < 0
      · rw [decide_eq_false (by omega)]
        go_enter Try.func75, Try.ntmps75
        go_wp2_with fail
        refine wp_loop_rounds 3 ?_
        rw [rounds_succ]
        go_wp2_with fail
        rw [rounds_succ]
        go_wp2_with fail
        go_ret
        exact ⟨rfl, (Below.refl _ _).alloc (Nat.le_refl _) _⟩
      by_cases b1 : 255 < b
      · rw [decide_eq_false (by omega)]
        go_enter Try.func75, Try.ntmps75
        go_wp2_with fail
        refine wp_loop_rounds 3 ?_
        rw [rounds_succ]
        go_wp2_with fail
        rw [rounds_succ]
        go_wp2_with fail
        go_ret
        exact ⟨rfl, (Below.refl _ _).alloc (Nat.le_refl _) _⟩
      rw [decide_eq_true (by omega)]
      go_enter Try.func75, Try.ntmps75
      go_wp2_with fail
      refine wp_loop_rounds 3 ?_
      rw [rounds_succ]
      go_wp2_with fail
      rw [rounds_succ]
      go_wp2_with fail
      rw [rounds_succ]
      go_wp2_with fail
      go_ret
      exact ⟨rfl, (Below.refl _ _).alloc (Nat.le_refl _) _⟩
    · rw [if_neg h1]
      by_cases a0 : a < 0
      · rw [decide_eq_false (by omega)]
        go_enter Try.func75, Try.ntmps75
        go_wp2_with fail
        refine wp_loop_rounds 3 ?_
        rw [rounds_succ]
        go_wp2_with fail
        go_ret
        exact ⟨rfl, (Below.refl _ _).alloc (Nat.le_refl _) _⟩
      by_cases a1 : 255 < a
      · rw [decide_eq_false (by omega)]
        go_enter Try.func75, Try.ntmps75
        go_wp2_with fail
        refine wp_loop_rounds 3 ?_
        rw [rounds_succ]
        go_wp2_with fail
        go_ret
        exact ⟨rfl, (Below.refl _ _).alloc (Nat.le_refl _) _⟩
      by_cases b0 : b < 0
      · rw [decide_eq_false (by omega)]
        go_enter Try.func75, Try.ntmps75
        go_wp2_with fail
        refine wp_loop_rounds 3 ?_
        rw [rounds_succ]
        go_wp2_with fail
        rw [rounds_succ]
        go_wp2_with fail
        go_ret
        exact ⟨rfl, (Below.refl _ _).alloc (Nat.le_refl _) _⟩
      by_cases b1 : 0 < b
      · rw [decide_eq_false (by omega)]
        go_enter Try.func75, Try.ntmps75
        go_wp2_with fail
        refine wp_loop_rounds 3 ?_
        rw [rounds_succ]
        go_wp2_with fail
        rw [rounds_succ]
        go_wp2_with fail
        go_ret
        exact ⟨rfl, (Below.refl _ _).alloc (Nat.le_refl _) _⟩
      rw [decide_eq_true (by omega)]
      go_enter Try.func75, Try.ntmps75
      go_wp2_with fail
      refine wp_loop_rounds 3 ?_
      rw [rounds_succ]
      go_wp2_with fail
      rw [rounds_succ]
      go_wp2_with fail
      rw [rounds_succ]
      go_wp2_with fail
      go_ret
      exact ⟨rfl, (Below.refl _ _).alloc (Nat.le_refl _) _⟩
  · rw [if_neg h0, if_neg (by omega)]
    have h1 : ¬ 1 < n := by omega
    by_cases a0 : a < 0
    · rw [decide_eq_false (by omega)]
      go_enter Try.func75, Try.ntmps75
      go_wp2_with fail
      refine wp_loop_rounds 3 ?_
      rw [rounds_succ]
      go_wp2_with fail
      go_ret
      exact ⟨rfl, (Below.refl _ _).alloc (Nat.le_refl _) _⟩
    by_cases a1 : 0 < a
    · rw [decide_eq_false (by omega)]
      go_enter Try.func75, Try.ntmps75
      go_wp2_with fail
      refine wp_loop_rounds 3 ?_
      rw [rounds_succ]
      go_wp2_with fail
      go_ret
      exact ⟨rfl, (Below.refl _ _).alloc (Nat.le_refl _) _⟩
    by_cases b0 : b < 0
    · rw [decide_eq_false (by omega)]
      go_enter Try.func75, Try.ntmps75
      go_wp2_with fail
      refine wp_loop_rounds 3 ?_
      rw [rounds_succ]
      go_wp2_with fail
      rw [rounds_succ]
      go_wp2_with fail
      go_ret
      exact ⟨rfl, (Below.refl _ _).alloc (Nat.le_refl _) _⟩
    by_cases b1 : 0 < b
    · rw [decide_eq_false (by omega)]
      go_enter Try.func75, Try.ntmps75
      go_wp2_with fail
      refine wp_loop_rounds 3 ?_
      rw [rounds_succ]
      go_wp2_with fail
      rw [rounds_succ]
      go_wp2_with fail
      go_ret
      exact ⟨rfl, (Below.refl _ _).alloc (Nat.le_refl _) _⟩
    rw [decide_eq_true (by omega)]
    go_enter Try.func75, Try.ntmps75
    go_wp2_with fail
    refine wp_loop_rounds 3 ?_
    rw [rounds_succ]
    go_wp2_with fail
    rw [rounds_succ]
    go_wp2_with fail
    rw [rounds_succ]
    go_wp2_with fail
    go_ret
    exact ⟨rfl, (Below.refl _ _).alloc (Nat.le_refl _) _⟩
end Go.Proofs.Ytpgfbnilnoopoaa
namespace Go.Proofs.Ytpgfbnilnoopoaa
open Go.RowKit
set_option linter.unusedSimpArgs false


theorem wid_one : wid 1 = 1 := by decide
theorem fb_one (o : Nat) (h : o < 256) : fb o 1 = [o] := by simp [fb]; omega

set_option maxRecDepth 100000 in
set_option maxHeartbeats 1000000 in
theorem iput_none (op a b : Int) (w : World) (h : goodI op a b = false) :
    Calls Try.prog 69 #[.agg #[.int .i64 op, .int .i64 a, .int .i64 b]] w fun e w' => e = .returned (.slice none 0 0) ∧ Below w.heap.size w w' := by
  unfold goodI at h
  have AR := Lib.hid (fun w => args_any op w)
  obtain ⟨n, hn⟩ : ∃ n, argN op = n := ⟨_, rfl⟩
  rw [hn] at h AR
  have FT := Lib.hid (fun w => fit_any n a b w)
  clear hn
  by_cases h0 : n < 0
  · clear h
    go_enter Try.func69, Try.ntmps69
    go_wp2_with (first
      | (go_at_call 74
         refine (AR.out _).mono ?_
         rintro e w1 ⟨rfl, rfl⟩))
    go_ret
    exact ⟨rfl, ((Below.refl _ _).alloc (Nat.le_refl _) _).alloc (by simp) _⟩
  · have hf : fitN n a b = false := by
      rw [decide_eq_true (by omega)] at h
      simpa using h
    rw [hf] at FT
    clear hf h
    go_enter Try.func69, Try.ntmps69
    go_wp2_with (first
      | (go_at_call 74
         refine (AR.out _).mono ?_
         rintro e w1 ⟨rfl, rfl⟩)
      | (go_at_call 75
         refine (FT.out _).mono ?_
         rintro e w2 ⟨rfl, hb2⟩
         have HB2 := Lib.hid hb2
         clear hb2))
    go_ret
    exact ⟨rfl, (((Below.refl _ _).alloc (Nat.le_refl _) _).alloc (by simp) _).trans (HB2.out.mono (by simp; omega))⟩
theorem arr_new (w : World) (o : Obj) (t : TypeId) (cs : Array Value) : Blk ((w.alloc o).alloc (.cells cs t)) (w.heap.size + 1) t cs := by
  have := heap_alloc_new (w.alloc o) (.cells cs t)
  simpa [Blk] using this

set_option maxRecDepth 100000 in
set_option maxHeartbeats 1000000 in
theorem iput_0 (o x y : Nat) (w : World) (h : goodI o x y = true) (hn : argN o = 0) :
    Calls Try.prog 69 #[.agg #[.int .i64 (o : Nat), .int .i64 (x : Nat), .int .i64 (y : Nat)]] w fun e w' => ∃ u, e = .returned u ∧ w'.ownsRow w.heap.size 5 1 u (insB o x y).length (Bs (insB o x y)) ∧ Below w.heap.size w w' := by
  have AR := Lib.hid (fun w => args_any o w)
  rw [hn] at AR
  have FT := Lib.hid (fun w => fit_any 0 x y w)
  have hf : fitN 0 x y = true := by
    unfold goodI at h
    rw [hn] at h
    simpa using h
  rw [hf] at FT
  obtain ⟨o', x', y', eo, ex, ey, ho, hx, hy, -⟩ := goodI_parts h
  obtain rfl : o = o' := by omega
  obtain rfl : x = x' := by omega
  obtain rfl : y = y' := by omega
  have HE : Hid (insB o x y = [o] ++ bodyB 0 x y) := by
    show insB o x y = [o] ++ bodyB 0 x y
    rw [insB_good h, hn]
    rfl
  have HO : Hid (o < 256) := by show o < 256; omega
  have HO64 : Hid (o < B64) := by show o < B64; unfold B64; omega
  have HX64 : Hid (x < B64) := by show x < B64; unfold B64; omega
  have HY64 : Hid (y < B64) := by show y < B64; unfold B64; omega
  have HL1 : Hid (1 + (vb x).length ≤ 140737488355328) := by show 1 + (vb x).length ≤ 140737488355328; have := vb255 x hx; omega
  have HL2 : Hid (1 + (vb x).length + (vb y).length ≤ 140737488355328) := by show 1 + (vb x).length + (vb y).length ≤ 140737488355328; have := vb255 x hx; have := vb255 y hy; omega
  clear hf hn h eo ex ey
  go_enter Try.func69, Try.ntmps69
  go_wp2_with (first
    | (go_at_call 74
       refine (AR.out _).mono ?_
       rintro e w1 ⟨rfl, rfl⟩)
    | (go_at_call 75
       refine (FT.out _).mono ?_
       rintro e w2 ⟨rfl, hb2⟩
       have HB2 : Hid (Below w.heap.size w w2) := (((Below.refl _ _).alloc (Nat.le_refl _) _).alloc (by simp) _).trans (hb2.mono (by simp; omega))
       have hk := (hb2.block w.heap.size (by simp; omega)).trans ((Below.heap_alloc _ _ w.heap.size (by simp)).trans (blk_new w 44 #[.int .i64 (o : Nat), .int .i64 (x : Nat), .int .i64 (y : Nat)]))
       have k0 := Blk.cell hk 0
       have hs2 : w.heap.size + 2 ≤ w2.heap.size := (by have := hb2.size; simp at this; omega)
       have HA2 := Lib.hid ((hb2.block (w.heap.size + 1) (by simp)).trans (arr_new w _ 100 #[.int .i64 (x : Nat), .int .i64 (y : Nat)]))
       simp at k0
       clear hb2 hk)
    | (go_at_call 70
       refine (fixed_any o 1 w2 HO64.out).mono ?_
       rintro e w3 ⟨u3, rfl, hown3, hb3⟩
       rw [wid_one, fb_one o HO.out] at hown3
       have HO3 := Lib.hid hown3
       have HB3 := Lib.hid (hb3.mono (Nat.le_refl w2.heap.size))
       have HA3 := Lib.hid ((hb3.block (w.heap.size + 1) (by omega)).trans HA2.out)
       have a30 := Blk.cell HA3.out 0
       simp at a30
       clear hown3 hb3))
  refine wp_loop_rounds 3 ?_
  rw [rounds_succ]
  go_wp2_with fail
  go_ret
  have e : insB o x y = [o] := by rw [HE.out]; simp [bodyB]
  have el : (insB o x y).length = 1 := by rw [e]; simp; try omega
  rw [el, e]
  exact ⟨_, rfl, own_wide HO3.out HB2.out.size, HB2.out.trans (HB3.out.mono HB2.out.size)⟩

set_option maxRecDepth 100000 in
set_option maxHeartbeats 1000000 in
theorem iput_1 (o x y : Nat) (w : World) (h : goodI o x y = true) (hn : argN o = 1) :
    Calls Try.prog 69 #[.agg #[.int .i64 (o : Nat), .int .i64 (x : Nat), .int .i64 (y : Nat)]] w fun e w' => ∃ u, e = .returned u ∧ w'.ownsRow w.heap.size 5 1 u (insB o x y).length (Bs (insB o x y)) ∧ Below w.heap.size w w' := by
  have AR := Lib.hid (fun w => args_any o w)
  rw [hn] at AR
  have FT := Lib.hid (fun w => fit_any 1 x y w)
  have hf : fitN 1 x y = true := by
    unfold goodI at h
    rw [hn] at h
    simpa using h
  rw [hf] at FT
  obtain ⟨o', x', y', eo, ex, ey, ho, hx, hy, -⟩ := goodI_parts h
  obtain rfl : o = o' := by omega
  obtain rfl : x = x' := by omega
  obtain rfl : y = y' := by omega
  have HE : Hid (insB o x y = [o] ++ bodyB 1 x y) := by
    show insB o x y = [o] ++ bodyB 1 x y
    rw [insB_good h, hn]
    rfl
  have HO : Hid (o < 256) := by show o < 256; omega
  have HO64 : Hid (o < B64) := by show o < B64; unfold B64; omega
  have HX64 : Hid (x < B64) := by show x < B64; unfold B64; omega
  have HY64 : Hid (y < B64) := by show y < B64; unfold B64; omega
  have HL1 : Hid (1 + (vb x).length ≤ 140737488355328) := by show 1 + (vb x).length ≤ 140737488355328; have := vb255 x hx; omega
  have HL2 : Hid (1 + (vb x).length + (vb y).length ≤ 140737488355328) := by show 1 + (vb x).length + (vb y).length ≤ 140737488355328; have := vb255 x hx; have := vb255 y hy; omega
  clear hf hn h eo ex ey
  go_enter Try.func69, Try.ntmps69
  go_wp2_with (first
    | (go_at_call 74
       refine (AR.out _).mono ?_
       rintro e w1 ⟨rfl, rfl⟩)
    | (go_at_call 75
       refine (FT.out _).mono ?_
       rintro e w2 ⟨rfl, hb2⟩
       have HB2 : Hid (Below w.heap.size w w2) := (((Below.refl _ _).alloc (Nat.le_refl _) _).alloc (by simp) _).trans (hb2.mono (by simp; omega))
       have hk := (hb2.block w.heap.size (by simp; omega)).trans ((Below.heap_alloc _ _ w.heap.size (by simp)).trans (blk_new w 44 #[.int .i64 (o : Nat), .int .i64 (x : Nat), .int .i64 (y : Nat)]))
       have k0 := Blk.cell hk 0
       have hs2 : w.heap.size + 2 ≤ w2.heap.size := (by have := hb2.size; simp at this; omega)
       have HA2 := Lib.hid ((hb2.block (w.heap.size + 1) (by simp)).trans (arr_new w _ 100 #[.int .i64 (x : Nat), .int .i64 (y : Nat)]))
       simp at k0
       clear hb2 hk)
    | (go_at_call 70
       refine (fixed_any o 1 w2 HO64.out).mono ?_
       rintro e w3 ⟨u3, rfl, hown3, hb3⟩
       rw [wid_one, fb_one o HO.out] at hown3
       have HO3 := Lib.hid hown3
       have HB3 := Lib.hid (hb3.mono (Nat.le_refl w2.heap.size))
       have HA3 := Lib.hid ((hb3.block (w.heap.size + 1) (by omega)).trans HA2.out)
       have a30 := Blk.cell HA3.out 0
       simp at a30
       clear hown3 hb3))
  refine wp_loop_rounds 3 ?_
  rw [rounds_succ]
  go_wp2_with (first
    | (go_at_call 64
       refine (var_any x w3 HX64.out).mono ?_
       rintro e w4 ⟨u4, rfl, hown4, hb4⟩
       obtain ⟨A4, c4, rfl, -, -, -, hY4⟩ := own_slice hown4
       have HY4 := Lib.hid hY4
       have HO4 := Lib.hid (own_below HO3.out hb4 (Nat.le_refl _))
       have HB4 := Lib.hid (HB3.out.trans (hb4.mono HB3.out.size))
       have HS4 := Lib.hid HB4.out.size
       clear hown4 hY4 hb4)
    | (at_builtin
       refine walk_append _ rfl (.tmp 31) (.tmp 36) rfl w2.heap.size u3 1 [o] rfl HO4.out A4 (vb x).length c4 (vb x) rfl rfl _ HY4.out HL1.out HS4.out ?_
       intro v5 w5 hown5 hg5 _
       have HO5 := Lib.hid hown5
       have HB5 := Lib.hid (HB4.out.grown hg5 HS4.out (fun i hi => (HO4.out.lt i hi).1))
       have HA5 := Lib.hid ((HB5.out.block (w.heap.size + 1) (by omega)).trans HA2.out)
       have a51 := Blk.cell HA5.out 1
       simp at a51
       clear hown5 hg5))
  rw [rounds_succ]
  go_wp2_with fail
  go_ret
  have e : insB o x y = [o] ++ vb x := by rw [HE.out]; simp [bodyB]
  have el : (insB o x y).length = 1 + (vb x).length := by rw [e]; simp; try omega
  rw [el, e]
  exact ⟨_, rfl, own_wide HO5.out HB2.out.size, HB2.out.trans (HB5.out.mono HB2.out.size)⟩

set_option maxRecDepth 100000 in
set_option maxHeartbeats 1000000 in
theorem iput_2 (o x y : Nat) (w : World) (h : goodI o x y = true) (hn : argN o = 2) :
    Calls Try.prog 69 #[.agg #[.int .i64 (o : Nat), .int .i64 (x : Nat), .int .i64 (y : Nat)]] w fun e w' => ∃ u, e = .returned u ∧ w'.ownsRow w.heap.size 5 1 u (insB o x y).length (Bs (insB o x y)) ∧ Below w.heap.size w w' := by
  have AR := Lib.hid (fun w => args_any o w)
  rw [hn] at AR
  have FT := Lib.hid (fun w => fit_any 2 x y w)
  have hf : fitN 2 x y = true := by
    unfold goodI at h
    rw [hn] at h
    simpa using h
  rw [hf] at FT
  obtain ⟨o', x', y', eo, ex, ey, ho, hx, hy, -⟩ := goodI_parts h
  obtain rfl : o = o' := by omega
  obtain rfl : x = x' := by omega
  obtain rfl : y = y' := by omega
  have HE : Hid (insB o x y = [o] ++ bodyB 2 x y) := by
    show insB o x y = [o] ++ bodyB 2 x y
    rw [insB_good h, hn]
    rfl
  have HO : Hid (o < 256) := by show o < 256; omega
  have HO64 : Hid (o < B64) := by show o < B64; unfold B64; omega
  have HX64 : Hid (x < B64) := by show x < B64; unfold B64; omega
  have HY64 : Hid (y < B64) := by show y < B64; unfold B64; omega
  have HL1 : Hid (1 + (vb x).length ≤ 140737488355328) := by show 1 + (vb x).length ≤ 140737488355328; have := vb255 x hx; omega
  have HL2 : Hid (1 + (vb x).length + (vb y).length ≤ 140737488355328) := by show 1 + (vb x).length + (vb y).length ≤ 140737488355328; have := vb255 x hx; have := vb255 y hy; omega
  clear hf hn h eo ex ey
  go_enter Try.func69, Try.ntmps69
  go_wp2_with (first
    | (go_at_call 74
       refine (AR.out _).mono ?_
       rintro e w1 ⟨rfl, rfl⟩)
    | (go_at_call 75
       refine (FT.out _).mono ?_
       rintro e w2 ⟨rfl, hb2⟩
       have HB2 : Hid (Below w.heap.size w w2) := (((Below.refl _ _).alloc (Nat.le_refl _) _).alloc (by simp) _).trans (hb2.mono (by simp; omega))
       have hk := (hb2.block w.heap.size (by simp; omega)).trans ((Below.heap_alloc _ _ w.heap.size (by simp)).trans (blk_new w 44 #[.int .i64 (o : Nat), .int .i64 (x : Nat), .int .i64 (y : Nat)]))
       have k0 := Blk.cell hk 0
       have hs2 : w.heap.size + 2 ≤ w2.heap.size := (by have := hb2.size; simp at this; omega)
       have HA2 := Lib.hid ((hb2.block (w.heap.size + 1) (by simp)).trans (arr_new w _ 100 #[.int .i64 (x : Nat), .int .i64 (y : Nat)]))
       simp at k0
       clear hb2 hk)
    | (go_at_call 70
       refine (fixed_any o 1 w2 HO64.out).mono ?_
       rintro e w3 ⟨u3, rfl, hown3, hb3⟩
       rw [wid_one, fb_one o HO.out] at hown3
       have HO3 := Lib.hid hown3
       have HB3 := Lib.hid (hb3.mono (Nat.le_refl w2.heap.size))
       have HA3 := Lib.hid ((hb3.block (w.heap.size + 1) (by omega)).trans HA2.out)
       have a30 := Blk.cell HA3.out 0
       simp at a30
       clear hown3 hb3))
  refine wp_loop_rounds 3 ?_
  rw [rounds_succ]
  go_wp2_with (first
    | (go_at_call 64
       refine (var_any x w3 HX64.out).mono ?_
       rintro e w4 ⟨u4, rfl, hown4, hb4⟩
       obtain ⟨A4, c4, rfl, -, -, -, hY4⟩ := own_slice hown4
       have HY4 := Lib.hid hY4
       have HO4 := Lib.hid (own_below HO3.out hb4 (Nat.le_refl _))
       have HB4 := Lib.hid (HB3.out.trans (hb4.mono HB3.out.size))
       have HS4 := Lib.hid HB4.out.size
       clear hown4 hY4 hb4)
    | (at_builtin
       refine walk_append _ rfl (.tmp 31) (.tmp 36) rfl w2.heap.size u3 1 [o] rfl HO4.out A4 (vb x).length c4 (vb x) rfl rfl _ HY4.out HL1.out HS4.out ?_
       intro v5 w5 hown5 hg5 _
       have HO5 := Lib.hid hown5
       have HB5 := Lib.hid (HB4.out.grown hg5 HS4.out (fun i hi => (HO4.out.lt i hi).1))
       have HA5 := Lib.hid ((HB5.out.block (w.heap.size + 1) (by omega)).trans HA2.out)
       have a51 := Blk.cell HA5.out 1
       simp at a51
       clear hown5 hg5))
  rw [rounds_succ]
  go_wp2_with (first
    | (go_at_call 64
       have hp := HO5.out
       clear hp
       refine (var_any y w5 HY64.out).mono ?_
       rintro e w6 ⟨u6, rfl, hown6, hb6⟩
       obtain ⟨A6, c6, rfl, -, -, -, hY6⟩ := own_slice hown6
       have HY6 := Lib.hid hY6
       have HO6 := Lib.hid (own_below HO5.out hb6 (Nat.le_refl _))
       have HB6 := Lib.hid (HB5.out.trans (hb6.mono HB5.out.size))
       have HS6 := Lib.hid HB6.out.size
       clear hown6 hY6 hb6)
    | (at_builtin
       have hp := HO6.out
       clear hp
       refine walk_append _ rfl (.tmp 31) (.tmp 36) rfl w2.heap.size v5 (1 + (vb x).length) ([o] ++ vb x) rfl HO6.out A6 (vb y).length c6 (vb y) rfl rfl _ HY6.out HL2.out HS6.out ?_
       intro v7 w7 hown7 hg7 _
       have HO7 := Lib.hid hown7
       have HB7 := Lib.hid (HB6.out.grown hg7 HS6.out (fun i hi => (HO6.out.lt i hi).1))
       clear hown7 hg7))
  rw [rounds_succ]
  go_wp2_with fail
  go_ret
  have e : insB o x y = [o] ++ vb x ++ vb y := by rw [HE.out]; simp [bodyB]
  have el : (insB o x y).length = 1 + (vb x).length + (vb y).length := by rw [e]; simp; try omega
  rw [el, e]
  exact ⟨_, rfl, own_wide HO7.out HB2.out.size, HB2.out.trans (HB7.out.mono HB2.out.size)⟩

theorem iput_any (op a b : Int) (w : World) :
    Calls Try.prog 69 #[.agg #[.int .i64 op, .int .i64 a, .int .i64 b]] w fun e w' => ∃ u, e = .returned u ∧ w'.ownsRow w.heap.size 5 1 u (insB op a b).length (Bs (insB op a b)) ∧ Below w.heap.size w w' := by
  by_cases h : goodI op a b = true
  · obtain ⟨o, x, y, rfl, rfl, rfl, -, -, -, h0, -⟩ := goodI_parts h
    rcases argN_cases o with hn | hn | hn | hn
    · omega
    · exact iput_0 o x y w h hn
    · exact iput_1 o x y w h hn
    · exact iput_2 o x y w h hn
  · rw [insB_none h]
    refine (iput_none op a b w (by simpa using h)).mono ?_
    rintro e w' ⟨rfl, hb⟩
    exact ⟨_, rfl, own_nil _ _, hb⟩
end Go.Proofs.Ytpgfbnilnoopoaa
namespace Go.Proofs.Ytpgfbnilnoopoaa
open Go.RowKit
set_option linter.unusedSimpArgs false

/-- The ones that have one number. -/
def ones : List Int := [0, 1, 3, 4, 23, 24, 25, 27, 28]
theorem argN_one (op : Int) (k : Nat) (hk : k < 9) (h : ones[k]?.getD 0 = op) : argN op = 1 := by
  subst h
  unfold argN ones
  have : k = 0 ∨ k = 1 ∨ k = 2 ∨ k = 3 ∨ k = 4 ∨ k = 5 ∨ k = 6 ∨ k = 7 ∨ k = 8 := by omega
  rcases this with rfl | rfl | rfl | rfl | rfl | rfl | rfl | rfl | rfl <;> rfl
theorem argN_zero (op : Int) (h0 : ¬ op < 0) (h1 : op < 42) (h2 : op ≠ 29) (h3 : op ≠ 30) (h : ∀ j, j < 9 → ones[j]?.getD 0 ≠ op) : argN op = 0 := by
  have a0 := h 0 (by omega)
  have a1 := h 1 (by omega)
  have a2 := h 2 (by omega)
  have a3 := h 3 (by omega)
  have a4 := h 4 (by omega)
  have a5 := h 5 (by omega)
  have a6 := h 6 (by omega)
  have a7 := h 7 (by omega)
  have a8 := h 8 (by omega)
  simp [ones] at a0 a1 a2 a3 a4 a5 a6 a7 a8
  unfold argN
  rw [if_neg (by omega), if_neg (by omega), if_neg (by omega)]

set_option maxRecDepth 100000 in
set_option maxHeartbeats 1000000 in
theorem refArgs_any (op : Int) (w : World) : Calls Try.prog 71 #[.int .i64 op] w fun e w' => e = .returned (.int .i64 (argN op)) ∧ Below w.heap.size w w' := by
  by_cases hlo : op < 0
  · have e : argN op = -1 := by unfold argN; rw [if_neg (by omega), if_neg (by omega), if_pos (by omega)]
    rw [e]
    clear e
    go_enter Try.func71, Try.ntmps71
    go_wp2
    go_ret
    exact ⟨rfl, Below.refl _ _⟩
  by_cases hhi : 42 ≤ op
  · have e : argN op = -1 := by unfold argN; rw [if_neg (by omega), if_neg (by omega), if_pos (by omega)]
    rw [e]
    clear e
    go_enter Try.func71, Try.ntmps71
    go_wp2
    go_ret
    exact ⟨rfl, Below.refl _ _⟩
  by_cases h29 : op = 29
  · subst h29
    go_enter Try.func71, Try.ntmps71
    go_wp2
    go_ret
    exact ⟨rfl, Below.refl _ _⟩
  by_cases h30 : op = 30
  · subst h30
    go_enter Try.func71, Try.ntmps71
    go_wp2
    go_ret
    exact ⟨rfl, Below.refl _ _⟩
  have e29 : (op == 29) = false := by simp [h29]
  have e30 : (op == 30) = false := by simp [h30]
  go_enter Try.func71, Try.ntmps71
  go_wp2_with fail
  refine wp_world fun W hW => ?_
  have hcell : Hid (∀ k, k < 9 → W.cell? ⟨w.heap.size, k, none⟩ = some (.int .i64 (ones[k]?.getD 0))) := by
    intro k hk
    rw [hW]
    have : k = 0 ∨ k = 1 ∨ k = 2 ∨ k = 3 ∨ k = 4 ∨ k = 5 ∨ k = 6 ∨ k = 7 ∨ k = 8 := by omega
    rcases this with rfl | rfl | rfl | rfl | rfl | rfl | rfl | rfl | rfl <;> simp [go_sem, ones]
  have HB : Hid (Below w.heap.size w W) := by
    show Below w.heap.size w W
    rw [hW]
    exact (Below.refl _ _).alloc (Nat.le_refl _) _
  clear hW
  go_loop [4] (fun i => ∃ k : Nat, k ≤ 9 ∧ i = .int .i64 (k : Nat) ∧ ∀ j, j < k → ones[j]?.getD 0 ≠ op) (fun i => 9 - (intOf i).toNat)
  case atStart => exact ⟨0, by omega, rfl, fun j hj => absurd hj (by omega)⟩
  case round =>
    obtain ⟨k, hk, rfl, hall⟩ := hrel
    have HA := Lib.hid hall
    clear hall
    by_cases hlt : k < 9
    · have hc := hcell.out k hlt
      obtain ⟨z, hz⟩ : ∃ z, ones[k]?.getD 0 = z := ⟨_, rfl⟩
      rw [hz] at hc
      have HZ := Lib.hid hz
      clear hz
      by_cases he : z = op
      · subst he
        go_wp2_with fail
        go_ret
        exact ⟨ret_int (argN_one z k hlt HZ.out).symm, HB.out⟩
      · have he2 : (z == op) = false := by simp [he]
        go_wp2_with fail
        refine ⟨⟨k + 1, by omega, by simp, fun j hj => ?_⟩, by simp [intOf]; omega⟩
        rcases Nat.lt_or_ge j k with h | h
        · exact HA.out j h
        · obtain rfl : j = k := by omega
          rw [HZ.out]
          exact he
    · obtain rfl : k = 9 := by omega
      go_wp2_with fail
      go_ret
      exact ⟨ret_int (argN_zero op (by omega) (by omega) h29 h30 HA.out).symm, HB.out⟩
end Go.Proofs.Ytpgfbnilnoopoaa
namespace Go.Proofs.Ytpgfbnilnoopoaa
open Go.RowKit
set_option linter.unusedSimpArgs false

set_option maxRecDepth 100000 in
set_option maxHeartbeats 4000000 in
theorem rins_none (op a b : Int) (w : World) (h : goodI op a b = false) :
    Calls Try.prog 47 #[.agg #[.int .i64 op, .int .i64 a, .int .i64 b]] w fun e w' => e = .returned (.slice none 0 0) ∧ Below w.heap.size w w' := by
  have h' : ¬ (0 ≤ argN op ∧ 0 ≤ a ∧ a ≤ (if 0 < argN op then 255 else 0) ∧ 0 ≤ b ∧ b ≤ (if 1 < argN op then 255 else 0)) := by
    intro hh
    unfold goodI fitN at h
    simp only [Bool.and_eq_false_iff, decide_eq_false_iff_not] at h
    rcases h with h | h
    · exact h hh.1
    · exact h hh.2
  have AR := Lib.hid (fun w => refArgs_any op w)
  obtain ⟨n, hn⟩ : ∃ n, argN op = n := ⟨_, rfl⟩
  rw [hn] at h' AR
  clear hn h
  by_cases n0 : n < 0
  · clear h'
    go_enter Try.func47, Try.ntmps47
    go_wp2_with (first
        | (go_at_call 71
           refine (AR.out _).mono ?_
           rintro e w1 ⟨rfl, hb1⟩
           have HB1 : Hid (Below w.heap.size w w1) := ((Below.refl _ _).alloc (Nat.le_refl _) _).trans (hb1.mono (by simp))
           have hk := (hb1.block w.heap.size (by simp)).trans (blk_new w 44 #[.int .i64 op, .int .i64 a, .int .i64 b])
           have HK := Lib.hid hk
           have k0 := Blk.cell hk 0
           have k1 := Blk.cell hk 1
           have k2 := Blk.cell hk 2
           have hs1 : w.heap.size < w1.heap.size := (by have := hb1.size; simp at this; omega)
           simp at k0 k1 k2
           clear hb1 hk))
    go_ret
    exact ⟨rfl, HB1.out⟩
  by_cases a0 : a < 0
  · clear h'
    go_enter Try.func47, Try.ntmps47
    go_wp2_with (first
        | (go_at_call 71
           refine (AR.out _).mono ?_
           rintro e w1 ⟨rfl, hb1⟩
           have HB1 : Hid (Below w.heap.size w w1) := ((Below.refl _ _).alloc (Nat.le_refl _) _).trans (hb1.mono (by simp))
           have hk := (hb1.block w.heap.size (by simp)).trans (blk_new w 44 #[.int .i64 op, .int .i64 a, .int .i64 b])
           have HK := Lib.hid hk
           have k0 := Blk.cell hk 0
           have k1 := Blk.cell hk 1
           have k2 := Blk.cell hk 2
           have hs1 : w.heap.size < w1.heap.size := (by have := hb1.size; simp at this; omega)
           simp at k0 k1 k2
           clear hb1 hk))
    go_ret
    exact ⟨rfl, HB1.out⟩
  by_cases a1 : 255 < a
  · clear h'
    go_enter Try.func47, Try.ntmps47
    go_wp2_with (first
        | (go_at_call 71
           refine (AR.out _).mono ?_
           rintro e w1 ⟨rfl, hb1⟩
           have HB1 : Hid (Below w.heap.size w w1) := ((Below.refl _ _).alloc (Nat.le_refl _) _).trans (hb1.mono (by simp))
           have hk := (hb1.block w.heap.size (by simp)).trans (blk_new w 44 #[.int .i64 op, .int .i64 a, .int .i64 b])
           have HK := Lib.hid hk
           have k0 := Blk.cell hk 0
           have k1 := Blk.cell hk 1
           have k2 := Blk.cell hk 2
           have hs1 : w.heap.size < w1.heap.size := (by have := hb1.size; simp at this; omega)
           simp at k0 k1 k2
           clear hb1 hk))
    go_ret
    exact ⟨rfl, HB1.out⟩
  by_cases b0 : b < 0
  · clear h'
    go_enter Try.func47, Try.ntmps47
    go_wp2_with (first
        | (go_at_call 71
           refine (AR.out _).mono ?_
           rintro e w1 ⟨rfl, hb1⟩
           have HB1 : Hid (Below w.heap.size w w1) := ((Below.refl _ _).alloc (Nat.le_refl _) _).trans (hb1.mono (by simp))
           have hk := (hb1.block w.heap.size (by simp)).trans (blk_new w 44 #[.int .i64 op, .int .i64 a, .int .i64 b])
           have HK := Lib.hid hk
           have k0 := Blk.cell hk 0
           have k1 := Blk.cell hk 1
           have k2 := Blk.cell hk 2
           have hs1 : w.heap.size < w1.heap.size := (by have := hb1.size; simp at this; omega)
           simp at k0 k1 k2
           clear hb1 hk))
    go_ret
    exact ⟨rfl, HB1.out⟩
  by_cases b1 : 255 < b
  · clear h'
    go_enter Try.func47, Try.ntmps47
    go_wp2_with (first
        | (go_at_call 71
           refine (AR.out _).mono ?_
           rintro e w1 ⟨rfl, hb1⟩
           have HB1 : Hid (Below w.heap.size w w1) := ((Below.refl _ _).alloc (Nat.le_refl _) _).trans (hb1.mono (by simp))
           have hk := (hb1.block w.heap.size (by simp)).trans (blk_new w 44 #[.int .i64 op, .int .i64 a, .int .i64 b])
           have HK := Lib.hid hk
           have k0 := Blk.cell hk 0
           have k1 := Blk.cell hk 1
           have k2 := Blk.cell hk 2
           have hs1 : w.heap.size < w1.heap.size := (by have := hb1.size; simp at this; omega)
           simp at k0 k1 k2
           clear hb1 hk))
    go_ret
    exact ⟨rfl, HB1.out⟩
  by_cases m1 : n < 1
  · by_cases az : a = 0
    · subst az
      by_cases bz : b = 0
      · exact absurd ⟨by omega, by omega, by rw [if_neg (by omega)]; omega, by omega, by rw [if_neg (by omega)]; omega⟩ h'
      · have m2 : n < 2 := by omega
        have bz' : (b == 0) = false := by simp [bz]
        have bz2 : (b != 0) = true := by simp [bz]
        clear h'
        go_enter Try.func47, Try.ntmps47
        go_wp2_with (first
            | (go_at_call 71
               refine (AR.out _).mono ?_
               rintro e w1 ⟨rfl, hb1⟩
               have HB1 : Hid (Below w.heap.size w w1) := ((Below.refl _ _).alloc (Nat.le_refl _) _).trans (hb1.mono (by simp))
               have hk := (hb1.block w.heap.size (by simp)).trans (blk_new w 44 #[.int .i64 op, .int .i64 0, .int .i64 b])
               have HK := Lib.hid hk
               have k0 := Blk.cell hk 0
               have k1 := Blk.cell hk 1
               have k2 := Blk.cell hk 2
               have hs1 : w.heap.size < w1.heap.size := (by have := hb1.size; simp at this; omega)
               simp at k0 k1 k2
               clear hb1 hk))
        go_ret
        exact ⟨rfl, HB1.out⟩
    · have az' : (a == 0) = false := by simp [az]
      have az2 : (a != 0) = true := by simp [az]
      clear h'
      go_enter Try.func47, Try.ntmps47
      go_wp2_with (first
          | (go_at_call 71
             refine (AR.out _).mono ?_
             rintro e w1 ⟨rfl, hb1⟩
             have HB1 : Hid (Below w.heap.size w w1) := ((Below.refl _ _).alloc (Nat.le_refl _) _).trans (hb1.mono (by simp))
             have hk := (hb1.block w.heap.size (by simp)).trans (blk_new w 44 #[.int .i64 op, .int .i64 a, .int .i64 b])
             have HK := Lib.hid hk
             have k0 := Blk.cell hk 0
             have k1 := Blk.cell hk 1
             have k2 := Blk.cell hk 2
             have hs1 : w.heap.size < w1.heap.size := (by have := hb1.size; simp at this; omega)
             simp at k0 k1 k2
             clear hb1 hk))
      go_ret
      exact ⟨rfl, HB1.out⟩
  · by_cases m2 : n < 2
    · by_cases bz : b = 0
      · exact absurd ⟨by omega, by omega, by rw [if_pos (by omega)]; omega, by omega, by rw [if_neg (by omega)]; omega⟩ h'
      · have bz' : (b == 0) = false := by simp [bz]
        have bz2 : (b != 0) = true := by simp [bz]
        clear h'
        go_enter Try.func47, Try.ntmps47
        go_wp2_with (first
            | (go_at_call 71
               refine (AR.out _).mono ?_
               rintro e w1 ⟨rfl, hb1⟩
               have HB1 : Hid (Below w.heap.size w w1) := ((Below.refl _ _).alloc (Nat.le_refl _) _).trans (hb1.mono (by simp))
               have hk := (hb1.block w.heap.size (by simp)).trans (blk_new w 44 #[.int .i64 op, .int .i64 a, .int .i64 b])
               have HK := Lib.hid hk
               have k0 := Blk.cell hk 0
               have k1 := Blk.cell hk 1
               have k2 := Blk.cell hk 2
               have hs1 : w.heap.size < w1.heap.size := (by have := hb1.size; simp at this; omega)
               simp at k0 k1 k2
               clear hb1 hk))
        go_ret
        exact ⟨rfl, HB1.out⟩
    · exact absurd ⟨by omega, by omega, by rw [if_pos (by omega)]; omega, by omega, by rw [if_pos (by omega)]; omega⟩ h'

set_option maxRecDepth 100000 in
set_option maxHeartbeats 4000000 in
theorem rins_0 (o x y : Nat) (w : World) (h : goodI o x y = true) (hn : argN o = 0) :
    Calls Try.prog 47 #[.agg #[.int .i64 (o : Nat), .int .i64 (x : Nat), .int .i64 (y : Nat)]] w fun e w' => ∃ u, e = .returned u ∧ w'.ownsRow w.heap.size 5 1 u (insB o x y).length (Bs (insB o x y)) ∧ Below w.heap.size w w' := by
  have AR := Lib.hid (fun w => refArgs_any o w)
  rw [hn] at AR
  obtain ⟨o', x', y', eo, ex, ey, ho, hx, hy, -, hx1, hy1⟩ := goodI_parts h
  obtain rfl : o = o' := by omega
  obtain rfl : x = x' := by omega
  obtain rfl : y = y' := by omega
  have HE : Hid (insB o x y = [o] ++ bodyB 0 x y) := by
    show insB o x y = [o] ++ bodyB 0 x y
    rw [insB_good h, hn]
    rfl
  have HO : Hid (o < 256) := by show o < 256; omega
  have HX64 : Hid (x < B64) := by show x < B64; unfold B64; omega
  have HY64 : Hid (y < B64) := by show y < B64; unfold B64; omega
  have HL1 : Hid (1 + (vb x).length ≤ 140737488355328) := by show 1 + (vb x).length ≤ 140737488355328; have := vb255 x hx; omega
  have HL2 : Hid (1 + (vb x).length + (vb y).length ≤ 140737488355328) := by show 1 + (vb x).length + (vb y).length ≤ 140737488355328; have := vb255 x hx; have := vb255 y hy; omega
  clear eo ex ey
  have hx0 : x = 0 := hx1 (by rw [hn]; decide)
  have hy0 : y = 0 := hy1 (by rw [hn]; decide)
  subst hx0 hy0
  clear hn h hx1 hy1
  go_enter Try.func47, Try.ntmps47
  go_wp2_with (first
    | (go_at_call 71
       refine (AR.out _).mono ?_
       rintro e w1 ⟨rfl, hb1⟩
       have HB1 : Hid (Below w.heap.size w w1) := ((Below.refl _ _).alloc (Nat.le_refl _) _).trans (hb1.mono (by simp))
       have hk := (hb1.block w.heap.size (by simp)).trans (blk_new w 44 #[.int .i64 (o : Nat), .int .i64 0, .int .i64 0])
       have HK := Lib.hid hk
       have k0 := Blk.cell hk 0
       have k1 := Blk.cell hk 1
       have k2 := Blk.cell hk 2
       have hs1 : w.heap.size < w1.heap.size := (by have := hb1.size; simp at this; omega)
       simp at k0 k1 k2
       clear hb1 hk))
  go_ret
  have e : insB o 0 0 = [o] := by have := HE.out; simp [bodyB] at this ⊢; exact this
  have el : (insB o 0 0).length = 1 := by rw [e]; simp; try omega
  refine ⟨_, rfl, ?_, HB1.out.alloc HB1.out.size _⟩
  have := own_wide (own_one w1 _ o rfl) HB1.out.size
  simp at el e ⊢
  rw [el, e]
  exact this

set_option maxRecDepth 100000 in
set_option maxHeartbeats 4000000 in
theorem rins_1 (o x y : Nat) (w : World) (h : goodI o x y = true) (hn : argN o = 1) :
    Calls Try.prog 47 #[.agg #[.int .i64 (o : Nat), .int .i64 (x : Nat), .int .i64 (y : Nat)]] w fun e w' => ∃ u, e = .returned u ∧ w'.ownsRow w.heap.size 5 1 u (insB o x y).length (Bs (insB o x y)) ∧ Below w.heap.size w w' := by
  have AR := Lib.hid (fun w => refArgs_any o w)
  rw [hn] at AR
  obtain ⟨o', x', y', eo, ex, ey, ho, hx, hy, -, hx1, hy1⟩ := goodI_parts h
  obtain rfl : o = o' := by omega
  obtain rfl : x = x' := by omega
  obtain rfl : y = y' := by omega
  have HE : Hid (insB o x y = [o] ++ bodyB 1 x y) := by
    show insB o x y = [o] ++ bodyB 1 x y
    rw [insB_good h, hn]
    rfl
  have HO : Hid (o < 256) := by show o < 256; omega
  have HX64 : Hid (x < B64) := by show x < B64; unfold B64; omega
  have HY64 : Hid (y < B64) := by show y < B64; unfold B64; omega
  have HL1 : Hid (1 + (vb x).length ≤ 140737488355328) := by show 1 + (vb x).length ≤ 140737488355328; have := vb255 x hx; omega
  have HL2 : Hid (1 + (vb x).length + (vb y).length ≤ 140737488355328) := by show 1 + (vb x).length + (vb y).length ≤ 140737488355328; have := vb255 x hx; have := vb255 y hy; omega
  clear eo ex ey
  have hy0 : y = 0 := hy1 (by rw [hn]; decide)
  subst hy0
  clear hn h hx1 hy1
  go_enter Try.func47, Try.ntmps47
  go_wp2_with (first
    | (go_at_call 71
       refine (AR.out _).mono ?_
       rintro e w1 ⟨rfl, hb1⟩
       have HB1 : Hid (Below w.heap.size w w1) := ((Below.refl _ _).alloc (Nat.le_refl _) _).trans (hb1.mono (by simp))
       have hk := (hb1.block w.heap.size (by simp)).trans (blk_new w 44 #[.int .i64 (o : Nat), .int .i64 (x : Nat), .int .i64 0])
       have HK := Lib.hid hk
       have k0 := Blk.cell hk 0
       have k1 := Blk.cell hk 1
       have k2 := Blk.cell hk 2
       have hs1 : w.heap.size < w1.heap.size := (by have := hb1.size; simp at this; omega)
       simp at k0 k1 k2
       clear hb1 hk)
    | (go_at_call 44
       refine (refVar_any x _ HX64.out).mono ?_
       rintro e w4 ⟨u4, rfl, hown4, hb4⟩
       obtain ⟨A4, c4, rfl, -, -, -, hY4⟩ := own_slice hown4
       have HY4 := Lib.hid hY4
       have HO4 := Lib.hid (own_below (own_one w1 _ o rfl) hb4 (Nat.le_refl _))
       have HB4 : Hid (Below w1.heap.size w1 w4) := ((Below.refl _ _).alloc (Nat.le_refl _) _).trans (hb4.mono (by simp))
       have HS4 := Lib.hid HB4.out.size
       clear hown4 hY4 hb4)
    | (at_builtin
       refine walk_append _ rfl (.tmp 54) (.tmp 58) rfl w1.heap.size (.slice (some ⟨w1.heap.size, 0, none⟩) 1 1) 1 [o] rfl HO4.out A4 (vb x).length c4 (vb x) rfl rfl _ HY4.out HL1.out HS4.out ?_
       intro v5 w5 hown5 hg5 _
       have HO5 := Lib.hid hown5
       have HB5 := Lib.hid (HB4.out.grown hg5 HS4.out (fun i hi => (HO4.out.lt i hi).1))
       have hk5 := (HB5.out.block w.heap.size hs1).trans HK.out
       have k52 := Blk.cell hk5 2
       simp at k52
       clear hown5 hg5 hk5))
  go_ret
  have e : insB o x 0 = [o] ++ vb x := by have := HE.out; simp [bodyB] at this ⊢; exact this
  have el : (insB o x 0).length = 1 + (vb x).length := by rw [e]; simp; try omega
  refine ⟨_, rfl, ?_, HB1.out.trans (HB5.out.mono HB1.out.size)⟩
  simp only [Int.ofNat_zero, Int.natCast_zero] at el e ⊢
  rw [el, e]
  exact own_wide HO5.out HB1.out.size

set_option maxRecDepth 100000 in
set_option maxHeartbeats 4000000 in
theorem rins_2 (o x y : Nat) (w : World) (h : goodI o x y = true) (hn : argN o = 2) :
    Calls Try.prog 47 #[.agg #[.int .i64 (o : Nat), .int .i64 (x : Nat), .int .i64 (y : Nat)]] w fun e w' => ∃ u, e = .returned u ∧ w'.ownsRow w.heap.size 5 1 u (insB o x y).length (Bs (insB o x y)) ∧ Below w.heap.size w w' := by
  have AR := Lib.hid (fun w => refArgs_any o w)
  rw [hn] at AR
  obtain ⟨o', x', y', eo, ex, ey, ho, hx, hy, -, hx1, hy1⟩ := goodI_parts h
  obtain rfl : o = o' := by omega
  obtain rfl : x = x' := by omega
  obtain rfl : y = y' := by omega
  have HE : Hid (insB o x y = [o] ++ bodyB 2 x y) := by
    show insB o x y = [o] ++ bodyB 2 x y
    rw [insB_good h, hn]
    rfl
  have HO : Hid (o < 256) := by show o < 256; omega
  have HX64 : Hid (x < B64) := by show x < B64; unfold B64; omega
  have HY64 : Hid (y < B64) := by show y < B64; unfold B64; omega
  have HL1 : Hid (1 + (vb x).length ≤ 140737488355328) := by show 1 + (vb x).length ≤ 140737488355328; have := vb255 x hx; omega
  have HL2 : Hid (1 + (vb x).length + (vb y).length ≤ 140737488355328) := by show 1 + (vb x).length + (vb y).length ≤ 140737488355328; have := vb255 x hx; have := vb255 y hy; omega
  clear eo ex ey
  clear hn h hx1 hy1
  go_enter Try.func47, Try.ntmps47
  go_wp2_with (first
    | (go_at_call 71
       refine (AR.out _).mono ?_
       rintro e w1 ⟨rfl, hb1⟩
       have HB1 : Hid (Below w.heap.size w w1) := ((Below.refl _ _).alloc (Nat.le_refl _) _).trans (hb1.mono (by simp))
       have hk := (hb1.block w.heap.size (by simp)).trans (blk_new w 44 #[.int .i64 (o : Nat), .int .i64 (x : Nat), .int .i64 (y : Nat)])
       have HK := Lib.hid hk
       have k0 := Blk.cell hk 0
       have k1 := Blk.cell hk 1
       have k2 := Blk.cell hk 2
       have hs1 : w.heap.size < w1.heap.size := (by have := hb1.size; simp at this; omega)
       simp at k0 k1 k2
       clear hb1 hk)
    | (go_at_call 44
       have hp := HO5.out
       clear hp
       refine (refVar_any y w5 HY64.out).mono ?_
       rintro e w6 ⟨u6, rfl, hown6, hb6⟩
       obtain ⟨A6, c6, rfl, -, -, -, hY6⟩ := own_slice hown6
       have HY6 := Lib.hid hY6
       have HO6 := Lib.hid (own_below HO5.out hb6 (Nat.le_refl _))
       have HB6 := Lib.hid (HB5.out.trans (hb6.mono HB5.out.size))
       have HS6 := Lib.hid HB6.out.size
       clear hown6 hY6 hb6)
    | (at_builtin
       have hp := HO6.out
       clear hp
       refine walk_append _ rfl (.tmp 62) (.tmp 66) rfl w1.heap.size v5 (1 + (vb x).length) ([o] ++ vb x) rfl HO6.out A6 (vb y).length c6 (vb y) rfl rfl _ HY6.out HL2.out HS6.out ?_
       intro v7 w7 hown7 hg7 _
       have HO7 := Lib.hid hown7
       have HB7 := Lib.hid (HB6.out.grown hg7 HS6.out (fun i hi => (HO6.out.lt i hi).1))
       clear hown7 hg7)
    | (go_at_call 44
       refine (refVar_any x _ HX64.out).mono ?_
       rintro e w4 ⟨u4, rfl, hown4, hb4⟩
       obtain ⟨A4, c4, rfl, -, -, -, hY4⟩ := own_slice hown4
       have HY4 := Lib.hid hY4
       have HO4 := Lib.hid (own_below (own_one w1 _ o rfl) hb4 (Nat.le_refl _))
       have HB4 : Hid (Below w1.heap.size w1 w4) := ((Below.refl _ _).alloc (Nat.le_refl _) _).trans (hb4.mono (by simp))
       have HS4 := Lib.hid HB4.out.size
       clear hown4 hY4 hb4)
    | (at_builtin
       refine walk_append _ rfl (.tmp 54) (.tmp 58) rfl w1.heap.size (.slice (some ⟨w1.heap.size, 0, none⟩) 1 1) 1 [o] rfl HO4.out A4 (vb x).length c4 (vb x) rfl rfl _ HY4.out HL1.out HS4.out ?_
       intro v5 w5 hown5 hg5 _
       have HO5 := Lib.hid hown5
       have HB5 := Lib.hid (HB4.out.grown hg5 HS4.out (fun i hi => (HO4.out.lt i hi).1))
       have hk5 := (HB5.out.block w.heap.size hs1).trans HK.out
       have k52 := Blk.cell hk5 2
       simp at k52
       clear hown5 hg5 hk5))
  go_ret
  have e : insB o x y = [o] ++ vb x ++ vb y := by have := HE.out; simp [bodyB] at this ⊢; exact this
  have el : (insB o x y).length = 1 + (vb x).length + (vb y).length := by rw [e]; simp; try omega
  refine ⟨_, rfl, ?_, HB1.out.trans (HB7.out.mono HB1.out.size)⟩
  rw [el, e]
  exact own_wide HO7.out HB1.out.size

theorem rins_any (op a b : Int) (w : World) :
    Calls Try.prog 47 #[.agg #[.int .i64 op, .int .i64 a, .int .i64 b]] w fun e w' => ∃ u, e = .returned u ∧ w'.ownsRow w.heap.size 5 1 u (insB op a b).length (Bs (insB op a b)) ∧ Below w.heap.size w w' := by
  by_cases h : goodI op a b = true
  · obtain ⟨o, x, y, rfl, rfl, rfl, -, -, -, h0, -⟩ := goodI_parts h
    rcases argN_cases o with hn | hn | hn | hn
    · omega
    · exact rins_0 o x y w h hn
    · exact rins_1 o x y w h hn
    · exact rins_2 o x y w h hn
  · rw [insB_none h]
    refine (rins_none op a b w (by simpa using h)).mono ?_
    rintro e w' ⟨rfl, hb⟩
    exact ⟨_, rfl, own_nil _ _, hb⟩
end Go.Proofs.Ytpgfbnilnoopoaa
