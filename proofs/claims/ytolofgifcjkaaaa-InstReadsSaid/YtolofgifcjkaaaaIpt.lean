/-
  What inst's Put does: the bytes of an instruction, or nothing.
  Conditions: none.
-/
import Derived.Test.YtolofgifcjkaaaaIar
import Derived.Test.YtolofgifcjkaaaaIft
import Derived.Test.YtolofgifcjkaaaaNfx
import Derived.Test.YtolofgifcjkaaaaNvr
import Derived.Test.YtolofgifcjkaaaaStp
namespace Go.Proofs.Ytolofgifcjkaaaa
open Go.RowKit
set_option linter.unusedSimpArgs false

theorem own_wide {w : World} {b b' : Nat} {v : Value} {n : Nat} {xs : List Value} (h : w.ownsRow b 5 1 v n xs) (hb : b' ≤ b) : w.ownsRow b' 5 1 v n xs := by
  refine ⟨h.1, ?_⟩
  rcases h.2 with h | ⟨g', cap, cur, e, hb2, rest⟩
  · exact .inl h
  · exact .inr ⟨g', cap, cur, e, Nat.le_trans hb hb2, rest⟩
theorem own_nil (w : World) (b : Nat) : w.ownsRow b 5 1 (.slice none 0 0) 0 (Bs []) := ⟨rfl, .inl ⟨rfl, rfl⟩⟩

theorem wid_one : wid 1 = 1 := by decide
theorem fb_one (o : Nat) (h : o < 256) : fb o 1 = [o] := by simp [fb]; omega

set_option maxRecDepth 100000 in
set_option maxHeartbeats 1000000 in
theorem iput_none (op a b : Int) (w : World) (h : goodI op a b = false) :
    Calls Try.prog 8 #[.agg #[.int .i64 op, .int .i64 a, .int .i64 b]] w fun e w' => e = .returned (.slice none 0 0) ∧ Below w.heap.size w w' := by
  unfold goodI at h
  have AR := Lib.hid (fun w => args_any op w)
  obtain ⟨n, hn⟩ : ∃ n, argN op = n := ⟨_, rfl⟩
  rw [hn] at h AR
  have FT := Lib.hid (fun w => fit_any n a b w)
  clear hn
  by_cases h0 : n < 0
  · clear h
    go_enter Try.func8, Try.ntmps8
    go_wp2_with (first
      | (go_at_call 11
         refine (AR.out _).mono ?_
         rintro e w1 ⟨rfl, rfl⟩))
    go_ret
    exact ⟨rfl, ((Below.refl _ _).alloc (Nat.le_refl _) _).alloc (by simp) _⟩
  · have hf : fitN n a b = false := by
      rw [decide_eq_true (by omega)] at h
      simpa using h
    rw [hf] at FT
    clear hf h
    go_enter Try.func8, Try.ntmps8
    go_wp2_with (first
      | (go_at_call 11
         refine (AR.out _).mono ?_
         rintro e w1 ⟨rfl, rfl⟩)
      | (go_at_call 16
         refine (FT.out _).mono ?_
         rintro e w2 ⟨rfl, hb2⟩
         have HB2 := Lib.hid hb2
         clear hb2))
    go_ret
    exact ⟨rfl, (((Below.refl _ _).alloc (Nat.le_refl _) _).alloc (by simp) _).trans (HB2.out.mono (by simp; omega))⟩
theorem blk_new (w : World) (t : TypeId) (cs : Array Value) : Blk (w.alloc (.cells cs t)) w.heap.size t cs := heap_alloc_new w _
theorem arr_new (w : World) (o : Obj) (t : TypeId) (cs : Array Value) : Blk ((w.alloc o).alloc (.cells cs t)) (w.heap.size + 1) t cs := by
  have := heap_alloc_new (w.alloc o) (.cells cs t)
  simpa [Blk] using this

set_option maxRecDepth 100000 in
set_option maxHeartbeats 1000000 in
theorem iput_0 (o x y : Nat) (w : World) (h : goodI o x y = true) (hn : argN o = 0) :
    Calls Try.prog 8 #[.agg #[.int .i64 (o : Nat), .int .i64 (x : Nat), .int .i64 (y : Nat)]] w fun e w' => ∃ u, e = .returned u ∧ w'.ownsRow w.heap.size 5 1 u (insB o x y).length (Bs (insB o x y)) ∧ Below w.heap.size w w' := by
  have AR := Lib.hid (fun w => args_any o w)
  rw [hn] at AR
  have FT := Lib.hid (fun w => fit_any 0 x y w)
  have hf : fitN 0 x y = true := by
    unfold goodI at h
    rw [hn] at h
    simpa using h
  rw [hf] at FT
  obtain ⟨o', x', y', eo, ex, ey, ho, hx, hy, -⟩ := goodI_parts h
  obtain rfl : o = o' := by omega
  obtain rfl : x = x' := by omega
  obtain rfl : y = y' := by omega
  have HE : Hid (insB o x y = [o] ++ bodyB 0 x y) := by
    show insB o x y = [o] ++ bodyB 0 x y
    rw [insB_good h, hn]
    rfl
  have HO : Hid (o < 256) := by show o < 256; omega
  have HO64 : Hid (o < B64) := by show o < B64; unfold B64; omega
  have HX64 : Hid (x < B64) := by show x < B64; unfold B64; omega
  have HY64 : Hid (y < B64) := by show y < B64; unfold B64; omega
  have HL1 : Hid (1 + (vb x).length ≤ 140737488355328) := by show 1 + (vb x).length ≤ 140737488355328; have := vb255 x hx; omega
  have HL2 : Hid (1 + (vb x).length + (vb y).length ≤ 140737488355328) := by show 1 + (vb x).length + (vb y).length ≤ 140737488355328; have := vb255 x hx; have := vb255 y hy; omega
  clear hf hn h eo ex ey
  go_enter Try.func8, Try.ntmps8
  go_wp2_with (first
    | (go_at_call 11
       refine (AR.out _).mono ?_
       rintro e w1 ⟨rfl, rfl⟩)
    | (go_at_call 16
       refine (FT.out _).mono ?_
       rintro e w2 ⟨rfl, hb2⟩
       have HB2 : Hid (Below w.heap.size w w2) := (((Below.refl _ _).alloc (Nat.le_refl _) _).alloc (by simp) _).trans (hb2.mono (by simp; omega))
       have hk := (hb2.block w.heap.size (by simp; omega)).trans ((Below.heap_alloc _ _ w.heap.size (by simp)).trans (blk_new w 23 #[.int .i64 (o : Nat), .int .i64 (x : Nat), .int .i64 (y : Nat)]))
       have k0 := Blk.cell hk 0
       have hs2 : w.heap.size + 2 ≤ w2.heap.size := (by have := hb2.size; simp at this; omega)
       have HA2 := Lib.hid ((hb2.block (w.heap.size + 1) (by simp)).trans (arr_new w _ 39 #[.int .i64 (x : Nat), .int .i64 (y : Nat)]))
       simp at k0
       clear hb2 hk)
    | (go_at_call 17
       refine (fixed_any o 1 w2 HO64.out).mono ?_
       rintro e w3 ⟨u3, rfl, hown3, hb3⟩
       rw [wid_one, fb_one o HO.out] at hown3
       have HO3 := Lib.hid hown3
       have HB3 := Lib.hid (hb3.mono (Nat.le_refl w2.heap.size))
       have HA3 := Lib.hid ((hb3.block (w.heap.size + 1) (by omega)).trans HA2.out)
       have a30 := Blk.cell HA3.out 0
       simp at a30
       clear hown3 hb3))
  refine wp_loop_rounds 3 ?_
  rw [rounds_succ]
  go_wp2_with fail
  go_ret
  have e : insB o x y = [o] := by rw [HE.out]; simp [bodyB]
  have el : (insB o x y).length = 1 := by rw [e]; simp; try omega
  rw [el, e]
  exact ⟨_, rfl, own_wide HO3.out HB2.out.size, HB2.out.trans (HB3.out.mono HB2.out.size)⟩

set_option maxRecDepth 100000 in
set_option maxHeartbeats 1000000 in
theorem iput_1 (o x y : Nat) (w : World) (h : goodI o x y = true) (hn : argN o = 1) :
    Calls Try.prog 8 #[.agg #[.int .i64 (o : Nat), .int .i64 (x : Nat), .int .i64 (y : Nat)]] w fun e w' => ∃ u, e = .returned u ∧ w'.ownsRow w.heap.size 5 1 u (insB o x y).length (Bs (insB o x y)) ∧ Below w.heap.size w w' := by
  have AR := Lib.hid (fun w => args_any o w)
  rw [hn] at AR
  have FT := Lib.hid (fun w => fit_any 1 x y w)
  have hf : fitN 1 x y = true := by
    unfold goodI at h
    rw [hn] at h
    simpa using h
  rw [hf] at FT
  obtain ⟨o', x', y', eo, ex, ey, ho, hx, hy, -⟩ := goodI_parts h
  obtain rfl : o = o' := by omega
  obtain rfl : x = x' := by omega
  obtain rfl : y = y' := by omega
  have HE : Hid (insB o x y = [o] ++ bodyB 1 x y) := by
    show insB o x y = [o] ++ bodyB 1 x y
    rw [insB_good h, hn]
    rfl
  have HO : Hid (o < 256) := by show o < 256; omega
  have HO64 : Hid (o < B64) := by show o < B64; unfold B64; omega
  have HX64 : Hid (x < B64) := by show x < B64; unfold B64; omega
  have HY64 : Hid (y < B64) := by show y < B64; unfold B64; omega
  have HL1 : Hid (1 + (vb x).length ≤ 140737488355328) := by show 1 + (vb x).length ≤ 140737488355328; have := vb255 x hx; omega
  have HL2 : Hid (1 + (vb x).length + (vb y).length ≤ 140737488355328) := by show 1 + (vb x).length + (vb y).length ≤ 140737488355328; have := vb255 x hx; have := vb255 y hy; omega
  clear hf hn h eo ex ey
  go_enter Try.func8, Try.ntmps8
  go_wp2_with (first
    | (go_at_call 11
       refine (AR.out _).mono ?_
       rintro e w1 ⟨rfl, rfl⟩)
    | (go_at_call 16
       refine (FT.out _).mono ?_
       rintro e w2 ⟨rfl, hb2⟩
       have HB2 : Hid (Below w.heap.size w w2) := (((Below.refl _ _).alloc (Nat.le_refl _) _).alloc (by simp) _).trans (hb2.mono (by simp; omega))
       have hk := (hb2.block w.heap.size (by simp; omega)).trans ((Below.heap_alloc _ _ w.heap.size (by simp)).trans (blk_new w 23 #[.int .i64 (o : Nat), .int .i64 (x : Nat), .int .i64 (y : Nat)]))
       have k0 := Blk.cell hk 0
       have hs2 : w.heap.size + 2 ≤ w2.heap.size := (by have := hb2.size; simp at this; omega)
       have HA2 := Lib.hid ((hb2.block (w.heap.size + 1) (by simp)).trans (arr_new w _ 39 #[.int .i64 (x : Nat), .int .i64 (y : Nat)]))
       simp at k0
       clear hb2 hk)
    | (go_at_call 17
       refine (fixed_any o 1 w2 HO64.out).mono ?_
       rintro e w3 ⟨u3, rfl, hown3, hb3⟩
       rw [wid_one, fb_one o HO.out] at hown3
       have HO3 := Lib.hid hown3
       have HB3 := Lib.hid (hb3.mono (Nat.le_refl w2.heap.size))
       have HA3 := Lib.hid ((hb3.block (w.heap.size + 1) (by omega)).trans HA2.out)
       have a30 := Blk.cell HA3.out 0
       simp at a30
       clear hown3 hb3))
  refine wp_loop_rounds 3 ?_
  rw [rounds_succ]
  go_wp2_with (first
    | (go_at_call 18
       refine (var_any x w3 HX64.out).mono ?_
       rintro e w4 ⟨u4, rfl, hown4, hb4⟩
       obtain ⟨A4, c4, rfl, -, -, -, hY4⟩ := own_slice hown4
       have HY4 := Lib.hid hY4
       have HO4 := Lib.hid (own_below HO3.out hb4 (Nat.le_refl _))
       have HB4 := Lib.hid (HB3.out.trans (hb4.mono HB3.out.size))
       have HS4 := Lib.hid HB4.out.size
       clear hown4 hY4 hb4)
    | (at_builtin
       refine walk_append _ rfl (.tmp 31) (.tmp 36) rfl w2.heap.size u3 1 [o] rfl HO4.out A4 (vb x).length c4 (vb x) rfl rfl _ HY4.out HL1.out HS4.out ?_
       intro v5 w5 hown5 hg5 _
       have HO5 := Lib.hid hown5
       have HB5 := Lib.hid (HB4.out.grown hg5 HS4.out (fun i hi => (HO4.out.lt i hi).1))
       have HA5 := Lib.hid ((HB5.out.block (w.heap.size + 1) (by omega)).trans HA2.out)
       have a51 := Blk.cell HA5.out 1
       simp at a51
       clear hown5 hg5))
  rw [rounds_succ]
  go_wp2_with fail
  go_ret
  have e : insB o x y = [o] ++ vb x := by rw [HE.out]; simp [bodyB]
  have el : (insB o x y).length = 1 + (vb x).length := by rw [e]; simp; try omega
  rw [el, e]
  exact ⟨_, rfl, own_wide HO5.out HB2.out.size, HB2.out.trans (HB5.out.mono HB2.out.size)⟩

set_option maxRecDepth 100000 in
set_option maxHeartbeats 1000000 in
theorem iput_2 (o x y : Nat) (w : World) (h : goodI o x y = true) (hn : argN o = 2) :
    Calls Try.prog 8 #[.agg #[.int .i64 (o : Nat), .int .i64 (x : Nat), .int .i64 (y : Nat)]] w fun e w' => ∃ u, e = .returned u ∧ w'.ownsRow w.heap.size 5 1 u (insB o x y).length (Bs (insB o x y)) ∧ Below w.heap.size w w' := by
  have AR := Lib.hid (fun w => args_any o w)
  rw [hn] at AR
  have FT := Lib.hid (fun w => fit_any 2 x y w)
  have hf : fitN 2 x y = true := by
    unfold goodI at h
    rw [hn] at h
    simpa using h
  rw [hf] at FT
  obtain ⟨o', x', y', eo, ex, ey, ho, hx, hy, -⟩ := goodI_parts h
  obtain rfl : o = o' := by omega
  obtain rfl : x = x' := by omega
  obtain rfl : y = y' := by omega
  have HE : Hid (insB o x y = [o] ++ bodyB 2 x y) := by
    show insB o x y = [o] ++ bodyB 2 x y
    rw [insB_good h, hn]
    rfl
  have HO : Hid (o < 256) := by show o < 256; omega
  have HO64 : Hid (o < B64) := by show o < B64; unfold B64; omega
  have HX64 : Hid (x < B64) := by show x < B64; unfold B64; omega
  have HY64 : Hid (y < B64) := by show y < B64; unfold B64; omega
  have HL1 : Hid (1 + (vb x).length ≤ 140737488355328) := by show 1 + (vb x).length ≤ 140737488355328; have := vb255 x hx; omega
  have HL2 : Hid (1 + (vb x).length + (vb y).length ≤ 140737488355328) := by show 1 + (vb x).length + (vb y).length ≤ 140737488355328; have := vb255 x hx; have := vb255 y hy; omega
  clear hf hn h eo ex ey
  go_enter Try.func8, Try.ntmps8
  go_wp2_with (first
    | (go_at_call 11
       refine (AR.out _).mono ?_
       rintro e w1 ⟨rfl, rfl⟩)
    | (go_at_call 16
       refine (FT.out _).mono ?_
       rintro e w2 ⟨rfl, hb2⟩
       have HB2 : Hid (Below w.heap.size w w2) := (((Below.refl _ _).alloc (Nat.le_refl _) _).alloc (by simp) _).trans (hb2.mono (by simp; omega))
       have hk := (hb2.block w.heap.size (by simp; omega)).trans ((Below.heap_alloc _ _ w.heap.size (by simp)).trans (blk_new w 23 #[.int .i64 (o : Nat), .int .i64 (x : Nat), .int .i64 (y : Nat)]))
       have k0 := Blk.cell hk 0
       have hs2 : w.heap.size + 2 ≤ w2.heap.size := (by have := hb2.size; simp at this; omega)
       have HA2 := Lib.hid ((hb2.block (w.heap.size + 1) (by simp)).trans (arr_new w _ 39 #[.int .i64 (x : Nat), .int .i64 (y : Nat)]))
       simp at k0
       clear hb2 hk)
    | (go_at_call 17
       refine (fixed_any o 1 w2 HO64.out).mono ?_
       rintro e w3 ⟨u3, rfl, hown3, hb3⟩
       rw [wid_one, fb_one o HO.out] at hown3
       have HO3 := Lib.hid hown3
       have HB3 := Lib.hid (hb3.mono (Nat.le_refl w2.heap.size))
       have HA3 := Lib.hid ((hb3.block (w.heap.size + 1) (by omega)).trans HA2.out)
       have a30 := Blk.cell HA3.out 0
       simp at a30
       clear hown3 hb3))
  refine wp_loop_rounds 3 ?_
  rw [rounds_succ]
  go_wp2_with (first
    | (go_at_call 18
       refine (var_any x w3 HX64.out).mono ?_
       rintro e w4 ⟨u4, rfl, hown4, hb4⟩
       obtain ⟨A4, c4, rfl, -, -, -, hY4⟩ := own_slice hown4
       have HY4 := Lib.hid hY4
       have HO4 := Lib.hid (own_below HO3.out hb4 (Nat.le_refl _))
       have HB4 := Lib.hid (HB3.out.trans (hb4.mono HB3.out.size))
       have HS4 := Lib.hid HB4.out.size
       clear hown4 hY4 hb4)
    | (at_builtin
       refine walk_append _ rfl (.tmp 31) (.tmp 36) rfl w2.heap.size u3 1 [o] rfl HO4.out A4 (vb x).length c4 (vb x) rfl rfl _ HY4.out HL1.out HS4.out ?_
       intro v5 w5 hown5 hg5 _
       have HO5 := Lib.hid hown5
       have HB5 := Lib.hid (HB4.out.grown hg5 HS4.out (fun i hi => (HO4.out.lt i hi).1))
       have HA5 := Lib.hid ((HB5.out.block (w.heap.size + 1) (by omega)).trans HA2.out)
       have a51 := Blk.cell HA5.out 1
       simp at a51
       clear hown5 hg5))
  rw [rounds_succ]
  go_wp2_with (first
    | (go_at_call 18
       have hp := HO5.out
       clear hp
       refine (var_any y w5 HY64.out).mono ?_
       rintro e w6 ⟨u6, rfl, hown6, hb6⟩
       obtain ⟨A6, c6, rfl, -, -, -, hY6⟩ := own_slice hown6
       have HY6 := Lib.hid hY6
       have HO6 := Lib.hid (own_below HO5.out hb6 (Nat.le_refl _))
       have HB6 := Lib.hid (HB5.out.trans (hb6.mono HB5.out.size))
       have HS6 := Lib.hid HB6.out.size
       clear hown6 hY6 hb6)
    | (at_builtin
       have hp := HO6.out
       clear hp
       refine walk_append _ rfl (.tmp 31) (.tmp 36) rfl w2.heap.size v5 (1 + (vb x).length) ([o] ++ vb x) rfl HO6.out A6 (vb y).length c6 (vb y) rfl rfl _ HY6.out HL2.out HS6.out ?_
       intro v7 w7 hown7 hg7 _
       have HO7 := Lib.hid hown7
       have HB7 := Lib.hid (HB6.out.grown hg7 HS6.out (fun i hi => (HO6.out.lt i hi).1))
       clear hown7 hg7))
  rw [rounds_succ]
  go_wp2_with fail
  go_ret
  have e : insB o x y = [o] ++ vb x ++ vb y := by rw [HE.out]; simp [bodyB]
  have el : (insB o x y).length = 1 + (vb x).length + (vb y).length := by rw [e]; simp; try omega
  rw [el, e]
  exact ⟨_, rfl, own_wide HO7.out HB2.out.size, HB2.out.trans (HB7.out.mono HB2.out.size)⟩

theorem iput_any (op a b : Int) (w : World) :
    Calls Try.prog 8 #[.agg #[.int .i64 op, .int .i64 a, .int .i64 b]] w fun e w' => ∃ u, e = .returned u ∧ w'.ownsRow w.heap.size 5 1 u (insB op a b).length (Bs (insB op a b)) ∧ Below w.heap.size w w' := by
  by_cases h : goodI op a b = true
  · obtain ⟨o, x, y, rfl, rfl, rfl, -, -, -, h0, -⟩ := goodI_parts h
    rcases argN_cases o with hn | hn | hn | hn
    · omega
    · exact iput_0 o x y w h hn
    · exact iput_1 o x y w h hn
    · exact iput_2 o x y w h hn
  · rw [insB_none h]
    refine (iput_none op a b w (by simpa using h)).mono ?_
    rintro e w' ⟨rfl, hb⟩
    exact ⟨_, rfl, own_nil _ _, hb⟩
end Go.Proofs.Ytolofgifcjkaaaa
