/-
  What the document's Instr does: the bytes of an instruction, or nothing.
  Conditions: none.
-/
import Derived.Test.YtolofgifcjkaaaaIpt
import Derived.Test.YtolofgifcjkaaaaRvr
namespace Go.Proofs.Ytolofgifcjkaaaa
open Go.RowKit
set_option linter.unusedSimpArgs false

set_option maxRecDepth 100000 in
set_option maxHeartbeats 4000000 in
theorem rins_none (op a b : Int) (w : World) (h : goodI op a b = false) :
    Calls Try.prog 10 #[.agg #[.int .i64 op, .int .i64 a, .int .i64 b]] w fun e w' => e = .returned (.slice none 0 0) ∧ Below w.heap.size w w' := by
  have h' : ¬ (0 ≤ argN op ∧ 0 ≤ a ∧ a ≤ (if 0 < argN op then 255 else 0) ∧ 0 ≤ b ∧ b ≤ (if 1 < argN op then 255 else 0)) := by
    intro hh
    unfold goodI fitN at h
    simp only [Bool.and_eq_false_iff, decide_eq_false_iff_not] at h
    rcases h with h | h
    · exact h hh.1
    · exact h hh.2
  have AR := Lib.hid (fun w => refArgs_any op w)
  obtain ⟨n, hn⟩ : ∃ n, argN op = n := ⟨_, rfl⟩
  rw [hn] at h' AR
  clear hn h
  by_cases n0 : n < 0
  · clear h'
    go_enter Try.func10, Try.ntmps10
    go_wp2_with (first
        | (go_at_call 12
           refine (AR.out _).mono ?_
           rintro e w1 ⟨rfl, hb1⟩
           have HB1 : Hid (Below w.heap.size w w1) := ((Below.refl _ _).alloc (Nat.le_refl _) _).trans (hb1.mono (by simp))
           have hk := (hb1.block w.heap.size (by simp)).trans (blk_new w 23 #[.int .i64 op, .int .i64 a, .int .i64 b])
           have HK := Lib.hid hk
           have k0 := Blk.cell hk 0
           have k1 := Blk.cell hk 1
           have k2 := Blk.cell hk 2
           have hs1 : w.heap.size < w1.heap.size := (by have := hb1.size; simp at this; omega)
           simp at k0 k1 k2
           clear hb1 hk))
    go_ret
    exact ⟨rfl, HB1.out⟩
  by_cases a0 : a < 0
  · clear h'
    go_enter Try.func10, Try.ntmps10
    go_wp2_with (first
        | (go_at_call 12
           refine (AR.out _).mono ?_
           rintro e w1 ⟨rfl, hb1⟩
           have HB1 : Hid (Below w.heap.size w w1) := ((Below.refl _ _).alloc (Nat.le_refl _) _).trans (hb1.mono (by simp))
           have hk := (hb1.block w.heap.size (by simp)).trans (blk_new w 23 #[.int .i64 op, .int .i64 a, .int .i64 b])
           have HK := Lib.hid hk
           have k0 := Blk.cell hk 0
           have k1 := Blk.cell hk 1
           have k2 := Blk.cell hk 2
           have hs1 : w.heap.size < w1.heap.size := (by have := hb1.size; simp at this; omega)
           simp at k0 k1 k2
           clear hb1 hk))
    go_ret
    exact ⟨rfl, HB1.out⟩
  by_cases a1 : 255 < a
  · clear h'
    go_enter Try.func10, Try.ntmps10
    go_wp2_with (first
        | (go_at_call 12
           refine (AR.out _).mono ?_
           rintro e w1 ⟨rfl, hb1⟩
           have HB1 : Hid (Below w.heap.size w w1) := ((Below.refl _ _).alloc (Nat.le_refl _) _).trans (hb1.mono (by simp))
           have hk := (hb1.block w.heap.size (by simp)).trans (blk_new w 23 #[.int .i64 op, .int .i64 a, .int .i64 b])
           have HK := Lib.hid hk
           have k0 := Blk.cell hk 0
           have k1 := Blk.cell hk 1
           have k2 := Blk.cell hk 2
           have hs1 : w.heap.size < w1.heap.size := (by have := hb1.size; simp at this; omega)
           simp at k0 k1 k2
           clear hb1 hk))
    go_ret
    exact ⟨rfl, HB1.out⟩
  by_cases b0 : b < 0
  · clear h'
    go_enter Try.func10, Try.ntmps10
    go_wp2_with (first
        | (go_at_call 12
           refine (AR.out _).mono ?_
           rintro e w1 ⟨rfl, hb1⟩
           have HB1 : Hid (Below w.heap.size w w1) := ((Below.refl _ _).alloc (Nat.le_refl _) _).trans (hb1.mono (by simp))
           have hk := (hb1.block w.heap.size (by simp)).trans (blk_new w 23 #[.int .i64 op, .int .i64 a, .int .i64 b])
           have HK := Lib.hid hk
           have k0 := Blk.cell hk 0
           have k1 := Blk.cell hk 1
           have k2 := Blk.cell hk 2
           have hs1 : w.heap.size < w1.heap.size := (by have := hb1.size; simp at this; omega)
           simp at k0 k1 k2
           clear hb1 hk))
    go_ret
    exact ⟨rfl, HB1.out⟩
  by_cases b1 : 255 < b
  · clear h'
    go_enter Try.func10, Try.ntmps10
    go_wp2_with (first
        | (go_at_call 12
           refine (AR.out _).mono ?_
           rintro e w1 ⟨rfl, hb1⟩
           have HB1 : Hid (Below w.heap.size w w1) := ((Below.refl _ _).alloc (Nat.le_refl _) _).trans (hb1.mono (by simp))
           have hk := (hb1.block w.heap.size (by simp)).trans (blk_new w 23 #[.int .i64 op, .int .i64 a, .int .i64 b])
           have HK := Lib.hid hk
           have k0 := Blk.cell hk 0
           have k1 := Blk.cell hk 1
           have k2 := Blk.cell hk 2
           have hs1 : w.heap.size < w1.heap.size := (by have := hb1.size; simp at this; omega)
           simp at k0 k1 k2
           clear hb1 hk))
    go_ret
    exact ⟨rfl, HB1.out⟩
  by_cases m1 : n < 1
  · by_cases az : a = 0
    · subst az
      by_cases bz : b = 0
      · exact absurd ⟨by omega, by omega, by rw [if_neg (by omega)]; omega, by omega, by rw [if_neg (by omega)]; omega⟩ h'
      · have m2 : n < 2 := by omega
        have bz' : (b == 0) = false := by simp [bz]
        have bz2 : (b != 0) = true := by simp [bz]
        clear h'
        go_enter Try.func10, Try.ntmps10
        go_wp2_with (first
            | (go_at_call 12
               refine (AR.out _).mono ?_
               rintro e w1 ⟨rfl, hb1⟩
               have HB1 : Hid (Below w.heap.size w w1) := ((Below.refl _ _).alloc (Nat.le_refl _) _).trans (hb1.mono (by simp))
               have hk := (hb1.block w.heap.size (by simp)).trans (blk_new w 23 #[.int .i64 op, .int .i64 0, .int .i64 b])
               have HK := Lib.hid hk
               have k0 := Blk.cell hk 0
               have k1 := Blk.cell hk 1
               have k2 := Blk.cell hk 2
               have hs1 : w.heap.size < w1.heap.size := (by have := hb1.size; simp at this; omega)
               simp at k0 k1 k2
               clear hb1 hk))
        go_ret
        exact ⟨rfl, HB1.out⟩
    · have az' : (a == 0) = false := by simp [az]
      have az2 : (a != 0) = true := by simp [az]
      clear h'
      go_enter Try.func10, Try.ntmps10
      go_wp2_with (first
          | (go_at_call 12
             refine (AR.out _).mono ?_
             rintro e w1 ⟨rfl, hb1⟩
             have HB1 : Hid (Below w.heap.size w w1) := ((Below.refl _ _).alloc (Nat.le_refl _) _).trans (hb1.mono (by simp))
             have hk := (hb1.block w.heap.size (by simp)).trans (blk_new w 23 #[.int .i64 op, .int .i64 a, .int .i64 b])
             have HK := Lib.hid hk
             have k0 := Blk.cell hk 0
             have k1 := Blk.cell hk 1
             have k2 := Blk.cell hk 2
             have hs1 : w.heap.size < w1.heap.size := (by have := hb1.size; simp at this; omega)
             simp at k0 k1 k2
             clear hb1 hk))
      go_ret
      exact ⟨rfl, HB1.out⟩
  · by_cases m2 : n < 2
    · by_cases bz : b = 0
      · exact absurd ⟨by omega, by omega, by rw [if_pos (by omega)]; omega, by omega, by rw [if_neg (by omega)]; omega⟩ h'
      · have bz' : (b == 0) = false := by simp [bz]
        have bz2 : (b != 0) = true := by simp [bz]
        clear h'
        go_enter Try.func10, Try.ntmps10
        go_wp2_with (first
            | (go_at_call 12
               refine (AR.out _).mono ?_
               rintro e w1 ⟨rfl, hb1⟩
               have HB1 : Hid (Below w.heap.size w w1) := ((Below.refl _ _).alloc (Nat.le_refl _) _).trans (hb1.mono (by simp))
               have hk := (hb1.block w.heap.size (by simp)).trans (blk_new w 23 #[.int .i64 op, .int .i64 a, .int .i64 b])
               have HK := Lib.hid hk
               have k0 := Blk.cell hk 0
               have k1 := Blk.cell hk 1
               have k2 := Blk.cell hk 2
               have hs1 : w.heap.size < w1.heap.size := (by have := hb1.size; simp at this; omega)
               simp at k0 k1 k2
               clear hb1 hk))
        go_ret
        exact ⟨rfl, HB1.out⟩
    · exact absurd ⟨by omega, by omega, by rw [if_pos (by omega)]; omega, by omega, by rw [if_pos (by omega)]; omega⟩ h'

set_option maxRecDepth 100000 in
set_option maxHeartbeats 4000000 in
theorem rins_0 (o x y : Nat) (w : World) (h : goodI o x y = true) (hn : argN o = 0) :
    Calls Try.prog 10 #[.agg #[.int .i64 (o : Nat), .int .i64 (x : Nat), .int .i64 (y : Nat)]] w fun e w' => ∃ u, e = .returned u ∧ w'.ownsRow w.heap.size 5 1 u (insB o x y).length (Bs (insB o x y)) ∧ Below w.heap.size w w' := by
  have AR := Lib.hid (fun w => refArgs_any o w)
  rw [hn] at AR
  obtain ⟨o', x', y', eo, ex, ey, ho, hx, hy, -, hx1, hy1⟩ := goodI_parts h
  obtain rfl : o = o' := by omega
  obtain rfl : x = x' := by omega
  obtain rfl : y = y' := by omega
  have HE : Hid (insB o x y = [o] ++ bodyB 0 x y) := by
    show insB o x y = [o] ++ bodyB 0 x y
    rw [insB_good h, hn]
    rfl
  have HO : Hid (o < 256) := by show o < 256; omega
  have HX64 : Hid (x < B64) := by show x < B64; unfold B64; omega
  have HY64 : Hid (y < B64) := by show y < B64; unfold B64; omega
  have HL1 : Hid (1 + (vb x).length ≤ 140737488355328) := by show 1 + (vb x).length ≤ 140737488355328; have := vb255 x hx; omega
  have HL2 : Hid (1 + (vb x).length + (vb y).length ≤ 140737488355328) := by show 1 + (vb x).length + (vb y).length ≤ 140737488355328; have := vb255 x hx; have := vb255 y hy; omega
  clear eo ex ey
  have hx0 : x = 0 := hx1 (by rw [hn]; decide)
  have hy0 : y = 0 := hy1 (by rw [hn]; decide)
  subst hx0 hy0
  clear hn h hx1 hy1
  go_enter Try.func10, Try.ntmps10
  go_wp2_with (first
    | (go_at_call 12
       refine (AR.out _).mono ?_
       rintro e w1 ⟨rfl, hb1⟩
       have HB1 : Hid (Below w.heap.size w w1) := ((Below.refl _ _).alloc (Nat.le_refl _) _).trans (hb1.mono (by simp))
       have hk := (hb1.block w.heap.size (by simp)).trans (blk_new w 23 #[.int .i64 (o : Nat), .int .i64 0, .int .i64 0])
       have HK := Lib.hid hk
       have k0 := Blk.cell hk 0
       have k1 := Blk.cell hk 1
       have k2 := Blk.cell hk 2
       have hs1 : w.heap.size < w1.heap.size := (by have := hb1.size; simp at this; omega)
       simp at k0 k1 k2
       clear hb1 hk))
  go_ret
  have e : insB o 0 0 = [o] := by have := HE.out; simp [bodyB] at this ⊢; exact this
  have el : (insB o 0 0).length = 1 := by rw [e]; simp; try omega
  refine ⟨_, rfl, ?_, HB1.out.alloc HB1.out.size _⟩
  have := own_wide (own_one w1 _ o rfl) HB1.out.size
  simp at el e ⊢
  rw [el, e]
  exact this

set_option maxRecDepth 100000 in
set_option maxHeartbeats 4000000 in
theorem rins_1 (o x y : Nat) (w : World) (h : goodI o x y = true) (hn : argN o = 1) :
    Calls Try.prog 10 #[.agg #[.int .i64 (o : Nat), .int .i64 (x : Nat), .int .i64 (y : Nat)]] w fun e w' => ∃ u, e = .returned u ∧ w'.ownsRow w.heap.size 5 1 u (insB o x y).length (Bs (insB o x y)) ∧ Below w.heap.size w w' := by
  have AR := Lib.hid (fun w => refArgs_any o w)
  rw [hn] at AR
  obtain ⟨o', x', y', eo, ex, ey, ho, hx, hy, -, hx1, hy1⟩ := goodI_parts h
  obtain rfl : o = o' := by omega
  obtain rfl : x = x' := by omega
  obtain rfl : y = y' := by omega
  have HE : Hid (insB o x y = [o] ++ bodyB 1 x y) := by
    show insB o x y = [o] ++ bodyB 1 x y
    rw [insB_good h, hn]
    rfl
  have HO : Hid (o < 256) := by show o < 256; omega
  have HX64 : Hid (x < B64) := by show x < B64; unfold B64; omega
  have HY64 : Hid (y < B64) := by show y < B64; unfold B64; omega
  have HL1 : Hid (1 + (vb x).length ≤ 140737488355328) := by show 1 + (vb x).length ≤ 140737488355328; have := vb255 x hx; omega
  have HL2 : Hid (1 + (vb x).length + (vb y).length ≤ 140737488355328) := by show 1 + (vb x).length + (vb y).length ≤ 140737488355328; have := vb255 x hx; have := vb255 y hy; omega
  clear eo ex ey
  have hy0 : y = 0 := hy1 (by rw [hn]; decide)
  subst hy0
  clear hn h hx1 hy1
  go_enter Try.func10, Try.ntmps10
  go_wp2_with (first
    | (go_at_call 12
       refine (AR.out _).mono ?_
       rintro e w1 ⟨rfl, hb1⟩
       have HB1 : Hid (Below w.heap.size w w1) := ((Below.refl _ _).alloc (Nat.le_refl _) _).trans (hb1.mono (by simp))
       have hk := (hb1.block w.heap.size (by simp)).trans (blk_new w 23 #[.int .i64 (o : Nat), .int .i64 (x : Nat), .int .i64 0])
       have HK := Lib.hid hk
       have k0 := Blk.cell hk 0
       have k1 := Blk.cell hk 1
       have k2 := Blk.cell hk 2
       have hs1 : w.heap.size < w1.heap.size := (by have := hb1.size; simp at this; omega)
       simp at k0 k1 k2
       clear hb1 hk)
    | (go_at_call 19
       refine (refVar_any x _ HX64.out).mono ?_
       rintro e w4 ⟨u4, rfl, hown4, hb4⟩
       obtain ⟨A4, c4, rfl, -, -, -, hY4⟩ := own_slice hown4
       have HY4 := Lib.hid hY4
       have HO4 := Lib.hid (own_below (own_one w1 _ o rfl) hb4 (Nat.le_refl _))
       have HB4 : Hid (Below w1.heap.size w1 w4) := ((Below.refl _ _).alloc (Nat.le_refl _) _).trans (hb4.mono (by simp))
       have HS4 := Lib.hid HB4.out.size
       clear hown4 hY4 hb4)
    | (at_builtin
       refine walk_append _ rfl (.tmp 54) (.tmp 58) rfl w1.heap.size (.slice (some ⟨w1.heap.size, 0, none⟩) 1 1) 1 [o] rfl HO4.out A4 (vb x).length c4 (vb x) rfl rfl _ HY4.out HL1.out HS4.out ?_
       intro v5 w5 hown5 hg5 _
       have HO5 := Lib.hid hown5
       have HB5 := Lib.hid (HB4.out.grown hg5 HS4.out (fun i hi => (HO4.out.lt i hi).1))
       have hk5 := (HB5.out.block w.heap.size hs1).trans HK.out
       have k52 := Blk.cell hk5 2
       simp at k52
       clear hown5 hg5 hk5))
  go_ret
  have e : insB o x 0 = [o] ++ vb x := by have := HE.out; simp [bodyB] at this ⊢; exact this
  have el : (insB o x 0).length = 1 + (vb x).length := by rw [e]; simp; try omega
  refine ⟨_, rfl, ?_, HB1.out.trans (HB5.out.mono HB1.out.size)⟩
  simp only [Int.ofNat_zero, Int.natCast_zero] at el e ⊢
  rw [el, e]
  exact own_wide HO5.out HB1.out.size

set_option maxRecDepth 100000 in
set_option maxHeartbeats 4000000 in
theorem rins_2 (o x y : Nat) (w : World) (h : goodI o x y = true) (hn : argN o = 2) :
    Calls Try.prog 10 #[.agg #[.int .i64 (o : Nat), .int .i64 (x : Nat), .int .i64 (y : Nat)]] w fun e w' => ∃ u, e = .returned u ∧ w'.ownsRow w.heap.size 5 1 u (insB o x y).length (Bs (insB o x y)) ∧ Below w.heap.size w w' := by
  have AR := Lib.hid (fun w => refArgs_any o w)
  rw [hn] at AR
  obtain ⟨o', x', y', eo, ex, ey, ho, hx, hy, -, hx1, hy1⟩ := goodI_parts h
  obtain rfl : o = o' := by omega
  obtain rfl : x = x' := by omega
  obtain rfl : y = y' := by omega
  have HE : Hid (insB o x y = [o] ++ bodyB 2 x y) := by
    show insB o x y = [o] ++ bodyB 2 x y
    rw [insB_good h, hn]
    rfl
  have HO : Hid (o < 256) := by show o < 256; omega
  have HX64 : Hid (x < B64) := by show x < B64; unfold B64; omega
  have HY64 : Hid (y < B64) := by show y < B64; unfold B64; omega
  have HL1 : Hid (1 + (vb x).length ≤ 140737488355328) := by show 1 + (vb x).length ≤ 140737488355328; have := vb255 x hx; omega
  have HL2 : Hid (1 + (vb x).length + (vb y).length ≤ 140737488355328) := by show 1 + (vb x).length + (vb y).length ≤ 140737488355328; have := vb255 x hx; have := vb255 y hy; omega
  clear eo ex ey
  clear hn h hx1 hy1
  go_enter Try.func10, Try.ntmps10
  go_wp2_with (first
    | (go_at_call 12
       refine (AR.out _).mono ?_
       rintro e w1 ⟨rfl, hb1⟩
       have HB1 : Hid (Below w.heap.size w w1) := ((Below.refl _ _).alloc (Nat.le_refl _) _).trans (hb1.mono (by simp))
       have hk := (hb1.block w.heap.size (by simp)).trans (blk_new w 23 #[.int .i64 (o : Nat), .int .i64 (x : Nat), .int .i64 (y : Nat)])
       have HK := Lib.hid hk
       have k0 := Blk.cell hk 0
       have k1 := Blk.cell hk 1
       have k2 := Blk.cell hk 2
       have hs1 : w.heap.size < w1.heap.size := (by have := hb1.size; simp at this; omega)
       simp at k0 k1 k2
       clear hb1 hk)
    | (go_at_call 19
       have hp := HO5.out
       clear hp
       refine (refVar_any y w5 HY64.out).mono ?_
       rintro e w6 ⟨u6, rfl, hown6, hb6⟩
       obtain ⟨A6, c6, rfl, -, -, -, hY6⟩ := own_slice hown6
       have HY6 := Lib.hid hY6
       have HO6 := Lib.hid (own_below HO5.out hb6 (Nat.le_refl _))
       have HB6 := Lib.hid (HB5.out.trans (hb6.mono HB5.out.size))
       have HS6 := Lib.hid HB6.out.size
       clear hown6 hY6 hb6)
    | (at_builtin
       have hp := HO6.out
       clear hp
       refine walk_append _ rfl (.tmp 62) (.tmp 66) rfl w1.heap.size v5 (1 + (vb x).length) ([o] ++ vb x) rfl HO6.out A6 (vb y).length c6 (vb y) rfl rfl _ HY6.out HL2.out HS6.out ?_
       intro v7 w7 hown7 hg7 _
       have HO7 := Lib.hid hown7
       have HB7 := Lib.hid (HB6.out.grown hg7 HS6.out (fun i hi => (HO6.out.lt i hi).1))
       clear hown7 hg7)
    | (go_at_call 19
       refine (refVar_any x _ HX64.out).mono ?_
       rintro e w4 ⟨u4, rfl, hown4, hb4⟩
       obtain ⟨A4, c4, rfl, -, -, -, hY4⟩ := own_slice hown4
       have HY4 := Lib.hid hY4
       have HO4 := Lib.hid (own_below (own_one w1 _ o rfl) hb4 (Nat.le_refl _))
       have HB4 : Hid (Below w1.heap.size w1 w4) := ((Below.refl _ _).alloc (Nat.le_refl _) _).trans (hb4.mono (by simp))
       have HS4 := Lib.hid HB4.out.size
       clear hown4 hY4 hb4)
    | (at_builtin
       refine walk_append _ rfl (.tmp 54) (.tmp 58) rfl w1.heap.size (.slice (some ⟨w1.heap.size, 0, none⟩) 1 1) 1 [o] rfl HO4.out A4 (vb x).length c4 (vb x) rfl rfl _ HY4.out HL1.out HS4.out ?_
       intro v5 w5 hown5 hg5 _
       have HO5 := Lib.hid hown5
       have HB5 := Lib.hid (HB4.out.grown hg5 HS4.out (fun i hi => (HO4.out.lt i hi).1))
       have hk5 := (HB5.out.block w.heap.size hs1).trans HK.out
       have k52 := Blk.cell hk5 2
       simp at k52
       clear hown5 hg5 hk5))
  go_ret
  have e : insB o x y = [o] ++ vb x ++ vb y := by have := HE.out; simp [bodyB] at this ⊢; exact this
  have el : (insB o x y).length = 1 + (vb x).length + (vb y).length := by rw [e]; simp; try omega
  refine ⟨_, rfl, ?_, HB1.out.trans (HB7.out.mono HB1.out.size)⟩
  rw [el, e]
  exact own_wide HO7.out HB1.out.size

theorem rins_any (op a b : Int) (w : World) :
    Calls Try.prog 10 #[.agg #[.int .i64 op, .int .i64 a, .int .i64 b]] w fun e w' => ∃ u, e = .returned u ∧ w'.ownsRow w.heap.size 5 1 u (insB op a b).length (Bs (insB op a b)) ∧ Below w.heap.size w w' := by
  by_cases h : goodI op a b = true
  · obtain ⟨o, x, y, rfl, rfl, rfl, -, -, -, h0, -⟩ := goodI_parts h
    rcases argN_cases o with hn | hn | hn | hn
    · omega
    · exact rins_0 o x y w h hn
    · exact rins_1 o x y w h hn
    · exact rins_2 o x y w h hn
  · rw [insB_none h]
    refine (rins_none op a b w (by simpa using h)).mono ?_
    rintro e w' ⟨rfl, hb⟩
    exact ⟨_, rfl, own_nil _ _, hb⟩
end Go.Proofs.Ytolofgifcjkaaaa
