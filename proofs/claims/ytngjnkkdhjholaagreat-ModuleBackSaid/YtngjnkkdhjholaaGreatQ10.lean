/-
  What inst's Get does with a good reader: what it takes, and which instruction it answers. Conditions: as each theorem says (where the Reader lies, what bytes it holds).
  What inst's Get does with a good reader: it takes the instruction that the bytes begin with, or answers that there is none. Conditions: as each theorem says (where the Reader lies, what bytes it holds).
-/
import Derived.Test.YtngjnkkdhjholaaGreatQ02
import Derived.Test.YtngjnkkdhjholaaGreatQ04
import Derived.Test.YtngjnkkdhjholaaGreatQ09
import Derived.LoopN
namespace Go.Proofs.YtngjnkkdhjholaaGreat
open Go.RowKit
set_option linter.unusedSimpArgs false
set_option linter.unusedVariables false

theorem rfixed_one (g o : Nat) (ys : List Nat) (w : World) (h : Good w g (o :: ys)) (hb : ∀ x ∈ o :: ys, x < 256) :
    Calls Tryz.prog 107 #[.pointer (some ⟨g, 0, none⟩), .int .i64 1] w fun e w' => e = .returned (.int .u64 (o : Nat)) ∧ Good w' g ys ∧ Only g w w' := by
  refine (rfixed_ok g 1 (o :: ys) w h hb (by rw [show wid 1 = 1 by decide]; simp)).mono ?_
  rw [show wid 1 = 1 by decide]
  rintro e w' ⟨rfl, hg, ho⟩
  exact ⟨by simp [le], hg, ho⟩
theorem rfixed_none (g : Nat) (w : World) (h : Good w g []) :
    Calls Tryz.prog 107 #[.pointer (some ⟨g, 0, none⟩), .int .i64 1] w fun e w' => e = .returned (.int .u64 0) ∧ Bad w' g ∧ Only g w w' :=
  rfixed_short g 1 [] w h (by decide)

theorem rfixed_worse (g : Nat) (w : World) (h : Bad w g) :
    Calls Tryz.prog 107 #[.pointer (some ⟨g, 0, none⟩), .int .i64 1] w fun e w' => e = .returned (.int .u64 0) ∧ Bad w' g ∧ Only g w w' :=
  (rfixed_bad g 1 w h).mono fun e w' ⟨h1, h2⟩ => ⟨h1, h.below h2 h.lt, only_below h2⟩
/-- In block g is a Reader, good or bad. -/
def Rdy (w : World) (g : Nat) : Prop := (∃ xs, Good w g xs) ∨ Bad w g

/-- What stands in memory while Get takes numbers: its result, and the numbers so far. -/
def Gst (w : World) (g arr : Nat) (x0 x1 : Int) (W : World) : Prop :=
  Blk W w.heap.size 56 #[.int .i64 0, .int .i64 0, .int .i64 0] ∧ Blk W arr 129 #[.int .i64 x0, .int .i64 x1] ∧ Only g w W ∧ g < w.heap.size ∧ w.heap.size < arr


theorem Gst.only {w W W' : World} {g arr : Nat} {x0 x1 : Int} (h : Gst w g arr x0 x1 W) (k : Only g W W') : Gst w g arr x0 x1 W' :=
  ⟨only_blk k h.1 (by have := h.2.2.2.1; omega), only_blk k h.2.1 (by have := h.2.2.2; omega), only_trans h.2.2.1 k, h.2.2.2⟩
theorem Gst.new {w w1 : World} {g : Nat} (hr : Blk w1 w.heap.size 56 #[.int .i64 0, .int .i64 0, .int .i64 0]) (ho : Only g w w1) (hg : g < w.heap.size) : Gst w g w1.heap.size 0 0 (w1.alloc (.cells #[.int .i64 0, .int .i64 0] 129)) :=
  ⟨(Below.heap_alloc _ _ _ hr.lt).trans hr, heap_alloc_new w1 _, only_trans ho (only_alloc _), hg, hr.lt⟩
theorem Gst.set0 {w W : World} {g arr : Nat} {x0 x1 : Int} (h : Gst w g arr x0 x1 W) (v : Int) : Gst w g arr v x1 (W.setCell ⟨arr, 0, none⟩ (.int .i64 v)) :=
  ⟨set_blk h.1 _ (by have := h.2.2.2; omega), by simpa using h.2.1.set 0 (.int .i64 v), only_trans' h.2.2.1 ((Below.refl _ _).setCell (p := ⟨arr, 0, none⟩) (by have := h.2.2.2; show w.heap.size ≤ arr; omega) _), h.2.2.2⟩
theorem Gst.set1 {w W : World} {g arr : Nat} {x0 x1 : Int} (h : Gst w g arr x0 x1 W) (v : Int) : Gst w g arr x0 v (W.setCell ⟨arr, 1, none⟩ (.int .i64 v)) :=
  ⟨set_blk h.1 _ (by have := h.2.2.2; omega), by simpa using h.2.1.set 1 (.int .i64 v), only_trans' h.2.2.1 ((Below.refl _ _).setCell (p := ⟨arr, 1, none⟩) (by have := h.2.2.2; show w.heap.size ≤ arr; omega) _), h.2.2.2⟩
theorem Gst.cells {w W : World} {g arr : Nat} {x0 x1 : Int} (h : Gst w g arr x0 x1 W) :
    W.cell? ⟨arr, 0, none⟩ = some (.int .i64 x0) ∧ W.cell? ⟨arr, 1, none⟩ = some (.int .i64 x1) ∧ W.frozen? ⟨arr, 0, none⟩ = false ∧ W.frozen? ⟨arr, 1, none⟩ = false ∧
    W.cell? ⟨w.heap.size, 0, none⟩ = some (.int .i64 0) ∧ W.cell? ⟨w.heap.size, 1, none⟩ = some (.int .i64 0) ∧ W.cell? ⟨w.heap.size, 2, none⟩ = some (.int .i64 0) ∧
    W.frozen? ⟨w.heap.size, 0, none⟩ = false ∧ W.frozen? ⟨w.heap.size, 1, none⟩ = false ∧ W.frozen? ⟨w.heap.size, 2, none⟩ = false :=
  ⟨by simpa using h.2.1.cell 0, by simpa using h.2.1.cell 1, h.2.1.frozen 0, h.2.1.frozen 1, by simpa using h.1.cell 0, by simpa using h.1.cell 1, by simpa using h.1.cell 2, h.1.frozen 0, h.1.frozen 1, h.1.frozen 2⟩
/-- Behind the result's three cells. -/
theorem Gst.out {w W : World} {g arr : Nat} {x0 x1 : Int} (h : Gst w g arr x0 x1 W) (a b c : Value) : Only g w (((W.setCell ⟨w.heap.size, 0, none⟩ a).setCell ⟨w.heap.size, 1, none⟩ b).setCell ⟨w.heap.size, 2, none⟩ c) :=
  only_trans' h.2.2.1 ((((Below.refl _ _).setCell (p := ⟨w.heap.size, 0, none⟩) (Nat.le_refl _) _).setCell (p := ⟨w.heap.size, 1, none⟩) (Nat.le_refl _) _).setCell (p := ⟨w.heap.size, 2, none⟩) (Nat.le_refl _) _)
theorem Good.three {w W : World} {g : Nat} {xs : List Nat} (h : Good W g xs) (hg : g < w.heap.size) (a b c : Value) : Good (((W.setCell ⟨w.heap.size, 0, none⟩ a).setCell ⟨w.heap.size, 1, none⟩ b).setCell ⟨w.heap.size, 2, none⟩ c) g xs :=
  h.keep fun i hi => by rw [Below.heap_setCell, Below.heap_setCell, Below.heap_setCell] <;> (simp; omega)
theorem Good.one {W : World} {g arr i : Nat} {xs : List Nat} (h : Good W g xs) (hg : g < arr) (a : Value) : Good (W.setCell ⟨arr, i, none⟩ a) g xs :=
  h.keep fun k hk => by rw [Below.heap_setCell]; simp; omega
theorem Bad.one {W : World} {g arr i : Nat} (h : Bad W g) (hg : g < arr) (a : Value) : Bad (W.setCell ⟨arr, i, none⟩ a) g :=
  set_blk h a (by omega)

theorem Bad.three {w W : World} {g : Nat} (h : Bad W g) (hg : g < w.heap.size) (a b c : Value) : Bad (((W.setCell ⟨w.heap.size, 0, none⟩ a).setCell ⟨w.heap.size, 1, none⟩ b).setCell ⟨w.heap.size, 2, none⟩ c) g :=
  set_blk (set_blk (set_blk h a (by omega)) b (by omega)) c (by omega)

def insV (o x y : Int) (ok : Bool) : Value := .tuple #[.agg #[.int .i64 o, .int .i64 x, .int .i64 y], .bool ok]

set_option maxRecDepth 100000 in
set_option maxHeartbeats 2000000 in
theorem iget_bad (g : Nat) (w : World) (h : Bad w g) :
    Calls Tryz.prog 110 #[.pointer (some ⟨g, 0, none⟩)] w fun e w' => e = .returned (insV 0 0 0 false) ∧ Only g w w' ∧ Bad w' g := by
  have hg := h.lt
  have HG := Lib.hid h
  have AR := Lib.hid (fun w => args_any 0 w)
  rw [show argN 0 = 1 by decide] at AR
  clear h
  have hgw : w.heap.size ≠ g := by omega
  go_enter Tryz.func110, Tryz.ntmps110
  go_wp2_with (first
    | (go_at_call 107
       refine (rfixed_worse g _ (HG.out.alloc _)).mono ?_
       rintro e w1 ⟨rfl, hg1, ho1⟩
       have HG1 := Lib.hid hg1
       have HR1 := Lib.hid (only_blk ho1 (heap_alloc_new w (.cells #[.int .i64 0, .int .i64 0, .int .i64 0] 56)) hgw)
       have HO1 := Lib.hid (only_trans (only_alloc _) ho1)
       clear hg1 ho1)
    | (go_at_call 95
       refine (AR.out _).mono ?_
       rintro e w2 ⟨rfl, rfl⟩))
  refine wp_loop_rounds 2 ?_
  rw [rounds_succ]
  refine wp_world fun W0 hW0 => ?_
  have HS0 : Hid (Gst w g w1.heap.size 0 0 W0) := by show Gst w g w1.heap.size 0 0 W0; rw [hW0]; exact Gst.new HR1.out HO1.out hg
  have HG0' : Hid (Bad W0 g) := by show Bad W0 g; rw [hW0]; exact HG1.out.alloc _
  have hlt : w.heap.size < w1.heap.size := HR1.out.lt
  clear hW0
  obtain ⟨a00, a01, fa00, fa01, r00, r01, r02, fr00, fr01, fr02⟩ := Gst.cells HS0.out
  go_wp2_with (first
    | (go_at_call 77
       refine (rvar_bad g W0 HG0'.out).mono ?_
       rintro e w9 ⟨rfl, rfl⟩
       have HG0x := HG0'
       have HS0x := HS0))
  rw [rounds_succ]
  refine wp_world fun W1 hW1 => ?_
  have HS1 : Hid (Gst w g w1.heap.size 0 0 W1) := by show Gst w g w1.heap.size 0 0 W1; rw [hW1]; exact HS0x.out.set0 _
  have HG1' : Hid (Bad W1 g) := by show Bad W1 g; rw [hW1]; exact HG0x.out.one (by omega) _
  clear hW1
  obtain ⟨a10, a11, fa10, fa11, r10, r11, r12, fr10, fr11, fr12⟩ := Gst.cells HS1.out
  go_wp2_with (first
    | (go_at_call 43
       refine (bad_at g _ _ _ HG1'.out).mono ?_
       rintro e w9 ⟨rfl, rfl⟩))
  refine bodyPost_ret (v := insV 0 0 0 false) (by simp [results, Tryz.results110, go_sem, insV, r10, r11, r12]) rfl ⟨rfl, HS1.out.out _ _ _, HG1'.out.three hg _ _ _⟩

set_option maxRecDepth 100000 in
set_option maxHeartbeats 2000000 in
theorem iget_empty (g : Nat) (w : World) (h : Good w g []) :
    Calls Tryz.prog 110 #[.pointer (some ⟨g, 0, none⟩)] w fun e w' => e = .returned (insV 0 0 0 false) ∧ Only g w w' ∧ Rdy w' g := by
  have hg := h.lt
  have HG := Lib.hid h
  have AR := Lib.hid (fun w => args_any 0 w)
  rw [show argN 0 = 1 by decide] at AR
  clear h
  have hgw : w.heap.size ≠ g := by omega
  go_enter Tryz.func110, Tryz.ntmps110
  go_wp2_with (first
    | (go_at_call 107
       refine (rfixed_none g _ (HG.out.alloc _)).mono ?_
       rintro e w1 ⟨rfl, hg1, ho1⟩
       have HG1 := Lib.hid hg1
       have HR1 := Lib.hid (only_blk ho1 (heap_alloc_new w (.cells #[.int .i64 0, .int .i64 0, .int .i64 0] 56)) hgw)
       have HO1 := Lib.hid (only_trans (only_alloc _) ho1)
       clear hg1 ho1)
    | (go_at_call 95
       refine (AR.out _).mono ?_
       rintro e w2 ⟨rfl, rfl⟩))
  refine wp_loop_rounds 2 ?_
  rw [rounds_succ]
  refine wp_world fun W0 hW0 => ?_
  have HS0 : Hid (Gst w g w1.heap.size 0 0 W0) := by show Gst w g w1.heap.size 0 0 W0; rw [hW0]; exact Gst.new HR1.out HO1.out hg
  have HG0' : Hid (Bad W0 g) := by show Bad W0 g; rw [hW0]; exact HG1.out.alloc _
  have hlt : w.heap.size < w1.heap.size := HR1.out.lt
  clear hW0
  obtain ⟨a00, a01, fa00, fa01, r00, r01, r02, fr00, fr01, fr02⟩ := Gst.cells HS0.out
  go_wp2_with (first
    | (go_at_call 77
       refine (rvar_bad g W0 HG0'.out).mono ?_
       rintro e w9 ⟨rfl, rfl⟩
       have HG0x := HG0'
       have HS0x := HS0))
  rw [rounds_succ]
  refine wp_world fun W1 hW1 => ?_
  have HS1 : Hid (Gst w g w1.heap.size 0 0 W1) := by show Gst w g w1.heap.size 0 0 W1; rw [hW1]; exact HS0x.out.set0 _
  have HG1' : Hid (Bad W1 g) := by show Bad W1 g; rw [hW1]; exact HG0x.out.one (by omega) _
  clear hW1
  obtain ⟨a10, a11, fa10, fa11, r10, r11, r12, fr10, fr11, fr12⟩ := Gst.cells HS1.out
  go_wp2_with (first
    | (go_at_call 43
       refine (bad_at g _ _ _ HG1'.out).mono ?_
       rintro e w9 ⟨rfl, rfl⟩))
  refine bodyPost_ret (v := insV 0 0 0 false) (by simp [results, Tryz.results110, go_sem, insV, r10, r11, r12]) rfl ⟨rfl, HS1.out.out _ _ _, .inr (HG1'.out.three hg _ _ _)⟩

set_option maxRecDepth 100000 in
set_option maxHeartbeats 2000000 in
theorem iget_unknown (g o : Nat) (ys : List Nat) (w : World) (h : Good w g (o :: ys)) (hb : ∀ x ∈ o :: ys, x < 256) (hl : ys.length ≤ 140737488355328) (hn : argN o = -1) :
    Calls Tryz.prog 110 #[.pointer (some ⟨g, 0, none⟩)] w fun e w' => e = .returned (insV 0 0 0 false) ∧ Only g w w' ∧ Rdy w' g := by
  have hg := h.lt
  have HG := Lib.hid h
  have ho : o < 256 := hb o (by simp)
  have Hb := Lib.hid hb
  have HY : Hid (∀ x ∈ ys, x < 256) := fun x hx => hb x (by simp [hx])
  have AR := Lib.hid (fun w => args_any o w)
  rw [hn] at AR
  clear h hb hn
  have hgw : w.heap.size ≠ g := by omega
  go_enter Tryz.func110, Tryz.ntmps110
  go_wp2_with (first
    | (go_at_call 107
       refine (rfixed_one g o ys _ (HG.out.alloc _) Hb.out).mono ?_
       rintro e w1 ⟨rfl, hg1, ho1⟩
       have HG1 := Lib.hid hg1
       have HR1 := Lib.hid (only_blk ho1 (heap_alloc_new w (.cells #[.int .i64 0, .int .i64 0, .int .i64 0] 56)) hgw)
       have HO1 := Lib.hid (only_trans (only_alloc _) ho1)
       clear hg1 ho1)
    | (go_at_call 95
       refine (AR.out _).mono ?_
       rintro e w2 ⟨rfl, rfl⟩))
  refine wp_loop_rounds 1 ?_
  rw [rounds_succ]
  refine wp_world fun W0 hW0 => ?_
  have HS0 : Hid (Gst w g w1.heap.size 0 0 W0) := by show Gst w g w1.heap.size 0 0 W0; rw [hW0]; exact Gst.new HR1.out HO1.out hg
  have HG0' : Hid (Good W0 g ys) := by show Good W0 g ys; rw [hW0]; exact HG1.out.alloc _
  have hlt : w.heap.size < w1.heap.size := HR1.out.lt
  clear hW0
  obtain ⟨a00, a01, fa00, fa01, r00, r01, r02, fr00, fr01, fr02⟩ := Gst.cells HS0.out
  go_wp2_with fail
  refine bodyPost_ret (v := insV 0 0 0 false) (by simp [results, Tryz.results110, go_sem, insV, r00, r01, r02]) rfl ⟨rfl, HS0.out.out _ _ _, .inl ⟨_, HG0'.out.three hg _ _ _⟩⟩

set_option maxRecDepth 100000 in
set_option maxHeartbeats 2000000 in
theorem iget_0 (g o : Nat) (ys : List Nat) (w : World) (h : Good w g (o :: ys)) (hb : ∀ x ∈ o :: ys, x < 256) (hl : ys.length ≤ 140737488355328) (hn : argN o = 0) :
    Calls Tryz.prog 110 #[.pointer (some ⟨g, 0, none⟩)] w fun e w' => e = .returned (insV (o : Nat) 0 0 true) ∧ Good w' g ys ∧ Only g w w' := by
  have hg := h.lt
  have HG := Lib.hid h
  have ho : o < 256 := hb o (by simp)
  have Hb := Lib.hid hb
  have HY : Hid (∀ x ∈ ys, x < 256) := fun x hx => hb x (by simp [hx])
  have AR := Lib.hid (fun w => args_any o w)
  rw [hn] at AR
  clear h hb hn
  have hgw : w.heap.size ≠ g := by omega
  go_enter Tryz.func110, Tryz.ntmps110
  go_wp2_with (first
    | (go_at_call 107
       refine (rfixed_one g o ys _ (HG.out.alloc _) Hb.out).mono ?_
       rintro e w1 ⟨rfl, hg1, ho1⟩
       have HG1 := Lib.hid hg1
       have HR1 := Lib.hid (only_blk ho1 (heap_alloc_new w (.cells #[.int .i64 0, .int .i64 0, .int .i64 0] 56)) hgw)
       have HO1 := Lib.hid (only_trans (only_alloc _) ho1)
       clear hg1 ho1)
    | (go_at_call 95
       refine (AR.out _).mono ?_
       rintro e w2 ⟨rfl, rfl⟩))
  refine wp_loop_rounds 1 ?_
  rw [rounds_succ]
  refine wp_world fun W0 hW0 => ?_
  have HS0 : Hid (Gst w g w1.heap.size 0 0 W0) := by show Gst w g w1.heap.size 0 0 W0; rw [hW0]; exact Gst.new HR1.out HO1.out hg
  have HG0' : Hid (Good W0 g ys) := by show Good W0 g ys; rw [hW0]; exact HG1.out.alloc _
  have hlt : w.heap.size < w1.heap.size := HR1.out.lt
  clear hW0
  obtain ⟨a00, a01, fa00, fa01, r00, r01, r02, fr00, fr01, fr02⟩ := Gst.cells HS0.out
  go_wp2_with (first
    | (go_at_call 43
       obtain ⟨A2, c2, hk2, -⟩ := HG0'.out
       refine (bad_at g _ _ _ hk2).mono ?_
       rintro e w9 ⟨rfl, rfl⟩
       clear hk2))
  refine bodyPost_ret (v := insV (o : Nat) 0 0 true) (by simp [results, Tryz.results110, go_sem, insV, r00, r01, r02]) rfl ⟨rfl, HG0'.out.three hg _ _ _, HS0.out.out _ _ _⟩

set_option maxRecDepth 100000 in
set_option maxHeartbeats 2000000 in
theorem iget_1_no (g o : Nat) (ys : List Nat) (w : World) (h : Good w g (o :: ys)) (hb : ∀ x ∈ o :: ys, x < 256) (hl : ys.length ≤ 140737488355328) (hn : argN o = 1) (h1 : ¬ ∃ v n, IsVar ys v n) :
    Calls Tryz.prog 110 #[.pointer (some ⟨g, 0, none⟩)] w fun e w' => e = .returned (insV 0 0 0 false) ∧ Only g w w' ∧ Rdy w' g := by
  have hg := h.lt
  have HG := Lib.hid h
  have ho : o < 256 := hb o (by simp)
  have Hb := Lib.hid hb
  have HY : Hid (∀ x ∈ ys, x < 256) := fun x hx => hb x (by simp [hx])
  have AR := Lib.hid (fun w => args_any o w)
  rw [hn] at AR
  clear h hb hn
  have H1 := Lib.hid h1
  clear h1
  have hgw : w.heap.size ≠ g := by omega
  go_enter Tryz.func110, Tryz.ntmps110
  go_wp2_with (first
    | (go_at_call 107
       refine (rfixed_one g o ys _ (HG.out.alloc _) Hb.out).mono ?_
       rintro e w1 ⟨rfl, hg1, ho1⟩
       have HG1 := Lib.hid hg1
       have HR1 := Lib.hid (only_blk ho1 (heap_alloc_new w (.cells #[.int .i64 0, .int .i64 0, .int .i64 0] 56)) hgw)
       have HO1 := Lib.hid (only_trans (only_alloc _) ho1)
       clear hg1 ho1)
    | (go_at_call 95
       refine (AR.out _).mono ?_
       rintro e w2 ⟨rfl, rfl⟩))
  refine wp_loop_rounds 2 ?_
  rw [rounds_succ]
  refine wp_world fun W0 hW0 => ?_
  have HS0 : Hid (Gst w g w1.heap.size 0 0 W0) := by show Gst w g w1.heap.size 0 0 W0; rw [hW0]; exact Gst.new HR1.out HO1.out hg
  have HG0' : Hid (Good W0 g ys) := by show Good W0 g ys; rw [hW0]; exact HG1.out.alloc _
  have hlt : w.heap.size < w1.heap.size := HR1.out.lt
  clear hW0
  obtain ⟨a00, a01, fa00, fa01, r00, r01, r02, fr00, fr01, fr02⟩ := Gst.cells HS0.out
  go_wp2_with (first
    | (go_at_call 77
       refine (rvar_no g ys W0 HG0'.out HY.out H1.out hl).mono ?_
       rintro e V0 ⟨rfl, hgx, hox⟩
       have HG0x := Lib.hid hgx
       have HS0x := Lib.hid (HS0.out.only hox)
       obtain ⟨b00, b01, fb00, fb01, s00, s01, s02, fs00, fs01, fs02⟩ := Gst.cells HS0x.out
       clear hgx hox))
  rw [rounds_succ]
  refine wp_world fun W1 hW1 => ?_
  have HS1 : Hid (Gst w g w1.heap.size 0 0 W1) := by show Gst w g w1.heap.size 0 0 W1; rw [hW1]; exact HS0x.out.set0 _
  have HG1' : Hid (Bad W1 g) := by show Bad W1 g; rw [hW1]; exact HG0x.out.one (by omega) _
  clear hW1
  obtain ⟨a10, a11, fa10, fa11, r10, r11, r12, fr10, fr11, fr12⟩ := Gst.cells HS1.out
  go_wp2_with (first
    | (go_at_call 43
       refine (bad_at g _ _ _ HG1'.out).mono ?_
       rintro e w9 ⟨rfl, rfl⟩))
  refine bodyPost_ret (v := insV 0 0 0 false) (by simp [results, Tryz.results110, go_sem, insV, r10, r11, r12]) rfl ⟨rfl, HS1.out.out _ _ _, .inr (HG1'.out.three hg _ _ _)⟩

set_option maxRecDepth 100000 in
set_option maxHeartbeats 2000000 in
theorem iget_1_big (g o : Nat) (ys : List Nat) (w : World) (v m : Nat) (h : Good w g (o :: ys)) (hb : ∀ x ∈ o :: ys, x < 256) (hl : ys.length ≤ 140737488355328) (hn : argN o = 1) (h1 : IsVar ys v m) (b1 : 255 < v) :
    Calls Tryz.prog 110 #[.pointer (some ⟨g, 0, none⟩)] w fun e w' => e = .returned (insV 0 0 0 false) ∧ Only g w w' ∧ Rdy w' g := by
  have hg := h.lt
  have HG := Lib.hid h
  have ho : o < 256 := hb o (by simp)
  have Hb := Lib.hid hb
  have HY : Hid (∀ x ∈ ys, x < 256) := fun x hx => hb x (by simp [hx])
  have AR := Lib.hid (fun w => args_any o w)
  rw [hn] at AR
  clear h hb hn
  have H1 := Lib.hid h1
  clear h1
  have hgw : w.heap.size ≠ g := by omega
  go_enter Tryz.func110, Tryz.ntmps110
  go_wp2_with (first
    | (go_at_call 107
       refine (rfixed_one g o ys _ (HG.out.alloc _) Hb.out).mono ?_
       rintro e w1 ⟨rfl, hg1, ho1⟩
       have HG1 := Lib.hid hg1
       have HR1 := Lib.hid (only_blk ho1 (heap_alloc_new w (.cells #[.int .i64 0, .int .i64 0, .int .i64 0] 56)) hgw)
       have HO1 := Lib.hid (only_trans (only_alloc _) ho1)
       clear hg1 ho1)
    | (go_at_call 95
       refine (AR.out _).mono ?_
       rintro e w2 ⟨rfl, rfl⟩))
  refine wp_loop_rounds 2 ?_
  rw [rounds_succ]
  refine wp_world fun W0 hW0 => ?_
  have HS0 : Hid (Gst w g w1.heap.size 0 0 W0) := by show Gst w g w1.heap.size 0 0 W0; rw [hW0]; exact Gst.new HR1.out HO1.out hg
  have HG0' : Hid (Good W0 g ys) := by show Good W0 g ys; rw [hW0]; exact HG1.out.alloc _
  have hlt : w.heap.size < w1.heap.size := HR1.out.lt
  clear hW0
  obtain ⟨a00, a01, fa00, fa01, r00, r01, r02, fr00, fr01, fr02⟩ := Gst.cells HS0.out
  go_wp2_with (first
    | (go_at_call 77
       refine (rvar_ok g ys v m W0 HG0'.out HY.out H1.out hl).mono ?_
       rintro e V0 ⟨rfl, hgx, hox⟩
       have HG0x := Lib.hid hgx
       have HS0x := Lib.hid (HS0.out.only hox)
       obtain ⟨b00, b01, fb00, fb01, s00, s01, s02, fs00, fs01, fs02⟩ := Gst.cells HS0x.out
       clear hgx hox))
  refine bodyPost_ret (v := insV 0 0 0 false) (by simp [results, Tryz.results110, go_sem, insV, s00, s01, s02]) rfl ⟨rfl, HS0x.out.out _ _ _, .inl ⟨_, HG0x.out.three hg _ _ _⟩⟩

set_option maxRecDepth 100000 in
set_option maxHeartbeats 2000000 in
theorem iget_1 (g o : Nat) (ys : List Nat) (w : World) (v m : Nat) (h : Good w g (o :: ys)) (hb : ∀ x ∈ o :: ys, x < 256) (hl : ys.length ≤ 140737488355328) (hn : argN o = 1) (h1 : IsVar ys v m) (b1 : v ≤ 255) :
    Calls Tryz.prog 110 #[.pointer (some ⟨g, 0, none⟩)] w fun e w' => e = .returned (insV (o : Nat) (v : Nat) 0 true) ∧ Good w' g (ys.drop m) ∧ Only g w w' := by
  have hg := h.lt
  have HG := Lib.hid h
  have ho : o < 256 := hb o (by simp)
  have Hb := Lib.hid hb
  have HY : Hid (∀ x ∈ ys, x < 256) := fun x hx => hb x (by simp [hx])
  have AR := Lib.hid (fun w => args_any o w)
  rw [hn] at AR
  clear h hb hn
  have H1 := Lib.hid h1
  clear h1
  have hgw : w.heap.size ≠ g := by omega
  go_enter Tryz.func110, Tryz.ntmps110
  go_wp2_with (first
    | (go_at_call 107
       refine (rfixed_one g o ys _ (HG.out.alloc _) Hb.out).mono ?_
       rintro e w1 ⟨rfl, hg1, ho1⟩
       have HG1 := Lib.hid hg1
       have HR1 := Lib.hid (only_blk ho1 (heap_alloc_new w (.cells #[.int .i64 0, .int .i64 0, .int .i64 0] 56)) hgw)
       have HO1 := Lib.hid (only_trans (only_alloc _) ho1)
       clear hg1 ho1)
    | (go_at_call 95
       refine (AR.out _).mono ?_
       rintro e w2 ⟨rfl, rfl⟩))
  refine wp_loop_rounds 2 ?_
  rw [rounds_succ]
  refine wp_world fun W0 hW0 => ?_
  have HS0 : Hid (Gst w g w1.heap.size 0 0 W0) := by show Gst w g w1.heap.size 0 0 W0; rw [hW0]; exact Gst.new HR1.out HO1.out hg
  have HG0' : Hid (Good W0 g ys) := by show Good W0 g ys; rw [hW0]; exact HG1.out.alloc _
  have hlt : w.heap.size < w1.heap.size := HR1.out.lt
  clear hW0
  obtain ⟨a00, a01, fa00, fa01, r00, r01, r02, fr00, fr01, fr02⟩ := Gst.cells HS0.out
  go_wp2_with (first
    | (go_at_call 77
       refine (rvar_ok g ys v m W0 HG0'.out HY.out H1.out hl).mono ?_
       rintro e V0 ⟨rfl, hgx, hox⟩
       have HG0x := Lib.hid hgx
       have HS0x := Lib.hid (HS0.out.only hox)
       obtain ⟨b00, b01, fb00, fb01, s00, s01, s02, fs00, fs01, fs02⟩ := Gst.cells HS0x.out
       clear hgx hox))
  rw [rounds_succ]
  refine wp_world fun W1 hW1 => ?_
  have HS1 : Hid (Gst w g w1.heap.size (v : Nat) 0 W1) := by show Gst w g w1.heap.size (v : Nat) 0 W1; rw [hW1]; exact HS0x.out.set0 _
  have HG1' : Hid (Good W1 g (ys.drop m)) := by show Good W1 g (ys.drop m); rw [hW1]; exact HG0x.out.one (by omega) _
  clear hW1
  obtain ⟨a10, a11, fa10, fa11, r10, r11, r12, fr10, fr11, fr12⟩ := Gst.cells HS1.out
  go_wp2_with (first
    | (go_at_call 43
       obtain ⟨A2, c2, hk2, -⟩ := HG1'.out
       refine (bad_at g _ _ _ hk2).mono ?_
       rintro e w9 ⟨rfl, rfl⟩
       clear hk2))
  refine bodyPost_ret (v := insV (o : Nat) (v : Nat) 0 true) (by simp [results, Tryz.results110, go_sem, insV, r10, r11, r12]) rfl ⟨rfl, HG1'.out.three hg _ _ _, HS1.out.out _ _ _⟩

set_option maxRecDepth 100000 in
set_option maxHeartbeats 2000000 in
theorem iget_2_no (g o : Nat) (ys : List Nat) (w : World) (h : Good w g (o :: ys)) (hb : ∀ x ∈ o :: ys, x < 256) (hl : ys.length ≤ 140737488355328) (hn : argN o = 2) (h1 : ¬ ∃ v n, IsVar ys v n) :
    Calls Tryz.prog 110 #[.pointer (some ⟨g, 0, none⟩)] w fun e w' => e = .returned (insV 0 0 0 false) ∧ Only g w w' ∧ Rdy w' g := by
  have hg := h.lt
  have HG := Lib.hid h
  have ho : o < 256 := hb o (by simp)
  have Hb := Lib.hid hb
  have HY : Hid (∀ x ∈ ys, x < 256) := fun x hx => hb x (by simp [hx])
  have AR := Lib.hid (fun w => args_any o w)
  rw [hn] at AR
  clear h hb hn
  have H1 := Lib.hid h1
  clear h1
  have hgw : w.heap.size ≠ g := by omega
  go_enter Tryz.func110, Tryz.ntmps110
  go_wp2_with (first
    | (go_at_call 107
       refine (rfixed_one g o ys _ (HG.out.alloc _) Hb.out).mono ?_
       rintro e w1 ⟨rfl, hg1, ho1⟩
       have HG1 := Lib.hid hg1
       have HR1 := Lib.hid (only_blk ho1 (heap_alloc_new w (.cells #[.int .i64 0, .int .i64 0, .int .i64 0] 56)) hgw)
       have HO1 := Lib.hid (only_trans (only_alloc _) ho1)
       clear hg1 ho1)
    | (go_at_call 95
       refine (AR.out _).mono ?_
       rintro e w2 ⟨rfl, rfl⟩))
  refine wp_loop_rounds 3 ?_
  rw [rounds_succ]
  refine wp_world fun W0 hW0 => ?_
  have HS0 : Hid (Gst w g w1.heap.size 0 0 W0) := by show Gst w g w1.heap.size 0 0 W0; rw [hW0]; exact Gst.new HR1.out HO1.out hg
  have HG0' : Hid (Good W0 g ys) := by show Good W0 g ys; rw [hW0]; exact HG1.out.alloc _
  have hlt : w.heap.size < w1.heap.size := HR1.out.lt
  clear hW0
  obtain ⟨a00, a01, fa00, fa01, r00, r01, r02, fr00, fr01, fr02⟩ := Gst.cells HS0.out
  go_wp2_with (first
    | (go_at_call 77
       refine (rvar_no g ys W0 HG0'.out HY.out H1.out hl).mono ?_
       rintro e V0 ⟨rfl, hgx, hox⟩
       have HG0x := Lib.hid hgx
       have HS0x := Lib.hid (HS0.out.only hox)
       obtain ⟨b00, b01, fb00, fb01, s00, s01, s02, fs00, fs01, fs02⟩ := Gst.cells HS0x.out
       clear hgx hox))
  rw [rounds_succ]
  refine wp_world fun W1 hW1 => ?_
  have HS1 : Hid (Gst w g w1.heap.size 0 0 W1) := by show Gst w g w1.heap.size 0 0 W1; rw [hW1]; exact HS0x.out.set0 _
  have HG1' : Hid (Bad W1 g) := by show Bad W1 g; rw [hW1]; exact HG0x.out.one (by omega) _
  clear hW1
  obtain ⟨a10, a11, fa10, fa11, r10, r11, r12, fr10, fr11, fr12⟩ := Gst.cells HS1.out
  go_wp2_with (first
    | (go_at_call 77
       refine (rvar_bad g W1 HG1'.out).mono ?_
       rintro e w9 ⟨rfl, rfl⟩
       have HG1x := HG1'
       have HS1x := HS1))
  rw [rounds_succ]
  refine wp_world fun W2 hW2 => ?_
  have HS2 : Hid (Gst w g w1.heap.size 0 0 W2) := by show Gst w g w1.heap.size 0 0 W2; rw [hW2]; exact HS1x.out.set1 _
  have HG2' : Hid (Bad W2 g) := by show Bad W2 g; rw [hW2]; exact HG1x.out.one (by omega) _
  clear hW2
  obtain ⟨a20, a21, fa20, fa21, r20, r21, r22, fr20, fr21, fr22⟩ := Gst.cells HS2.out
  go_wp2_with (first
    | (go_at_call 43
       refine (bad_at g _ _ _ HG2'.out).mono ?_
       rintro e w9 ⟨rfl, rfl⟩))
  refine bodyPost_ret (v := insV 0 0 0 false) (by simp [results, Tryz.results110, go_sem, insV, r20, r21, r22]) rfl ⟨rfl, HS2.out.out _ _ _, .inr (HG2'.out.three hg _ _ _)⟩

set_option maxRecDepth 100000 in
set_option maxHeartbeats 2000000 in
theorem iget_2_big (g o : Nat) (ys : List Nat) (w : World) (v m : Nat) (h : Good w g (o :: ys)) (hb : ∀ x ∈ o :: ys, x < 256) (hl : ys.length ≤ 140737488355328) (hn : argN o = 2) (h1 : IsVar ys v m) (b1 : 255 < v) :
    Calls Tryz.prog 110 #[.pointer (some ⟨g, 0, none⟩)] w fun e w' => e = .returned (insV 0 0 0 false) ∧ Only g w w' ∧ Rdy w' g := by
  have hg := h.lt
  have HG := Lib.hid h
  have ho : o < 256 := hb o (by simp)
  have Hb := Lib.hid hb
  have HY : Hid (∀ x ∈ ys, x < 256) := fun x hx => hb x (by simp [hx])
  have AR := Lib.hid (fun w => args_any o w)
  rw [hn] at AR
  clear h hb hn
  have H1 := Lib.hid h1
  clear h1
  have hgw : w.heap.size ≠ g := by omega
  go_enter Tryz.func110, Tryz.ntmps110
  go_wp2_with (first
    | (go_at_call 107
       refine (rfixed_one g o ys _ (HG.out.alloc _) Hb.out).mono ?_
       rintro e w1 ⟨rfl, hg1, ho1⟩
       have HG1 := Lib.hid hg1
       have HR1 := Lib.hid (only_blk ho1 (heap_alloc_new w (.cells #[.int .i64 0, .int .i64 0, .int .i64 0] 56)) hgw)
       have HO1 := Lib.hid (only_trans (only_alloc _) ho1)
       clear hg1 ho1)
    | (go_at_call 95
       refine (AR.out _).mono ?_
       rintro e w2 ⟨rfl, rfl⟩))
  refine wp_loop_rounds 3 ?_
  rw [rounds_succ]
  refine wp_world fun W0 hW0 => ?_
  have HS0 : Hid (Gst w g w1.heap.size 0 0 W0) := by show Gst w g w1.heap.size 0 0 W0; rw [hW0]; exact Gst.new HR1.out HO1.out hg
  have HG0' : Hid (Good W0 g ys) := by show Good W0 g ys; rw [hW0]; exact HG1.out.alloc _
  have hlt : w.heap.size < w1.heap.size := HR1.out.lt
  clear hW0
  obtain ⟨a00, a01, fa00, fa01, r00, r01, r02, fr00, fr01, fr02⟩ := Gst.cells HS0.out
  go_wp2_with (first
    | (go_at_call 77
       refine (rvar_ok g ys v m W0 HG0'.out HY.out H1.out hl).mono ?_
       rintro e V0 ⟨rfl, hgx, hox⟩
       have HG0x := Lib.hid hgx
       have HS0x := Lib.hid (HS0.out.only hox)
       obtain ⟨b00, b01, fb00, fb01, s00, s01, s02, fs00, fs01, fs02⟩ := Gst.cells HS0x.out
       clear hgx hox))
  refine bodyPost_ret (v := insV 0 0 0 false) (by simp [results, Tryz.results110, go_sem, insV, s00, s01, s02]) rfl ⟨rfl, HS0x.out.out _ _ _, .inl ⟨_, HG0x.out.three hg _ _ _⟩⟩

set_option maxRecDepth 100000 in
set_option maxHeartbeats 2000000 in
theorem iget_2_okno (g o : Nat) (ys : List Nat) (w : World) (v m : Nat) (h : Good w g (o :: ys)) (hb : ∀ x ∈ o :: ys, x < 256) (hl : ys.length ≤ 140737488355328) (hn : argN o = 2) (h1 : IsVar ys v m) (b1 : v ≤ 255) (h2 : ¬ ∃ v n, IsVar (ys.drop m) v n) :
    Calls Tryz.prog 110 #[.pointer (some ⟨g, 0, none⟩)] w fun e w' => e = .returned (insV 0 0 0 false) ∧ Only g w w' ∧ Rdy w' g := by
  have hg := h.lt
  have HG := Lib.hid h
  have ho : o < 256 := hb o (by simp)
  have Hb := Lib.hid hb
  have HY : Hid (∀ x ∈ ys, x < 256) := fun x hx => hb x (by simp [hx])
  have AR := Lib.hid (fun w => args_any o w)
  rw [hn] at AR
  clear h hb hn
  have H1 := Lib.hid h1
  clear h1
  have HLd : Hid ((ys.drop m).length ≤ 140737488355328) := by show (ys.drop m).length ≤ 140737488355328; simp; omega
  have HYd : Hid (∀ x ∈ ys.drop m, x < 256) := fun x hx => HY.out x (List.mem_of_mem_drop hx)
  have H2 := Lib.hid h2
  clear h2
  have hgw : w.heap.size ≠ g := by omega
  go_enter Tryz.func110, Tryz.ntmps110
  go_wp2_with (first
    | (go_at_call 107
       refine (rfixed_one g o ys _ (HG.out.alloc _) Hb.out).mono ?_
       rintro e w1 ⟨rfl, hg1, ho1⟩
       have HG1 := Lib.hid hg1
       have HR1 := Lib.hid (only_blk ho1 (heap_alloc_new w (.cells #[.int .i64 0, .int .i64 0, .int .i64 0] 56)) hgw)
       have HO1 := Lib.hid (only_trans (only_alloc _) ho1)
       clear hg1 ho1)
    | (go_at_call 95
       refine (AR.out _).mono ?_
       rintro e w2 ⟨rfl, rfl⟩))
  refine wp_loop_rounds 3 ?_
  rw [rounds_succ]
  refine wp_world fun W0 hW0 => ?_
  have HS0 : Hid (Gst w g w1.heap.size 0 0 W0) := by show Gst w g w1.heap.size 0 0 W0; rw [hW0]; exact Gst.new HR1.out HO1.out hg
  have HG0' : Hid (Good W0 g ys) := by show Good W0 g ys; rw [hW0]; exact HG1.out.alloc _
  have hlt : w.heap.size < w1.heap.size := HR1.out.lt
  clear hW0
  obtain ⟨a00, a01, fa00, fa01, r00, r01, r02, fr00, fr01, fr02⟩ := Gst.cells HS0.out
  go_wp2_with (first
    | (go_at_call 77
       refine (rvar_ok g ys v m W0 HG0'.out HY.out H1.out hl).mono ?_
       rintro e V0 ⟨rfl, hgx, hox⟩
       have HG0x := Lib.hid hgx
       have HS0x := Lib.hid (HS0.out.only hox)
       obtain ⟨b00, b01, fb00, fb01, s00, s01, s02, fs00, fs01, fs02⟩ := Gst.cells HS0x.out
       clear hgx hox))
  rw [rounds_succ]
  refine wp_world fun W1 hW1 => ?_
  have HS1 : Hid (Gst w g w1.heap.size (v : Nat) 0 W1) := by show Gst w g w1.heap.size (v : Nat) 0 W1; rw [hW1]; exact HS0x.out.set0 _
  have HG1' : Hid (Good W1 g (ys.drop m)) := by show Good W1 g (ys.drop m); rw [hW1]; exact HG0x.out.one (by omega) _
  clear hW1
  obtain ⟨a10, a11, fa10, fa11, r10, r11, r12, fr10, fr11, fr12⟩ := Gst.cells HS1.out
  go_wp2_with (first
    | (go_at_call 77
       refine (rvar_no g (ys.drop m) W1 HG1'.out HYd.out H2.out HLd.out).mono ?_
       rintro e V1 ⟨rfl, hgx, hox⟩
       have HG1x := Lib.hid hgx
       have HS1x := Lib.hid (HS1.out.only hox)
       obtain ⟨b10, b11, fb10, fb11, s10, s11, s12, fs10, fs11, fs12⟩ := Gst.cells HS1x.out
       clear hgx hox))
  rw [rounds_succ]
  refine wp_world fun W2 hW2 => ?_
  have HS2 : Hid (Gst w g w1.heap.size (v : Nat) 0 W2) := by show Gst w g w1.heap.size (v : Nat) 0 W2; rw [hW2]; exact HS1x.out.set1 _
  have HG2' : Hid (Bad W2 g) := by show Bad W2 g; rw [hW2]; exact HG1x.out.one (by omega) _
  clear hW2
  obtain ⟨a20, a21, fa20, fa21, r20, r21, r22, fr20, fr21, fr22⟩ := Gst.cells HS2.out
  go_wp2_with (first
    | (go_at_call 43
       refine (bad_at g _ _ _ HG2'.out).mono ?_
       rintro e w9 ⟨rfl, rfl⟩))
  refine bodyPost_ret (v := insV 0 0 0 false) (by simp [results, Tryz.results110, go_sem, insV, r20, r21, r22]) rfl ⟨rfl, HS2.out.out _ _ _, .inr (HG2'.out.three hg _ _ _)⟩

set_option maxRecDepth 100000 in
set_option maxHeartbeats 2000000 in
theorem iget_2_okbig (g o : Nat) (ys : List Nat) (w : World) (v m : Nat) (u l : Nat) (h : Good w g (o :: ys)) (hb : ∀ x ∈ o :: ys, x < 256) (hl : ys.length ≤ 140737488355328) (hn : argN o = 2) (h1 : IsVar ys v m) (b1 : v ≤ 255) (h2 : IsVar (ys.drop m) u l) (b2 : 255 < u) :
    Calls Tryz.prog 110 #[.pointer (some ⟨g, 0, none⟩)] w fun e w' => e = .returned (insV 0 0 0 false) ∧ Only g w w' ∧ Rdy w' g := by
  have hg := h.lt
  have HG := Lib.hid h
  have ho : o < 256 := hb o (by simp)
  have Hb := Lib.hid hb
  have HY : Hid (∀ x ∈ ys, x < 256) := fun x hx => hb x (by simp [hx])
  have AR := Lib.hid (fun w => args_any o w)
  rw [hn] at AR
  clear h hb hn
  have H1 := Lib.hid h1
  clear h1
  have HLd : Hid ((ys.drop m).length ≤ 140737488355328) := by show (ys.drop m).length ≤ 140737488355328; simp; omega
  have HYd : Hid (∀ x ∈ ys.drop m, x < 256) := fun x hx => HY.out x (List.mem_of_mem_drop hx)
  have H2 := Lib.hid h2
  clear h2
  have hgw : w.heap.size ≠ g := by omega
  go_enter Tryz.func110, Tryz.ntmps110
  go_wp2_with (first
    | (go_at_call 107
       refine (rfixed_one g o ys _ (HG.out.alloc _) Hb.out).mono ?_
       rintro e w1 ⟨rfl, hg1, ho1⟩
       have HG1 := Lib.hid hg1
       have HR1 := Lib.hid (only_blk ho1 (heap_alloc_new w (.cells #[.int .i64 0, .int .i64 0, .int .i64 0] 56)) hgw)
       have HO1 := Lib.hid (only_trans (only_alloc _) ho1)
       clear hg1 ho1)
    | (go_at_call 95
       refine (AR.out _).mono ?_
       rintro e w2 ⟨rfl, rfl⟩))
  refine wp_loop_rounds 3 ?_
  rw [rounds_succ]
  refine wp_world fun W0 hW0 => ?_
  have HS0 : Hid (Gst w g w1.heap.size 0 0 W0) := by show Gst w g w1.heap.size 0 0 W0; rw [hW0]; exact Gst.new HR1.out HO1.out hg
  have HG0' : Hid (Good W0 g ys) := by show Good W0 g ys; rw [hW0]; exact HG1.out.alloc _
  have hlt : w.heap.size < w1.heap.size := HR1.out.lt
  clear hW0
  obtain ⟨a00, a01, fa00, fa01, r00, r01, r02, fr00, fr01, fr02⟩ := Gst.cells HS0.out
  go_wp2_with (first
    | (go_at_call 77
       refine (rvar_ok g ys v m W0 HG0'.out HY.out H1.out hl).mono ?_
       rintro e V0 ⟨rfl, hgx, hox⟩
       have HG0x := Lib.hid hgx
       have HS0x := Lib.hid (HS0.out.only hox)
       obtain ⟨b00, b01, fb00, fb01, s00, s01, s02, fs00, fs01, fs02⟩ := Gst.cells HS0x.out
       clear hgx hox))
  rw [rounds_succ]
  refine wp_world fun W1 hW1 => ?_
  have HS1 : Hid (Gst w g w1.heap.size (v : Nat) 0 W1) := by show Gst w g w1.heap.size (v : Nat) 0 W1; rw [hW1]; exact HS0x.out.set0 _
  have HG1' : Hid (Good W1 g (ys.drop m)) := by show Good W1 g (ys.drop m); rw [hW1]; exact HG0x.out.one (by omega) _
  clear hW1
  obtain ⟨a10, a11, fa10, fa11, r10, r11, r12, fr10, fr11, fr12⟩ := Gst.cells HS1.out
  go_wp2_with (first
    | (go_at_call 77
       refine (rvar_ok g (ys.drop m) u l W1 HG1'.out HYd.out H2.out HLd.out).mono ?_
       rintro e V1 ⟨rfl, hgx, hox⟩
       have HG1x := Lib.hid hgx
       have HS1x := Lib.hid (HS1.out.only hox)
       obtain ⟨b10, b11, fb10, fb11, s10, s11, s12, fs10, fs11, fs12⟩ := Gst.cells HS1x.out
       clear hgx hox))
  refine bodyPost_ret (v := insV 0 0 0 false) (by simp [results, Tryz.results110, go_sem, insV, s10, s11, s12]) rfl ⟨rfl, HS1x.out.out _ _ _, .inl ⟨_, HG1x.out.three hg _ _ _⟩⟩

set_option maxRecDepth 100000 in
set_option maxHeartbeats 2000000 in
theorem iget_2 (g o : Nat) (ys : List Nat) (w : World) (v m : Nat) (u l : Nat) (h : Good w g (o :: ys)) (hb : ∀ x ∈ o :: ys, x < 256) (hl : ys.length ≤ 140737488355328) (hn : argN o = 2) (h1 : IsVar ys v m) (b1 : v ≤ 255) (h2 : IsVar (ys.drop m) u l) (b2 : u ≤ 255) :
    Calls Tryz.prog 110 #[.pointer (some ⟨g, 0, none⟩)] w fun e w' => e = .returned (insV (o : Nat) (v : Nat) (u : Nat) true) ∧ Good w' g ((ys.drop m).drop l) ∧ Only g w w' := by
  have hg := h.lt
  have HG := Lib.hid h
  have ho : o < 256 := hb o (by simp)
  have Hb := Lib.hid hb
  have HY : Hid (∀ x ∈ ys, x < 256) := fun x hx => hb x (by simp [hx])
  have AR := Lib.hid (fun w => args_any o w)
  rw [hn] at AR
  clear h hb hn
  have H1 := Lib.hid h1
  clear h1
  have HLd : Hid ((ys.drop m).length ≤ 140737488355328) := by show (ys.drop m).length ≤ 140737488355328; simp; omega
  have HYd : Hid (∀ x ∈ ys.drop m, x < 256) := fun x hx => HY.out x (List.mem_of_mem_drop hx)
  have H2 := Lib.hid h2
  clear h2
  have hgw : w.heap.size ≠ g := by omega
  go_enter Tryz.func110, Tryz.ntmps110
  go_wp2_with (first
    | (go_at_call 107
       refine (rfixed_one g o ys _ (HG.out.alloc _) Hb.out).mono ?_
       rintro e w1 ⟨rfl, hg1, ho1⟩
       have HG1 := Lib.hid hg1
       have HR1 := Lib.hid (only_blk ho1 (heap_alloc_new w (.cells #[.int .i64 0, .int .i64 0, .int .i64 0] 56)) hgw)
       have HO1 := Lib.hid (only_trans (only_alloc _) ho1)
       clear hg1 ho1)
    | (go_at_call 95
       refine (AR.out _).mono ?_
       rintro e w2 ⟨rfl, rfl⟩))
  refine wp_loop_rounds 3 ?_
  rw [rounds_succ]
  refine wp_world fun W0 hW0 => ?_
  have HS0 : Hid (Gst w g w1.heap.size 0 0 W0) := by show Gst w g w1.heap.size 0 0 W0; rw [hW0]; exact Gst.new HR1.out HO1.out hg
  have HG0' : Hid (Good W0 g ys) := by show Good W0 g ys; rw [hW0]; exact HG1.out.alloc _
  have hlt : w.heap.size < w1.heap.size := HR1.out.lt
  clear hW0
  obtain ⟨a00, a01, fa00, fa01, r00, r01, r02, fr00, fr01, fr02⟩ := Gst.cells HS0.out
  go_wp2_with (first
    | (go_at_call 77
       refine (rvar_ok g ys v m W0 HG0'.out HY.out H1.out hl).mono ?_
       rintro e V0 ⟨rfl, hgx, hox⟩
       have HG0x := Lib.hid hgx
       have HS0x := Lib.hid (HS0.out.only hox)
       obtain ⟨b00, b01, fb00, fb01, s00, s01, s02, fs00, fs01, fs02⟩ := Gst.cells HS0x.out
       clear hgx hox))
  rw [rounds_succ]
  refine wp_world fun W1 hW1 => ?_
  have HS1 : Hid (Gst w g w1.heap.size (v : Nat) 0 W1) := by show Gst w g w1.heap.size (v : Nat) 0 W1; rw [hW1]; exact HS0x.out.set0 _
  have HG1' : Hid (Good W1 g (ys.drop m)) := by show Good W1 g (ys.drop m); rw [hW1]; exact HG0x.out.one (by omega) _
  clear hW1
  obtain ⟨a10, a11, fa10, fa11, r10, r11, r12, fr10, fr11, fr12⟩ := Gst.cells HS1.out
  go_wp2_with (first
    | (go_at_call 77
       refine (rvar_ok g (ys.drop m) u l W1 HG1'.out HYd.out H2.out HLd.out).mono ?_
       rintro e V1 ⟨rfl, hgx, hox⟩
       have HG1x := Lib.hid hgx
       have HS1x := Lib.hid (HS1.out.only hox)
       obtain ⟨b10, b11, fb10, fb11, s10, s11, s12, fs10, fs11, fs12⟩ := Gst.cells HS1x.out
       clear hgx hox))
  rw [rounds_succ]
  refine wp_world fun W2 hW2 => ?_
  have HS2 : Hid (Gst w g w1.heap.size (v : Nat) (u : Nat) W2) := by show Gst w g w1.heap.size (v : Nat) (u : Nat) W2; rw [hW2]; exact HS1x.out.set1 _
  have HG2' : Hid (Good W2 g ((ys.drop m).drop l)) := by show Good W2 g ((ys.drop m).drop l); rw [hW2]; exact HG1x.out.one (by omega) _
  clear hW2
  obtain ⟨a20, a21, fa20, fa21, r20, r21, r22, fr20, fr21, fr22⟩ := Gst.cells HS2.out
  go_wp2_with (first
    | (go_at_call 43
       obtain ⟨A2, c2, hk2, -⟩ := HG2'.out
       refine (bad_at g _ _ _ hk2).mono ?_
       rintro e w9 ⟨rfl, rfl⟩
       clear hk2))
  refine bodyPost_ret (v := insV (o : Nat) (v : Nat) (u : Nat) true) (by simp [results, Tryz.results110, go_sem, insV, r20, r21, r22]) rfl ⟨rfl, HG2'.out.three hg _ _ _, HS2.out.out _ _ _⟩

end Go.Proofs.YtngjnkkdhjholaaGreat
namespace Go.Proofs.YtngjnkkdhjholaaGreat
open Go.RowKit

/-- The bytes begin with a good instruction: it is taken, and what is behind it stays. -/
theorem iget_yes (g o x y : Nat) (rest : List Nat) (w : World) (hgd : goodI o x y = true) (h : Good w g (insB o x y ++ rest)) (hb : ∀ z ∈ rest, z < 256) (hl : rest.length ≤ 1000000) :
    Calls Tryz.prog 110 #[.pointer (some ⟨g, 0, none⟩)] w fun e w' => e = .returned (insV (o : Nat) (x : Nat) (y : Nat) true) ∧ Good w' g rest ∧ Only g w w' := by
  have hall : ∀ z ∈ insB o x y ++ rest, z < 256 := by
    intro z hz
    rcases List.mem_append.1 hz with h | h
    · exact insB_bytes _ _ _ z h
    · exact hb z h
  have hlen := insB_len o x y
  have hlx : (insB o x y ++ rest).length ≤ 1000005 := by simp; omega
  obtain ⟨o', x', y', eo, ex, ey, ho, hx, hy, h0, hx1, hy1⟩ := goodI_parts hgd
  obtain rfl : o = o' := by omega
  obtain rfl : x = x' := by omega
  obtain rfl : y = y' := by omega
  rw [insB_good hgd, List.cons_append] at h hall hlx
  have h64 : x < B64 ∧ y < B64 := by unfold B64; omega
  rcases argN_cases o with hn | hn | hn | hn
  · omega
  · obtain rfl : x = 0 := hx1 (by omega)
    obtain rfl : y = 0 := hy1 (by omega)
    rw [hn] at h hall hlx
    simp only [bodyB, show ¬ ((0 : Int) < 0) by omega, show ¬ ((1 : Int) < 0) by omega, if_false, List.nil_append] at h hall hlx
    exact iget_0 g o rest w h hall (by omega) hn
  · obtain rfl : y = 0 := hy1 (by omega)
    rw [hn] at h hall hlx
    simp only [bodyB, show ((0 : Int) < 1) by omega, show ¬ ((1 : Int) < 1) by omega, if_false, if_true, List.append_nil] at h hall hlx
    have := iget_1 g o (vb x ++ rest) w x (vb x).length h hall (by simp at hlx ⊢; omega) hn (isVar_app x h64.1 rest) hx
    rw [List.drop_left] at this
    exact this
  · rw [hn] at h hall hlx
    simp only [bodyB, show ((0 : Int) < 2) by omega, show ((1 : Int) < 2) by omega, if_true, List.append_assoc] at h hall hlx
    have := iget_2 g o (vb x ++ (vb y ++ rest)) w x (vb x).length y (vb y).length h hall (by simp at hlx ⊢; omega) hn (isVar_app x h64.1 _) hx (by rw [List.drop_left]; exact isVar_app y h64.2 rest) hy
    rw [List.drop_left, List.drop_left] at this
    exact this

/-- The bytes begin with no good instruction: none is answered. -/
theorem iget_none (g : Nat) (xs : List Nat) (w : World) (h : Good w g xs) (hb : ∀ z ∈ xs, z < 256) (hl : xs.length ≤ 1000000) (hno : ¬ HasI xs) :
    Calls Tryz.prog 110 #[.pointer (some ⟨g, 0, none⟩)] w fun e w' => e = .returned (insV 0 0 0 false) ∧ Only g w w' ∧ Rdy w' g := by
  cases xs with
  | nil => exact iget_empty g w h
  | cons o ys =>
    have hl' : ys.length ≤ 140737488355328 := by simp at hl; omega
    have hd : ∀ m, ∀ z ∈ ys.drop m, z < 256 := fun m z hz => hb z (by simp [List.mem_of_mem_drop hz])
    have yes : ∀ x y : Nat, ∀ rest : List Nat, x ≤ 255 → y ≤ 255 → 0 ≤ argN o → (¬ 0 < argN o → x = 0) → (¬ 1 < argN o → y = 0) → ys ≠ bodyB (argN o) x y ++ rest := by
      intro x y rest hx hy h0 h1 h2 e
      have hg := goodI_mk h0 hx hy h1 h2
      exact hno ⟨o, x, y, rest, hg, by rw [insB_good hg, List.cons_append, ← e]⟩
    rcases argN_cases o with hn | hn | hn | hn
    · exact iget_unknown g o ys w h hb hl' hn
    · exact absurd (by rw [hn]; simp [bodyB]) (yes 0 0 ys (by omega) (by omega) (by omega) (fun _ => rfl) (fun _ => rfl))
    · by_cases hv : ∃ v n, IsVar ys v n
      · obtain ⟨v, m, hv⟩ := hv
        by_cases hb2 : v ≤ 255
        · exact absurd (by rw [hn]; simpa [bodyB] using isVar_split hv) (yes v 0 (ys.drop m) hb2 (by omega) (by omega) (fun h => by omega) (fun _ => rfl))
        · exact iget_1_big g o ys w v m h hb hl' hn hv (by omega)
      · exact iget_1_no g o ys w h hb hl' hn hv
    · by_cases hv : ∃ v n, IsVar ys v n
      · obtain ⟨v, m, hv⟩ := hv
        by_cases hb2 : v ≤ 255
        · by_cases hu : ∃ v n, IsVar (ys.drop m) v n
          · obtain ⟨u, l, hu⟩ := hu
            by_cases hb3 : u ≤ 255
            · refine absurd ?_ (yes v u ((ys.drop m).drop l) hb2 hb3 (by omega) (fun h => by omega) (fun h => by omega))
              rw [hn]
              have e1 := isVar_split hv
              have e2 := isVar_split hu
              simp only [bodyB, show ((0 : Int) < 2) by omega, show ((1 : Int) < 2) by omega, if_true, List.append_assoc]
              rw [← e2]
              exact e1
            · exact iget_2_okbig g o ys w v m u l h hb hl' hn hv hb2 hu (by omega)
          · exact iget_2_okno g o ys w v m h hb hl' hn hv hb2 hu
        · exact iget_2_big g o ys w v m h hb hl' hn hv (by omega)
      · exact iget_2_no g o ys w h hb hl' hn hv
theorem iget_no (g : Nat) (xs : List Nat) (w : World) (h : Good w g xs) (hb : ∀ z ∈ xs, z < 256) (hl : xs.length ≤ 1000000) (hno : ¬ HasI xs) :
    Calls Tryz.prog 110 #[.pointer (some ⟨g, 0, none⟩)] w fun e w' => e = .returned (insV 0 0 0 false) ∧ Only g w w' :=
  (iget_none g xs w h hb hl hno).mono fun _ _ ⟨h1, h2, _⟩ => ⟨h1, h2⟩
end Go.Proofs.YtngjnkkdhjholaaGreat
