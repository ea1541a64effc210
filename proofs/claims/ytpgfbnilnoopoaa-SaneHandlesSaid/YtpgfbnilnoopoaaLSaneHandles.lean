/-
  The law SaneHandles holds: no local but an argument is a handle, a host takes and answers numbers and handles alone; the law's function returns true and turns nothing that was there.
  Conditions: none.
-/
import Derived.Test.YtpgfbnilnoopoaaQ01
import Derived.Test.YtpgfbnilnoopoaaQ04
import Derived.Test.YtpgfbnilnoopoaaQ16
namespace Go.Proofs.Ytpgfbnilnoopoaa.saneHandles
open Go.ChangeShapes Go.WideShapes Go.ChangeAt Go.RowKit
set_option linter.unusedVariables false
set_option linter.unusedSimpArgs false

set_option maxRecDepth 100000 in
set_option maxHeartbeats 4000000 in
theorem walk0 (k n t : Int) (w : World) (hk : I64 k) (hn : I64 n) (ht : 0 ≤ t ∧ t ≤ 255) (hc : t % 4 = 0) :
    Calls Try.prog 5 #[.agg #[.int .i64 k, .int .i64 n], .int .u8 t] w fun e w' => e = .returned (.bool true) ∧ Below w.heap.size w w' := by
  have AN := Lib.hid (fun w => answers7 w)
  have HK := Lib.hid (And.intro hk hn)
  clear hk hn
  go_enter Try.func5, Try.ntmps5
  go_wp2_with fail
  refine calls_world fun W hW => ?_
  have b0 : Blk W (w.heap.size) 34 #[.int .i64 k, .int .i64 n] := by rw [hW]; repeat (first | (refine blk_at ?_; simp; done) | refine blk_keep ?_)
  have b1 : Blk W (w.heap.size + 1) 34 #[.int .i64 1, .int .i64 0] := by rw [hW]; repeat (first | (refine blk_at ?_; simp; done) | refine blk_keep ?_)
  have b2 : Blk W (w.heap.size + 2) 35 #[.slice none 0 0] := by rw [hW]; repeat (first | (refine blk_at ?_; simp; done) | refine blk_keep ?_)
  have b3 : Blk W (w.heap.size + 3) 44 #[.int .i64 26, .int .i64 0, .int .i64 0] := by rw [hW]; repeat (first | (refine blk_at ?_; simp; done) | refine blk_keep ?_)
  have b4 : Blk W (w.heap.size + 4) 44 #[.int .i64 26, .int .i64 0, .int .i64 0] := by rw [hW]; repeat (first | (refine blk_at ?_; simp; done) | refine blk_keep ?_)
  have b5 : Blk W (w.heap.size + 5) 38 #[.slice none 0 0, .int .i64 1, .int .i64 0, .slice none 0 0, .slice (some ⟨w.heap.size + 3, 0, none⟩) 1 1, .slice none 0 0, .int .i64 1, .int .i64 0, .slice none 0 0, .slice (some ⟨w.heap.size + 4, 0, none⟩) 1 1] := by rw [hW]; repeat (first | (refine blk_at ?_; simp; done) | refine blk_keep ?_)
  have b6 : Blk W (w.heap.size + 6) 28 #[.slice (some ⟨w.heap.size + 2, 0, none⟩) 1 1, .slice (some ⟨w.heap.size + 5, 0, none⟩) 2 2, .slice none 0 0, .slice none 0 0, .slice none 0 0] := by rw [hW]; repeat (first | (refine blk_at ?_; simp; done) | refine blk_keep ?_)
  have HB0 : Hid (Below w.heap.size w W) := by show Below _ _ _; rw [hW]; exact (((((((Below.refl _ _).alloc (Nat.le_refl _) _).alloc (by simp) _).alloc (by simp; omega) _).alloc (by simp; omega) _).alloc (by simp; omega) _).alloc (by simp; omega) _).alloc (by simp; omega) _
  clear hW
  refine (rgood k n 1 W).mono ?_
  rintro e V ⟨rfl, hb1⟩
  have HB1 := Lib.hid (HB0.out.trans (hb1.mono HB0.out.size))
  replace b0 := blk_below b0 hb1 b0.lt
  replace b1 := blk_below b1 hb1 b1.lt
  replace b2 := blk_below b2 hb1 b2.lt
  replace b3 := blk_below b3 hb1 b3.lt
  replace b4 := blk_below b4 hb1 b4.lt
  replace b5 := blk_below b5 hb1 b5.lt
  replace b6 := blk_below b6 hb1 b6.lt
  clear hb1
  cases hg : goodB k n 1
  · clear b0 b1 b2 b3 b4 b5 b6 hg
    go_wp2_with (first | (go_at_call 8; refine (AN.out _).mono ?_; rintro e w2 ⟨rfl, hb2⟩; have HB2 := Lib.hid (HB1.out.trans (hb2.mono HB1.out.size)); clear hb2))
    go_ret
    exact ⟨rfl, HB2.out⟩
  have HC := Lib.hid (hm_check 0 (k, n) hg)
  have HM := Lib.hid (hm_main 0 (k, n) hg)
  clear hg
  have y0 : V.cell? ⟨w.heap.size, 0, none⟩ = some (.int .i64 k) := b0.cell 0
  have y1 : V.cell? ⟨w.heap.size, 1, none⟩ = some (.int .i64 n) := b0.cell 1
  have q0 : V.cell? ⟨w.heap.size + 1, 0, none⟩ = some (.int .i64 1) := b1.cell 0
  have q1 : V.cell? ⟨w.heap.size + 1, 1, none⟩ = some (.int .i64 0) := b1.cell 1
  have x1 : V.cell? ⟨w.heap.size + 1 + 1 + 1 + 1 + 1 + 1, 1, none⟩ = some (.slice (some ⟨w.heap.size + 5, 0, none⟩) 2 2) := b6.cell 1
  have s0 : ∀ o : Obj, (V.alloc o).cell? ⟨w.heap.size + 5, 5, none⟩ = some (.slice none 0 0) := fun o => (blk_keep (o := o) b5).cell 5
  have s1 : ∀ o : Obj, (V.alloc o).frozen? ⟨w.heap.size + 5, 5, none⟩ = false := fun o => (blk_keep (o := o) b5).frozen 5
  have s2 : ∀ (o : Obj) (u : Value), ((V.alloc o).setCell ⟨w.heap.size + 5, 5, none⟩ u).cell? ⟨w.heap.size, 0, none⟩ = some (.int .i64 k) := fun o u => (blk_other (blk_keep (o := o) b0) (by omega)).cell 0
  have hV : w.heap.size + 6 < V.heap.size := b6.lt
  have HW : Hid (hwant 0 (k, n) = 0) := rfl
  generalize hwant 0 (k, n) = want at *
  have H3 : Hid (((k == 1) = true ∧ (k == 5) = false ∧ want = 0) ∨ ((k == 1) = false ∧ (k == 5) = true ∧ want = 0) ∨ ((k == 1) = false ∧ (k == 5) = false ∧ want = 0)) := by
    show _ ∨ _
    rw [HW.out]
    by_cases k1 : k = 1
    · rw [k1]; simp
    · by_cases k5 : k = 5
      · rw [k5]; simp
      · simp [k1, k5]
  rcases H3.out with ⟨r1, r5, EW⟩ | ⟨r1, r5, EW⟩ | ⟨r1, r5, EW⟩
  all_goals
    rw [EW] at HC HM
    clear HW EW H3
    go_wp2_with fail
    refine calls_world fun W3 hW3 => ?_
    have bn : Blk W3 V.heap.size 34 #[.int .i64 k, .int .i64 n] := by rw [hW3]; exact blk_other (blk_at rfl) (by omega)
    have d2 : Blk W3 (w.heap.size + 2) 35 #[.slice none 0 0] := by rw [hW3]; exact blk_other (blk_keep b2) (by omega)
    have d3 : Blk W3 (w.heap.size + 3) 44 #[.int .i64 26, .int .i64 0, .int .i64 0] := by rw [hW3]; exact blk_other (blk_keep b3) (by omega)
    have d4 : Blk W3 (w.heap.size + 4) 44 #[.int .i64 26, .int .i64 0, .int .i64 0] := by rw [hW3]; exact blk_other (blk_keep b4) (by omega)
    have d6 : Blk W3 (w.heap.size + 6) 28 #[.slice (some ⟨w.heap.size + 2, 0, none⟩) 1 1, .slice (some ⟨w.heap.size + 5, 0, none⟩) 2 2, .slice none 0 0, .slice none 0 0, .slice none 0 0] := by rw [hW3]; exact blk_other (blk_keep b6) (by omega)
    have d5 : Blk W3 (w.heap.size + 5) 38 #[.slice none 0 0, .int .i64 1, .int .i64 0, .slice none 0 0, .slice (some ⟨w.heap.size + 3, 0, none⟩) 1 1, .slice (some ⟨V.heap.size, 0, none⟩) 1 1, .int .i64 1, .int .i64 0, .slice none 0 0, .slice (some ⟨w.heap.size + 4, 0, none⟩) 1 1] := by rw [hW3]; exact (blk_keep b5).set 5 _
    have HB3 : Hid (Below w.heap.size w W3) := by show Below _ _ _; rw [hW3]; exact (HB1.out.alloc HB1.out.size _).setCell (by simp) _
    have HS : Hid (modL.R (· < W3.heap.size) W3 [.slice (some ⟨w.heap.size + 2, 0, none⟩) 1 1, .slice (some ⟨w.heap.size + 5, 0, none⟩) 2 2, .slice none 0 0, .slice none 0 0, .slice none 0 0] (hm 0 (k, n))) :=
      ⟨_, _, _, _, _, rfl, one_sl (x := ([] : List Typ)) d2 d2.lt (nil_sl _ _ _), two_sl (c0 := [.slice none 0 0, .int .i64 1, .int .i64 0, .slice none 0 0, .slice (some ⟨w.heap.size + 3, 0, none⟩) 1 1]) (c1 := [.slice (some ⟨V.heap.size, 0, none⟩) 1 1, .int .i64 1, .int .i64 0, .slice none 0 0, .slice (some ⟨w.heap.size + 4, 0, none⟩) 1 1]) d5 d5.lt rfl ⟨_, _, _, rfl, by unfold I64; simp [fn0], by unfold I64; simp [fn0], nil_sl _ _ _, nil_sl _ _ _, one_sl (x := (26, 0, 0)) d3 d3.lt ⟨rfl, by unfold I64; simp, by unfold I64; simp, by unfold I64; simp⟩⟩ ⟨_, _, _, rfl, by unfold I64; simp [fn0], by unfold I64; simp [fn0], one_sl (x := (k, n)) bn bn.lt ⟨rfl, HK.out.1, HK.out.2⟩, nil_sl _ _ _, one_sl (x := (26, 0, 0)) d4 d4.lt ⟨rfl, by unfold I64; simp, by unfold I64; simp, by unfold I64; simp⟩⟩, nil_sl _ _ _, nil_sl _ _ _, nil_sl _ _ _⟩
    have cm := d6
    clear hW3 d2 d3 d4 d5 d6 bn b0 b1 b2 b3 b4 b5 b6 y0 y1 q0 q1 x1 s0 s1 s2 
    refine (AN.out W3).mono ?_
    rintro e w4 ⟨rfl, hb4⟩
    have HB4 := Lib.hid (HB3.out.trans (hb4.mono HB3.out.size))
    have HS4 := Lib.hid (mod_at HS.out hb4)
    replace cm := blk_below cm hb4 cm.lt
    have x0 : w4.cell? ⟨w.heap.size + 1 + 1 + 1 + 1 + 1 + 1, 0, none⟩ = some (.slice (some ⟨w.heap.size + 2, 0, none⟩) 1 1) := cm.cell 0
    have x1 : w4.cell? ⟨w.heap.size + 1 + 1 + 1 + 1 + 1 + 1, 1, none⟩ = some (.slice (some ⟨w.heap.size + 5, 0, none⟩) 2 2) := cm.cell 1
    have x2 : w4.cell? ⟨w.heap.size + 1 + 1 + 1 + 1 + 1 + 1, 2, none⟩ = some (.slice none 0 0) := cm.cell 2
    have x3 : w4.cell? ⟨w.heap.size + 1 + 1 + 1 + 1 + 1 + 1, 3, none⟩ = some (.slice none 0 0) := cm.cell 3
    have x4 : w4.cell? ⟨w.heap.size + 1 + 1 + 1 + 1 + 1 + 1, 4, none⟩ = some (.slice none 0 0) := cm.cell 4
    clear hb4
    go_wp2_with fail
    refine (check_any _ (hm 0 (k, n)) w4 HS4.out).mono ?_
    rintro e w5 ⟨he, hb5⟩
    rw [HC.out] at he
    subst he
    have HB5 := Lib.hid (HB4.out.trans (hb5.mono HB4.out.size))
    have HS5 := Lib.hid (mod_at HS4.out hb5)
    replace cm := blk_below cm hb5 cm.lt
    clear hb5 x0 x1 x2 x3 x4
    have x0 : w5.cell? ⟨w.heap.size + 1 + 1 + 1 + 1 + 1 + 1, 0, none⟩ = some (.slice (some ⟨w.heap.size + 2, 0, none⟩) 1 1) := cm.cell 0
    have x1 : w5.cell? ⟨w.heap.size + 1 + 1 + 1 + 1 + 1 + 1, 1, none⟩ = some (.slice (some ⟨w.heap.size + 5, 0, none⟩) 2 2) := cm.cell 1
    have x2 : w5.cell? ⟨w.heap.size + 1 + 1 + 1 + 1 + 1 + 1, 2, none⟩ = some (.slice none 0 0) := cm.cell 2
    have x3 : w5.cell? ⟨w.heap.size + 1 + 1 + 1 + 1 + 1 + 1, 3, none⟩ = some (.slice none 0 0) := cm.cell 3
    have x4 : w5.cell? ⟨w.heap.size + 1 + 1 + 1 + 1 + 1 + 1, 4, none⟩ = some (.slice none 0 0) := cm.cell 4
    go_wp2_with fail
    refine (main_any _ (hm 0 (k, n)) w5 HS5.out).mono ?_
    rintro e w6 ⟨he, hb6⟩
    rw [HM.out] at he
    subst he
    have HB6 := Lib.hid (HB5.out.trans (hb6.mono HB5.out.size))
    clear hb6
    go_wp2_with fail
    go_ret
    exact ⟨rfl, HB6.out⟩

set_option maxRecDepth 100000 in
set_option maxHeartbeats 4000000 in
theorem walk1 (k n t : Int) (w : World) (hk : I64 k) (hn : I64 n) (ht : 0 ≤ t ∧ t ≤ 255) (hc : t % 4 = 1) :
    Calls Try.prog 5 #[.agg #[.int .i64 k, .int .i64 n], .int .u8 t] w fun e w' => e = .returned (.bool true) ∧ Below w.heap.size w w' := by
  have AN := Lib.hid (fun w => answers7 w)
  have HK := Lib.hid (And.intro hk hn)
  clear hk hn
  go_enter Try.func5, Try.ntmps5
  go_wp2_with fail
  refine calls_world fun W hW => ?_
  have b0 : Blk W (w.heap.size) 34 #[.int .i64 k, .int .i64 n] := by rw [hW]; repeat (first | (refine blk_at ?_; simp; done) | refine blk_keep ?_)
  have b1 : Blk W (w.heap.size + 1) 34 #[.int .i64 1, .int .i64 0] := by rw [hW]; repeat (first | (refine blk_at ?_; simp; done) | refine blk_keep ?_)
  have b2 : Blk W (w.heap.size + 2) 35 #[.slice none 0 0] := by rw [hW]; repeat (first | (refine blk_at ?_; simp; done) | refine blk_keep ?_)
  have b3 : Blk W (w.heap.size + 3) 44 #[.int .i64 26, .int .i64 0, .int .i64 0] := by rw [hW]; repeat (first | (refine blk_at ?_; simp; done) | refine blk_keep ?_)
  have b4 : Blk W (w.heap.size + 4) 44 #[.int .i64 26, .int .i64 0, .int .i64 0] := by rw [hW]; repeat (first | (refine blk_at ?_; simp; done) | refine blk_keep ?_)
  have b5 : Blk W (w.heap.size + 5) 38 #[.slice none 0 0, .int .i64 1, .int .i64 0, .slice none 0 0, .slice (some ⟨w.heap.size + 3, 0, none⟩) 1 1, .slice none 0 0, .int .i64 1, .int .i64 0, .slice none 0 0, .slice (some ⟨w.heap.size + 4, 0, none⟩) 1 1] := by rw [hW]; repeat (first | (refine blk_at ?_; simp; done) | refine blk_keep ?_)
  have b6 : Blk W (w.heap.size + 6) 28 #[.slice (some ⟨w.heap.size + 2, 0, none⟩) 1 1, .slice (some ⟨w.heap.size + 5, 0, none⟩) 2 2, .slice none 0 0, .slice none 0 0, .slice none 0 0] := by rw [hW]; repeat (first | (refine blk_at ?_; simp; done) | refine blk_keep ?_)
  have HB0 : Hid (Below w.heap.size w W) := by show Below _ _ _; rw [hW]; exact (((((((Below.refl _ _).alloc (Nat.le_refl _) _).alloc (by simp) _).alloc (by simp; omega) _).alloc (by simp; omega) _).alloc (by simp; omega) _).alloc (by simp; omega) _).alloc (by simp; omega) _
  clear hW
  refine (rgood k n 1 W).mono ?_
  rintro e V ⟨rfl, hb1⟩
  have HB1 := Lib.hid (HB0.out.trans (hb1.mono HB0.out.size))
  replace b0 := blk_below b0 hb1 b0.lt
  replace b1 := blk_below b1 hb1 b1.lt
  replace b2 := blk_below b2 hb1 b2.lt
  replace b3 := blk_below b3 hb1 b3.lt
  replace b4 := blk_below b4 hb1 b4.lt
  replace b5 := blk_below b5 hb1 b5.lt
  replace b6 := blk_below b6 hb1 b6.lt
  clear hb1
  cases hg : goodB k n 1
  · clear b0 b1 b2 b3 b4 b5 b6 hg
    go_wp2_with (first | (go_at_call 8; refine (AN.out _).mono ?_; rintro e w2 ⟨rfl, hb2⟩; have HB2 := Lib.hid (HB1.out.trans (hb2.mono HB1.out.size)); clear hb2))
    go_ret
    exact ⟨rfl, HB2.out⟩
  have HC := Lib.hid (hm_check 1 (k, n) hg)
  have HM := Lib.hid (hm_main 1 (k, n) hg)
  clear hg
  have y0 : V.cell? ⟨w.heap.size, 0, none⟩ = some (.int .i64 k) := b0.cell 0
  have y1 : V.cell? ⟨w.heap.size, 1, none⟩ = some (.int .i64 n) := b0.cell 1
  have q0 : V.cell? ⟨w.heap.size + 1, 0, none⟩ = some (.int .i64 1) := b1.cell 0
  have q1 : V.cell? ⟨w.heap.size + 1, 1, none⟩ = some (.int .i64 0) := b1.cell 1
  have x1 : V.cell? ⟨w.heap.size + 1 + 1 + 1 + 1 + 1 + 1, 1, none⟩ = some (.slice (some ⟨w.heap.size + 5, 0, none⟩) 2 2) := b6.cell 1
  have s0 : ∀ o : Obj, (V.alloc o).cell? ⟨w.heap.size + 5, 8, none⟩ = some (.slice none 0 0) := fun o => (blk_keep (o := o) b5).cell 8
  have s1 : ∀ o : Obj, (V.alloc o).frozen? ⟨w.heap.size + 5, 8, none⟩ = false := fun o => (blk_keep (o := o) b5).frozen 8
  have s2 : ∀ (o : Obj) (u : Value), ((V.alloc o).setCell ⟨w.heap.size + 5, 8, none⟩ u).cell? ⟨w.heap.size, 0, none⟩ = some (.int .i64 k) := fun o u => (blk_other (blk_keep (o := o) b0) (by omega)).cell 0
  have hV : w.heap.size + 6 < V.heap.size := b6.lt
  have HW : Hid (hwant 1 (k, n) = if k = 5 then 1 else 0) := rfl
  generalize hwant 1 (k, n) = want at *
  have H3 : Hid (((k == 1) = true ∧ (k == 5) = false ∧ want = 0) ∨ ((k == 1) = false ∧ (k == 5) = true ∧ want = 1) ∨ ((k == 1) = false ∧ (k == 5) = false ∧ want = 0)) := by
    show _ ∨ _
    rw [HW.out]
    by_cases k1 : k = 1
    · rw [k1]; simp
    · by_cases k5 : k = 5
      · rw [k5]; simp
      · simp [k1, k5]
  rcases H3.out with ⟨r1, r5, EW⟩ | ⟨r1, r5, EW⟩ | ⟨r1, r5, EW⟩
  all_goals
    rw [EW] at HC HM
    clear HW EW H3
    go_wp2_with fail
    refine calls_world fun W3 hW3 => ?_
    have bn : Blk W3 V.heap.size 34 #[.int .i64 k, .int .i64 n] := by rw [hW3]; exact blk_other (blk_at rfl) (by omega)
    have d2 : Blk W3 (w.heap.size + 2) 35 #[.slice none 0 0] := by rw [hW3]; exact blk_other (blk_keep b2) (by omega)
    have d3 : Blk W3 (w.heap.size + 3) 44 #[.int .i64 26, .int .i64 0, .int .i64 0] := by rw [hW3]; exact blk_other (blk_keep b3) (by omega)
    have d4 : Blk W3 (w.heap.size + 4) 44 #[.int .i64 26, .int .i64 0, .int .i64 0] := by rw [hW3]; exact blk_other (blk_keep b4) (by omega)
    have d6 : Blk W3 (w.heap.size + 6) 28 #[.slice (some ⟨w.heap.size + 2, 0, none⟩) 1 1, .slice (some ⟨w.heap.size + 5, 0, none⟩) 2 2, .slice none 0 0, .slice none 0 0, .slice none 0 0] := by rw [hW3]; exact blk_other (blk_keep b6) (by omega)
    have d5 : Blk W3 (w.heap.size + 5) 38 #[.slice none 0 0, .int .i64 1, .int .i64 0, .slice none 0 0, .slice (some ⟨w.heap.size + 3, 0, none⟩) 1 1, .slice none 0 0, .int .i64 1, .int .i64 0, .slice (some ⟨V.heap.size, 0, none⟩) 1 1, .slice (some ⟨w.heap.size + 4, 0, none⟩) 1 1] := by rw [hW3]; exact (blk_keep b5).set 8 _
    have HB3 : Hid (Below w.heap.size w W3) := by show Below _ _ _; rw [hW3]; exact (HB1.out.alloc HB1.out.size _).setCell (by simp) _
    have HS : Hid (modL.R (· < W3.heap.size) W3 [.slice (some ⟨w.heap.size + 2, 0, none⟩) 1 1, .slice (some ⟨w.heap.size + 5, 0, none⟩) 2 2, .slice none 0 0, .slice none 0 0, .slice none 0 0] (hm 1 (k, n))) :=
      ⟨_, _, _, _, _, rfl, one_sl (x := ([] : List Typ)) d2 d2.lt (nil_sl _ _ _), two_sl (c0 := [.slice none 0 0, .int .i64 1, .int .i64 0, .slice none 0 0, .slice (some ⟨w.heap.size + 3, 0, none⟩) 1 1]) (c1 := [.slice none 0 0, .int .i64 1, .int .i64 0, .slice (some ⟨V.heap.size, 0, none⟩) 1 1, .slice (some ⟨w.heap.size + 4, 0, none⟩) 1 1]) d5 d5.lt rfl ⟨_, _, _, rfl, by unfold I64; simp [fn0], by unfold I64; simp [fn0], nil_sl _ _ _, nil_sl _ _ _, one_sl (x := (26, 0, 0)) d3 d3.lt ⟨rfl, by unfold I64; simp, by unfold I64; simp, by unfold I64; simp⟩⟩ ⟨_, _, _, rfl, by unfold I64; simp [fn0], by unfold I64; simp [fn0], nil_sl _ _ _, one_sl (x := (k, n)) bn bn.lt ⟨rfl, HK.out.1, HK.out.2⟩, one_sl (x := (26, 0, 0)) d4 d4.lt ⟨rfl, by unfold I64; simp, by unfold I64; simp, by unfold I64; simp⟩⟩, nil_sl _ _ _, nil_sl _ _ _, nil_sl _ _ _⟩
    have cm := d6
    clear hW3 d2 d3 d4 d5 d6 bn b0 b1 b2 b3 b4 b5 b6 y0 y1 q0 q1 x1 s0 s1 s2 
    refine (AN.out W3).mono ?_
    rintro e w4 ⟨rfl, hb4⟩
    have HB4 := Lib.hid (HB3.out.trans (hb4.mono HB3.out.size))
    have HS4 := Lib.hid (mod_at HS.out hb4)
    replace cm := blk_below cm hb4 cm.lt
    have x0 : w4.cell? ⟨w.heap.size + 1 + 1 + 1 + 1 + 1 + 1, 0, none⟩ = some (.slice (some ⟨w.heap.size + 2, 0, none⟩) 1 1) := cm.cell 0
    have x1 : w4.cell? ⟨w.heap.size + 1 + 1 + 1 + 1 + 1 + 1, 1, none⟩ = some (.slice (some ⟨w.heap.size + 5, 0, none⟩) 2 2) := cm.cell 1
    have x2 : w4.cell? ⟨w.heap.size + 1 + 1 + 1 + 1 + 1 + 1, 2, none⟩ = some (.slice none 0 0) := cm.cell 2
    have x3 : w4.cell? ⟨w.heap.size + 1 + 1 + 1 + 1 + 1 + 1, 3, none⟩ = some (.slice none 0 0) := cm.cell 3
    have x4 : w4.cell? ⟨w.heap.size + 1 + 1 + 1 + 1 + 1 + 1, 4, none⟩ = some (.slice none 0 0) := cm.cell 4
    clear hb4
    go_wp2_with fail
    refine (check_any _ (hm 1 (k, n)) w4 HS4.out).mono ?_
    rintro e w5 ⟨he, hb5⟩
    rw [HC.out] at he
    subst he
    have HB5 := Lib.hid (HB4.out.trans (hb5.mono HB4.out.size))
    have HS5 := Lib.hid (mod_at HS4.out hb5)
    replace cm := blk_below cm hb5 cm.lt
    clear hb5 x0 x1 x2 x3 x4
    have x0 : w5.cell? ⟨w.heap.size + 1 + 1 + 1 + 1 + 1 + 1, 0, none⟩ = some (.slice (some ⟨w.heap.size + 2, 0, none⟩) 1 1) := cm.cell 0
    have x1 : w5.cell? ⟨w.heap.size + 1 + 1 + 1 + 1 + 1 + 1, 1, none⟩ = some (.slice (some ⟨w.heap.size + 5, 0, none⟩) 2 2) := cm.cell 1
    have x2 : w5.cell? ⟨w.heap.size + 1 + 1 + 1 + 1 + 1 + 1, 2, none⟩ = some (.slice none 0 0) := cm.cell 2
    have x3 : w5.cell? ⟨w.heap.size + 1 + 1 + 1 + 1 + 1 + 1, 3, none⟩ = some (.slice none 0 0) := cm.cell 3
    have x4 : w5.cell? ⟨w.heap.size + 1 + 1 + 1 + 1 + 1 + 1, 4, none⟩ = some (.slice none 0 0) := cm.cell 4
    go_wp2_with fail
    refine (main_any _ (hm 1 (k, n)) w5 HS5.out).mono ?_
    rintro e w6 ⟨he, hb6⟩
    rw [HM.out] at he
    subst he
    have HB6 := Lib.hid (HB5.out.trans (hb6.mono HB5.out.size))
    clear hb6
    go_wp2_with fail
    go_ret
    exact ⟨rfl, HB6.out⟩

set_option maxRecDepth 100000 in
set_option maxHeartbeats 4000000 in
theorem walk2 (k n t : Int) (w : World) (hk : I64 k) (hn : I64 n) (ht : 0 ≤ t ∧ t ≤ 255) (hc : t % 4 = 2) :
    Calls Try.prog 5 #[.agg #[.int .i64 k, .int .i64 n], .int .u8 t] w fun e w' => e = .returned (.bool true) ∧ Below w.heap.size w w' := by
  have AN := Lib.hid (fun w => answers7 w)
  have HK := Lib.hid (And.intro hk hn)
  clear hk hn
  go_enter Try.func5, Try.ntmps5
  go_wp2_with fail
  refine calls_world fun W hW => ?_
  have b0 : Blk W (w.heap.size) 34 #[.int .i64 k, .int .i64 n] := by rw [hW]; repeat (first | (refine blk_at ?_; simp; done) | refine blk_keep ?_)
  have b1 : Blk W (w.heap.size + 1) 34 #[.int .i64 1, .int .i64 0] := by rw [hW]; repeat (first | (refine blk_at ?_; simp; done) | refine blk_keep ?_)
  have b2 : Blk W (w.heap.size + 2) 35 #[.slice none 0 0] := by rw [hW]; repeat (first | (refine blk_at ?_; simp; done) | refine blk_keep ?_)
  have b3 : Blk W (w.heap.size + 3) 44 #[.int .i64 26, .int .i64 0, .int .i64 0] := by rw [hW]; repeat (first | (refine blk_at ?_; simp; done) | refine blk_keep ?_)
  have b4 : Blk W (w.heap.size + 4) 44 #[.int .i64 26, .int .i64 0, .int .i64 0] := by rw [hW]; repeat (first | (refine blk_at ?_; simp; done) | refine blk_keep ?_)
  have b5 : Blk W (w.heap.size + 5) 38 #[.slice none 0 0, .int .i64 1, .int .i64 0, .slice none 0 0, .slice (some ⟨w.heap.size + 3, 0, none⟩) 1 1, .slice none 0 0, .int .i64 1, .int .i64 0, .slice none 0 0, .slice (some ⟨w.heap.size + 4, 0, none⟩) 1 1] := by rw [hW]; repeat (first | (refine blk_at ?_; simp; done) | refine blk_keep ?_)
  have b6 : Blk W (w.heap.size + 6) 28 #[.slice (some ⟨w.heap.size + 2, 0, none⟩) 1 1, .slice (some ⟨w.heap.size + 5, 0, none⟩) 2 2, .slice none 0 0, .slice none 0 0, .slice none 0 0] := by rw [hW]; repeat (first | (refine blk_at ?_; simp; done) | refine blk_keep ?_)
  have HB0 : Hid (Below w.heap.size w W) := by show Below _ _ _; rw [hW]; exact (((((((Below.refl _ _).alloc (Nat.le_refl _) _).alloc (by simp) _).alloc (by simp; omega) _).alloc (by simp; omega) _).alloc (by simp; omega) _).alloc (by simp; omega) _).alloc (by simp; omega) _
  clear hW
  refine (rgood k n 1 W).mono ?_
  rintro e V ⟨rfl, hb1⟩
  have HB1 := Lib.hid (HB0.out.trans (hb1.mono HB0.out.size))
  replace b0 := blk_below b0 hb1 b0.lt
  replace b1 := blk_below b1 hb1 b1.lt
  replace b2 := blk_below b2 hb1 b2.lt
  replace b3 := blk_below b3 hb1 b3.lt
  replace b4 := blk_below b4 hb1 b4.lt
  replace b5 := blk_below b5 hb1 b5.lt
  replace b6 := blk_below b6 hb1 b6.lt
  clear hb1
  cases hg : goodB k n 1
  · clear b0 b1 b2 b3 b4 b5 b6 hg
    go_wp2_with (first | (go_at_call 8; refine (AN.out _).mono ?_; rintro e w2 ⟨rfl, hb2⟩; have HB2 := Lib.hid (HB1.out.trans (hb2.mono HB1.out.size)); clear hb2))
    go_ret
    exact ⟨rfl, HB2.out⟩
  have HC := Lib.hid (hm_check 2 (k, n) hg)
  have HM := Lib.hid (hm_main 2 (k, n) hg)
  clear hg
  have y0 : V.cell? ⟨w.heap.size, 0, none⟩ = some (.int .i64 k) := b0.cell 0
  have y1 : V.cell? ⟨w.heap.size, 1, none⟩ = some (.int .i64 n) := b0.cell 1
  have q0 : V.cell? ⟨w.heap.size + 1, 0, none⟩ = some (.int .i64 1) := b1.cell 0
  have q1 : V.cell? ⟨w.heap.size + 1, 1, none⟩ = some (.int .i64 0) := b1.cell 1
  have x1 : V.cell? ⟨w.heap.size + 1 + 1 + 1 + 1 + 1 + 1, 1, none⟩ = some (.slice (some ⟨w.heap.size + 5, 0, none⟩) 2 2) := b6.cell 1
  have s0 : ∀ o p : Obj, ((V.alloc o).alloc p).cell? ⟨w.heap.size + 1 + 1 + 1 + 1 + 1 + 1, 2, none⟩ = some (.slice none 0 0) := fun o p => (blk_keep (o := p) (blk_keep (o := o) b6)).cell 2
  have s1 : ∀ o p : Obj, ((V.alloc o).alloc p).frozen? ⟨w.heap.size + 1 + 1 + 1 + 1 + 1 + 1, 2, none⟩ = false := fun o p => (blk_keep (o := p) (blk_keep (o := o) b6)).frozen 2
  have q0a : ∀ o : Obj, (V.alloc o).cell? ⟨w.heap.size + 1, 0, none⟩ = some (.int .i64 1) := fun o => (blk_keep (o := o) b1).cell 0
  have q1a : ∀ o : Obj, (V.alloc o).cell? ⟨w.heap.size + 1, 1, none⟩ = some (.int .i64 0) := fun o => (blk_keep (o := o) b1).cell 1
  have hV : w.heap.size + 6 < V.heap.size := b6.lt
  have HW : Hid (hwant 2 (k, n) = if k = 1 ∨ k = 5 then 0 else 1) := rfl
  generalize hwant 2 (k, n) = want at *
  have H3 : Hid (((k == 1) = true ∧ (k == 5) = false ∧ want = 0) ∨ ((k == 1) = false ∧ (k == 5) = true ∧ want = 0) ∨ ((k == 1) = false ∧ (k == 5) = false ∧ want = 1)) := by
    show _ ∨ _
    rw [HW.out]
    by_cases k1 : k = 1
    · rw [k1]; simp
    · by_cases k5 : k = 5
      · rw [k5]; simp
      · simp [k1, k5]
  rcases H3.out with ⟨r1, r5, EW⟩ | ⟨r1, r5, EW⟩ | ⟨r1, r5, EW⟩
  all_goals
    rw [EW] at HC HM
    clear HW EW H3
    go_wp2_with fail
    refine calls_world fun W3 hW3 => ?_
    have bn : Blk W3 V.heap.size 34 #[.int .i64 k, .int .i64 n] := by rw [hW3]; exact blk_other (blk_keep (blk_at rfl)) (by omega)
    have bi : Blk W3 (V.heap.size + 1) 42 #[.slice (some ⟨V.heap.size, 0, none⟩) 1 1, .int .i64 1, .int .i64 0] := by rw [hW3]; exact blk_other (blk_at (by simp)) (by omega)
    have d2 : Blk W3 (w.heap.size + 2) 35 #[.slice none 0 0] := by rw [hW3]; exact blk_other (blk_keep (blk_keep b2)) (by omega)
    have d3 : Blk W3 (w.heap.size + 3) 44 #[.int .i64 26, .int .i64 0, .int .i64 0] := by rw [hW3]; exact blk_other (blk_keep (blk_keep b3)) (by omega)
    have d4 : Blk W3 (w.heap.size + 4) 44 #[.int .i64 26, .int .i64 0, .int .i64 0] := by rw [hW3]; exact blk_other (blk_keep (blk_keep b4)) (by omega)
    have d5 : Blk W3 (w.heap.size + 5) 38 #[.slice none 0 0, .int .i64 1, .int .i64 0, .slice none 0 0, .slice (some ⟨w.heap.size + 3, 0, none⟩) 1 1, .slice none 0 0, .int .i64 1, .int .i64 0, .slice none 0 0, .slice (some ⟨w.heap.size + 4, 0, none⟩) 1 1] := by rw [hW3]; exact blk_other (blk_keep (blk_keep b5)) (by omega)
    have d6 : Blk W3 (w.heap.size + 6) 28 #[.slice (some ⟨w.heap.size + 2, 0, none⟩) 1 1, .slice (some ⟨w.heap.size + 5, 0, none⟩) 2 2, .slice (some ⟨V.heap.size + 1, 0, none⟩) 1 1, .slice none 0 0, .slice none 0 0] := by rw [hW3]; exact (blk_keep (blk_keep b6)).set 2 _
    have HB3 : Hid (Below w.heap.size w W3) := by show Below _ _ _; rw [hW3]; exact ((HB1.out.alloc HB1.out.size _).alloc (by simp; have := HB1.out.size; omega) _).setCell (by simp; omega) _
    have HS : Hid (modL.R (· < W3.heap.size) W3 [.slice (some ⟨w.heap.size + 2, 0, none⟩) 1 1, .slice (some ⟨w.heap.size + 5, 0, none⟩) 2 2, .slice (some ⟨V.heap.size + 1, 0, none⟩) 1 1, .slice none 0 0, .slice none 0 0] (hm 2 (k, n))) :=
      ⟨_, _, _, _, _, rfl, one_sl (x := ([] : List Typ)) d2 d2.lt (nil_sl _ _ _), two_sl (c0 := [.slice none 0 0, .int .i64 1, .int .i64 0, .slice none 0 0, .slice (some ⟨w.heap.size + 3, 0, none⟩) 1 1]) (c1 := [.slice none 0 0, .int .i64 1, .int .i64 0, .slice none 0 0, .slice (some ⟨w.heap.size + 4, 0, none⟩) 1 1]) d5 d5.lt rfl ⟨_, _, _, rfl, by unfold I64; simp [fn0], by unfold I64; simp [fn0], nil_sl _ _ _, nil_sl _ _ _, one_sl (x := (26, 0, 0)) d3 d3.lt ⟨rfl, by unfold I64; simp, by unfold I64; simp, by unfold I64; simp⟩⟩ ⟨_, _, _, rfl, by unfold I64; simp [fn0], by unfold I64; simp [fn0], nil_sl _ _ _, nil_sl _ _ _, one_sl (x := (26, 0, 0)) d4 d4.lt ⟨rfl, by unfold I64; simp, by unfold I64; simp, by unfold I64; simp⟩⟩, one_sl bi bi.lt ⟨_, rfl, by unfold I64; simp, by unfold I64; simp, one_sl (x := (k, n)) bn bn.lt ⟨rfl, HK.out.1, HK.out.2⟩⟩, nil_sl _ _ _, nil_sl _ _ _⟩
    have cm := d6
    clear hW3 d2 d3 d4 d5 d6 bn bi b0 b1 b2 b3 b4 b5 b6 y0 y1 q0 q1 x1 s0 s1 q0a q1a 
    refine (AN.out W3).mono ?_
    rintro e w4 ⟨rfl, hb4⟩
    have HB4 := Lib.hid (HB3.out.trans (hb4.mono HB3.out.size))
    have HS4 := Lib.hid (mod_at HS.out hb4)
    replace cm := blk_below cm hb4 cm.lt
    have x0 : w4.cell? ⟨w.heap.size + 1 + 1 + 1 + 1 + 1 + 1, 0, none⟩ = some (.slice (some ⟨w.heap.size + 2, 0, none⟩) 1 1) := cm.cell 0
    have x1 : w4.cell? ⟨w.heap.size + 1 + 1 + 1 + 1 + 1 + 1, 1, none⟩ = some (.slice (some ⟨w.heap.size + 5, 0, none⟩) 2 2) := cm.cell 1
    have x2 : w4.cell? ⟨w.heap.size + 1 + 1 + 1 + 1 + 1 + 1, 2, none⟩ = some (.slice (some ⟨V.heap.size + 1, 0, none⟩) 1 1) := cm.cell 2
    have x3 : w4.cell? ⟨w.heap.size + 1 + 1 + 1 + 1 + 1 + 1, 3, none⟩ = some (.slice none 0 0) := cm.cell 3
    have x4 : w4.cell? ⟨w.heap.size + 1 + 1 + 1 + 1 + 1 + 1, 4, none⟩ = some (.slice none 0 0) := cm.cell 4
    clear hb4
    go_wp2_with fail
    refine (check_any _ (hm 2 (k, n)) w4 HS4.out).mono ?_
    rintro e w5 ⟨he, hb5⟩
    rw [HC.out] at he
    subst he
    have HB5 := Lib.hid (HB4.out.trans (hb5.mono HB4.out.size))
    have HS5 := Lib.hid (mod_at HS4.out hb5)
    replace cm := blk_below cm hb5 cm.lt
    clear hb5 x0 x1 x2 x3 x4
    have x0 : w5.cell? ⟨w.heap.size + 1 + 1 + 1 + 1 + 1 + 1, 0, none⟩ = some (.slice (some ⟨w.heap.size + 2, 0, none⟩) 1 1) := cm.cell 0
    have x1 : w5.cell? ⟨w.heap.size + 1 + 1 + 1 + 1 + 1 + 1, 1, none⟩ = some (.slice (some ⟨w.heap.size + 5, 0, none⟩) 2 2) := cm.cell 1
    have x2 : w5.cell? ⟨w.heap.size + 1 + 1 + 1 + 1 + 1 + 1, 2, none⟩ = some (.slice (some ⟨V.heap.size + 1, 0, none⟩) 1 1) := cm.cell 2
    have x3 : w5.cell? ⟨w.heap.size + 1 + 1 + 1 + 1 + 1 + 1, 3, none⟩ = some (.slice none 0 0) := cm.cell 3
    have x4 : w5.cell? ⟨w.heap.size + 1 + 1 + 1 + 1 + 1 + 1, 4, none⟩ = some (.slice none 0 0) := cm.cell 4
    go_wp2_with fail
    refine (main_any _ (hm 2 (k, n)) w5 HS5.out).mono ?_
    rintro e w6 ⟨he, hb6⟩
    rw [HM.out] at he
    subst he
    have HB6 := Lib.hid (HB5.out.trans (hb6.mono HB5.out.size))
    clear hb6
    go_wp2_with fail
    go_ret
    exact ⟨rfl, HB6.out⟩

set_option maxRecDepth 100000 in
set_option maxHeartbeats 4000000 in
theorem walk3 (k n t : Int) (w : World) (hk : I64 k) (hn : I64 n) (ht : 0 ≤ t ∧ t ≤ 255) (hc : t % 4 = 3) :
    Calls Try.prog 5 #[.agg #[.int .i64 k, .int .i64 n], .int .u8 t] w fun e w' => e = .returned (.bool true) ∧ Below w.heap.size w w' := by
  have AN := Lib.hid (fun w => answers7 w)
  have HK := Lib.hid (And.intro hk hn)
  clear hk hn
  go_enter Try.func5, Try.ntmps5
  go_wp2_with fail
  refine calls_world fun W hW => ?_
  have b0 : Blk W (w.heap.size) 34 #[.int .i64 k, .int .i64 n] := by rw [hW]; repeat (first | (refine blk_at ?_; simp; done) | refine blk_keep ?_)
  have b1 : Blk W (w.heap.size + 1) 34 #[.int .i64 1, .int .i64 0] := by rw [hW]; repeat (first | (refine blk_at ?_; simp; done) | refine blk_keep ?_)
  have b2 : Blk W (w.heap.size + 2) 35 #[.slice none 0 0] := by rw [hW]; repeat (first | (refine blk_at ?_; simp; done) | refine blk_keep ?_)
  have b3 : Blk W (w.heap.size + 3) 44 #[.int .i64 26, .int .i64 0, .int .i64 0] := by rw [hW]; repeat (first | (refine blk_at ?_; simp; done) | refine blk_keep ?_)
  have b4 : Blk W (w.heap.size + 4) 44 #[.int .i64 26, .int .i64 0, .int .i64 0] := by rw [hW]; repeat (first | (refine blk_at ?_; simp; done) | refine blk_keep ?_)
  have b5 : Blk W (w.heap.size + 5) 38 #[.slice none 0 0, .int .i64 1, .int .i64 0, .slice none 0 0, .slice (some ⟨w.heap.size + 3, 0, none⟩) 1 1, .slice none 0 0, .int .i64 1, .int .i64 0, .slice none 0 0, .slice (some ⟨w.heap.size + 4, 0, none⟩) 1 1] := by rw [hW]; repeat (first | (refine blk_at ?_; simp; done) | refine blk_keep ?_)
  have b6 : Blk W (w.heap.size + 6) 28 #[.slice (some ⟨w.heap.size + 2, 0, none⟩) 1 1, .slice (some ⟨w.heap.size + 5, 0, none⟩) 2 2, .slice none 0 0, .slice none 0 0, .slice none 0 0] := by rw [hW]; repeat (first | (refine blk_at ?_; simp; done) | refine blk_keep ?_)
  have HB0 : Hid (Below w.heap.size w W) := by show Below _ _ _; rw [hW]; exact (((((((Below.refl _ _).alloc (Nat.le_refl _) _).alloc (by simp) _).alloc (by simp; omega) _).alloc (by simp; omega) _).alloc (by simp; omega) _).alloc (by simp; omega) _).alloc (by simp; omega) _
  clear hW
  refine (rgood k n 1 W).mono ?_
  rintro e V ⟨rfl, hb1⟩
  have HB1 := Lib.hid (HB0.out.trans (hb1.mono HB0.out.size))
  replace b0 := blk_below b0 hb1 b0.lt
  replace b1 := blk_below b1 hb1 b1.lt
  replace b2 := blk_below b2 hb1 b2.lt
  replace b3 := blk_below b3 hb1 b3.lt
  replace b4 := blk_below b4 hb1 b4.lt
  replace b5 := blk_below b5 hb1 b5.lt
  replace b6 := blk_below b6 hb1 b6.lt
  clear hb1
  cases hg : goodB k n 1
  · clear b0 b1 b2 b3 b4 b5 b6 hg
    go_wp2_with (first | (go_at_call 8; refine (AN.out _).mono ?_; rintro e w2 ⟨rfl, hb2⟩; have HB2 := Lib.hid (HB1.out.trans (hb2.mono HB1.out.size)); clear hb2))
    go_ret
    exact ⟨rfl, HB2.out⟩
  have HC := Lib.hid (hm_check 3 (k, n) hg)
  have HM := Lib.hid (hm_main 3 (k, n) hg)
  clear hg
  have y0 : V.cell? ⟨w.heap.size, 0, none⟩ = some (.int .i64 k) := b0.cell 0
  have y1 : V.cell? ⟨w.heap.size, 1, none⟩ = some (.int .i64 n) := b0.cell 1
  have q0 : V.cell? ⟨w.heap.size + 1, 0, none⟩ = some (.int .i64 1) := b1.cell 0
  have q1 : V.cell? ⟨w.heap.size + 1, 1, none⟩ = some (.int .i64 0) := b1.cell 1
  have x1 : V.cell? ⟨w.heap.size + 1 + 1 + 1 + 1 + 1 + 1, 1, none⟩ = some (.slice (some ⟨w.heap.size + 5, 0, none⟩) 2 2) := b6.cell 1
  have s0 : ∀ o : Obj, (V.alloc o).cell? ⟨w.heap.size + 1 + 1 + 1 + 1 + 1 + 1, 2, none⟩ = some (.slice none 0 0) := fun o => (blk_keep (o := o) b6).cell 2
  have s1 : ∀ o : Obj, (V.alloc o).frozen? ⟨w.heap.size + 1 + 1 + 1 + 1 + 1 + 1, 2, none⟩ = false := fun o => (blk_keep (o := o) b6).frozen 2
  have hV : w.heap.size + 6 < V.heap.size := b6.lt
  have HW : Hid (hwant 3 (k, n) = if k = 1 ∨ k = 5 then 0 else 1) := rfl
  generalize hwant 3 (k, n) = want at *
  have H3 : Hid (((k == 1) = true ∧ (k == 5) = false ∧ want = 0) ∨ ((k == 1) = false ∧ (k == 5) = true ∧ want = 0) ∨ ((k == 1) = false ∧ (k == 5) = false ∧ want = 1)) := by
    show _ ∨ _
    rw [HW.out]
    by_cases k1 : k = 1
    · rw [k1]; simp
    · by_cases k5 : k = 5
      · rw [k5]; simp
      · simp [k1, k5]
  rcases H3.out with ⟨r1, r5, EW⟩ | ⟨r1, r5, EW⟩ | ⟨r1, r5, EW⟩
  all_goals
    rw [EW] at HC HM
    clear HW EW H3
    go_wp2_with fail
    refine calls_world fun W3 hW3 => ?_
    have bi : Blk W3 V.heap.size 42 #[.slice none 0 0, .int .i64 k, .int .i64 n] := by rw [hW3]; exact blk_at (by simp)
    have d2 : Blk W3 (w.heap.size + 2) 35 #[.slice none 0 0] := by rw [hW3]; exact blk_keep (blk_other b2 (by omega))
    have d3 : Blk W3 (w.heap.size + 3) 44 #[.int .i64 26, .int .i64 0, .int .i64 0] := by rw [hW3]; exact blk_keep (blk_other b3 (by omega))
    have d4 : Blk W3 (w.heap.size + 4) 44 #[.int .i64 26, .int .i64 0, .int .i64 0] := by rw [hW3]; exact blk_keep (blk_other b4 (by omega))
    have d5 : Blk W3 (w.heap.size + 5) 38 #[.slice none 0 0, .int .i64 1, .int .i64 0, .slice none 0 0, .slice (some ⟨w.heap.size + 3, 0, none⟩) 1 1, .slice none 0 0, .int .i64 1, .int .i64 0, .slice none 0 0, .slice (some ⟨w.heap.size + 4, 0, none⟩) 1 1] := by rw [hW3]; exact blk_keep (blk_other b5 (by omega))
    have d6 : Blk W3 (w.heap.size + 6) 28 #[.slice (some ⟨w.heap.size + 2, 0, none⟩) 1 1, .slice (some ⟨w.heap.size + 5, 0, none⟩) 2 2, .slice (some ⟨V.heap.size, 0, none⟩) 1 1, .slice none 0 0, .slice none 0 0] := by rw [hW3]; exact blk_keep (b6.set 2 _)
    have HB3 : Hid (Below w.heap.size w W3) := by show Below _ _ _; rw [hW3]; exact (HB1.out.setCell (by simp; omega) _).alloc (by simp; have := HB1.out.size; omega) _
    have HS : Hid (modL.R (· < W3.heap.size) W3 [.slice (some ⟨w.heap.size + 2, 0, none⟩) 1 1, .slice (some ⟨w.heap.size + 5, 0, none⟩) 2 2, .slice (some ⟨V.heap.size, 0, none⟩) 1 1, .slice none 0 0, .slice none 0 0] (hm 3 (k, n))) :=
      ⟨_, _, _, _, _, rfl, one_sl (x := ([] : List Typ)) d2 d2.lt (nil_sl _ _ _), two_sl (c0 := [.slice none 0 0, .int .i64 1, .int .i64 0, .slice none 0 0, .slice (some ⟨w.heap.size + 3, 0, none⟩) 1 1]) (c1 := [.slice none 0 0, .int .i64 1, .int .i64 0, .slice none 0 0, .slice (some ⟨w.heap.size + 4, 0, none⟩) 1 1]) d5 d5.lt rfl ⟨_, _, _, rfl, by unfold I64; simp [fn0], by unfold I64; simp [fn0], nil_sl _ _ _, nil_sl _ _ _, one_sl (x := (26, 0, 0)) d3 d3.lt ⟨rfl, by unfold I64; simp, by unfold I64; simp, by unfold I64; simp⟩⟩ ⟨_, _, _, rfl, by unfold I64; simp [fn0], by unfold I64; simp [fn0], nil_sl _ _ _, nil_sl _ _ _, one_sl (x := (26, 0, 0)) d4 d4.lt ⟨rfl, by unfold I64; simp, by unfold I64; simp, by unfold I64; simp⟩⟩, one_sl bi bi.lt ⟨_, rfl, HK.out.1, HK.out.2, nil_sl _ _ _⟩, nil_sl _ _ _, nil_sl _ _ _⟩
    have cm := d6
    clear hW3 d2 d3 d4 d5 d6 bi b0 b1 b2 b3 b4 b5 b6 y0 y1 q0 q1 x1 s0 s1 
    refine (AN.out W3).mono ?_
    rintro e w4 ⟨rfl, hb4⟩
    have HB4 := Lib.hid (HB3.out.trans (hb4.mono HB3.out.size))
    have HS4 := Lib.hid (mod_at HS.out hb4)
    replace cm := blk_below cm hb4 cm.lt
    have x0 : w4.cell? ⟨w.heap.size + 1 + 1 + 1 + 1 + 1 + 1, 0, none⟩ = some (.slice (some ⟨w.heap.size + 2, 0, none⟩) 1 1) := cm.cell 0
    have x1 : w4.cell? ⟨w.heap.size + 1 + 1 + 1 + 1 + 1 + 1, 1, none⟩ = some (.slice (some ⟨w.heap.size + 5, 0, none⟩) 2 2) := cm.cell 1
    have x2 : w4.cell? ⟨w.heap.size + 1 + 1 + 1 + 1 + 1 + 1, 2, none⟩ = some (.slice (some ⟨V.heap.size, 0, none⟩) 1 1) := cm.cell 2
    have x3 : w4.cell? ⟨w.heap.size + 1 + 1 + 1 + 1 + 1 + 1, 3, none⟩ = some (.slice none 0 0) := cm.cell 3
    have x4 : w4.cell? ⟨w.heap.size + 1 + 1 + 1 + 1 + 1 + 1, 4, none⟩ = some (.slice none 0 0) := cm.cell 4
    clear hb4
    go_wp2_with fail
    refine (check_any _ (hm 3 (k, n)) w4 HS4.out).mono ?_
    rintro e w5 ⟨he, hb5⟩
    rw [HC.out] at he
    subst he
    have HB5 := Lib.hid (HB4.out.trans (hb5.mono HB4.out.size))
    have HS5 := Lib.hid (mod_at HS4.out hb5)
    replace cm := blk_below cm hb5 cm.lt
    clear hb5 x0 x1 x2 x3 x4
    have x0 : w5.cell? ⟨w.heap.size + 1 + 1 + 1 + 1 + 1 + 1, 0, none⟩ = some (.slice (some ⟨w.heap.size + 2, 0, none⟩) 1 1) := cm.cell 0
    have x1 : w5.cell? ⟨w.heap.size + 1 + 1 + 1 + 1 + 1 + 1, 1, none⟩ = some (.slice (some ⟨w.heap.size + 5, 0, none⟩) 2 2) := cm.cell 1
    have x2 : w5.cell? ⟨w.heap.size + 1 + 1 + 1 + 1 + 1 + 1, 2, none⟩ = some (.slice (some ⟨V.heap.size, 0, none⟩) 1 1) := cm.cell 2
    have x3 : w5.cell? ⟨w.heap.size + 1 + 1 + 1 + 1 + 1 + 1, 3, none⟩ = some (.slice none 0 0) := cm.cell 3
    have x4 : w5.cell? ⟨w.heap.size + 1 + 1 + 1 + 1 + 1 + 1, 4, none⟩ = some (.slice none 0 0) := cm.cell 4
    go_wp2_with fail
    refine (main_any _ (hm 3 (k, n)) w5 HS5.out).mono ?_
    rintro e w6 ⟨he, hb6⟩
    rw [HM.out] at he
    subst he
    have HB6 := Lib.hid (HB5.out.trans (hb6.mono HB5.out.size))
    clear hb6
    go_wp2_with fail
    go_ret
    exact ⟨rfl, HB6.out⟩

theorem walk (k n t : Int) (w : World) (hk : I64 k) (hn : I64 n) (ht : 0 ≤ t ∧ t ≤ 255) :
    Calls Try.prog 5 #[.agg #[.int .i64 k, .int .i64 n], .int .u8 t] w fun e w' => e = .returned (.bool true) ∧ Below w.heap.size w w' := by
  rcases (show t % 4 = 0 ∨ t % 4 = 1 ∨ t % 4 = 2 ∨ t % 4 = 3 by omega) with h | h | h | h
  · exact walk0 k n t w hk hn ht h
  · exact walk1 k n t w hk hn ht h
  · exact walk2 k n t w hk hn ht h
  · exact walk3 k n t w hk hn ht h

set_option maxRecDepth 100000 in
theorem lifted (os : Os) (started : os.Started) (H : Type) (enc : TypeId × Value → H) :
    ReturnsInHanded {} Try.checked os 5 .any (Rows.saneHandlesSpec.pre6 enc Try.prog Try.f5 Rows.saneHandlesRow.domain false) (Rows.saneHandlesSpec.post enc Try.prog Try.f5 false true false false) := by
  refine returnsInHanded_of_change (C := Try.checked) own started (by kernel_rfl) Try.func5
    (ChangeSpec.witness6 (enc := enc) (C := Try.checked) false ⟨#[], #[.agg #[.int .i64 0, .int .i64 0], .int .u8 0], []⟩ 8 (by kernel_rfl) (by kernel_rfl) (by kernel_rfl) (by kernel_rfl)) ?_
  intro W base args ds gs before hval0 hW hcnd _
  have hval : ∀ (j : Nat) t v, Try.f5.params[j]? = some t → args[j]? = some v → Value.okWide Try.prog W .any base t v := hval0
  have hW' := hW
  obtain ⟨p, q, hA0, hV, rfl, hfz, hnd⟩ := hW
  have hA : DataW.TrodAll enc Try.prog W 0 (fun _ => true) true Try.f5.params.toList args.toList ds p := hA0
  rw [Try.params5] at hA hval
  obtain ⟨v0, vs0, d0, ds0, p0, q0, hargs, rfl, rfl, h0, r0⟩ := trodAll_cons hA
  obtain ⟨v1, vs1, d1, ds1, p1, q1, rfl, rfl, rfl, h1, r1⟩ := trodAll_cons r0
  obtain ⟨rfl, rfl, rfl⟩ := trodAll_nil r1
  obtain rfl : args = #[v0, v1] := by cases args; simp_all
  obtain ⟨rfl, rfl⟩ := trodVars_none hV
  have lt0 : ∀ x ∈ p0, x.block < W.heap.size := by obtain ⟨m, hm⟩ := h0; exact DataW.trod_lt m _ _ _ hm
  obtain ⟨k0, n0, rfl, wk0, wn0⟩ := open_typ (hval 0 34 v0 rfl rfl) h0
  obtain ⟨a1, rfl, rfl, rfl, w1⟩ := open_int Try.underlying5 (hval 1 5 v1 rfl rfl) h1
  clear hA0 hval0
  refine (walk k0 n0 a1 W (i64_of wk0) (i64_of wn0) (bounds_u8 w1)).mono fun e W' ⟨he, bel⟩ => ?_
  subst he
  exact ⟨_, rfl, _, _, _, [], _, [], hW', trodAll_mk1 (shut_bool Try.underlying4 _), (trodAll_cons_mk (Below.trod laidOut (by kernel_rfl) (of_decide_eq_true (by kernel_rfl)) h0 bel lt0) (trodAll_cons_mk (shut_int Try.underlying5 w1) trodAll_mk0)), rfl, bel.frame _, fun h => by cases h⟩

theorem over : Rows.saneHandlesRow.holds Try.pinned (OpenSpec.ofChange Rows.saneHandlesSpec) :=
  OpenClaim.holds_of_wide 5 Try.f5 rfl rfl rfl rfl rfl rfl rfl ⟨rfl, rfl, rfl, rfl, rfl⟩ rfl rfl rfl rfl rfl (by kernel_rfl) Try.func5 (by kernel_rfl)
    (of_decide_eq_true (by kernel_rfl)) (by unfold Func.isWrapper; first | (rw [if_pos (by decide +kernel)]; kernel_rfl) | (rw [if_neg (by decide +kernel)]; exact ⟨rfl, rfl⟩))
    (fun os started H enc _ => lifted os started H enc)

/-- The statement. -/
theorem proved : Rows.SaneHandlesSaid := over
end Go.Proofs.Ytpgfbnilnoopoaa.saneHandles
