/-
  What kind's Get does with a good reader: what it takes, and which type it answers. Conditions: as the theorem says (where the Reader lies, what bytes it holds).
  What kind's Get does with a reader that is bad, or that does not hold two numbers. Conditions: as each theorem says (where the Reader lies, what bytes it holds).
  What module's reader does with one type and one instruction. Conditions: as each theorem says.
  What module's reader does with one type, one number, one text. Conditions: as each theorem says.
-/
import Derived.Test.YtngjnkkdhjholaaP02
import Derived.Test.YtngjnkkdhjholaaP04
import Derived.Test.YtngjnkkdhjholaaP06
import Derived.Deep.RegionHeld3
import Derived.Laws.Strings
namespace Go.Proofs.Ytngjnkkdhjholaa
open Go.RowKit
set_option linter.unusedSimpArgs false

/-- A Reader's bytes begin with two numbers. -/
def TwoVars (xs : List Nat) (a b : Nat) (rest : List Nat) : Prop := ∃ n m, IsVar xs a n ∧ IsVar (xs.drop n) b m ∧ rest = (xs.drop n).drop m


set_option maxHeartbeats 1000000 in
/-- The two numbers are there, and they make a good type, or not. -/
theorem kget_two (g : Nat) (xs rest : List Nat) (a b : Nat) (r : Int) (w : World) (h : Good w g xs) (hb : ∀ x ∈ xs, x < 256) (hl : xs.length ≤ 140737488355328) (ht : TwoVars xs a b rest) :
    Calls Try.prog 97 #[.pointer (some ⟨g, 0, none⟩), .int .i64 r] w fun e w' =>
      e = .returned (if a ≤ 8 ∧ b ≤ 255 ∧ goodB a b r = true then .tuple #[.agg #[.int .i64 (a : Nat), .int .i64 (b : Nat)], .bool true] else .tuple #[.agg #[.int .i64 0, .int .i64 0], .bool false]) ∧ Good w' g rest ∧ Only g w w' := by
  obtain ⟨n, m, h1, h2, hrest⟩ := ht
  have HE := Lib.hid hrest
  clear hrest
  have hg := h.lt
  have HG := Lib.hid h
  have Hb := Lib.hid hb
  have H1 := Lib.hid h1
  have H2 := Lib.hid h2
  have Hl : Hid ((xs.drop n).length ≤ 140737488355328) := by show (xs.drop n).length ≤ 140737488355328; simp; omega
  have Hbd : Hid (∀ x ∈ xs.drop n, x < 256) := fun x hx => hb x (List.mem_of_mem_drop hx)
  clear h hb h1 h2
  have hgw : w.heap.size ≠ g := by omega
  have KG := Lib.hid (fun w => kgood a b r w)
  by_cases ha : a ≤ 8
  · have e8 : decide (8 < a) = false := by simp; omega
    by_cases hb2 : b ≤ 255
    · have e255 : decide (255 < b) = false := by simp; omega
      cases hgd : goodB a b r
      · rw [if_neg (by simp)]
        rw [hgd] at KG
        clear hgd
        go_enter Try.func97, Try.ntmps97
        go_wp2_with (first
          | (go_at_call 46
             refine (KG.out _).mono ?_
             rintro e w3 ⟨rfl, hb3⟩
             have HB3 := Lib.hid hb3
             have hr3 := (hb3.block w.heap.size (by simp; omega)).trans ((Below.heap_alloc w2 _ _ rlt).trans HR2.out)
             have q0 := Blk.cell hr3 0
             have q1 := Blk.cell hr3 1
             have p0 := Blk.frozen hr3 0
             have p1 := Blk.frozen hr3 1
             simp at q0 q1
             clear hr3
             obtain ⟨hc3, hf3⟩ := bcell hb3
             have hs3 : w2.heap.size < w3.heap.size := (by have := hb3.size; simp at this; omega)
             clear hb3)
          | (go_at_call 40
             obtain ⟨A2, c2, hk2, -⟩ := HG2.out
             refine (bad_at g _ _ _ hk2).mono ?_
             rintro e w3 ⟨rfl, rfl⟩
             clear hk2)
          | (go_at_call 66
             have hp := HG1.out
             clear hp
             refine (rvar_ok g (xs.drop n) b m _ HG1.out Hbd.out H2.out Hl.out).mono ?_
             rintro e w2 ⟨rfl, hg2, ho2⟩
             rw [← HE.out] at hg2
             have HG2 := Lib.hid hg2
             have hr2 := only_blk ho2 HR1.out hgw
             have HR2 := Lib.hid hr2
             have r0 := hr2.cell 0
             have r1 := hr2.cell 1
             have f0 := hr2.frozen 0
             have f1 := hr2.frozen 1
             have rlt := hr2.lt
             simp at r0 r1
             have HO2 := Lib.hid (only_trans HO1.out ho2)
             clear hg2 ho2 hr2)
          | (go_at_call 66
             refine (rvar_ok g xs a n _ (HG.out.alloc _) Hb.out H1.out hl).mono ?_
             rintro e w1 ⟨rfl, hg1, ho1⟩
             have HG1 := Lib.hid hg1
             have HR1 := Lib.hid (only_blk ho1 (blk_new _ _ _) hgw)
             have HO1 := Lib.hid (only_trans (only_alloc _) ho1)
             clear hg1 ho1))
        refine bodyPost_ret (v := .tuple #[.agg #[.int .i64 0, .int .i64 0], .bool false]) (by simp [results, Try.results97, go_sem, q0, q1]) rfl ⟨rfl, ((HG2.out.alloc _).below HB3.out (by simp; omega)).keep fun i hi => ?_, only_trans' HO2.out (((((Below.refl _ _).alloc (by omega) _).trans (HB3.out.mono (by simp; omega))).setCell ?_ _).setCell ?_ _)⟩
        · rw [Below.heap_setCell, Below.heap_setCell] <;> (simp; omega)
        all_goals simp
      · rw [if_pos ⟨ha, hb2, rfl⟩]
        rw [hgd] at KG
        clear hgd
        go_enter Try.func97, Try.ntmps97
        go_wp2_with (first
          | (go_at_call 46
             refine (KG.out _).mono ?_
             rintro e w3 ⟨rfl, hb3⟩
             have HB3 := Lib.hid hb3
             have hr3 := (hb3.block w.heap.size (by simp; omega)).trans ((Below.heap_alloc w2 _ _ rlt).trans HR2.out)
             have q0 := Blk.cell hr3 0
             have q1 := Blk.cell hr3 1
             have p0 := Blk.frozen hr3 0
             have p1 := Blk.frozen hr3 1
             simp at q0 q1
             clear hr3
             obtain ⟨hc3, hf3⟩ := bcell hb3
             have hs3 : w2.heap.size < w3.heap.size := (by have := hb3.size; simp at this; omega)
             clear hb3)
          | (go_at_call 40
             obtain ⟨A2, c2, hk2, -⟩ := HG2.out
             refine (bad_at g _ _ _ hk2).mono ?_
             rintro e w3 ⟨rfl, rfl⟩
             clear hk2)
          | (go_at_call 66
             have hp := HG1.out
             clear hp
             refine (rvar_ok g (xs.drop n) b m _ HG1.out Hbd.out H2.out Hl.out).mono ?_
             rintro e w2 ⟨rfl, hg2, ho2⟩
             rw [← HE.out] at hg2
             have HG2 := Lib.hid hg2
             have hr2 := only_blk ho2 HR1.out hgw
             have HR2 := Lib.hid hr2
             have r0 := hr2.cell 0
             have r1 := hr2.cell 1
             have f0 := hr2.frozen 0
             have f1 := hr2.frozen 1
             have rlt := hr2.lt
             simp at r0 r1
             have HO2 := Lib.hid (only_trans HO1.out ho2)
             clear hg2 ho2 hr2)
          | (go_at_call 66
             refine (rvar_ok g xs a n _ (HG.out.alloc _) Hb.out H1.out hl).mono ?_
             rintro e w1 ⟨rfl, hg1, ho1⟩
             have HG1 := Lib.hid hg1
             have HR1 := Lib.hid (only_blk ho1 (blk_new _ _ _) hgw)
             have HO1 := Lib.hid (only_trans (only_alloc _) ho1)
             clear hg1 ho1))
        refine bodyPost_ret (v := .tuple #[.agg #[.int .i64 (a : Nat), .int .i64 (b : Nat)], .bool true]) (by simp [results, Try.results97, go_sem, q0, q1]) rfl ⟨rfl, ((HG2.out.alloc _).below HB3.out (by simp; omega)).keep fun i hi => ?_, only_trans' HO2.out (((((Below.refl _ _).alloc (by omega) _).trans (HB3.out.mono (by simp; omega))).setCell ?_ _).setCell ?_ _)⟩
        · rw [Below.heap_setCell, Below.heap_setCell] <;> (simp; omega)
        all_goals simp
    · rw [if_neg (by omega)]
      have e255 : decide (255 < b) = true := by simp; omega
      go_enter Try.func97, Try.ntmps97
      go_wp2_with (first
        | (go_at_call 40
           obtain ⟨A2, c2, hk2, -⟩ := HG2.out
           refine (bad_at g _ _ _ hk2).mono ?_
           rintro e w3 ⟨rfl, rfl⟩
           clear hk2)
        | (go_at_call 66
           have hp := HG1.out
           clear hp
           refine (rvar_ok g (xs.drop n) b m _ HG1.out Hbd.out H2.out Hl.out).mono ?_
           rintro e w2 ⟨rfl, hg2, ho2⟩
           rw [← HE.out] at hg2
           have HG2 := Lib.hid hg2
           have hr2 := only_blk ho2 HR1.out hgw
           have HR2 := Lib.hid hr2
           have r0 := hr2.cell 0
           have r1 := hr2.cell 1
           have f0 := hr2.frozen 0
           have f1 := hr2.frozen 1
           have rlt := hr2.lt
           simp at r0 r1
           have HO2 := Lib.hid (only_trans HO1.out ho2)
           clear hg2 ho2 hr2)
        | (go_at_call 66
           refine (rvar_ok g xs a n _ (HG.out.alloc _) Hb.out H1.out hl).mono ?_
           rintro e w1 ⟨rfl, hg1, ho1⟩
           have HG1 := Lib.hid hg1
           have HR1 := Lib.hid (only_blk ho1 (blk_new _ _ _) hgw)
           have HO1 := Lib.hid (only_trans (only_alloc _) ho1)
           clear hg1 ho1))
      refine bodyPost_ret (v := .tuple #[.agg #[.int .i64 0, .int .i64 0], .bool false]) (by simp [results, Try.results97, go_sem, r0, r1]) rfl ⟨rfl, HG2.out.keep fun i hi => ?_, only_trans' HO2.out (((Below.refl _ _).setCell ?_ _).setCell ?_ _)⟩
      · rw [Below.heap_setCell, Below.heap_setCell] <;> (simp; omega)
      all_goals simp
  · rw [if_neg (by omega)]
    have e8 : decide (8 < a) = true := by simp; omega
    go_enter Try.func97, Try.ntmps97
    go_wp2_with (first
      | (go_at_call 40
         obtain ⟨A2, c2, hk2, -⟩ := HG2.out
         refine (bad_at g _ _ _ hk2).mono ?_
         rintro e w3 ⟨rfl, rfl⟩
         clear hk2)
      | (go_at_call 66
         have hp := HG1.out
         clear hp
         refine (rvar_ok g (xs.drop n) b m _ HG1.out Hbd.out H2.out Hl.out).mono ?_
         rintro e w2 ⟨rfl, hg2, ho2⟩
         rw [← HE.out] at hg2
         have HG2 := Lib.hid hg2
         have hr2 := only_blk ho2 HR1.out hgw
         have HR2 := Lib.hid hr2
         have r0 := hr2.cell 0
         have r1 := hr2.cell 1
         have f0 := hr2.frozen 0
         have f1 := hr2.frozen 1
         have rlt := hr2.lt
         simp at r0 r1
         have HO2 := Lib.hid (only_trans HO1.out ho2)
         clear hg2 ho2 hr2)
      | (go_at_call 66
         refine (rvar_ok g xs a n _ (HG.out.alloc _) Hb.out H1.out hl).mono ?_
         rintro e w1 ⟨rfl, hg1, ho1⟩
         have HG1 := Lib.hid hg1
         have HR1 := Lib.hid (only_blk ho1 (blk_new _ _ _) hgw)
         have HO1 := Lib.hid (only_trans (only_alloc _) ho1)
         clear hg1 ho1))
    refine bodyPost_ret (v := .tuple #[.agg #[.int .i64 0, .int .i64 0], .bool false]) (by simp [results, Try.results97, go_sem, r0, r1]) rfl ⟨rfl, HG2.out.keep fun i hi => ?_, only_trans' HO2.out (((Below.refl _ _).setCell ?_ _).setCell ?_ _)⟩
    · rw [Below.heap_setCell, Below.heap_setCell] <;> (simp; omega)
    all_goals simp
end Go.Proofs.Ytngjnkkdhjholaa
namespace Go.Proofs.Ytngjnkkdhjholaa
open Go.RowKit
set_option linter.unusedSimpArgs false
set_option linter.unusedVariables false

set_option maxHeartbeats 1000000 in
theorem kget_bad (g : Nat)  (r : Int) (w : World) (h : Bad w g) :
    Calls Try.prog 97 #[.pointer (some ⟨g, 0, none⟩), .int .i64 r] w fun e w' => e = .returned (.tuple #[.agg #[.int .i64 0, .int .i64 0], .bool false]) ∧ Bad w' g ∧ Only g w w' := by
  have hg := h.lt
  have HG := Lib.hid h
  clear h
  have hgw : w.heap.size ≠ g := by omega
  go_enter Try.func97, Try.ntmps97
  go_wp2_with (first
          | (go_at_call 40
             refine (bad_at g _ _ _ HG2.out).mono ?_
             rintro e w3 ⟨rfl, rfl⟩)
          | (go_at_call 66
             have hp := HG1.out
             clear hp
             refine (rvar_bad g _ HG1.out).mono ?_
             rintro e w2 ⟨rfl, rfl⟩
             have HG2 := Lib.hid (HG1.out)
             have hr2 := HR1.out
             have HO2 := HO1
             have HR2 := Lib.hid hr2
             have r0 := hr2.cell 0
             have r1 := hr2.cell 1
             have f0 := hr2.frozen 0
             have f1 := hr2.frozen 1
             have rlt := hr2.lt
             simp at r0 r1
             clear hr2)
          | (go_at_call 66
             refine (rvar_bad g _ (HG.out.alloc _)).mono ?_
             rintro e w1 ⟨rfl, rfl⟩
             have HG1 := Lib.hid (HG.out.alloc (.cells #[.int .i64 0, .int .i64 0] 33))
             have hr1 : Blk (w.alloc (.cells #[.int .i64 0, .int .i64 0] 33)) w.heap.size 33 #[.int .i64 0, .int .i64 0] := blk_new _ _ _
             have HR1 := Lib.hid hr1
             have HO1 : Hid (Only g w (w.alloc (.cells #[.int .i64 0, .int .i64 0] 33))) := only_alloc _
             clear hr1))
  first
    | exact bodyPost_ret (v := .tuple #[.agg #[.int .i64 0, .int .i64 0], .bool false]) (by simp [results, Try.results97, go_sem, r0, r1]) rfl ⟨rfl, HG2.out, HO2.out⟩
    | (refine bodyPost_ret (v := .tuple #[.agg #[.int .i64 0, .int .i64 0], .bool false]) (by simp [results, Try.results97, go_sem, r0, r1]) rfl ⟨rfl, set_blk (set_blk HG2.out _ (by omega)) _ (by omega), only_trans' HO2.out (((Below.refl _ _).setCell ?_ _).setCell ?_ _)⟩
       all_goals simp)

set_option maxHeartbeats 1000000 in
theorem kget_no1 (g : Nat) (xs : List Nat) (r : Int) (w : World) (h : Good w g xs) (hb : ∀ x ∈ xs, x < 256) (hl : xs.length ≤ 140737488355328) (hn : ¬ ∃ v n, IsVar xs v n) :
    Calls Try.prog 97 #[.pointer (some ⟨g, 0, none⟩), .int .i64 r] w fun e w' => e = .returned (.tuple #[.agg #[.int .i64 0, .int .i64 0], .bool false]) ∧ Bad w' g ∧ Only g w w' := by
  have hg := h.lt
  have HG := Lib.hid h
  have Hb := Lib.hid hb
  have Hn := Lib.hid hn
  clear h hb hn
  have hgw : w.heap.size ≠ g := by omega
  go_enter Try.func97, Try.ntmps97
  go_wp2_with (first
          | (go_at_call 40
             refine (bad_at g _ _ _ HG2.out).mono ?_
             rintro e w3 ⟨rfl, rfl⟩)
          | (go_at_call 66
             have hp := HG1.out
             clear hp
             refine (rvar_bad g _ HG1.out).mono ?_
             rintro e w2 ⟨rfl, rfl⟩
             have HG2 := Lib.hid (HG1.out)
             have hr2 := HR1.out
             have HO2 := HO1
             have HR2 := Lib.hid hr2
             have r0 := hr2.cell 0
             have r1 := hr2.cell 1
             have f0 := hr2.frozen 0
             have f1 := hr2.frozen 1
             have rlt := hr2.lt
             simp at r0 r1
             clear hr2)
          | (go_at_call 66
             refine (rvar_no g xs _ (HG.out.alloc _) Hb.out Hn.out hl).mono ?_
             rintro e w1 ⟨rfl, hg1, ho1⟩
             have HG1 := Lib.hid hg1
             have hr1 := only_blk ho1 (blk_new _ _ _) hgw
             have HO1 := Lib.hid (only_trans (only_alloc _) ho1)
             clear hg1 ho1
             have HR1 := Lib.hid hr1
             clear hr1))
  first
    | exact bodyPost_ret (v := .tuple #[.agg #[.int .i64 0, .int .i64 0], .bool false]) (by simp [results, Try.results97, go_sem, r0, r1]) rfl ⟨rfl, HG2.out, HO2.out⟩
    | (refine bodyPost_ret (v := .tuple #[.agg #[.int .i64 0, .int .i64 0], .bool false]) (by simp [results, Try.results97, go_sem, r0, r1]) rfl ⟨rfl, set_blk (set_blk HG2.out _ (by omega)) _ (by omega), only_trans' HO2.out (((Below.refl _ _).setCell ?_ _).setCell ?_ _)⟩
       all_goals simp)

set_option maxHeartbeats 1000000 in
theorem kget_no2 (g : Nat) (xs : List Nat) (a n : Nat) (r : Int) (w : World) (h : Good w g xs) (hb : ∀ x ∈ xs, x < 256) (hl : xs.length ≤ 140737488355328) (h1 : IsVar xs a n) (hn : ¬ ∃ v n', IsVar (xs.drop n) v n') :
    Calls Try.prog 97 #[.pointer (some ⟨g, 0, none⟩), .int .i64 r] w fun e w' => e = .returned (.tuple #[.agg #[.int .i64 0, .int .i64 0], .bool false]) ∧ Bad w' g ∧ Only g w w' := by
  have hg := h.lt
  have HG := Lib.hid h
  have Hb := Lib.hid hb
  have H1 := Lib.hid h1
  have Hn := Lib.hid hn
  have Hl : Hid ((xs.drop n).length ≤ 140737488355328) := by show (xs.drop n).length ≤ 140737488355328; simp; omega
  have Hbd : Hid (∀ x ∈ xs.drop n, x < 256) := fun x hx => hb x (List.mem_of_mem_drop hx)
  clear h hb hn h1
  have hgw : w.heap.size ≠ g := by omega
  go_enter Try.func97, Try.ntmps97
  go_wp2_with (first
          | (go_at_call 40
             refine (bad_at g _ _ _ HG2.out).mono ?_
             rintro e w3 ⟨rfl, rfl⟩)
          | (go_at_call 66
             have hp := HG1.out
             clear hp
             refine (rvar_no g (xs.drop n) _ HG1.out Hbd.out Hn.out Hl.out).mono ?_
             rintro e w2 ⟨rfl, hg2, ho2⟩
             have HG2 := Lib.hid hg2
             have hr2 := only_blk ho2 HR1.out hgw
             have HO2 := Lib.hid (only_trans HO1.out ho2)
             clear hg2 ho2
             have HR2 := Lib.hid hr2
             have r0 := hr2.cell 0
             have r1 := hr2.cell 1
             have f0 := hr2.frozen 0
             have f1 := hr2.frozen 1
             have rlt := hr2.lt
             simp at r0 r1
             clear hr2)
          | (go_at_call 66
             refine (rvar_ok g xs a n _ (HG.out.alloc _) Hb.out H1.out hl).mono ?_
             rintro e w1 ⟨rfl, hg1, ho1⟩
             have HG1 := Lib.hid hg1
             have hr1 := only_blk ho1 (blk_new _ _ _) hgw
             have HO1 := Lib.hid (only_trans (only_alloc _) ho1)
             clear hg1 ho1
             have HR1 := Lib.hid hr1
             clear hr1))
  first
    | exact bodyPost_ret (v := .tuple #[.agg #[.int .i64 0, .int .i64 0], .bool false]) (by simp [results, Try.results97, go_sem, r0, r1]) rfl ⟨rfl, HG2.out, HO2.out⟩
    | (refine bodyPost_ret (v := .tuple #[.agg #[.int .i64 0, .int .i64 0], .bool false]) (by simp [results, Try.results97, go_sem, r0, r1]) rfl ⟨rfl, set_blk (set_blk HG2.out _ (by omega)) _ (by omega), only_trans' HO2.out (((Below.refl _ _).setCell ?_ _).setCell ?_ _)⟩
       all_goals simp)

end Go.Proofs.Ytngjnkkdhjholaa
namespace Go.Proofs.Ytngjnkkdhjholaa
open Go.RowKit
set_option linter.unusedSimpArgs false
set_option linter.unusedVariables false

theorem I64_zero : I64 0 := by unfold I64; omega
theorem kget_yes (g : Nat) (t : Typ) (rest : List Nat) (r : Int) (hr : r ≤ 8) (w : World) (hs : St w g (some (tB t ++ rest))) (hg : goodT r t = true) :
    Calls Try.prog 97 #[.pointer (some ⟨g, 0, none⟩), .int .i64 r] w fun e w' => e = .returned (.tuple #[.agg #[.int .i64 t.1, .int .i64 t.2], .bool true]) ∧ St w' g (some rest) ∧ Only g w w' := by
  obtain ⟨a, b, rfl, ha, hb⟩ := goodT_nat hr hg
  have ht : TwoVars (tB ((a : Int), (b : Int)) ++ rest) a b rest := by
    refine ⟨(vb a).length, (vb b).length, ?_, ?_, ?_⟩
    · simp only [tB, typB, Int.toNat_natCast, List.append_assoc]
      exact isVar_app a (by unfold B64; omega) _
    · simp only [tB, typB, Int.toNat_natCast, List.append_assoc, List.drop_left]
      exact isVar_app b (by unfold B64; omega) _
    · simp only [tB, typB, Int.toNat_natCast, List.append_assoc, List.drop_left]
  refine (kget_two g _ rest a b r w hs.1 hs.2.1 (by have := hs.2.2; omega) ht).mono ?_
  rintro e w' ⟨rfl, h1, h2⟩
  rw [if_pos ⟨ha, hb, hg⟩]
  exact ⟨rfl, hs.rest rfl h1, h2⟩

theorem kget_not (g : Nat) (r : Int) (hr : r ≤ 8) (s : Option (List Nat)) (w : World) (hs : St w g s) (hno : ∀ xs, s = some xs → ¬ Has tB (fun t => goodT r t = true) xs) :
    Calls Try.prog 97 #[.pointer (some ⟨g, 0, none⟩), .int .i64 r] w fun e w' => e = .returned (.tuple #[.agg #[.int .i64 0, .int .i64 0], .bool false]) ∧ Rdy w' g ∧ Only g w w' := by
  cases s with
  | none => exact (kget_bad g r w hs).mono fun e w' ⟨h1, h2, h3⟩ => ⟨h1, .inr h2, h3⟩
  | some xs =>
    have hl : xs.length ≤ 140737488355328 := by have := hs.2.2; omega
    by_cases h1 : ∃ v n, IsVar xs v n
    · obtain ⟨a, n, h1⟩ := h1
      by_cases h2 : ∃ v n', IsVar (xs.drop n) v n'
      · obtain ⟨b, m, h2⟩ := h2
        refine (kget_two g xs ((xs.drop n).drop m) a b r w hs.1 hs.2.1 hl ⟨n, m, h1, h2, rfl⟩).mono ?_
        rintro e w' ⟨rfl, g1, g2⟩
        rw [if_neg]
        · exact ⟨rfl, .inl ⟨_, g1⟩, g2⟩
        · rintro ⟨_, _, hg⟩
          refine hno xs rfl ⟨((a : Int), (b : Int)), (xs.drop n).drop m, hg, ?_⟩
          have e1 := isVar_split h1
          have e2 := isVar_split h2
          simp only [tB, typB, Int.toNat_natCast, List.append_assoc]
          rw [← e2]
          exact e1
      · exact (kget_no2 g xs a n r w hs.1 hs.2.1 hl h1 h2).mono fun e w' ⟨h1, h2, h3⟩ => ⟨h1, .inr h2, h3⟩
    · exact (kget_no1 g xs r w hs.1 hs.2.1 hl h1).mono fun e w' ⟨h1, h2, h3⟩ => ⟨h1, .inr h2, h3⟩

theorem hasI_iff (xs : List Nat) : Has iB (fun t => goodIn t = true) xs → HasI xs := by
  rintro ⟨⟨o, a, b⟩, rest, hg, e⟩
  obtain ⟨o1, a1, b1, e1, e2, e3, _⟩ := goodI_parts (op := o) (a := a) (b := b) hg
  subst e1 e2 e3
  exact ⟨o1, a1, b1, rest, hg, e⟩
theorem iget_not (g : Nat) (s : Option (List Nat)) (w : World) (hs : St w g s) (hno : ∀ xs, s = some xs → ¬ Has iB (fun t => goodIn t = true) xs) :
    Calls Try.prog 98 #[.pointer (some ⟨g, 0, none⟩)] w fun e w' => e = .returned (insV 0 0 0 false) ∧ Rdy w' g ∧ Only g w w' := by
  cases s with
  | none => exact (iget_bad g w hs).mono fun e w' ⟨h1, h2, h3⟩ => ⟨h1, .inr h3, h2⟩
  | some xs => exact (iget_none g xs w hs.1 hs.2.1 hs.2.2 (fun ⟨o, x, y, rest, hg, e⟩ => hno xs rfl ⟨((o : Int), (x : Int), (y : Int)), rest, hg, e⟩)).mono fun e w' ⟨h1, h2, h3⟩ => ⟨h1, h3, h2⟩
theorem iget_is (g : Nat) (t : Ins) (rest : List Nat) (w : World) (hs : St w g (some (iB t ++ rest))) (hg : goodIn t = true) :
    Calls Try.prog 98 #[.pointer (some ⟨g, 0, none⟩)] w fun e w' => e = .returned (insV t.1 t.2.1 t.2.2 true) ∧ St w' g (some rest) ∧ Only g w w' := by
  obtain ⟨o, a, b⟩ := t
  obtain ⟨o1, a1, b1, e1, e2, e3, _⟩ := goodI_parts (op := o) (a := a) (b := b) hg
  subst e1 e2 e3
  have hr : St w g (some rest) → True := fun _ => trivial
  refine (iget_yes g o1 a1 b1 rest w hg hs.1 (fun z hz => hs.2.1 z (by simp [hz])) (by have := hs.2.2; simp at this; omega)).mono ?_
  rintro e w' ⟨rfl, h1, h2⟩
  exact ⟨rfl, hs.rest rfl h1, h2⟩

/-- Behind a block that is new. -/
theorem below_two {w w1 w2 : World} {g : Nat} (ho : Only g w w1) (hb : Below w.heap.size w1 w2) : Only g w w2 := only_trans' ho hb

set_option maxRecDepth 100000 in
set_option maxHeartbeats 2000000 in
theorem instruction_any (rb g : Nat) (v0 v1 v2 v3 v4 : Value) (r : Int) (s : Option (List Nat)) (w : World) (h : Mrd w rb g v0 v1 v2 v3 v4 r) (hs : St w g s) :
    Calls Try.prog 94 #[.pointer (some ⟨rb, 0, none⟩)] w (Reads insL vAgg iB (fun t => goodIn t = true) g s w) := by
  have hp := h.ptr
  have HM := Lib.hid h
  have HS := Lib.hid hs
  have hg := hs.lt
  have hrb := h.2.lt
  have hgw : w.heap.size ≠ g := by omega
  have hrw : rb ≠ w.heap.size := by omega
  by_cases hyes : ∃ xs, s = some xs ∧ Has iB (fun t => goodIn t = true) xs
  · obtain ⟨xs, rfl, t, rest, hgt, rfl⟩ := hyes
    have HC : Hid (∀ w1, Below w.heap.size w w1 → Calls Try.prog 98 #[.pointer (some ⟨g, 0, none⟩)] w1 fun e w' => e = .returned (.tuple #[.agg #[.int .i64 t.1, .int .i64 t.2.1, .int .i64 t.2.2], .bool true]) ∧ St w' g (some rest) ∧ Only g w1 w') := fun w1 hb => iget_is g t rest w1 (HS.out.below hb) hgt
    have HI : Hid (I64 t.1 ∧ I64 t.2.1 ∧ I64 t.2.2) := by
      obtain ⟨o, a, b⟩ := t
      obtain ⟨o1, a1, b1, e1, e2, e3, h1, h2, h3, _⟩ := goodI_parts (op := o) (a := a) (b := b) hgt
      subst e1 e2 e3
      show I64 _ ∧ I64 _ ∧ I64 _
      refine ⟨⟨?_, ?_⟩, ⟨?_, ?_⟩, ⟨?_, ?_⟩⟩ <;> simp <;> omega
    have HGT := Lib.hid hgt
    obtain ⟨t1, t2, t3⟩ := t
    simp only at HC HI
    clear h hs hgt
    go_enter Try.func94, Try.ntmps94
    go_wp2_with (first
      | (go_at_call 98
         refine (HC.out _ ((Below.refl _ _).alloc (Nat.le_refl _) _)).mono ?_
         rintro e w1 ⟨rfl, hs1, ho1⟩
         have HS1 := Lib.hid hs1
         have hr1 := only_blk ho1 (heap_alloc_new w (.cells #[.int .i64 0, .int .i64 0, .int .i64 0] 35)) hgw
         have HO1 := Lib.hid (only_trans (only_alloc _) ho1)
         have r0 := hr1.cell 0
         have r1 := hr1.cell 1
         have r2 := hr1.cell 2
         have f0 := hr1.frozen 0
         have f1 := hr1.frozen 1
         have f2 := hr1.frozen 2
         have rlt := hr1.lt
         simp at r0 r1 r2
         clear hs1 ho1 hr1))
    have hF : Below w.heap.size w1 ((((w1.setCell ⟨w.heap.size, 0, none⟩ (.int .i64 t1)).setCell ⟨w.heap.size, 1, none⟩ (.int .i64 t2)).setCell ⟨w.heap.size, 2, none⟩ (.int .i64 t3)).alloc (.cells #[.int .i64 t1, .int .i64 t2, .int .i64 t3] 35)) :=
      ((((Below.refl _ _).setCell (p := ⟨w.heap.size, 0, none⟩) (Nat.le_refl _) _).setCell (p := ⟨w.heap.size, 1, none⟩) (Nat.le_refl _) _).setCell (p := ⟨w.heap.size, 2, none⟩) (Nat.le_refl _) _).alloc (by simp; omega) _
    refine bodyPost_ret (v := .agg #[.int .i64 t1, .int .i64 t2, .int .i64 t3]) (by simp [results, Try.results94, go_sem, r0, r1, r2, rlt, Nat.ne_of_lt rlt]) rfl ?_
    exact ⟨only_trans' HO1.out hF, _, (t1, t2, t3), rfl, ⟨rfl, HI.out⟩, .inl ⟨HGT.out, _, rest, rfl, rfl, HS1.out.low hF hg⟩⟩
  · have HNO : Hid (∀ xs, s = some xs → ¬ Has iB (fun t => goodIn t = true) xs) := fun xs e hh => hyes ⟨xs, e, hh⟩
    have HC : Hid (∀ w1, Below w.heap.size w w1 → Calls Try.prog 98 #[.pointer (some ⟨g, 0, none⟩)] w1 fun e w' => e = .returned (.tuple #[.agg #[.int .i64 0, .int .i64 0, .int .i64 0], .bool false]) ∧ Rdy w' g ∧ Only g w1 w') := fun w1 hb => iget_not g s w1 (HS.out.below hb) HNO.out
    have HR : Hid (∀ w1, Only g w w1 → Rdy w1 g → Calls Try.prog 90 #[.pointer (some ⟨rb, 0, none⟩)] w1 fun e w' => e = .returned (.tuple #[]) ∧ Bad w' g ∧ Only g w1 w') := fun w1 ho hr => refuse_any rb g v0 v1 v2 v3 v4 r w1 (HM.out.only ho) hr
    clear h hs hyes
    go_enter Try.func94, Try.ntmps94
    go_wp2_with (first
      | (go_at_call 98
         refine (HC.out _ ((Below.refl _ _).alloc (Nat.le_refl _) _)).mono ?_
         rintro e w1 ⟨rfl, hs1, ho1⟩
         have HS1 := Lib.hid hs1
         have hr1 := only_blk ho1 (heap_alloc_new w (.cells #[.int .i64 0, .int .i64 0, .int .i64 0] 35)) hgw
         have HR1 := Lib.hid hr1
         have HO1 := Lib.hid (only_trans (only_alloc _) ho1)
         have rlt := hr1.lt
         have hg1 : w1.heap.size ≠ g := (by omega)
         clear hs1 ho1 hr1)
      | (go_at_call 90
         refine (HR.out _ (only_trans HO1.out (only_alloc _)) (HS1.out.low ((Below.refl _ _).alloc (Nat.le_refl _) _) (by omega))).mono ?_
         rintro e w2 ⟨rfl, hb2, ho2⟩
         have HB2 := Lib.hid hb2
         have hr2 := only_blk ho2 ((Below.heap_alloc _ _ _ HR1.out.lt).trans HR1.out) hgw
         have hx2 := only_blk ho2 (heap_alloc_new w1 (.cells #[.int .i64 0, .int .i64 0, .int .i64 0] 35)) hg1
         have HO2 := Lib.hid (only_trans (only_trans HO1.out (only_alloc _)) ho2)
         have r0 := Blk.cell hr2 0
         have r1 := Blk.cell hr2 1
         have r2 := Blk.cell hr2 2
         have f0 := Blk.frozen hr2 0
         have f1 := Blk.frozen hr2 1
         have f2 := Blk.frozen hr2 2
         have x0 := Blk.cell hx2 0
         have x1 := Blk.cell hx2 1
         have x2 := Blk.cell hx2 2
         simp at r0 r1 r2 x0 x1 x2
         clear hb2 ho2 hr2 hx2))
    have hF : Below w.heap.size w2 (((w2.setCell ⟨w.heap.size, 0, none⟩ (.int .i64 0)).setCell ⟨w.heap.size, 1, none⟩ (.int .i64 0)).setCell ⟨w.heap.size, 2, none⟩ (.int .i64 0)) :=
      (((Below.refl _ _).setCell (p := ⟨w.heap.size, 0, none⟩) (Nat.le_refl _) _).setCell (p := ⟨w.heap.size, 1, none⟩) (Nat.le_refl _) _).setCell (p := ⟨w.heap.size, 2, none⟩) (Nat.le_refl _) _
    refine bodyPost_ret (v := .agg #[.int .i64 0, .int .i64 0, .int .i64 0]) (by simp [results, Try.results94, go_sem, r0, r1, r2]) rfl ?_
    exact ⟨only_trans' HO2.out hF, _, (0, 0, 0), rfl, ⟨rfl, I64_zero, I64_zero, I64_zero⟩, .inr ⟨HB2.out.below hF hg, HNO.out⟩⟩
end Go.Proofs.Ytngjnkkdhjholaa
namespace Go.Proofs.Ytngjnkkdhjholaa
open Go.RowKit
set_option linter.unusedSimpArgs false
set_option linter.unusedVariables false

/-- Two cells of one block. -/
def C2 (b i j : Nat) (u v : Value) (w : World) : Prop := w.cell? ⟨b, i, none⟩ = some u ∧ w.cell? ⟨b, j, none⟩ = some v
theorem C2.below {b i j B : Nat} {u v : Value} {w w' : World} (h : C2 b i j u v w) (hb : Below B w w') (hB : b < B) : C2 b i j u v w' := ⟨(hb.cell (p := ⟨b, i, none⟩) hB).trans h.1, (hb.cell (p := ⟨b, j, none⟩) hB).trans h.2⟩

set_option maxRecDepth 100000 in
set_option maxHeartbeats 2000000 in
theorem oneType_any (rb g : Nat) (v0 v1 v2 v3 v4 : Value) (r : Int) (hr8 : r ≤ 8) (s : Option (List Nat)) (w : World) (h : Mrd w rb g v0 v1 v2 v3 v4 r) (hs : St w g s) :
    Calls Try.prog 92 #[.pointer (some ⟨rb, 0, none⟩)] w (Reads typL vAgg tB (fun t => goodT r t = true) g s w) := by
  have HM := Lib.hid h
  have HS := Lib.hid hs
  have hg := hs.lt
  have hrb := h.2.lt
  have hgw : w.heap.size ≠ g := by omega
  have hrw : rb ≠ w.heap.size := by omega
  by_cases hyes : ∃ xs, s = some xs ∧ Has tB (fun t => goodT r t = true) xs
  · obtain ⟨xs, rfl, t, rest, hgt, rfl⟩ := hyes
    have HC : Hid (∀ w1, Below w.heap.size w w1 → Calls Try.prog 97 #[.pointer (some ⟨g, 0, none⟩), .int .i64 r] w1 fun e w' => e = .returned (.tuple #[.agg #[.int .i64 t.1, .int .i64 t.2], .bool true]) ∧ St w' g (some rest) ∧ Only g w1 w') := fun w1 hb => kget_yes g t rest r hr8 w1 (HS.out.below hb) hgt
    have HI : Hid (I64 t.1 ∧ I64 t.2) := by
      obtain ⟨a, b, rfl, h1, h2⟩ := goodT_nat hr8 hgt
      show I64 _ ∧ I64 _
      refine ⟨⟨?_, ?_⟩, ⟨?_, ?_⟩⟩ <;> simp <;> omega
    have HGT := Lib.hid hgt
    obtain ⟨t1, t2⟩ := t
    simp only at HC HI
    clear h hs hgt
    go_enter Try.func92, Try.ntmps92
    go_wp2_with fail
    refine wp_world fun W hW => ?_
    have HB0 : Hid (Below w.heap.size w W) := by
      show Below w.heap.size w W
      rw [hW]
      exact (Below.refl _ _).alloc (Nat.le_refl _) _
    have HR0 : Hid (Blk W w.heap.size 33 #[.int .i64 0, .int .i64 0]) := by show Blk W _ _ _; rw [hW]; exact heap_alloc_new w _
    have HO0 : Hid (Only g w W) := by show Only g w W; rw [hW]; exact only_alloc _
    clear hW
    have HK0 : Hid (C2 rb 0 6 (.pointer (some ⟨g, 0, none⟩)) (.int .i64 r) W) := ⟨(HM.out.below HB0.out).ptr, (HM.out.below HB0.out).recs⟩
    obtain ⟨z0, z6⟩ := HK0.out
    have hWs := HR0.out.lt
    have hrW : rb < W.heap.size := by omega
    have hgW : W.heap.size ≠ g := by omega
    go_region_held3 (fun w' => w'.cell? ⟨rb, 0, none⟩ = some (.pointer (some ⟨g, 0, none⟩)) ∧ w'.cell? ⟨rb, 6, none⟩ = some (.int .i64 r))
      (first | exact HK0.out | exact HK0.out.below (((Below.refl W.heap.size W).alloc (Nat.le_refl _) _).drew) hrW | exact HK1.out | (have hz := HK1.out; clear hz; first | exact HK1.out.below ((Below.refl W.heap.size w1).alloc HW1.out _) hrW | exact HK1.out.below (((Below.refl W.heap.size w1).setCell (Nat.le_refl _) _).setCell (Nat.le_refl _) _) hrW | exact HK1.out.below ((Below.refl W.heap.size w1).setCell (Nat.le_refl _) _) hrW))
      (first
      | (go_at_call 97
         (with_reducible refine (HC.out W.drew HB0.out.drew).mono ?_)
         rintro e w1 ⟨rfl, hs1, ho1⟩
         have HS1 := Lib.hid hs1
         have hr1 := only_blk (w := W.drew) ho1 HR0.out hgw
         have HO1 := Lib.hid (only_trans (only_trans' HO0.out ((Below.refl _ W).drew)) ho1)
         have HK1 : Hid (C2 rb 0 6 (.pointer (some ⟨g, 0, none⟩)) (.int .i64 r) w1) := ⟨(HM.out.only HO1.out).ptr, (HM.out.only HO1.out).recs⟩
         have r0 := Blk.cell hr1 0
         have r1 := Blk.cell hr1 1
         have f0 := Blk.frozen hr1 0
         have f1 := Blk.frozen hr1 1
         have rlt := hr1.lt
         have HW1 : Hid (W.heap.size ≤ w1.heap.size) := ho1.size
         simp at r0 r1
         clear hs1 ho1 hr1)
      | (go_at_call 97
         refine (HC.out _ (HB0.out.alloc HB0.out.size _).drew).mono ?_
         rintro e w1 ⟨rfl, hs1, ho1⟩
         have HS1 := Lib.hid hs1
         have hr1 := only_blk (w := (W.alloc (.cells #[.int .i64 0, .int .i64 0] 33)).drew) ho1 ((Below.heap_alloc _ _ _ HR0.out.lt).trans HR0.out) hgw
         have hx1 := only_blk (w := (W.alloc (.cells #[.int .i64 0, .int .i64 0] 33)).drew) ho1 (heap_alloc_new W (.cells #[.int .i64 0, .int .i64 0] 33)) hgW
         have HO1 := Lib.hid (only_trans (only_trans' HO0.out (((Below.refl _ W).alloc HB0.out.size _).drew)) ho1)
         have HK1 : Hid (C2 rb 0 6 (.pointer (some ⟨g, 0, none⟩)) (.int .i64 r) w1) := ⟨(HM.out.only HO1.out).ptr, (HM.out.only HO1.out).recs⟩
         have r0 := Blk.cell hr1 0
         have r1 := Blk.cell hr1 1
         have f0 := Blk.frozen hr1 0
         have f1 := Blk.frozen hr1 1
         have x0 := Blk.cell hx1 0
         have x1 := Blk.cell hx1 1
         have y0 := Blk.frozen hx1 0
         have y1 := Blk.frozen hx1 1
         have rlt := hr1.lt
         have HW1 : Hid (W.heap.size ≤ w1.heap.size) := (Nat.le_of_lt hx1.lt)
         simp at r0 r1 x0 x1
         clear hs1 ho1 hr1 hx1))
    all_goals go_wp2_with fail
    · have hF : Below w.heap.size w1 (((w1.setCell ⟨w.heap.size, 0, none⟩ (.int .i64 t1)).setCell ⟨w.heap.size, 1, none⟩ (.int .i64 t2)).alloc (.cells #[.int .i64 t1, .int .i64 t2] 33)) :=
        (((Below.refl _ _).setCell (p := ⟨w.heap.size, 0, none⟩) (Nat.le_refl _) _).setCell (p := ⟨w.heap.size, 1, none⟩) (Nat.le_refl _) _).alloc (by simp; omega) _
      refine bodyPost_ret (v := .agg #[.int .i64 t1, .int .i64 t2]) (by simp [results, Try.results92, go_sem, r0, r1, rlt, Nat.ne_of_lt rlt]) rfl ?_
      exact ⟨only_trans' HO1.out hF, _, (t1, t2), rfl, ⟨rfl, HI.out⟩, .inl ⟨HGT.out, _, rest, rfl, rfl, HS1.out.low hF hg⟩⟩
    · have hF : Below w.heap.size w1 ((((w1.setCell ⟨W.heap.size, 0, none⟩ (.int .i64 t1)).setCell ⟨W.heap.size, 1, none⟩ (.int .i64 t2)).setCell ⟨w.heap.size, 0, none⟩ (.int .i64 t1)).setCell ⟨w.heap.size, 1, none⟩ (.int .i64 t2)) :=
        ((((Below.refl _ _).setCell (p := ⟨W.heap.size, 0, none⟩) HB0.out.size _).setCell (p := ⟨W.heap.size, 1, none⟩) HB0.out.size _).setCell (p := ⟨w.heap.size, 0, none⟩) (Nat.le_refl _) _).setCell (p := ⟨w.heap.size, 1, none⟩) (Nat.le_refl _) _
      refine bodyPost_ret (v := .agg #[.int .i64 t1, .int .i64 t2]) (by simp [results, Try.results92, go_sem, r0, r1, rlt, hWs, Nat.ne_of_lt hWs]) rfl ?_
      exact ⟨only_trans' HO1.out hF, _, (t1, t2), rfl, ⟨rfl, HI.out⟩, .inl ⟨HGT.out, _, rest, rfl, rfl, HS1.out.low hF hg⟩⟩
  · have HNO : Hid (∀ xs, s = some xs → ¬ Has tB (fun t => goodT r t = true) xs) := fun xs e hh => hyes ⟨xs, e, hh⟩
    have HC : Hid (∀ w1, Below w.heap.size w w1 → Calls Try.prog 97 #[.pointer (some ⟨g, 0, none⟩), .int .i64 r] w1 fun e w' => e = .returned (.tuple #[.agg #[.int .i64 0, .int .i64 0], .bool false]) ∧ Rdy w' g ∧ Only g w1 w') := fun w1 hb => kget_not g r hr8 s w1 (HS.out.below hb) HNO.out
    have HR : Hid (∀ w1, Only g w w1 → Rdy w1 g → Calls Try.prog 90 #[.pointer (some ⟨rb, 0, none⟩)] w1 fun e w' => e = .returned (.tuple #[]) ∧ Bad w' g ∧ Only g w1 w') := fun w1 ho hr => refuse_any rb g v0 v1 v2 v3 v4 r w1 (HM.out.only ho) hr
    clear h hs hyes
    go_enter Try.func92, Try.ntmps92
    go_wp2_with fail
    refine wp_world fun W hW => ?_
    have HB0 : Hid (Below w.heap.size w W) := by
      show Below w.heap.size w W
      rw [hW]
      exact (Below.refl _ _).alloc (Nat.le_refl _) _
    have HR0 : Hid (Blk W w.heap.size 33 #[.int .i64 0, .int .i64 0]) := by show Blk W _ _ _; rw [hW]; exact heap_alloc_new w _
    have HO0 : Hid (Only g w W) := by show Only g w W; rw [hW]; exact only_alloc _
    clear hW
    have HK0 : Hid (C2 rb 0 6 (.pointer (some ⟨g, 0, none⟩)) (.int .i64 r) W) := ⟨(HM.out.below HB0.out).ptr, (HM.out.below HB0.out).recs⟩
    obtain ⟨z0, z6⟩ := HK0.out
    have hWs := HR0.out.lt
    have hrW : rb < W.heap.size := by omega
    have hgW : W.heap.size ≠ g := by omega
    go_region_held3 (fun w' => w'.cell? ⟨rb, 0, none⟩ = some (.pointer (some ⟨g, 0, none⟩)) ∧ w'.cell? ⟨rb, 6, none⟩ = some (.int .i64 r))
      (first | exact HK0.out | exact HK0.out.below (((Below.refl W.heap.size W).alloc (Nat.le_refl _) _).drew) hrW | exact HK1.out | (have hz := HK1.out; clear hz; first | exact HK1.out.below ((Below.refl W.heap.size w1).alloc HW1.out _) hrW | exact HK1.out.below (((Below.refl W.heap.size w1).setCell (Nat.le_refl _) _).setCell (Nat.le_refl _) _) hrW | exact HK1.out.below ((Below.refl W.heap.size w1).setCell (Nat.le_refl _) _) hrW))
      (first
      | (go_at_call 97
         (with_reducible refine (HC.out W.drew HB0.out.drew).mono ?_)
         rintro e w1 ⟨rfl, hs1, ho1⟩
         have HS1 := Lib.hid hs1
         have hr1 := only_blk (w := W.drew) ho1 HR0.out hgw
         have HO1 := Lib.hid (only_trans (only_trans' HO0.out ((Below.refl _ W).drew)) ho1)
         have HK1 : Hid (C2 rb 0 6 (.pointer (some ⟨g, 0, none⟩)) (.int .i64 r) w1) := ⟨(HM.out.only HO1.out).ptr, (HM.out.only HO1.out).recs⟩
         have r0 := Blk.cell hr1 0
         have r1 := Blk.cell hr1 1
         have f0 := Blk.frozen hr1 0
         have f1 := Blk.frozen hr1 1
         have rlt := hr1.lt
         have HW1 : Hid (W.heap.size ≤ w1.heap.size) := ho1.size
         simp at r0 r1
         have HX1 := Lib.hid hr1
         clear hs1 ho1 hr1)
      | (go_at_call 97
         refine (HC.out _ (HB0.out.alloc HB0.out.size _).drew).mono ?_
         rintro e w1 ⟨rfl, hs1, ho1⟩
         have HS1 := Lib.hid hs1
         have hr1 := only_blk (w := (W.alloc (.cells #[.int .i64 0, .int .i64 0] 33)).drew) ho1 ((Below.heap_alloc _ _ _ HR0.out.lt).trans HR0.out) hgw
         have hx1 := only_blk (w := (W.alloc (.cells #[.int .i64 0, .int .i64 0] 33)).drew) ho1 (heap_alloc_new W (.cells #[.int .i64 0, .int .i64 0] 33)) hgW
         have HO1 := Lib.hid (only_trans (only_trans' HO0.out (((Below.refl _ W).alloc HB0.out.size _).drew)) ho1)
         have HK1 : Hid (C2 rb 0 6 (.pointer (some ⟨g, 0, none⟩)) (.int .i64 r) w1) := ⟨(HM.out.only HO1.out).ptr, (HM.out.only HO1.out).recs⟩
         have r0 := Blk.cell hr1 0
         have r1 := Blk.cell hr1 1
         have f0 := Blk.frozen hr1 0
         have f1 := Blk.frozen hr1 1
         have x0 := Blk.cell hx1 0
         have x1 := Blk.cell hx1 1
         have y0 := Blk.frozen hx1 0
         have y1 := Blk.frozen hx1 1
         have rlt := hr1.lt
         have HW1 : Hid (W.heap.size ≤ w1.heap.size) := (Nat.le_of_lt hx1.lt)
         simp at r0 r1 x0 x1
         have HX1 := Lib.hid hr1
         have HY1 := Lib.hid hx1
         clear hs1 ho1 hr1 hx1))
    · have hg1 : w1.heap.size ≠ g := by have := HW1.out; omega
      have hgz : g < w1.heap.size := by have := HW1.out; omega
      go_wp2_with (first
        | (go_at_call 90
           refine (HR.out _ (only_trans HO1.out (only_alloc _)) (HS1.out.low ((Below.refl _ _).alloc (Nat.le_refl _) _) hgz)).mono ?_
           rintro e w2 ⟨rfl, hb2, ho2⟩
           have HB2 := Lib.hid hb2
           have hr2 := only_blk ho2 ((Below.heap_alloc _ _ _ HX1.out.lt).trans HX1.out) hgw
           have hx2 := only_blk ho2 (heap_alloc_new w1 (.cells #[.int .i64 0, .int .i64 0] 33)) hg1
           have HO2 := Lib.hid (only_trans (only_trans HO1.out (only_alloc _)) ho2)
           have q0 := Blk.cell hr2 0
           have q1 := Blk.cell hr2 1
           have p0 := Blk.frozen hr2 0
           have p1 := Blk.frozen hr2 1
           have k0 := Blk.cell hx2 0
           have k1 := Blk.cell hx2 1
           simp at q0 q1 k0 k1
           clear hb2 ho2 hr2 hx2))
      have hF : Below w.heap.size w2 ((w2.setCell ⟨w.heap.size, 0, none⟩ (.int .i64 0)).setCell ⟨w.heap.size, 1, none⟩ (.int .i64 0)) :=
        ((Below.refl _ _).setCell (p := ⟨w.heap.size, 0, none⟩) (Nat.le_refl _) _).setCell (p := ⟨w.heap.size, 1, none⟩) (Nat.le_refl _) _
      refine bodyPost_ret (v := .agg #[.int .i64 0, .int .i64 0]) (by simp [results, Try.results92, go_sem, q0, q1]) rfl ?_
      exact ⟨only_trans' HO2.out hF, _, (0, 0), rfl, ⟨rfl, I64_zero, I64_zero⟩, .inr ⟨HB2.out.below hF hg, HNO.out⟩⟩
    · have hgz : g < W.heap.size := by omega
      have hF1 : Below W.heap.size w1 ((w1.setCell ⟨W.heap.size, 0, none⟩ (.int .i64 0)).setCell ⟨W.heap.size, 1, none⟩ (.int .i64 0)) := ((Below.refl _ _).setCell (p := ⟨W.heap.size, 0, none⟩) (Nat.le_refl _) _).setCell (p := ⟨W.heap.size, 1, none⟩) (Nat.le_refl _) _
      have HF1 := Lib.hid hF1
      clear hF1
      go_wp2_with (first
        | (go_at_call 90
           refine (HR.out _ (only_trans' HO1.out (HF1.out.mono HB0.out.size)) (HS1.out.low HF1.out hgz)).mono ?_
           rintro e w2 ⟨rfl, hb2, ho2⟩
           have HB2 := Lib.hid hb2
           have hr2 := only_blk ho2 (set_blk (set_blk HX1.out _ (Nat.ne_of_lt hWs)) _ (Nat.ne_of_lt hWs)) hgw
           have hx2 := only_blk ho2 ((HY1.out.set 0 (.int .i64 0)).set 1 (.int .i64 0)) hgW
           have HO2 := Lib.hid (only_trans (only_trans' HO1.out (HF1.out.mono HB0.out.size)) ho2)
           have q0 := Blk.cell hr2 0
           have q1 := Blk.cell hr2 1
           have p0 := Blk.frozen hr2 0
           have p1 := Blk.frozen hr2 1
           have k0 := Blk.cell hx2 0
           have k1 := Blk.cell hx2 1
           simp at q0 q1 k0 k1
           clear hb2 ho2 hr2 hx2))
      have hF : Below w.heap.size w2 ((w2.setCell ⟨w.heap.size, 0, none⟩ (.int .i64 0)).setCell ⟨w.heap.size, 1, none⟩ (.int .i64 0)) :=
        ((Below.refl _ _).setCell (p := ⟨w.heap.size, 0, none⟩) (Nat.le_refl _) _).setCell (p := ⟨w.heap.size, 1, none⟩) (Nat.le_refl _) _
      refine bodyPost_ret (v := .agg #[.int .i64 0, .int .i64 0]) (by simp [results, Try.results92, go_sem, q0, q1]) rfl ?_
      exact ⟨only_trans' HO2.out hF, _, (0, 0), rfl, ⟨rfl, I64_zero, I64_zero⟩, .inr ⟨HB2.out.below hF hg, HNO.out⟩⟩
end Go.Proofs.Ytngjnkkdhjholaa
