/-
  What kind's Get does with a good reader: what it takes, and which type it answers.
  Conditions: as the theorem says (where the Reader lies, what bytes it holds).
-/
import Derived.Test.YtcogjdpgnahjiaaRdv
import Derived.Test.YtcogjdpgnahjiaaKnd
namespace Go.Proofs.Ytcogjdpgnahjiaa
open Go.RowKit
set_option linter.unusedSimpArgs false

/-- A Reader's bytes begin with two numbers. -/
def TwoVars (xs : List Nat) (a b : Nat) (rest : List Nat) : Prop := ∃ n m, IsVar xs a n ∧ IsVar (xs.drop n) b m ∧ rest = (xs.drop n).drop m

theorem only_blk {g b : Nat} {w w' : World} {t : TypeId} {cs : Array Value} (h : Only g w w') (hb : Blk w b t cs) (hne : b ≠ g) : Blk w' b t cs :=
  (h.block b hb.lt (fun e => hne (by injection e))).trans hb
theorem blk_new (w : World) (t : TypeId) (cs : Array Value) : Blk (w.alloc (.cells cs t)) w.heap.size t cs := by
  show (w.heap.push _)[w.heap.size]? = _
  simp

set_option maxHeartbeats 1000000 in
/-- The two numbers are there, and they make a good type, or not. -/
theorem kget_two (g : Nat) (xs rest : List Nat) (a b : Nat) (r : Int) (w : World) (h : Good w g xs) (hb : ∀ x ∈ xs, x < 256) (hl : xs.length ≤ 140737488355328) (ht : TwoVars xs a b rest) :
    Calls Try.prog 19 #[.pointer (some ⟨g, 0, none⟩), .int .i64 r] w fun e w' =>
      e = .returned (if a ≤ 8 ∧ b ≤ 255 ∧ goodB a b r = true then .tuple #[.agg #[.int .i64 (a : Nat), .int .i64 (b : Nat)], .bool true] else .tuple #[.agg #[.int .i64 0, .int .i64 0], .bool false]) ∧ Good w' g rest ∧ Only g w w' := by
  obtain ⟨n, m, h1, h2, hrest⟩ := ht
  have HE := Lib.hid hrest
  clear hrest
  have hg := h.lt
  have HG := Lib.hid h
  have Hb := Lib.hid hb
  have H1 := Lib.hid h1
  have H2 := Lib.hid h2
  have Hl : Hid ((xs.drop n).length ≤ 140737488355328) := by show (xs.drop n).length ≤ 140737488355328; simp; omega
  have Hbd : Hid (∀ x ∈ xs.drop n, x < 256) := fun x hx => hb x (List.mem_of_mem_drop hx)
  clear h hb h1 h2
  have hgw : w.heap.size ≠ g := by omega
  have KG := Lib.hid (fun w => kgood a b r w)
  by_cases ha : a ≤ 8
  · have e8 : decide (8 < a) = false := by simp; omega
    by_cases hb2 : b ≤ 255
    · have e255 : decide (255 < b) = false := by simp; omega
      cases hgd : goodB a b r
      · rw [if_neg (by simp)]
        rw [hgd] at KG
        clear hgd
        go_enter Try.func19, Try.ntmps19
        go_wp2_with (first
          | (go_at_call 9
             refine (KG.out _).mono ?_
             rintro e w3 ⟨rfl, hb3⟩
             have HB3 := Lib.hid hb3
             have hr3 := (hb3.block w.heap.size (by simp; omega)).trans ((Below.heap_alloc w2 _ _ rlt).trans HR2.out)
             have q0 := Blk.cell hr3 0
             have q1 := Blk.cell hr3 1
             have p0 := Blk.frozen hr3 0
             have p1 := Blk.frozen hr3 1
             simp at q0 q1
             clear hr3
             obtain ⟨hc3, hf3⟩ := bcell hb3
             have hs3 : w2.heap.size < w3.heap.size := (by have := hb3.size; simp at this; omega)
             clear hb3)
          | (go_at_call 26
             obtain ⟨A2, c2, hk2, -⟩ := HG2.out
             refine (bad_at g _ _ _ hk2).mono ?_
             rintro e w3 ⟨rfl, rfl⟩
             clear hk2)
          | (go_at_call 25
             have hp := HG1.out
             clear hp
             refine (rvar_ok g (xs.drop n) b m _ HG1.out Hbd.out H2.out Hl.out).mono ?_
             rintro e w2 ⟨rfl, hg2, ho2⟩
             rw [← HE.out] at hg2
             have HG2 := Lib.hid hg2
             have hr2 := only_blk ho2 HR1.out hgw
             have HR2 := Lib.hid hr2
             have r0 := hr2.cell 0
             have r1 := hr2.cell 1
             have f0 := hr2.frozen 0
             have f1 := hr2.frozen 1
             have rlt := hr2.lt
             simp at r0 r1
             have HO2 := Lib.hid (only_trans HO1.out ho2)
             clear hg2 ho2 hr2)
          | (go_at_call 25
             refine (rvar_ok g xs a n _ (HG.out.alloc _) Hb.out H1.out hl).mono ?_
             rintro e w1 ⟨rfl, hg1, ho1⟩
             have HG1 := Lib.hid hg1
             have HR1 := Lib.hid (only_blk ho1 (blk_new _ _ _) hgw)
             have HO1 := Lib.hid (only_trans (only_alloc _) ho1)
             clear hg1 ho1))
        refine bodyPost_ret (v := .tuple #[.agg #[.int .i64 0, .int .i64 0], .bool false]) (by simp [results, Try.results19, go_sem, q0, q1]) rfl ⟨rfl, ((HG2.out.alloc _).below HB3.out (by simp; omega)).keep fun i hi => ?_, only_trans' HO2.out (((((Below.refl _ _).alloc (by omega) _).trans (HB3.out.mono (by simp; omega))).setCell ?_ _).setCell ?_ _)⟩
        · rw [Below.heap_setCell, Below.heap_setCell] <;> (simp; omega)
        all_goals simp
      · rw [if_pos ⟨ha, hb2, rfl⟩]
        rw [hgd] at KG
        clear hgd
        go_enter Try.func19, Try.ntmps19
        go_wp2_with (first
          | (go_at_call 9
             refine (KG.out _).mono ?_
             rintro e w3 ⟨rfl, hb3⟩
             have HB3 := Lib.hid hb3
             have hr3 := (hb3.block w.heap.size (by simp; omega)).trans ((Below.heap_alloc w2 _ _ rlt).trans HR2.out)
             have q0 := Blk.cell hr3 0
             have q1 := Blk.cell hr3 1
             have p0 := Blk.frozen hr3 0
             have p1 := Blk.frozen hr3 1
             simp at q0 q1
             clear hr3
             obtain ⟨hc3, hf3⟩ := bcell hb3
             have hs3 : w2.heap.size < w3.heap.size := (by have := hb3.size; simp at this; omega)
             clear hb3)
          | (go_at_call 26
             obtain ⟨A2, c2, hk2, -⟩ := HG2.out
             refine (bad_at g _ _ _ hk2).mono ?_
             rintro e w3 ⟨rfl, rfl⟩
             clear hk2)
          | (go_at_call 25
             have hp := HG1.out
             clear hp
             refine (rvar_ok g (xs.drop n) b m _ HG1.out Hbd.out H2.out Hl.out).mono ?_
             rintro e w2 ⟨rfl, hg2, ho2⟩
             rw [← HE.out] at hg2
             have HG2 := Lib.hid hg2
             have hr2 := only_blk ho2 HR1.out hgw
             have HR2 := Lib.hid hr2
             have r0 := hr2.cell 0
             have r1 := hr2.cell 1
             have f0 := hr2.frozen 0
             have f1 := hr2.frozen 1
             have rlt := hr2.lt
             simp at r0 r1
             have HO2 := Lib.hid (only_trans HO1.out ho2)
             clear hg2 ho2 hr2)
          | (go_at_call 25
             refine (rvar_ok g xs a n _ (HG.out.alloc _) Hb.out H1.out hl).mono ?_
             rintro e w1 ⟨rfl, hg1, ho1⟩
             have HG1 := Lib.hid hg1
             have HR1 := Lib.hid (only_blk ho1 (blk_new _ _ _) hgw)
             have HO1 := Lib.hid (only_trans (only_alloc _) ho1)
             clear hg1 ho1))
        refine bodyPost_ret (v := .tuple #[.agg #[.int .i64 (a : Nat), .int .i64 (b : Nat)], .bool true]) (by simp [results, Try.results19, go_sem, q0, q1]) rfl ⟨rfl, ((HG2.out.alloc _).below HB3.out (by simp; omega)).keep fun i hi => ?_, only_trans' HO2.out (((((Below.refl _ _).alloc (by omega) _).trans (HB3.out.mono (by simp; omega))).setCell ?_ _).setCell ?_ _)⟩
        · rw [Below.heap_setCell, Below.heap_setCell] <;> (simp; omega)
        all_goals simp
    · rw [if_neg (by omega)]
      have e255 : decide (255 < b) = true := by simp; omega
      go_enter Try.func19, Try.ntmps19
      go_wp2_with (first
        | (go_at_call 26
           obtain ⟨A2, c2, hk2, -⟩ := HG2.out
           refine (bad_at g _ _ _ hk2).mono ?_
           rintro e w3 ⟨rfl, rfl⟩
           clear hk2)
        | (go_at_call 25
           have hp := HG1.out
           clear hp
           refine (rvar_ok g (xs.drop n) b m _ HG1.out Hbd.out H2.out Hl.out).mono ?_
           rintro e w2 ⟨rfl, hg2, ho2⟩
           rw [← HE.out] at hg2
           have HG2 := Lib.hid hg2
           have hr2 := only_blk ho2 HR1.out hgw
           have HR2 := Lib.hid hr2
           have r0 := hr2.cell 0
           have r1 := hr2.cell 1
           have f0 := hr2.frozen 0
           have f1 := hr2.frozen 1
           have rlt := hr2.lt
           simp at r0 r1
           have HO2 := Lib.hid (only_trans HO1.out ho2)
           clear hg2 ho2 hr2)
        | (go_at_call 25
           refine (rvar_ok g xs a n _ (HG.out.alloc _) Hb.out H1.out hl).mono ?_
           rintro e w1 ⟨rfl, hg1, ho1⟩
           have HG1 := Lib.hid hg1
           have HR1 := Lib.hid (only_blk ho1 (blk_new _ _ _) hgw)
           have HO1 := Lib.hid (only_trans (only_alloc _) ho1)
           clear hg1 ho1))
      refine bodyPost_ret (v := .tuple #[.agg #[.int .i64 0, .int .i64 0], .bool false]) (by simp [results, Try.results19, go_sem, r0, r1]) rfl ⟨rfl, HG2.out.keep fun i hi => ?_, only_trans' HO2.out (((Below.refl _ _).setCell ?_ _).setCell ?_ _)⟩
      · rw [Below.heap_setCell, Below.heap_setCell] <;> (simp; omega)
      all_goals simp
  · rw [if_neg (by omega)]
    have e8 : decide (8 < a) = true := by simp; omega
    go_enter Try.func19, Try.ntmps19
    go_wp2_with (first
      | (go_at_call 26
         obtain ⟨A2, c2, hk2, -⟩ := HG2.out
         refine (bad_at g _ _ _ hk2).mono ?_
         rintro e w3 ⟨rfl, rfl⟩
         clear hk2)
      | (go_at_call 25
         have hp := HG1.out
         clear hp
         refine (rvar_ok g (xs.drop n) b m _ HG1.out Hbd.out H2.out Hl.out).mono ?_
         rintro e w2 ⟨rfl, hg2, ho2⟩
         rw [← HE.out] at hg2
         have HG2 := Lib.hid hg2
         have hr2 := only_blk ho2 HR1.out hgw
         have HR2 := Lib.hid hr2
         have r0 := hr2.cell 0
         have r1 := hr2.cell 1
         have f0 := hr2.frozen 0
         have f1 := hr2.frozen 1
         have rlt := hr2.lt
         simp at r0 r1
         have HO2 := Lib.hid (only_trans HO1.out ho2)
         clear hg2 ho2 hr2)
      | (go_at_call 25
         refine (rvar_ok g xs a n _ (HG.out.alloc _) Hb.out H1.out hl).mono ?_
         rintro e w1 ⟨rfl, hg1, ho1⟩
         have HG1 := Lib.hid hg1
         have HR1 := Lib.hid (only_blk ho1 (blk_new _ _ _) hgw)
         have HO1 := Lib.hid (only_trans (only_alloc _) ho1)
         clear hg1 ho1))
    refine bodyPost_ret (v := .tuple #[.agg #[.int .i64 0, .int .i64 0], .bool false]) (by simp [results, Try.results19, go_sem, r0, r1]) rfl ⟨rfl, HG2.out.keep fun i hi => ?_, only_trans' HO2.out (((Below.refl _ _).setCell ?_ _).setCell ?_ _)⟩
    · rw [Below.heap_setCell, Below.heap_setCell] <;> (simp; omega)
    all_goals simp
end Go.Proofs.Ytcogjdpgnahjiaa
