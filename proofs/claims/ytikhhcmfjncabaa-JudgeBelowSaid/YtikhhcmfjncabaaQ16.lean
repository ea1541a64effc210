/-
  Fac
-/
import Derived.Test.YtikhhcmfjncabaaQ11
import Derived.Deep.RegionHeld3
set_option linter.unusedSimpArgs false
set_option linter.unusedVariables false
namespace Go.Proofs.Ytikhhcmfjncabaa
open Go.RowKit

set_option maxRecDepth 100000 in
set_option maxHeartbeats 4000000 in
theorem array_31 (K : Nat) (w : World) : Calls Try.prog 64 #[.int .i64 31] w (Chgs K [(1, 0)] [(3, 0)] w) := by
  have P1 := Lib.hid (fun w => plain_any 1 w)
  have P2 := Lib.hid (fun w => plain_any 3 w)
  have P3 := Lib.hid (fun w => plain_any 2 w)
  have TK := Lib.hid takes_any
  have PU := Lib.hid puts_any
  go_enter Try.func64, Try.ntmps64
  go_wp2_with (first
    | (go_at_call 58; (with_reducible refine (P1.out _).mono ?_); rintro e w1 ⟨rfl, hb1⟩; have HR1 := Lib.hid hb1; have hs1 := hb1.size; simp at hs1; clear hb1)
    | (go_at_call 58; (with_reducible refine (P2.out _).mono ?_); rintro e w2 ⟨rfl, hb2⟩; have HR2 := Lib.hid hb2; have hs2 := hb2.size; clear hb2)
    | (go_at_call 58; (with_reducible refine (P3.out _).mono ?_); rintro e w3 ⟨rfl, hb3⟩; have HR3 := Lib.hid hb3; have hs3 := hb3.size; clear hb3))
  refine wp_world fun W hW => ?_
  have HB3 : Hid (Below w.heap.size w w3) := (((below_new w _).trans (HR1.out.mono (by simp))).trans (HR2.out.mono (by omega))).trans (HR3.out.mono (by omega))
  have HBW : Hid (Below w.heap.size w W) := by show Below _ _ _; rw [hW]; exact ((HB3.out.alloc HB3.out.size _).alloc (by simp <;> omega) _).alloc (by simp <;> omega) _
  have HRW : Hid (Blk W w.heap.size 79 #[.slice none 0 0, .slice none 0 0]) := by show Blk _ _ _ _; rw [hW]; exact blk_keep (blk_keep (blk_keep (blk_below (blk_below (blk_below (blk_new w _ _) HR1.out (by simp)) HR2.out (by omega)) HR3.out (by omega))))
  have HN : Hid (Blk W w3.heap.size 27 #[.int .i64 1, .int .i64 0] ∧ Blk W (w3.heap.size + 1) 27 #[.int .i64 3, .int .i64 0] ∧ Blk W (w3.heap.size + 2) 27 #[.int .i64 2, .int .i64 0]) := by
    show _ ∧ _
    rw [hW]
    exact ⟨blk_keep (blk_keep (blk_at rfl)), blk_keep (blk_at (by simp)), blk_at (by simp)⟩
  have hg : w.heap.size < w3.heap.size := by omega
  have hgW : w3.heap.size + 3 ≤ W.heap.size := by rw [hW]; simp
  clear hW
  have HC : Hid (∀ w', Below W.heap.size W w' → w'.cell? ⟨w3.heap.size, 0, none⟩ = some (.int .i64 1) ∧ w'.cell? ⟨w3.heap.size, 1, none⟩ = some (.int .i64 0) ∧ w'.cell? ⟨w3.heap.size + 1, 0, none⟩ = some (.int .i64 3) ∧ w'.cell? ⟨w3.heap.size + 1, 1, none⟩ = some (.int .i64 0) ∧ w'.cell? ⟨w3.heap.size + 2, 0, none⟩ = some (.int .i64 2) ∧ w'.cell? ⟨w3.heap.size + 2, 1, none⟩ = some (.int .i64 0)) := fun w' hb =>
    ⟨(blk_below HN.out.1 hb (by omega)).cell 0, (blk_below HN.out.1 hb (by omega)).cell 1, (blk_below HN.out.2.1 hb (by omega)).cell 0, (blk_below HN.out.2.1 hb (by omega)).cell 1, (blk_below HN.out.2.2 hb (by omega)).cell 0, (blk_below HN.out.2.2 hb (by omega)).cell 1⟩
  have SW := Lib.hid (HC.out W (Below.refl _ _))
  have HCs : Hid (∀ w' u v, Below W.heap.size W w' → ((w'.setCell ⟨w.heap.size, 0, none⟩ u).setCell ⟨w.heap.size, 1, none⟩ v).cell? ⟨w3.heap.size, 0, none⟩ = some (.int .i64 1) ∧ ((w'.setCell ⟨w.heap.size, 0, none⟩ u).setCell ⟨w.heap.size, 1, none⟩ v).cell? ⟨w3.heap.size, 1, none⟩ = some (.int .i64 0) ∧ ((w'.setCell ⟨w.heap.size, 0, none⟩ u).setCell ⟨w.heap.size, 1, none⟩ v).cell? ⟨w3.heap.size + 1, 0, none⟩ = some (.int .i64 3) ∧ ((w'.setCell ⟨w.heap.size, 0, none⟩ u).setCell ⟨w.heap.size, 1, none⟩ v).cell? ⟨w3.heap.size + 1, 1, none⟩ = some (.int .i64 0) ∧ ((w'.setCell ⟨w.heap.size, 0, none⟩ u).setCell ⟨w.heap.size, 1, none⟩ v).cell? ⟨w3.heap.size + 2, 0, none⟩ = some (.int .i64 2) ∧ ((w'.setCell ⟨w.heap.size, 0, none⟩ u).setCell ⟨w.heap.size, 1, none⟩ v).cell? ⟨w3.heap.size + 2, 1, none⟩ = some (.int .i64 0)) := fun w' u v hb =>
    ⟨(blk_other (blk_other (blk_below HN.out.1 hb (by omega)) (by omega)) (by omega)).cell 0, (blk_other (blk_other (blk_below HN.out.1 hb (by omega)) (by omega)) (by omega)).cell 1, (blk_other (blk_other (blk_below HN.out.2.1 hb (by omega)) (by omega)) (by omega)).cell 0, (blk_other (blk_other (blk_below HN.out.2.1 hb (by omega)) (by omega)) (by omega)).cell 1, (blk_other (blk_other (blk_below HN.out.2.2 hb (by omega)) (by omega)) (by omega)).cell 0, (blk_other (blk_other (blk_below HN.out.2.2 hb (by omega)) (by omega)) (by omega)).cell 1⟩
  go_wp2_with fail
  go_region_held3 (fun w' => w'.cell? ⟨w3.heap.size, 0, none⟩ = some (.int .i64 1) ∧ w'.cell? ⟨w3.heap.size, 1, none⟩ = some (.int .i64 0) ∧ w'.cell? ⟨w3.heap.size + 1, 0, none⟩ = some (.int .i64 3) ∧ w'.cell? ⟨w3.heap.size + 1, 1, none⟩ = some (.int .i64 0) ∧ w'.cell? ⟨w3.heap.size + 2, 0, none⟩ = some (.int .i64 2) ∧ w'.cell? ⟨w3.heap.size + 2, 1, none⟩ = some (.int .i64 0))
    (first | exact SS5.out | exact SS4.out | (have hz := HB5.out; clear hz; first | exact HC.out _ (HB5.out.alloc HB5.out.size _) | exact HC.out _ ((HB5.out.alloc HB5.out.size _).alloc (by have := HB5.out.size; simp; omega) _)) | (have hz := HB4.out; clear hz; first | exact HC.out _ (HB4.out.alloc HB4.out.size _) | exact HC.out _ ((HB4.out.alloc HB4.out.size _).alloc (by have := HB4.out.size; simp; omega) _)) | (have hz := HB5.out; clear hz; exact HCs.out _ _ _ HB5.out) | (have hz := HB4.out; clear hz; exact HCs.out _ _ _ HB4.out) | exact SW.out | exact HC.out _ (Below.refl _ W).drew | exact HC.out _ (below_new W _).drew | exact HC.out _ ((below_new W _).alloc (by simp) _).drew)
    (first
        | (go_at_call 59
           with_reducible refine (TK.out _ _ _ _).mono ?_
           rintro e w4 ⟨rfl, hb4⟩
           have HB4 : Hid (Below W.heap.size W w4) := (by show Below _ _ _; first | exact trn ((Below.refl _ W).drew) hb4 | exact trn ((below_new W _).drew) hb4 | exact trn (((below_new W _).alloc (by simp) _).drew) hb4 | exact trn (below_new W _) hb4 | exact trn ((below_new W _).alloc (by simp) _) hb4 | exact trn (Below.refl _ W) hb4)
           have HR4 := Lib.hid hb4
           have hs4 := hb4.size
           try simp at hs4
           have HBk4 : Hid (Blk w4 w.heap.size 79 #[.slice none 0 0, .slice none 0 0]) := blk_below HRW.out HB4.out (by omega)
           have hra4 := HBk4.out.cell 0
           have hrb4 := HBk4.out.cell 1
           have hfa4 := HBk4.out.frozen 0
           have hfb4 := HBk4.out.frozen 1
           have SS4 := Lib.hid (HC.out _ HB4.out)
           clear hb4)
        | (go_at_call 60
           with_reducible refine (PU.out _ _ _ _ _ _ _).mono ?_
           rintro e w5 ⟨rfl, hb5⟩
           have HB5 : Hid (Below W.heap.size W w5) := (by show Below _ _ _; first | exact trn (HB4.out) hb5 | exact trn (HB4.out.alloc HB4.out.size _) hb5 | exact trn ((HB4.out.alloc HB4.out.size _).alloc (by have := HB4.out.size; simp; omega) _) hb5)
           have HR5 := Lib.hid hb5
           have hs5 := hb5.size
           try simp at hs5
           have HBk5 : Hid (Blk w5 w.heap.size 79 #[.slice none 0 0, .slice none 0 0]) := blk_below HRW.out HB5.out (by omega)
           have hra5 := HBk5.out.cell 0
           have hrb5 := HBk5.out.cell 1
           have hfa5 := HBk5.out.frozen 0
           have hfb5 := HBk5.out.frozen 1
           have SS5 := Lib.hid (HC.out _ HB5.out)
           clear hb5))
  all_goals
    go_wp2_with fail
    refine bodyPost_ret (res_chg rfl _ _ rfl (set2_0 hra5) (set2_1 hrb5)) rfl ⟨below_set2 (HBW.out.trans (HB5.out.mono HBW.out.size)) (by omega), _, _, _, _, _, _, rfl, ?_, ?_⟩
    · exact lit_lt (cs := #[.int .i64 1, .int .i64 0]) (ts := [(1, 0)]) (by (repeat (first | ((with_reducible refine blk_at ?_); simp; done) | with_reducible refine blk_keep ?_ | with_reducible refine blk_drew ?_ | with_reducible refine blk_other ?_ (by omega) | with_reducible refine blk_below ?_ HR5.out (by first | omega | (simp <;> omega)) | with_reducible refine blk_below ?_ HR4.out (by first | omega | (simp <;> omega)) | with_reducible exact HRW.out))) (by omega) rfl (a64_num (by omega) (A64.nil)) rfl (by omega)
    · exact lit_lt (cs := #[.int .i64 3, .int .i64 0]) (ts := [(3, 0)]) (by (repeat (first | ((with_reducible refine blk_at ?_); simp; done) | with_reducible refine blk_keep ?_ | with_reducible refine blk_drew ?_ | with_reducible refine blk_other ?_ (by omega) | with_reducible refine blk_below ?_ HR5.out (by first | omega | (simp <;> omega)) | with_reducible refine blk_below ?_ HR4.out (by first | omega | (simp <;> omega)) | with_reducible exact HRW.out))) (by omega) rfl (a64_num (by omega) (A64.nil)) rfl (by omega)
set_option maxRecDepth 100000 in
set_option maxHeartbeats 4000000 in
theorem array_32 (K : Nat) (w : World) : Calls Try.prog 64 #[.int .i64 32] w (Chgs K [(3, 0), (1, 0)] [(1, 0)] w) := by
  have P1 := Lib.hid (fun w => plain_any 1 w)
  have P2 := Lib.hid (fun w => plain_any 3 w)
  have P3 := Lib.hid (fun w => plain_any 2 w)
  have TK := Lib.hid takes_any
  have PU := Lib.hid puts_any
  go_enter Try.func64, Try.ntmps64
  go_wp2_with (first
    | (go_at_call 58; (with_reducible refine (P1.out _).mono ?_); rintro e w1 ⟨rfl, hb1⟩; have HR1 := Lib.hid hb1; have hs1 := hb1.size; simp at hs1; clear hb1)
    | (go_at_call 58; (with_reducible refine (P2.out _).mono ?_); rintro e w2 ⟨rfl, hb2⟩; have HR2 := Lib.hid hb2; have hs2 := hb2.size; clear hb2)
    | (go_at_call 58; (with_reducible refine (P3.out _).mono ?_); rintro e w3 ⟨rfl, hb3⟩; have HR3 := Lib.hid hb3; have hs3 := hb3.size; clear hb3))
  refine wp_world fun W hW => ?_
  have HB3 : Hid (Below w.heap.size w w3) := (((below_new w _).trans (HR1.out.mono (by simp))).trans (HR2.out.mono (by omega))).trans (HR3.out.mono (by omega))
  have HBW : Hid (Below w.heap.size w W) := by show Below _ _ _; rw [hW]; exact ((HB3.out.alloc HB3.out.size _).alloc (by simp <;> omega) _).alloc (by simp <;> omega) _
  have HRW : Hid (Blk W w.heap.size 79 #[.slice none 0 0, .slice none 0 0]) := by show Blk _ _ _ _; rw [hW]; exact blk_keep (blk_keep (blk_keep (blk_below (blk_below (blk_below (blk_new w _ _) HR1.out (by simp)) HR2.out (by omega)) HR3.out (by omega))))
  have HN : Hid (Blk W w3.heap.size 27 #[.int .i64 1, .int .i64 0] ∧ Blk W (w3.heap.size + 1) 27 #[.int .i64 3, .int .i64 0] ∧ Blk W (w3.heap.size + 2) 27 #[.int .i64 2, .int .i64 0]) := by
    show _ ∧ _
    rw [hW]
    exact ⟨blk_keep (blk_keep (blk_at rfl)), blk_keep (blk_at (by simp)), blk_at (by simp)⟩
  have hg : w.heap.size < w3.heap.size := by omega
  have hgW : w3.heap.size + 3 ≤ W.heap.size := by rw [hW]; simp
  clear hW
  have HC : Hid (∀ w', Below W.heap.size W w' → w'.cell? ⟨w3.heap.size, 0, none⟩ = some (.int .i64 1) ∧ w'.cell? ⟨w3.heap.size, 1, none⟩ = some (.int .i64 0) ∧ w'.cell? ⟨w3.heap.size + 1, 0, none⟩ = some (.int .i64 3) ∧ w'.cell? ⟨w3.heap.size + 1, 1, none⟩ = some (.int .i64 0) ∧ w'.cell? ⟨w3.heap.size + 2, 0, none⟩ = some (.int .i64 2) ∧ w'.cell? ⟨w3.heap.size + 2, 1, none⟩ = some (.int .i64 0)) := fun w' hb =>
    ⟨(blk_below HN.out.1 hb (by omega)).cell 0, (blk_below HN.out.1 hb (by omega)).cell 1, (blk_below HN.out.2.1 hb (by omega)).cell 0, (blk_below HN.out.2.1 hb (by omega)).cell 1, (blk_below HN.out.2.2 hb (by omega)).cell 0, (blk_below HN.out.2.2 hb (by omega)).cell 1⟩
  have SW := Lib.hid (HC.out W (Below.refl _ _))
  have HCs : Hid (∀ w' u v, Below W.heap.size W w' → ((w'.setCell ⟨w.heap.size, 0, none⟩ u).setCell ⟨w.heap.size, 1, none⟩ v).cell? ⟨w3.heap.size, 0, none⟩ = some (.int .i64 1) ∧ ((w'.setCell ⟨w.heap.size, 0, none⟩ u).setCell ⟨w.heap.size, 1, none⟩ v).cell? ⟨w3.heap.size, 1, none⟩ = some (.int .i64 0) ∧ ((w'.setCell ⟨w.heap.size, 0, none⟩ u).setCell ⟨w.heap.size, 1, none⟩ v).cell? ⟨w3.heap.size + 1, 0, none⟩ = some (.int .i64 3) ∧ ((w'.setCell ⟨w.heap.size, 0, none⟩ u).setCell ⟨w.heap.size, 1, none⟩ v).cell? ⟨w3.heap.size + 1, 1, none⟩ = some (.int .i64 0) ∧ ((w'.setCell ⟨w.heap.size, 0, none⟩ u).setCell ⟨w.heap.size, 1, none⟩ v).cell? ⟨w3.heap.size + 2, 0, none⟩ = some (.int .i64 2) ∧ ((w'.setCell ⟨w.heap.size, 0, none⟩ u).setCell ⟨w.heap.size, 1, none⟩ v).cell? ⟨w3.heap.size + 2, 1, none⟩ = some (.int .i64 0)) := fun w' u v hb =>
    ⟨(blk_other (blk_other (blk_below HN.out.1 hb (by omega)) (by omega)) (by omega)).cell 0, (blk_other (blk_other (blk_below HN.out.1 hb (by omega)) (by omega)) (by omega)).cell 1, (blk_other (blk_other (blk_below HN.out.2.1 hb (by omega)) (by omega)) (by omega)).cell 0, (blk_other (blk_other (blk_below HN.out.2.1 hb (by omega)) (by omega)) (by omega)).cell 1, (blk_other (blk_other (blk_below HN.out.2.2 hb (by omega)) (by omega)) (by omega)).cell 0, (blk_other (blk_other (blk_below HN.out.2.2 hb (by omega)) (by omega)) (by omega)).cell 1⟩
  go_wp2_with fail
  go_region_held3 (fun w' => w'.cell? ⟨w3.heap.size, 0, none⟩ = some (.int .i64 1) ∧ w'.cell? ⟨w3.heap.size, 1, none⟩ = some (.int .i64 0) ∧ w'.cell? ⟨w3.heap.size + 1, 0, none⟩ = some (.int .i64 3) ∧ w'.cell? ⟨w3.heap.size + 1, 1, none⟩ = some (.int .i64 0) ∧ w'.cell? ⟨w3.heap.size + 2, 0, none⟩ = some (.int .i64 2) ∧ w'.cell? ⟨w3.heap.size + 2, 1, none⟩ = some (.int .i64 0))
    (first | exact SS5.out | exact SS4.out | (have hz := HB5.out; clear hz; first | exact HC.out _ (HB5.out.alloc HB5.out.size _) | exact HC.out _ ((HB5.out.alloc HB5.out.size _).alloc (by have := HB5.out.size; simp; omega) _)) | (have hz := HB4.out; clear hz; first | exact HC.out _ (HB4.out.alloc HB4.out.size _) | exact HC.out _ ((HB4.out.alloc HB4.out.size _).alloc (by have := HB4.out.size; simp; omega) _)) | (have hz := HB5.out; clear hz; exact HCs.out _ _ _ HB5.out) | (have hz := HB4.out; clear hz; exact HCs.out _ _ _ HB4.out) | exact SW.out | exact HC.out _ (Below.refl _ W).drew | exact HC.out _ (below_new W _).drew | exact HC.out _ ((below_new W _).alloc (by simp) _).drew)
    (first
        | (go_at_call 59
           with_reducible refine (TK.out _ _ _ _).mono ?_
           rintro e w4 ⟨rfl, hb4⟩
           have HB4 : Hid (Below W.heap.size W w4) := (by show Below _ _ _; first | exact trn ((Below.refl _ W).drew) hb4 | exact trn ((below_new W _).drew) hb4 | exact trn (((below_new W _).alloc (by simp) _).drew) hb4 | exact trn (below_new W _) hb4 | exact trn ((below_new W _).alloc (by simp) _) hb4 | exact trn (Below.refl _ W) hb4)
           have HR4 := Lib.hid hb4
           have hs4 := hb4.size
           try simp at hs4
           have HBk4 : Hid (Blk w4 w.heap.size 79 #[.slice none 0 0, .slice none 0 0]) := blk_below HRW.out HB4.out (by omega)
           have hra4 := HBk4.out.cell 0
           have hrb4 := HBk4.out.cell 1
           have hfa4 := HBk4.out.frozen 0
           have hfb4 := HBk4.out.frozen 1
           have SS4 := Lib.hid (HC.out _ HB4.out)
           clear hb4)
        | (go_at_call 60
           with_reducible refine (PU.out _ _ _ _ _ _ _).mono ?_
           rintro e w5 ⟨rfl, hb5⟩
           have HB5 : Hid (Below W.heap.size W w5) := (by show Below _ _ _; first | exact trn (HB4.out) hb5 | exact trn (HB4.out.alloc HB4.out.size _) hb5 | exact trn ((HB4.out.alloc HB4.out.size _).alloc (by have := HB4.out.size; simp; omega) _) hb5)
           have HR5 := Lib.hid hb5
           have hs5 := hb5.size
           try simp at hs5
           have HBk5 : Hid (Blk w5 w.heap.size 79 #[.slice none 0 0, .slice none 0 0]) := blk_below HRW.out HB5.out (by omega)
           have hra5 := HBk5.out.cell 0
           have hrb5 := HBk5.out.cell 1
           have hfa5 := HBk5.out.frozen 0
           have hfb5 := HBk5.out.frozen 1
           have SS5 := Lib.hid (HC.out _ HB5.out)
           clear hb5))
  all_goals
    go_wp2_with fail
    refine bodyPost_ret (res_chg rfl _ _ rfl (set2_0 hra5) (set2_1 hrb5)) rfl ⟨below_set2 (HBW.out.trans (HB5.out.mono HBW.out.size)) (by omega), _, _, _, _, _, _, rfl, ?_, ?_⟩
    · exact lit_lt (cs := #[.int .i64 3, .int .i64 0, .int .i64 1, .int .i64 0]) (ts := [(3, 0), (1, 0)]) (by (repeat (first | ((with_reducible refine blk_at ?_); simp; done) | with_reducible refine blk_keep ?_ | with_reducible refine blk_drew ?_ | with_reducible refine blk_other ?_ (by omega) | with_reducible refine blk_below ?_ HR5.out (by first | omega | (simp <;> omega)) | with_reducible refine blk_below ?_ HR4.out (by first | omega | (simp <;> omega)) | with_reducible exact HRW.out))) (by omega) rfl (a64_num (by omega) (a64_num (by omega) (A64.nil))) rfl (by omega)
    · exact lit_lt (cs := #[.int .i64 1, .int .i64 0]) (ts := [(1, 0)]) (by (repeat (first | ((with_reducible refine blk_at ?_); simp; done) | with_reducible refine blk_keep ?_ | with_reducible refine blk_drew ?_ | with_reducible refine blk_other ?_ (by omega) | with_reducible refine blk_below ?_ HR5.out (by first | omega | (simp <;> omega)) | with_reducible refine blk_below ?_ HR4.out (by first | omega | (simp <;> omega)) | with_reducible exact HRW.out))) (by omega) rfl (a64_num (by omega) (A64.nil)) rfl (by omega)
set_option maxRecDepth 100000 in
set_option maxHeartbeats 4000000 in
theorem array_33 (K : Nat) (w : World) : Calls Try.prog 64 #[.int .i64 33] w (Chgs K [(3, 0), (1, 0), (1, 0)] [] w) := by
  have P1 := Lib.hid (fun w => plain_any 1 w)
  have P2 := Lib.hid (fun w => plain_any 3 w)
  have P3 := Lib.hid (fun w => plain_any 2 w)
  have TK := Lib.hid takes_any
  have PU := Lib.hid puts_any
  go_enter Try.func64, Try.ntmps64
  go_upto_region 2 with (first
    | (go_at_call 58; (with_reducible refine (P1.out _).mono ?_); rintro e w1 ⟨rfl, hb1⟩; have HR1 := Lib.hid hb1; have hs1 := hb1.size; simp at hs1; clear hb1)
    | (go_at_call 58; (with_reducible refine (P2.out _).mono ?_); rintro e w2 ⟨rfl, hb2⟩; have HR2 := Lib.hid hb2; have hs2 := hb2.size; clear hb2)
    | (go_at_call 58; (with_reducible refine (P3.out _).mono ?_); rintro e w3 ⟨rfl, hb3⟩; have HR3 := Lib.hid hb3; have hs3 := hb3.size; clear hb3))
  refine wp_world fun W hW => ?_
  have HB3 : Hid (Below w.heap.size w w3) := (((below_new w _).trans (HR1.out.mono (by simp))).trans (HR2.out.mono (by omega))).trans (HR3.out.mono (by omega))
  have HBW : Hid (Below w.heap.size w W) := by show Below _ _ _; rw [hW]; exact ((HB3.out.alloc HB3.out.size _).alloc (by simp <;> omega) _).alloc (by simp <;> omega) _
  have HRW : Hid (Blk W w.heap.size 79 #[.slice none 0 0, .slice none 0 0]) := by show Blk _ _ _ _; rw [hW]; exact blk_keep (blk_keep (blk_keep (blk_below (blk_below (blk_below (blk_new w _ _) HR1.out (by simp)) HR2.out (by omega)) HR3.out (by omega))))
  have HN : Hid (Blk W w3.heap.size 27 #[.int .i64 1, .int .i64 0] ∧ Blk W (w3.heap.size + 1) 27 #[.int .i64 3, .int .i64 0] ∧ Blk W (w3.heap.size + 2) 27 #[.int .i64 2, .int .i64 0]) := by
    show _ ∧ _
    rw [hW]
    exact ⟨blk_keep (blk_keep (blk_at rfl)), blk_keep (blk_at (by simp)), blk_at (by simp)⟩
  have hg : w.heap.size < w3.heap.size := by omega
  have hgW : w3.heap.size + 3 ≤ W.heap.size := by rw [hW]; simp
  clear hW
  have HC : Hid (∀ w', Below W.heap.size W w' → w'.cell? ⟨w3.heap.size, 0, none⟩ = some (.int .i64 1) ∧ w'.cell? ⟨w3.heap.size, 1, none⟩ = some (.int .i64 0) ∧ w'.cell? ⟨w3.heap.size + 1, 0, none⟩ = some (.int .i64 3) ∧ w'.cell? ⟨w3.heap.size + 1, 1, none⟩ = some (.int .i64 0) ∧ w'.cell? ⟨w3.heap.size + 2, 0, none⟩ = some (.int .i64 2) ∧ w'.cell? ⟨w3.heap.size + 2, 1, none⟩ = some (.int .i64 0)) := fun w' hb =>
    ⟨(blk_below HN.out.1 hb (by omega)).cell 0, (blk_below HN.out.1 hb (by omega)).cell 1, (blk_below HN.out.2.1 hb (by omega)).cell 0, (blk_below HN.out.2.1 hb (by omega)).cell 1, (blk_below HN.out.2.2 hb (by omega)).cell 0, (blk_below HN.out.2.2 hb (by omega)).cell 1⟩
  obtain ⟨x0, x1, x2, x3, x4, x5⟩ := HC.out W (Below.refl _ _)
  go_wp2_with (first
        | (go_at_call 59
           with_reducible refine (TK.out _ _ _ _).mono ?_
           rintro e w4 ⟨rfl, hb4⟩
           have HB4 : Hid (Below W.heap.size W w4) := (by show Below _ _ _; first | exact trn ((Below.refl _ W).drew) hb4 | exact trn ((below_new W _).drew) hb4 | exact trn (((below_new W _).alloc (by simp) _).drew) hb4 | exact trn (below_new W _) hb4 | exact trn ((below_new W _).alloc (by simp) _) hb4 | exact trn (Below.refl _ W) hb4)
           have HR4 := Lib.hid hb4
           have hs4 := hb4.size
           try simp at hs4
           have HBk4 : Hid (Blk w4 w.heap.size 79 #[.slice none 0 0, .slice none 0 0]) := blk_below HRW.out HB4.out (by omega)
           have hra4 := HBk4.out.cell 0
           have hrb4 := HBk4.out.cell 1
           have hfa4 := HBk4.out.frozen 0
           have hfb4 := HBk4.out.frozen 1
           clear hb4))
  refine bodyPost_ret (res_chg rfl _ _ rfl (set2_0 hra4) (set2_1 hrb4)) rfl ⟨below_set2 (HBW.out.trans (HB4.out.mono HBW.out.size)) (by omega), _, _, _, _, _, _, rfl, ?_, ?_⟩
  · exact lit_lt (cs := #[.int .i64 3, .int .i64 0, .int .i64 1, .int .i64 0, .int .i64 1, .int .i64 0]) (ts := [(3, 0), (1, 0), (1, 0)]) (by (repeat (first | ((with_reducible refine blk_at ?_); simp; done) | with_reducible refine blk_keep ?_ | with_reducible refine blk_drew ?_ | with_reducible refine blk_other ?_ (by omega) | with_reducible refine blk_below ?_ HR4.out (by first | omega | (simp <;> omega)) | with_reducible exact HRW.out))) (by omega) rfl (a64_num (by omega) (a64_num (by omega) (a64_num (by omega) (A64.nil)))) rfl (by omega)
  · exact nil_sl _ _ _
set_option maxRecDepth 100000 in
set_option maxHeartbeats 4000000 in
theorem array_34 (K : Nat) (w : World) : Calls Try.prog 64 #[.int .i64 34] w (Chgs K [(3, 0)] [(1, 0)] w) := by
  have P1 := Lib.hid (fun w => plain_any 1 w)
  have P2 := Lib.hid (fun w => plain_any 3 w)
  have P3 := Lib.hid (fun w => plain_any 2 w)
  have TK := Lib.hid takes_any
  have PU := Lib.hid puts_any
  go_enter Try.func64, Try.ntmps64
  go_wp2_with (first
    | (go_at_call 58; (with_reducible refine (P1.out _).mono ?_); rintro e w1 ⟨rfl, hb1⟩; have HR1 := Lib.hid hb1; have hs1 := hb1.size; simp at hs1; clear hb1)
    | (go_at_call 58; (with_reducible refine (P2.out _).mono ?_); rintro e w2 ⟨rfl, hb2⟩; have HR2 := Lib.hid hb2; have hs2 := hb2.size; clear hb2)
    | (go_at_call 58; (with_reducible refine (P3.out _).mono ?_); rintro e w3 ⟨rfl, hb3⟩; have HR3 := Lib.hid hb3; have hs3 := hb3.size; clear hb3))
  refine wp_world fun W hW => ?_
  have HB3 : Hid (Below w.heap.size w w3) := (((below_new w _).trans (HR1.out.mono (by simp))).trans (HR2.out.mono (by omega))).trans (HR3.out.mono (by omega))
  have HBW : Hid (Below w.heap.size w W) := by show Below _ _ _; rw [hW]; exact ((HB3.out.alloc HB3.out.size _).alloc (by simp <;> omega) _).alloc (by simp <;> omega) _
  have HRW : Hid (Blk W w.heap.size 79 #[.slice none 0 0, .slice none 0 0]) := by show Blk _ _ _ _; rw [hW]; exact blk_keep (blk_keep (blk_keep (blk_below (blk_below (blk_below (blk_new w _ _) HR1.out (by simp)) HR2.out (by omega)) HR3.out (by omega))))
  have HN : Hid (Blk W w3.heap.size 27 #[.int .i64 1, .int .i64 0] ∧ Blk W (w3.heap.size + 1) 27 #[.int .i64 3, .int .i64 0] ∧ Blk W (w3.heap.size + 2) 27 #[.int .i64 2, .int .i64 0]) := by
    show _ ∧ _
    rw [hW]
    exact ⟨blk_keep (blk_keep (blk_at rfl)), blk_keep (blk_at (by simp)), blk_at (by simp)⟩
  have hg : w.heap.size < w3.heap.size := by omega
  have hgW : w3.heap.size + 3 ≤ W.heap.size := by rw [hW]; simp
  clear hW
  have HC : Hid (∀ w', Below W.heap.size W w' → w'.cell? ⟨w3.heap.size, 0, none⟩ = some (.int .i64 1) ∧ w'.cell? ⟨w3.heap.size, 1, none⟩ = some (.int .i64 0) ∧ w'.cell? ⟨w3.heap.size + 1, 0, none⟩ = some (.int .i64 3) ∧ w'.cell? ⟨w3.heap.size + 1, 1, none⟩ = some (.int .i64 0) ∧ w'.cell? ⟨w3.heap.size + 2, 0, none⟩ = some (.int .i64 2) ∧ w'.cell? ⟨w3.heap.size + 2, 1, none⟩ = some (.int .i64 0)) := fun w' hb =>
    ⟨(blk_below HN.out.1 hb (by omega)).cell 0, (blk_below HN.out.1 hb (by omega)).cell 1, (blk_below HN.out.2.1 hb (by omega)).cell 0, (blk_below HN.out.2.1 hb (by omega)).cell 1, (blk_below HN.out.2.2 hb (by omega)).cell 0, (blk_below HN.out.2.2 hb (by omega)).cell 1⟩
  have SW := Lib.hid (HC.out W (Below.refl _ _))
  have HCs : Hid (∀ w' u v, Below W.heap.size W w' → ((w'.setCell ⟨w.heap.size, 0, none⟩ u).setCell ⟨w.heap.size, 1, none⟩ v).cell? ⟨w3.heap.size, 0, none⟩ = some (.int .i64 1) ∧ ((w'.setCell ⟨w.heap.size, 0, none⟩ u).setCell ⟨w.heap.size, 1, none⟩ v).cell? ⟨w3.heap.size, 1, none⟩ = some (.int .i64 0) ∧ ((w'.setCell ⟨w.heap.size, 0, none⟩ u).setCell ⟨w.heap.size, 1, none⟩ v).cell? ⟨w3.heap.size + 1, 0, none⟩ = some (.int .i64 3) ∧ ((w'.setCell ⟨w.heap.size, 0, none⟩ u).setCell ⟨w.heap.size, 1, none⟩ v).cell? ⟨w3.heap.size + 1, 1, none⟩ = some (.int .i64 0) ∧ ((w'.setCell ⟨w.heap.size, 0, none⟩ u).setCell ⟨w.heap.size, 1, none⟩ v).cell? ⟨w3.heap.size + 2, 0, none⟩ = some (.int .i64 2) ∧ ((w'.setCell ⟨w.heap.size, 0, none⟩ u).setCell ⟨w.heap.size, 1, none⟩ v).cell? ⟨w3.heap.size + 2, 1, none⟩ = some (.int .i64 0)) := fun w' u v hb =>
    ⟨(blk_other (blk_other (blk_below HN.out.1 hb (by omega)) (by omega)) (by omega)).cell 0, (blk_other (blk_other (blk_below HN.out.1 hb (by omega)) (by omega)) (by omega)).cell 1, (blk_other (blk_other (blk_below HN.out.2.1 hb (by omega)) (by omega)) (by omega)).cell 0, (blk_other (blk_other (blk_below HN.out.2.1 hb (by omega)) (by omega)) (by omega)).cell 1, (blk_other (blk_other (blk_below HN.out.2.2 hb (by omega)) (by omega)) (by omega)).cell 0, (blk_other (blk_other (blk_below HN.out.2.2 hb (by omega)) (by omega)) (by omega)).cell 1⟩
  go_wp2_with fail
  go_region_held3 (fun w' => w'.cell? ⟨w3.heap.size, 0, none⟩ = some (.int .i64 1) ∧ w'.cell? ⟨w3.heap.size, 1, none⟩ = some (.int .i64 0) ∧ w'.cell? ⟨w3.heap.size + 1, 0, none⟩ = some (.int .i64 3) ∧ w'.cell? ⟨w3.heap.size + 1, 1, none⟩ = some (.int .i64 0) ∧ w'.cell? ⟨w3.heap.size + 2, 0, none⟩ = some (.int .i64 2) ∧ w'.cell? ⟨w3.heap.size + 2, 1, none⟩ = some (.int .i64 0))
    (first | exact SS5.out | exact SS4.out | (have hz := HB5.out; clear hz; first | exact HC.out _ (HB5.out.alloc HB5.out.size _) | exact HC.out _ ((HB5.out.alloc HB5.out.size _).alloc (by have := HB5.out.size; simp; omega) _)) | (have hz := HB4.out; clear hz; first | exact HC.out _ (HB4.out.alloc HB4.out.size _) | exact HC.out _ ((HB4.out.alloc HB4.out.size _).alloc (by have := HB4.out.size; simp; omega) _)) | (have hz := HB5.out; clear hz; exact HCs.out _ _ _ HB5.out) | (have hz := HB4.out; clear hz; exact HCs.out _ _ _ HB4.out) | exact SW.out | exact HC.out _ (Below.refl _ W).drew | exact HC.out _ (below_new W _).drew | exact HC.out _ ((below_new W _).alloc (by simp) _).drew)
    (first
        | (go_at_call 59
           with_reducible refine (TK.out _ _ _ _).mono ?_
           rintro e w4 ⟨rfl, hb4⟩
           have HB4 : Hid (Below W.heap.size W w4) := (by show Below _ _ _; first | exact trn ((Below.refl _ W).drew) hb4 | exact trn ((below_new W _).drew) hb4 | exact trn (((below_new W _).alloc (by simp) _).drew) hb4 | exact trn (below_new W _) hb4 | exact trn ((below_new W _).alloc (by simp) _) hb4 | exact trn (Below.refl _ W) hb4)
           have HR4 := Lib.hid hb4
           have hs4 := hb4.size
           try simp at hs4
           have HBk4 : Hid (Blk w4 w.heap.size 79 #[.slice none 0 0, .slice none 0 0]) := blk_below HRW.out HB4.out (by omega)
           have hra4 := HBk4.out.cell 0
           have hrb4 := HBk4.out.cell 1
           have hfa4 := HBk4.out.frozen 0
           have hfb4 := HBk4.out.frozen 1
           have SS4 := Lib.hid (HC.out _ HB4.out)
           clear hb4)
        | (go_at_call 60
           with_reducible refine (PU.out _ _ _ _ _ _ _).mono ?_
           rintro e w5 ⟨rfl, hb5⟩
           have HB5 : Hid (Below W.heap.size W w5) := (by show Below _ _ _; first | exact trn (HB4.out) hb5 | exact trn (HB4.out.alloc HB4.out.size _) hb5 | exact trn ((HB4.out.alloc HB4.out.size _).alloc (by have := HB4.out.size; simp; omega) _) hb5)
           have HR5 := Lib.hid hb5
           have hs5 := hb5.size
           try simp at hs5
           have HBk5 : Hid (Blk w5 w.heap.size 79 #[.slice none 0 0, .slice none 0 0]) := blk_below HRW.out HB5.out (by omega)
           have hra5 := HBk5.out.cell 0
           have hrb5 := HBk5.out.cell 1
           have hfa5 := HBk5.out.frozen 0
           have hfb5 := HBk5.out.frozen 1
           have SS5 := Lib.hid (HC.out _ HB5.out)
           clear hb5))
  all_goals
    go_wp2_with fail
    refine bodyPost_ret (res_chg rfl _ _ rfl (set2_0 hra5) (set2_1 hrb5)) rfl ⟨below_set2 (HBW.out.trans (HB5.out.mono HBW.out.size)) (by omega), _, _, _, _, _, _, rfl, ?_, ?_⟩
    · exact lit_lt (cs := #[.int .i64 3, .int .i64 0]) (ts := [(3, 0)]) (by (repeat (first | ((with_reducible refine blk_at ?_); simp; done) | with_reducible refine blk_keep ?_ | with_reducible refine blk_drew ?_ | with_reducible refine blk_other ?_ (by omega) | with_reducible refine blk_below ?_ HR5.out (by first | omega | (simp <;> omega)) | with_reducible refine blk_below ?_ HR4.out (by first | omega | (simp <;> omega)) | with_reducible exact HRW.out))) (by omega) rfl (a64_num (by omega) (A64.nil)) rfl (by omega)
    · exact lit_lt (cs := #[.int .i64 1, .int .i64 0]) (ts := [(1, 0)]) (by (repeat (first | ((with_reducible refine blk_at ?_); simp; done) | with_reducible refine blk_keep ?_ | with_reducible refine blk_drew ?_ | with_reducible refine blk_other ?_ (by omega) | with_reducible refine blk_below ?_ HR5.out (by first | omega | (simp <;> omega)) | with_reducible refine blk_below ?_ HR4.out (by first | omega | (simp <;> omega)) | with_reducible exact HRW.out))) (by omega) rfl (a64_num (by omega) (A64.nil)) rfl (by omega)
set_option maxRecDepth 100000 in
set_option maxHeartbeats 4000000 in
theorem array_35 (K : Nat) (w : World) : Calls Try.prog 64 #[.int .i64 35] w (Chgs K [(1, 0)] [(2, 0)] w) := by
  have P1 := Lib.hid (fun w => plain_any 1 w)
  have P2 := Lib.hid (fun w => plain_any 3 w)
  have P3 := Lib.hid (fun w => plain_any 2 w)
  have TK := Lib.hid takes_any
  have PU := Lib.hid puts_any
  go_enter Try.func64, Try.ntmps64
  go_wp2_with (first
    | (go_at_call 58; (with_reducible refine (P1.out _).mono ?_); rintro e w1 ⟨rfl, hb1⟩; have HR1 := Lib.hid hb1; have hs1 := hb1.size; simp at hs1; clear hb1)
    | (go_at_call 58; (with_reducible refine (P2.out _).mono ?_); rintro e w2 ⟨rfl, hb2⟩; have HR2 := Lib.hid hb2; have hs2 := hb2.size; clear hb2)
    | (go_at_call 58; (with_reducible refine (P3.out _).mono ?_); rintro e w3 ⟨rfl, hb3⟩; have HR3 := Lib.hid hb3; have hs3 := hb3.size; clear hb3))
  refine wp_world fun W hW => ?_
  have HB3 : Hid (Below w.heap.size w w3) := (((below_new w _).trans (HR1.out.mono (by simp))).trans (HR2.out.mono (by omega))).trans (HR3.out.mono (by omega))
  have HBW : Hid (Below w.heap.size w W) := by show Below _ _ _; rw [hW]; exact ((HB3.out.alloc HB3.out.size _).alloc (by simp <;> omega) _).alloc (by simp <;> omega) _
  have HRW : Hid (Blk W w.heap.size 79 #[.slice none 0 0, .slice none 0 0]) := by show Blk _ _ _ _; rw [hW]; exact blk_keep (blk_keep (blk_keep (blk_below (blk_below (blk_below (blk_new w _ _) HR1.out (by simp)) HR2.out (by omega)) HR3.out (by omega))))
  have HN : Hid (Blk W w3.heap.size 27 #[.int .i64 1, .int .i64 0] ∧ Blk W (w3.heap.size + 1) 27 #[.int .i64 3, .int .i64 0] ∧ Blk W (w3.heap.size + 2) 27 #[.int .i64 2, .int .i64 0]) := by
    show _ ∧ _
    rw [hW]
    exact ⟨blk_keep (blk_keep (blk_at rfl)), blk_keep (blk_at (by simp)), blk_at (by simp)⟩
  have hg : w.heap.size < w3.heap.size := by omega
  have hgW : w3.heap.size + 3 ≤ W.heap.size := by rw [hW]; simp
  clear hW
  have HC : Hid (∀ w', Below W.heap.size W w' → w'.cell? ⟨w3.heap.size, 0, none⟩ = some (.int .i64 1) ∧ w'.cell? ⟨w3.heap.size, 1, none⟩ = some (.int .i64 0) ∧ w'.cell? ⟨w3.heap.size + 1, 0, none⟩ = some (.int .i64 3) ∧ w'.cell? ⟨w3.heap.size + 1, 1, none⟩ = some (.int .i64 0) ∧ w'.cell? ⟨w3.heap.size + 2, 0, none⟩ = some (.int .i64 2) ∧ w'.cell? ⟨w3.heap.size + 2, 1, none⟩ = some (.int .i64 0)) := fun w' hb =>
    ⟨(blk_below HN.out.1 hb (by omega)).cell 0, (blk_below HN.out.1 hb (by omega)).cell 1, (blk_below HN.out.2.1 hb (by omega)).cell 0, (blk_below HN.out.2.1 hb (by omega)).cell 1, (blk_below HN.out.2.2 hb (by omega)).cell 0, (blk_below HN.out.2.2 hb (by omega)).cell 1⟩
  have SW := Lib.hid (HC.out W (Below.refl _ _))
  have HCs : Hid (∀ w' u v, Below W.heap.size W w' → ((w'.setCell ⟨w.heap.size, 0, none⟩ u).setCell ⟨w.heap.size, 1, none⟩ v).cell? ⟨w3.heap.size, 0, none⟩ = some (.int .i64 1) ∧ ((w'.setCell ⟨w.heap.size, 0, none⟩ u).setCell ⟨w.heap.size, 1, none⟩ v).cell? ⟨w3.heap.size, 1, none⟩ = some (.int .i64 0) ∧ ((w'.setCell ⟨w.heap.size, 0, none⟩ u).setCell ⟨w.heap.size, 1, none⟩ v).cell? ⟨w3.heap.size + 1, 0, none⟩ = some (.int .i64 3) ∧ ((w'.setCell ⟨w.heap.size, 0, none⟩ u).setCell ⟨w.heap.size, 1, none⟩ v).cell? ⟨w3.heap.size + 1, 1, none⟩ = some (.int .i64 0) ∧ ((w'.setCell ⟨w.heap.size, 0, none⟩ u).setCell ⟨w.heap.size, 1, none⟩ v).cell? ⟨w3.heap.size + 2, 0, none⟩ = some (.int .i64 2) ∧ ((w'.setCell ⟨w.heap.size, 0, none⟩ u).setCell ⟨w.heap.size, 1, none⟩ v).cell? ⟨w3.heap.size + 2, 1, none⟩ = some (.int .i64 0)) := fun w' u v hb =>
    ⟨(blk_other (blk_other (blk_below HN.out.1 hb (by omega)) (by omega)) (by omega)).cell 0, (blk_other (blk_other (blk_below HN.out.1 hb (by omega)) (by omega)) (by omega)).cell 1, (blk_other (blk_other (blk_below HN.out.2.1 hb (by omega)) (by omega)) (by omega)).cell 0, (blk_other (blk_other (blk_below HN.out.2.1 hb (by omega)) (by omega)) (by omega)).cell 1, (blk_other (blk_other (blk_below HN.out.2.2 hb (by omega)) (by omega)) (by omega)).cell 0, (blk_other (blk_other (blk_below HN.out.2.2 hb (by omega)) (by omega)) (by omega)).cell 1⟩
  go_wp2_with fail
  go_region_held3 (fun w' => w'.cell? ⟨w3.heap.size, 0, none⟩ = some (.int .i64 1) ∧ w'.cell? ⟨w3.heap.size, 1, none⟩ = some (.int .i64 0) ∧ w'.cell? ⟨w3.heap.size + 1, 0, none⟩ = some (.int .i64 3) ∧ w'.cell? ⟨w3.heap.size + 1, 1, none⟩ = some (.int .i64 0) ∧ w'.cell? ⟨w3.heap.size + 2, 0, none⟩ = some (.int .i64 2) ∧ w'.cell? ⟨w3.heap.size + 2, 1, none⟩ = some (.int .i64 0))
    (first | exact SS5.out | exact SS4.out | (have hz := HB5.out; clear hz; first | exact HC.out _ (HB5.out.alloc HB5.out.size _) | exact HC.out _ ((HB5.out.alloc HB5.out.size _).alloc (by have := HB5.out.size; simp; omega) _)) | (have hz := HB4.out; clear hz; first | exact HC.out _ (HB4.out.alloc HB4.out.size _) | exact HC.out _ ((HB4.out.alloc HB4.out.size _).alloc (by have := HB4.out.size; simp; omega) _)) | (have hz := HB5.out; clear hz; exact HCs.out _ _ _ HB5.out) | (have hz := HB4.out; clear hz; exact HCs.out _ _ _ HB4.out) | exact SW.out | exact HC.out _ (Below.refl _ W).drew | exact HC.out _ (below_new W _).drew | exact HC.out _ ((below_new W _).alloc (by simp) _).drew)
    (first
        | (go_at_call 59
           with_reducible refine (TK.out _ _ _ _).mono ?_
           rintro e w4 ⟨rfl, hb4⟩
           have HB4 : Hid (Below W.heap.size W w4) := (by show Below _ _ _; first | exact trn ((Below.refl _ W).drew) hb4 | exact trn ((below_new W _).drew) hb4 | exact trn (((below_new W _).alloc (by simp) _).drew) hb4 | exact trn (below_new W _) hb4 | exact trn ((below_new W _).alloc (by simp) _) hb4 | exact trn (Below.refl _ W) hb4)
           have HR4 := Lib.hid hb4
           have hs4 := hb4.size
           try simp at hs4
           have HBk4 : Hid (Blk w4 w.heap.size 79 #[.slice none 0 0, .slice none 0 0]) := blk_below HRW.out HB4.out (by omega)
           have hra4 := HBk4.out.cell 0
           have hrb4 := HBk4.out.cell 1
           have hfa4 := HBk4.out.frozen 0
           have hfb4 := HBk4.out.frozen 1
           have SS4 := Lib.hid (HC.out _ HB4.out)
           clear hb4)
        | (go_at_call 60
           with_reducible refine (PU.out _ _ _ _ _ _ _).mono ?_
           rintro e w5 ⟨rfl, hb5⟩
           have HB5 : Hid (Below W.heap.size W w5) := (by show Below _ _ _; first | exact trn (HB4.out) hb5 | exact trn (HB4.out.alloc HB4.out.size _) hb5 | exact trn ((HB4.out.alloc HB4.out.size _).alloc (by have := HB4.out.size; simp; omega) _) hb5)
           have HR5 := Lib.hid hb5
           have hs5 := hb5.size
           try simp at hs5
           have HBk5 : Hid (Blk w5 w.heap.size 79 #[.slice none 0 0, .slice none 0 0]) := blk_below HRW.out HB5.out (by omega)
           have hra5 := HBk5.out.cell 0
           have hrb5 := HBk5.out.cell 1
           have hfa5 := HBk5.out.frozen 0
           have hfb5 := HBk5.out.frozen 1
           have SS5 := Lib.hid (HC.out _ HB5.out)
           clear hb5))
  all_goals
    go_wp2_with fail
    refine bodyPost_ret (res_chg rfl _ _ rfl (set2_0 hra5) (set2_1 hrb5)) rfl ⟨below_set2 (HBW.out.trans (HB5.out.mono HBW.out.size)) (by omega), _, _, _, _, _, _, rfl, ?_, ?_⟩
    · exact lit_lt (cs := #[.int .i64 1, .int .i64 0]) (ts := [(1, 0)]) (by (repeat (first | ((with_reducible refine blk_at ?_); simp; done) | with_reducible refine blk_keep ?_ | with_reducible refine blk_drew ?_ | with_reducible refine blk_other ?_ (by omega) | with_reducible refine blk_below ?_ HR5.out (by first | omega | (simp <;> omega)) | with_reducible refine blk_below ?_ HR4.out (by first | omega | (simp <;> omega)) | with_reducible exact HRW.out))) (by omega) rfl (a64_num (by omega) (A64.nil)) rfl (by omega)
    · exact lit_lt (cs := #[.int .i64 2, .int .i64 0]) (ts := [(2, 0)]) (by (repeat (first | ((with_reducible refine blk_at ?_); simp; done) | with_reducible refine blk_keep ?_ | with_reducible refine blk_drew ?_ | with_reducible refine blk_other ?_ (by omega) | with_reducible refine blk_below ?_ HR5.out (by first | omega | (simp <;> omega)) | with_reducible refine blk_below ?_ HR4.out (by first | omega | (simp <;> omega)) | with_reducible exact HRW.out))) (by omega) rfl (a64_num (by omega) (A64.nil)) rfl (by omega)
set_option maxRecDepth 100000 in
set_option maxHeartbeats 4000000 in
theorem array_36 (K : Nat) (w : World) : Calls Try.prog 64 #[.int .i64 36] w (Chgs K [(2, 0), (1, 0)] [(1, 0)] w) := by
  have P1 := Lib.hid (fun w => plain_any 1 w)
  have P2 := Lib.hid (fun w => plain_any 3 w)
  have P3 := Lib.hid (fun w => plain_any 2 w)
  have TK := Lib.hid takes_any
  have PU := Lib.hid puts_any
  go_enter Try.func64, Try.ntmps64
  go_wp2_with (first
    | (go_at_call 58; (with_reducible refine (P1.out _).mono ?_); rintro e w1 ⟨rfl, hb1⟩; have HR1 := Lib.hid hb1; have hs1 := hb1.size; simp at hs1; clear hb1)
    | (go_at_call 58; (with_reducible refine (P2.out _).mono ?_); rintro e w2 ⟨rfl, hb2⟩; have HR2 := Lib.hid hb2; have hs2 := hb2.size; clear hb2)
    | (go_at_call 58; (with_reducible refine (P3.out _).mono ?_); rintro e w3 ⟨rfl, hb3⟩; have HR3 := Lib.hid hb3; have hs3 := hb3.size; clear hb3))
  refine wp_world fun W hW => ?_
  have HB3 : Hid (Below w.heap.size w w3) := (((below_new w _).trans (HR1.out.mono (by simp))).trans (HR2.out.mono (by omega))).trans (HR3.out.mono (by omega))
  have HBW : Hid (Below w.heap.size w W) := by show Below _ _ _; rw [hW]; exact ((HB3.out.alloc HB3.out.size _).alloc (by simp <;> omega) _).alloc (by simp <;> omega) _
  have HRW : Hid (Blk W w.heap.size 79 #[.slice none 0 0, .slice none 0 0]) := by show Blk _ _ _ _; rw [hW]; exact blk_keep (blk_keep (blk_keep (blk_below (blk_below (blk_below (blk_new w _ _) HR1.out (by simp)) HR2.out (by omega)) HR3.out (by omega))))
  have HN : Hid (Blk W w3.heap.size 27 #[.int .i64 1, .int .i64 0] ∧ Blk W (w3.heap.size + 1) 27 #[.int .i64 3, .int .i64 0] ∧ Blk W (w3.heap.size + 2) 27 #[.int .i64 2, .int .i64 0]) := by
    show _ ∧ _
    rw [hW]
    exact ⟨blk_keep (blk_keep (blk_at rfl)), blk_keep (blk_at (by simp)), blk_at (by simp)⟩
  have hg : w.heap.size < w3.heap.size := by omega
  have hgW : w3.heap.size + 3 ≤ W.heap.size := by rw [hW]; simp
  clear hW
  have HC : Hid (∀ w', Below W.heap.size W w' → w'.cell? ⟨w3.heap.size, 0, none⟩ = some (.int .i64 1) ∧ w'.cell? ⟨w3.heap.size, 1, none⟩ = some (.int .i64 0) ∧ w'.cell? ⟨w3.heap.size + 1, 0, none⟩ = some (.int .i64 3) ∧ w'.cell? ⟨w3.heap.size + 1, 1, none⟩ = some (.int .i64 0) ∧ w'.cell? ⟨w3.heap.size + 2, 0, none⟩ = some (.int .i64 2) ∧ w'.cell? ⟨w3.heap.size + 2, 1, none⟩ = some (.int .i64 0)) := fun w' hb =>
    ⟨(blk_below HN.out.1 hb (by omega)).cell 0, (blk_below HN.out.1 hb (by omega)).cell 1, (blk_below HN.out.2.1 hb (by omega)).cell 0, (blk_below HN.out.2.1 hb (by omega)).cell 1, (blk_below HN.out.2.2 hb (by omega)).cell 0, (blk_below HN.out.2.2 hb (by omega)).cell 1⟩
  have SW := Lib.hid (HC.out W (Below.refl _ _))
  have HCs : Hid (∀ w' u v, Below W.heap.size W w' → ((w'.setCell ⟨w.heap.size, 0, none⟩ u).setCell ⟨w.heap.size, 1, none⟩ v).cell? ⟨w3.heap.size, 0, none⟩ = some (.int .i64 1) ∧ ((w'.setCell ⟨w.heap.size, 0, none⟩ u).setCell ⟨w.heap.size, 1, none⟩ v).cell? ⟨w3.heap.size, 1, none⟩ = some (.int .i64 0) ∧ ((w'.setCell ⟨w.heap.size, 0, none⟩ u).setCell ⟨w.heap.size, 1, none⟩ v).cell? ⟨w3.heap.size + 1, 0, none⟩ = some (.int .i64 3) ∧ ((w'.setCell ⟨w.heap.size, 0, none⟩ u).setCell ⟨w.heap.size, 1, none⟩ v).cell? ⟨w3.heap.size + 1, 1, none⟩ = some (.int .i64 0) ∧ ((w'.setCell ⟨w.heap.size, 0, none⟩ u).setCell ⟨w.heap.size, 1, none⟩ v).cell? ⟨w3.heap.size + 2, 0, none⟩ = some (.int .i64 2) ∧ ((w'.setCell ⟨w.heap.size, 0, none⟩ u).setCell ⟨w.heap.size, 1, none⟩ v).cell? ⟨w3.heap.size + 2, 1, none⟩ = some (.int .i64 0)) := fun w' u v hb =>
    ⟨(blk_other (blk_other (blk_below HN.out.1 hb (by omega)) (by omega)) (by omega)).cell 0, (blk_other (blk_other (blk_below HN.out.1 hb (by omega)) (by omega)) (by omega)).cell 1, (blk_other (blk_other (blk_below HN.out.2.1 hb (by omega)) (by omega)) (by omega)).cell 0, (blk_other (blk_other (blk_below HN.out.2.1 hb (by omega)) (by omega)) (by omega)).cell 1, (blk_other (blk_other (blk_below HN.out.2.2 hb (by omega)) (by omega)) (by omega)).cell 0, (blk_other (blk_other (blk_below HN.out.2.2 hb (by omega)) (by omega)) (by omega)).cell 1⟩
  go_wp2_with fail
  go_region_held3 (fun w' => w'.cell? ⟨w3.heap.size, 0, none⟩ = some (.int .i64 1) ∧ w'.cell? ⟨w3.heap.size, 1, none⟩ = some (.int .i64 0) ∧ w'.cell? ⟨w3.heap.size + 1, 0, none⟩ = some (.int .i64 3) ∧ w'.cell? ⟨w3.heap.size + 1, 1, none⟩ = some (.int .i64 0) ∧ w'.cell? ⟨w3.heap.size + 2, 0, none⟩ = some (.int .i64 2) ∧ w'.cell? ⟨w3.heap.size + 2, 1, none⟩ = some (.int .i64 0))
    (first | exact SS5.out | exact SS4.out | (have hz := HB5.out; clear hz; first | exact HC.out _ (HB5.out.alloc HB5.out.size _) | exact HC.out _ ((HB5.out.alloc HB5.out.size _).alloc (by have := HB5.out.size; simp; omega) _)) | (have hz := HB4.out; clear hz; first | exact HC.out _ (HB4.out.alloc HB4.out.size _) | exact HC.out _ ((HB4.out.alloc HB4.out.size _).alloc (by have := HB4.out.size; simp; omega) _)) | (have hz := HB5.out; clear hz; exact HCs.out _ _ _ HB5.out) | (have hz := HB4.out; clear hz; exact HCs.out _ _ _ HB4.out) | exact SW.out | exact HC.out _ (Below.refl _ W).drew | exact HC.out _ (below_new W _).drew | exact HC.out _ ((below_new W _).alloc (by simp) _).drew)
    (first
        | (go_at_call 59
           with_reducible refine (TK.out _ _ _ _).mono ?_
           rintro e w4 ⟨rfl, hb4⟩
           have HB4 : Hid (Below W.heap.size W w4) := (by show Below _ _ _; first | exact trn ((Below.refl _ W).drew) hb4 | exact trn ((below_new W _).drew) hb4 | exact trn (((below_new W _).alloc (by simp) _).drew) hb4 | exact trn (below_new W _) hb4 | exact trn ((below_new W _).alloc (by simp) _) hb4 | exact trn (Below.refl _ W) hb4)
           have HR4 := Lib.hid hb4
           have hs4 := hb4.size
           try simp at hs4
           have HBk4 : Hid (Blk w4 w.heap.size 79 #[.slice none 0 0, .slice none 0 0]) := blk_below HRW.out HB4.out (by omega)
           have hra4 := HBk4.out.cell 0
           have hrb4 := HBk4.out.cell 1
           have hfa4 := HBk4.out.frozen 0
           have hfb4 := HBk4.out.frozen 1
           have SS4 := Lib.hid (HC.out _ HB4.out)
           clear hb4)
        | (go_at_call 60
           with_reducible refine (PU.out _ _ _ _ _ _ _).mono ?_
           rintro e w5 ⟨rfl, hb5⟩
           have HB5 : Hid (Below W.heap.size W w5) := (by show Below _ _ _; first | exact trn (HB4.out) hb5 | exact trn (HB4.out.alloc HB4.out.size _) hb5 | exact trn ((HB4.out.alloc HB4.out.size _).alloc (by have := HB4.out.size; simp; omega) _) hb5)
           have HR5 := Lib.hid hb5
           have hs5 := hb5.size
           try simp at hs5
           have HBk5 : Hid (Blk w5 w.heap.size 79 #[.slice none 0 0, .slice none 0 0]) := blk_below HRW.out HB5.out (by omega)
           have hra5 := HBk5.out.cell 0
           have hrb5 := HBk5.out.cell 1
           have hfa5 := HBk5.out.frozen 0
           have hfb5 := HBk5.out.frozen 1
           have SS5 := Lib.hid (HC.out _ HB5.out)
           clear hb5))
  all_goals
    go_wp2_with fail
    refine bodyPost_ret (res_chg rfl _ _ rfl (set2_0 hra5) (set2_1 hrb5)) rfl ⟨below_set2 (HBW.out.trans (HB5.out.mono HBW.out.size)) (by omega), _, _, _, _, _, _, rfl, ?_, ?_⟩
    · exact lit_lt (cs := #[.int .i64 2, .int .i64 0, .int .i64 1, .int .i64 0]) (ts := [(2, 0), (1, 0)]) (by (repeat (first | ((with_reducible refine blk_at ?_); simp; done) | with_reducible refine blk_keep ?_ | with_reducible refine blk_drew ?_ | with_reducible refine blk_other ?_ (by omega) | with_reducible refine blk_below ?_ HR5.out (by first | omega | (simp <;> omega)) | with_reducible refine blk_below ?_ HR4.out (by first | omega | (simp <;> omega)) | with_reducible exact HRW.out))) (by omega) rfl (a64_num (by omega) (a64_num (by omega) (A64.nil))) rfl (by omega)
    · exact lit_lt (cs := #[.int .i64 1, .int .i64 0]) (ts := [(1, 0)]) (by (repeat (first | ((with_reducible refine blk_at ?_); simp; done) | with_reducible refine blk_keep ?_ | with_reducible refine blk_drew ?_ | with_reducible refine blk_other ?_ (by omega) | with_reducible refine blk_below ?_ HR5.out (by first | omega | (simp <;> omega)) | with_reducible refine blk_below ?_ HR4.out (by first | omega | (simp <;> omega)) | with_reducible exact HRW.out))) (by omega) rfl (a64_num (by omega) (A64.nil)) rfl (by omega)
set_option maxRecDepth 100000 in
set_option maxHeartbeats 4000000 in
theorem array_37 (K : Nat) (w : World) : Calls Try.prog 64 #[.int .i64 37] w (Chgs K [(2, 0), (1, 0), (1, 0)] [] w) := by
  have P1 := Lib.hid (fun w => plain_any 1 w)
  have P2 := Lib.hid (fun w => plain_any 3 w)
  have P3 := Lib.hid (fun w => plain_any 2 w)
  have TK := Lib.hid takes_any
  have PU := Lib.hid puts_any
  go_enter Try.func64, Try.ntmps64
  go_upto_region 2 with (first
    | (go_at_call 58; (with_reducible refine (P1.out _).mono ?_); rintro e w1 ⟨rfl, hb1⟩; have HR1 := Lib.hid hb1; have hs1 := hb1.size; simp at hs1; clear hb1)
    | (go_at_call 58; (with_reducible refine (P2.out _).mono ?_); rintro e w2 ⟨rfl, hb2⟩; have HR2 := Lib.hid hb2; have hs2 := hb2.size; clear hb2)
    | (go_at_call 58; (with_reducible refine (P3.out _).mono ?_); rintro e w3 ⟨rfl, hb3⟩; have HR3 := Lib.hid hb3; have hs3 := hb3.size; clear hb3))
  refine wp_world fun W hW => ?_
  have HB3 : Hid (Below w.heap.size w w3) := (((below_new w _).trans (HR1.out.mono (by simp))).trans (HR2.out.mono (by omega))).trans (HR3.out.mono (by omega))
  have HBW : Hid (Below w.heap.size w W) := by show Below _ _ _; rw [hW]; exact ((HB3.out.alloc HB3.out.size _).alloc (by simp <;> omega) _).alloc (by simp <;> omega) _
  have HRW : Hid (Blk W w.heap.size 79 #[.slice none 0 0, .slice none 0 0]) := by show Blk _ _ _ _; rw [hW]; exact blk_keep (blk_keep (blk_keep (blk_below (blk_below (blk_below (blk_new w _ _) HR1.out (by simp)) HR2.out (by omega)) HR3.out (by omega))))
  have HN : Hid (Blk W w3.heap.size 27 #[.int .i64 1, .int .i64 0] ∧ Blk W (w3.heap.size + 1) 27 #[.int .i64 3, .int .i64 0] ∧ Blk W (w3.heap.size + 2) 27 #[.int .i64 2, .int .i64 0]) := by
    show _ ∧ _
    rw [hW]
    exact ⟨blk_keep (blk_keep (blk_at rfl)), blk_keep (blk_at (by simp)), blk_at (by simp)⟩
  have hg : w.heap.size < w3.heap.size := by omega
  have hgW : w3.heap.size + 3 ≤ W.heap.size := by rw [hW]; simp
  clear hW
  have HC : Hid (∀ w', Below W.heap.size W w' → w'.cell? ⟨w3.heap.size, 0, none⟩ = some (.int .i64 1) ∧ w'.cell? ⟨w3.heap.size, 1, none⟩ = some (.int .i64 0) ∧ w'.cell? ⟨w3.heap.size + 1, 0, none⟩ = some (.int .i64 3) ∧ w'.cell? ⟨w3.heap.size + 1, 1, none⟩ = some (.int .i64 0) ∧ w'.cell? ⟨w3.heap.size + 2, 0, none⟩ = some (.int .i64 2) ∧ w'.cell? ⟨w3.heap.size + 2, 1, none⟩ = some (.int .i64 0)) := fun w' hb =>
    ⟨(blk_below HN.out.1 hb (by omega)).cell 0, (blk_below HN.out.1 hb (by omega)).cell 1, (blk_below HN.out.2.1 hb (by omega)).cell 0, (blk_below HN.out.2.1 hb (by omega)).cell 1, (blk_below HN.out.2.2 hb (by omega)).cell 0, (blk_below HN.out.2.2 hb (by omega)).cell 1⟩
  obtain ⟨x0, x1, x2, x3, x4, x5⟩ := HC.out W (Below.refl _ _)
  go_wp2_with (first
        | (go_at_call 59
           with_reducible refine (TK.out _ _ _ _).mono ?_
           rintro e w4 ⟨rfl, hb4⟩
           have HB4 : Hid (Below W.heap.size W w4) := (by show Below _ _ _; first | exact trn ((Below.refl _ W).drew) hb4 | exact trn ((below_new W _).drew) hb4 | exact trn (((below_new W _).alloc (by simp) _).drew) hb4 | exact trn (below_new W _) hb4 | exact trn ((below_new W _).alloc (by simp) _) hb4 | exact trn (Below.refl _ W) hb4)
           have HR4 := Lib.hid hb4
           have hs4 := hb4.size
           try simp at hs4
           have HBk4 : Hid (Blk w4 w.heap.size 79 #[.slice none 0 0, .slice none 0 0]) := blk_below HRW.out HB4.out (by omega)
           have hra4 := HBk4.out.cell 0
           have hrb4 := HBk4.out.cell 1
           have hfa4 := HBk4.out.frozen 0
           have hfb4 := HBk4.out.frozen 1
           clear hb4))
  refine bodyPost_ret (res_chg rfl _ _ rfl (set2_0 hra4) (set2_1 hrb4)) rfl ⟨below_set2 (HBW.out.trans (HB4.out.mono HBW.out.size)) (by omega), _, _, _, _, _, _, rfl, ?_, ?_⟩
  · exact lit_lt (cs := #[.int .i64 2, .int .i64 0, .int .i64 1, .int .i64 0, .int .i64 1, .int .i64 0]) (ts := [(2, 0), (1, 0), (1, 0)]) (by (repeat (first | ((with_reducible refine blk_at ?_); simp; done) | with_reducible refine blk_keep ?_ | with_reducible refine blk_drew ?_ | with_reducible refine blk_other ?_ (by omega) | with_reducible refine blk_below ?_ HR4.out (by first | omega | (simp <;> omega)) | with_reducible exact HRW.out))) (by omega) rfl (a64_num (by omega) (a64_num (by omega) (a64_num (by omega) (A64.nil)))) rfl (by omega)
  · exact nil_sl _ _ _
set_option maxRecDepth 100000 in
set_option maxHeartbeats 4000000 in
theorem array_38 (K : Nat) (w : World) : Calls Try.prog 64 #[.int .i64 38] w (Chgs K [(2, 0)] [(1, 0)] w) := by
  have P1 := Lib.hid (fun w => plain_any 1 w)
  have P2 := Lib.hid (fun w => plain_any 3 w)
  have P3 := Lib.hid (fun w => plain_any 2 w)
  have TK := Lib.hid takes_any
  have PU := Lib.hid puts_any
  go_enter Try.func64, Try.ntmps64
  go_wp2_with (first
    | (go_at_call 58; (with_reducible refine (P1.out _).mono ?_); rintro e w1 ⟨rfl, hb1⟩; have HR1 := Lib.hid hb1; have hs1 := hb1.size; simp at hs1; clear hb1)
    | (go_at_call 58; (with_reducible refine (P2.out _).mono ?_); rintro e w2 ⟨rfl, hb2⟩; have HR2 := Lib.hid hb2; have hs2 := hb2.size; clear hb2)
    | (go_at_call 58; (with_reducible refine (P3.out _).mono ?_); rintro e w3 ⟨rfl, hb3⟩; have HR3 := Lib.hid hb3; have hs3 := hb3.size; clear hb3))
  refine wp_world fun W hW => ?_
  have HB3 : Hid (Below w.heap.size w w3) := (((below_new w _).trans (HR1.out.mono (by simp))).trans (HR2.out.mono (by omega))).trans (HR3.out.mono (by omega))
  have HBW : Hid (Below w.heap.size w W) := by show Below _ _ _; rw [hW]; exact ((HB3.out.alloc HB3.out.size _).alloc (by simp <;> omega) _).alloc (by simp <;> omega) _
  have HRW : Hid (Blk W w.heap.size 79 #[.slice none 0 0, .slice none 0 0]) := by show Blk _ _ _ _; rw [hW]; exact blk_keep (blk_keep (blk_keep (blk_below (blk_below (blk_below (blk_new w _ _) HR1.out (by simp)) HR2.out (by omega)) HR3.out (by omega))))
  have HN : Hid (Blk W w3.heap.size 27 #[.int .i64 1, .int .i64 0] ∧ Blk W (w3.heap.size + 1) 27 #[.int .i64 3, .int .i64 0] ∧ Blk W (w3.heap.size + 2) 27 #[.int .i64 2, .int .i64 0]) := by
    show _ ∧ _
    rw [hW]
    exact ⟨blk_keep (blk_keep (blk_at rfl)), blk_keep (blk_at (by simp)), blk_at (by simp)⟩
  have hg : w.heap.size < w3.heap.size := by omega
  have hgW : w3.heap.size + 3 ≤ W.heap.size := by rw [hW]; simp
  clear hW
  have HC : Hid (∀ w', Below W.heap.size W w' → w'.cell? ⟨w3.heap.size, 0, none⟩ = some (.int .i64 1) ∧ w'.cell? ⟨w3.heap.size, 1, none⟩ = some (.int .i64 0) ∧ w'.cell? ⟨w3.heap.size + 1, 0, none⟩ = some (.int .i64 3) ∧ w'.cell? ⟨w3.heap.size + 1, 1, none⟩ = some (.int .i64 0) ∧ w'.cell? ⟨w3.heap.size + 2, 0, none⟩ = some (.int .i64 2) ∧ w'.cell? ⟨w3.heap.size + 2, 1, none⟩ = some (.int .i64 0)) := fun w' hb =>
    ⟨(blk_below HN.out.1 hb (by omega)).cell 0, (blk_below HN.out.1 hb (by omega)).cell 1, (blk_below HN.out.2.1 hb (by omega)).cell 0, (blk_below HN.out.2.1 hb (by omega)).cell 1, (blk_below HN.out.2.2 hb (by omega)).cell 0, (blk_below HN.out.2.2 hb (by omega)).cell 1⟩
  have SW := Lib.hid (HC.out W (Below.refl _ _))
  have HCs : Hid (∀ w' u v, Below W.heap.size W w' → ((w'.setCell ⟨w.heap.size, 0, none⟩ u).setCell ⟨w.heap.size, 1, none⟩ v).cell? ⟨w3.heap.size, 0, none⟩ = some (.int .i64 1) ∧ ((w'.setCell ⟨w.heap.size, 0, none⟩ u).setCell ⟨w.heap.size, 1, none⟩ v).cell? ⟨w3.heap.size, 1, none⟩ = some (.int .i64 0) ∧ ((w'.setCell ⟨w.heap.size, 0, none⟩ u).setCell ⟨w.heap.size, 1, none⟩ v).cell? ⟨w3.heap.size + 1, 0, none⟩ = some (.int .i64 3) ∧ ((w'.setCell ⟨w.heap.size, 0, none⟩ u).setCell ⟨w.heap.size, 1, none⟩ v).cell? ⟨w3.heap.size + 1, 1, none⟩ = some (.int .i64 0) ∧ ((w'.setCell ⟨w.heap.size, 0, none⟩ u).setCell ⟨w.heap.size, 1, none⟩ v).cell? ⟨w3.heap.size + 2, 0, none⟩ = some (.int .i64 2) ∧ ((w'.setCell ⟨w.heap.size, 0, none⟩ u).setCell ⟨w.heap.size, 1, none⟩ v).cell? ⟨w3.heap.size + 2, 1, none⟩ = some (.int .i64 0)) := fun w' u v hb =>
    ⟨(blk_other (blk_other (blk_below HN.out.1 hb (by omega)) (by omega)) (by omega)).cell 0, (blk_other (blk_other (blk_below HN.out.1 hb (by omega)) (by omega)) (by omega)).cell 1, (blk_other (blk_other (blk_below HN.out.2.1 hb (by omega)) (by omega)) (by omega)).cell 0, (blk_other (blk_other (blk_below HN.out.2.1 hb (by omega)) (by omega)) (by omega)).cell 1, (blk_other (blk_other (blk_below HN.out.2.2 hb (by omega)) (by omega)) (by omega)).cell 0, (blk_other (blk_other (blk_below HN.out.2.2 hb (by omega)) (by omega)) (by omega)).cell 1⟩
  go_wp2_with fail
  go_region_held3 (fun w' => w'.cell? ⟨w3.heap.size, 0, none⟩ = some (.int .i64 1) ∧ w'.cell? ⟨w3.heap.size, 1, none⟩ = some (.int .i64 0) ∧ w'.cell? ⟨w3.heap.size + 1, 0, none⟩ = some (.int .i64 3) ∧ w'.cell? ⟨w3.heap.size + 1, 1, none⟩ = some (.int .i64 0) ∧ w'.cell? ⟨w3.heap.size + 2, 0, none⟩ = some (.int .i64 2) ∧ w'.cell? ⟨w3.heap.size + 2, 1, none⟩ = some (.int .i64 0))
    (first | exact SS5.out | exact SS4.out | (have hz := HB5.out; clear hz; first | exact HC.out _ (HB5.out.alloc HB5.out.size _) | exact HC.out _ ((HB5.out.alloc HB5.out.size _).alloc (by have := HB5.out.size; simp; omega) _)) | (have hz := HB4.out; clear hz; first | exact HC.out _ (HB4.out.alloc HB4.out.size _) | exact HC.out _ ((HB4.out.alloc HB4.out.size _).alloc (by have := HB4.out.size; simp; omega) _)) | (have hz := HB5.out; clear hz; exact HCs.out _ _ _ HB5.out) | (have hz := HB4.out; clear hz; exact HCs.out _ _ _ HB4.out) | exact SW.out | exact HC.out _ (Below.refl _ W).drew | exact HC.out _ (below_new W _).drew | exact HC.out _ ((below_new W _).alloc (by simp) _).drew)
    (first
        | (go_at_call 59
           with_reducible refine (TK.out _ _ _ _).mono ?_
           rintro e w4 ⟨rfl, hb4⟩
           have HB4 : Hid (Below W.heap.size W w4) := (by show Below _ _ _; first | exact trn ((Below.refl _ W).drew) hb4 | exact trn ((below_new W _).drew) hb4 | exact trn (((below_new W _).alloc (by simp) _).drew) hb4 | exact trn (below_new W _) hb4 | exact trn ((below_new W _).alloc (by simp) _) hb4 | exact trn (Below.refl _ W) hb4)
           have HR4 := Lib.hid hb4
           have hs4 := hb4.size
           try simp at hs4
           have HBk4 : Hid (Blk w4 w.heap.size 79 #[.slice none 0 0, .slice none 0 0]) := blk_below HRW.out HB4.out (by omega)
           have hra4 := HBk4.out.cell 0
           have hrb4 := HBk4.out.cell 1
           have hfa4 := HBk4.out.frozen 0
           have hfb4 := HBk4.out.frozen 1
           have SS4 := Lib.hid (HC.out _ HB4.out)
           clear hb4)
        | (go_at_call 60
           with_reducible refine (PU.out _ _ _ _ _ _ _).mono ?_
           rintro e w5 ⟨rfl, hb5⟩
           have HB5 : Hid (Below W.heap.size W w5) := (by show Below _ _ _; first | exact trn (HB4.out) hb5 | exact trn (HB4.out.alloc HB4.out.size _) hb5 | exact trn ((HB4.out.alloc HB4.out.size _).alloc (by have := HB4.out.size; simp; omega) _) hb5)
           have HR5 := Lib.hid hb5
           have hs5 := hb5.size
           try simp at hs5
           have HBk5 : Hid (Blk w5 w.heap.size 79 #[.slice none 0 0, .slice none 0 0]) := blk_below HRW.out HB5.out (by omega)
           have hra5 := HBk5.out.cell 0
           have hrb5 := HBk5.out.cell 1
           have hfa5 := HBk5.out.frozen 0
           have hfb5 := HBk5.out.frozen 1
           have SS5 := Lib.hid (HC.out _ HB5.out)
           clear hb5))
  all_goals
    go_wp2_with fail
    refine bodyPost_ret (res_chg rfl _ _ rfl (set2_0 hra5) (set2_1 hrb5)) rfl ⟨below_set2 (HBW.out.trans (HB5.out.mono HBW.out.size)) (by omega), _, _, _, _, _, _, rfl, ?_, ?_⟩
    · exact lit_lt (cs := #[.int .i64 2, .int .i64 0]) (ts := [(2, 0)]) (by (repeat (first | ((with_reducible refine blk_at ?_); simp; done) | with_reducible refine blk_keep ?_ | with_reducible refine blk_drew ?_ | with_reducible refine blk_other ?_ (by omega) | with_reducible refine blk_below ?_ HR5.out (by first | omega | (simp <;> omega)) | with_reducible refine blk_below ?_ HR4.out (by first | omega | (simp <;> omega)) | with_reducible exact HRW.out))) (by omega) rfl (a64_num (by omega) (A64.nil)) rfl (by omega)
    · exact lit_lt (cs := #[.int .i64 1, .int .i64 0]) (ts := [(1, 0)]) (by (repeat (first | ((with_reducible refine blk_at ?_); simp; done) | with_reducible refine blk_keep ?_ | with_reducible refine blk_drew ?_ | with_reducible refine blk_other ?_ (by omega) | with_reducible refine blk_below ?_ HR5.out (by first | omega | (simp <;> omega)) | with_reducible refine blk_below ?_ HR4.out (by first | omega | (simp <;> omega)) | with_reducible exact HRW.out))) (by omega) rfl (a64_num (by omega) (A64.nil)) rfl (by omega)
end Go.Proofs.Ytikhhcmfjncabaa
