/-
  Fcg Fch
-/
import Derived.Test.YtikhhcmfjncabaaGreatQ09
import Derived.Test.YtikhhcmfjncabaaGreatQ13
import Derived.Test.YtikhhcmfjncabaaGreatQ14
import Derived.Test.YtikhhcmfjncabaaGreatQ15
import Derived.Test.YtikhhcmfjncabaaGreatQ16
import Derived.Test.YtikhhcmfjncabaaGreatQ18
import Derived.Test.YtikhhcmfjncabaaGreatQ19
import Derived.Test.YtikhhcmfjncabaaGreatQ20
set_option linter.unusedSimpArgs false
set_option linter.unusedVariables false
namespace Go.Proofs.YtikhhcmfjncabaaGreat
open Go.RowKit

set_option maxRecDepth 100000 in
set_option maxHeartbeats 4000000 in
theorem change_28 (A0 A1 A2 A3 A4 P0 P1 P2 D : Option Addr) (n0 n1 n2 n3 n4 d0 d1 d2 d3 d4 ua ul uc c0 c1 c2 k g : Nat) (x : Mod) (f : Fn) (ts : List Typ) (ia ib : Int) (w : World) (H : Cx w A0 A1 A2 A3 A4 P0 P1 P2 D n0 n1 n2 n3 n4 d0 d1 d2 d3 d4 ua ul uc c0 c1 c2 k g x f ts) (hia : I64 ia) (r : List Typ) (j : Nat) (hj : ia = (j : Int)) (hq : x.recs[j]? = some r) : Calls Tryz.prog 44 #[.agg #[.slice A0 n0 d0, .slice A1 n1 d1, .slice A2 n2 d2, .slice A3 n3 d3, .slice A4 n4 d4], .agg #[.slice P0 ua c0, .int .i64 f.ret.1, .int .i64 f.ret.2, .slice P1 ul c1, .slice P2 uc c2], .agg #[.int .i64 28, .int .i64 ia, .int .i64 ib], .slice D k g] w (Chgs w.heap.size r [(4, ia)] w) := by
  have HH := Lib.hid H
  have TK := Lib.hid takes_any
  have PU := Lib.hid puts_any
  have PL1 := Lib.hid (fun w => plain_any 1 w)
  clear H
  subst hj
  obtain ⟨a, cs, ea, hab, hcl, hr⟩ := HH.out.s0.at hq
  subst ea
  obtain ⟨P9, e9, rfl, hle9, hmx9, hsq9⟩ := hr
  have RC : Hid (∀ v, Below w.heap.size w v → Calls Tryz.prog 82 #[.slice P9 r.length e9, .agg #[.int .i64 28, .int .i64 (j : Int), .int .i64 ib]] v (Chgs w.heap.size r [(4, (j : Int))] v)) := fun v hb => record_28 w.heap.size P9 r.length e9 r (j : Int) ib v hb.size rfl hle9 hmx9 (hsq9.below hb (Nat.le_refl _)) hia
  have hjn : (j : Int) < (n0 : Int) := by have := (List.getElem?_eq_some_iff.1 hq).1; have := HH.out.l0; omega
  have hqn : n0 ≤ 1000 := HH.out.b0
  clear hq hle9 hmx9 hsq9
  generalize r.length = qa at *
  go_enter Tryz.func44, Tryz.ntmps44
  go_upto_region 2 with (first
    | (go_at_call 77; (with_reducible refine (PL1.out _).mono ?_); rintro e w1 ⟨rfl, hb1⟩; have HR1 := Lib.hid hb1; have hs1 := hb1.size; simp at hs1; clear hb1))
  refine wp_world fun W hW => ?_
  have HBW : Hid (Below w.heap.size w W) := by show Below _ _ _; rw [hW]; exact (((((below_new w _).alloc (by simp) _).alloc (by simp <;> omega) _).alloc (by simp <;> omega) _).trans (HR1.out.mono (by simp <;> omega))).alloc (by omega) _
  have HM : Hid (Blk W w.heap.size 28 #[.slice (some a) n0 d0, .slice A1 n1 d1, .slice A2 n2 d2, .slice A3 n3 d3, .slice A4 n4 d4]) := by show Blk _ _ _ _; rw [hW]; exact blk_keep (blk_below (blk_keep (blk_keep (blk_keep (blk_new w _ _)))) HR1.out (by simp <;> omega))
  have HF : Hid (Blk W (w.heap.size + 1) 44 #[.slice P0 ua c0, .int .i64 f.ret.1, .int .i64 f.ret.2, .slice P1 ul c1, .slice P2 uc c2]) := by show Blk _ _ _ _; rw [hW]; exact blk_keep (blk_below (blk_keep (blk_keep (blk_at (by simp)))) HR1.out (by simp <;> omega))
  have HI : Hid (Blk W (w.heap.size + 2) 49 #[.int .i64 28, .int .i64 (j : Int), .int .i64 ib]) := by show Blk _ _ _ _; rw [hW]; exact blk_keep (blk_below (blk_keep (blk_at (by simp))) HR1.out (by simp <;> omega))
  have HRW : Hid (Blk W (w.heap.size + 3) 86 #[.slice none 0 0, .slice none 0 0]) := by show Blk _ _ _ _; rw [hW]; exact blk_keep (blk_below (blk_at (by simp)) HR1.out (by simp <;> omega))
  have HG : Hid (Blk W w1.heap.size 41 #[.int .i64 1, .int .i64 0]) := by show Blk _ _ _ _; rw [hW]; exact blk_at rfl
  have hg1 : w.heap.size + 4 ≤ w1.heap.size := by omega
  have hsW : w1.heap.size + 1 ≤ W.heap.size := by rw [hW]; simp
  have hop := HI.out.cell 0
  simp only [List.getElem?_toArray, List.getElem?_cons_zero] at hop
  clear hW
  have hc0 := (HBW.out.cell (p := a.add j) (by rw [addBlock]; omega)).trans (one_cell (K := tysL.k) rfl (hcl 0 _ rfl))
  clear hcl
  have HL : Hid (∀ w' : World, (∀ b, b < W.heap.size → b ≠ (w.heap.size + 3) → w'.heap[b]? = W.heap[b]?) → w'.cell? ⟨w.heap.size, 0, none⟩ = some (.slice (some a) n0 d0) ∧ w'.cell? ⟨w.heap.size + 2, 0, none⟩ = some (.int .i64 28) ∧ w'.cell? ⟨w.heap.size + 2, 1, none⟩ = some (.int .i64 (j : Int)) ∧ w'.cell? ⟨w.heap.size + 2, 2, none⟩ = some (.int .i64 ib) ∧ w'.cell? (a.add j) = some (.slice P9 qa e9)) := fun w' hk => ⟨(World.cell?_of_block (hk _ (by show w.heap.size < _; omega) (by show w.heap.size ≠ _; omega))).trans (HM.out.cell 0), (World.cell?_of_block (hk _ (by show w.heap.size + 2 < _; omega) (by show w.heap.size + 2 ≠ _; omega))).trans (HI.out.cell 0), (World.cell?_of_block (hk _ (by show w.heap.size + 2 < _; omega) (by show w.heap.size + 2 ≠ _; omega))).trans (HI.out.cell 1), (World.cell?_of_block (hk _ (by show w.heap.size + 2 < _; omega) (by show w.heap.size + 2 ≠ _; omega))).trans (HI.out.cell 2), (World.cell?_of_block (hk _ (by show (a.add j).block < _; rw [addBlock]; omega) (by show (a.add j).block ≠ _; rw [addBlock]; omega))).trans (hc0)⟩
  have HC : Hid (∀ w', Below W.heap.size W w' → w'.cell? ⟨w.heap.size, 0, none⟩ = some (.slice (some a) n0 d0) ∧ w'.cell? ⟨w.heap.size + 2, 0, none⟩ = some (.int .i64 28) ∧ w'.cell? ⟨w.heap.size + 2, 1, none⟩ = some (.int .i64 (j : Int)) ∧ w'.cell? ⟨w.heap.size + 2, 2, none⟩ = some (.int .i64 ib) ∧ w'.cell? (a.add j) = some (.slice P9 qa e9)) := fun w' hb => HL.out w' fun b h1 _ => hb.block b h1
  have HCs : Hid (∀ w' u v, Below W.heap.size W w' → ((w'.setCell ⟨(w.heap.size + 3), 0, none⟩ u).setCell ⟨(w.heap.size + 3), 1, none⟩ v).cell? ⟨w.heap.size, 0, none⟩ = some (.slice (some a) n0 d0) ∧ ((w'.setCell ⟨(w.heap.size + 3), 0, none⟩ u).setCell ⟨(w.heap.size + 3), 1, none⟩ v).cell? ⟨w.heap.size + 2, 0, none⟩ = some (.int .i64 28) ∧ ((w'.setCell ⟨(w.heap.size + 3), 0, none⟩ u).setCell ⟨(w.heap.size + 3), 1, none⟩ v).cell? ⟨w.heap.size + 2, 1, none⟩ = some (.int .i64 (j : Int)) ∧ ((w'.setCell ⟨(w.heap.size + 3), 0, none⟩ u).setCell ⟨(w.heap.size + 3), 1, none⟩ v).cell? ⟨w.heap.size + 2, 2, none⟩ = some (.int .i64 ib) ∧ ((w'.setCell ⟨(w.heap.size + 3), 0, none⟩ u).setCell ⟨(w.heap.size + 3), 1, none⟩ v).cell? (a.add j) = some (.slice P9 qa e9)) := fun w' u v hb => HL.out _ fun b h1 h2 => ((Below.heap_setCell _ ⟨(w.heap.size + 3), 1, none⟩ v b h2).trans (Below.heap_setCell _ ⟨(w.heap.size + 3), 0, none⟩ u b h2)).trans (hb.block b h1)
  have SW := Lib.hid (HC.out W (Below.refl _ _))
  go_wp2_with fail
  go_region_held3 (fun w' => w'.cell? ⟨w.heap.size, 0, none⟩ = some (.slice (some a) n0 d0) ∧ w'.cell? ⟨w.heap.size + 2, 0, none⟩ = some (.int .i64 28) ∧ w'.cell? ⟨w.heap.size + 2, 1, none⟩ = some (.int .i64 (j : Int)) ∧ w'.cell? ⟨w.heap.size + 2, 2, none⟩ = some (.int .i64 ib) ∧ w'.cell? (a.add j) = some (.slice P9 qa e9))
    (first | exact SS4.out | (have hz := HB4.out; clear hz; first | exact HC.out _ (HB4.out.alloc HB4.out.size _) | exact HC.out _ ((HB4.out.alloc HB4.out.size _).alloc (by have := HB4.out.size; simp; omega) _)) | (have hz := HB4.out; clear hz; exact HCs.out _ _ _ HB4.out) | exact SW.out | exact HC.out _ (Below.refl _ W).drew | exact HC.out _ (below_new W _).drew | exact HC.out _ ((below_new W _).alloc (by simp) _).drew)
    (first
        | (go_at_call 82
           refine (RC.out _ HBW.out.drew).mono ?_
           rintro e w4 ⟨hb4, A9, n9, c9, B9, m9, d9, rfl, h9, h8⟩
           have HX9 := Lib.hid h9
           have HX8 := Lib.hid h8
           clear h9 h8
           have HB4 : Hid (Below W.heap.size W w4) := (by show Below _ _ _; first | exact trn ((Below.refl _ W).drew) hb4 | exact trn ((below_new W _).drew) hb4 | exact trn (((below_new W _).alloc (by simp) _).drew) hb4 | exact trn (below_new W _) hb4 | exact trn ((below_new W _).alloc (by simp) _) hb4 | exact trn (Below.refl _ W) hb4)
           have HR4 := Lib.hid hb4
           have hs4 := hb4.size
           try simp at hs4
           have HBk4 : Hid (Blk w4 (w.heap.size + 3) 86 #[.slice none 0 0, .slice none 0 0]) := blk_below HRW.out HB4.out (by omega)
           have hra4 := HBk4.out.cell 0
           have hrb4 := HBk4.out.cell 1
           have hfa4 := HBk4.out.frozen 0
           have hfb4 := HBk4.out.frozen 1
           have SS4 := Lib.hid (HC.out _ HB4.out)
           clear hb4))
  all_goals
    go_wp2_with fail
    refine bodyPost_ret (res_chg rfl _ _ rfl (set2_0 hra4) (set2_1 hrb4)) rfl ⟨below_set2 (HBW.out.trans (HB4.out.mono HBW.out.size)) (by omega), _, _, _, _, _, _, rfl, ?_, ?_⟩
    · exact chg_thru HX9.out (by show _ ≤ W.heap.size; omega) (by omega) (by show _ < W.heap.size; omega)
    · exact chg_thru HX8.out (by show _ ≤ W.heap.size; omega) (by omega) (by show _ < W.heap.size; omega)
set_option maxRecDepth 100000 in
set_option maxHeartbeats 4000000 in
theorem change_29 (A0 A1 A2 A3 A4 P0 P1 P2 D : Option Addr) (n0 n1 n2 n3 n4 d0 d1 d2 d3 d4 ua ul uc c0 c1 c2 k g : Nat) (x : Mod) (f : Fn) (ts : List Typ) (ia ib : Int) (w : World) (H : Cx w A0 A1 A2 A3 A4 P0 P1 P2 D n0 n1 n2 n3 n4 d0 d1 d2 d3 d4 ua ul uc c0 c1 c2 k g x f ts) (hia : I64 ia) (r : List Typ) (j : Nat) (hj : ia = (j : Int)) (hq : x.recs[j]? = some r) (t : Typ) (l : Nat) (hl : ib = (l : Int)) (ht : r[l]? = some t) : Calls Tryz.prog 44 #[.agg #[.slice A0 n0 d0, .slice A1 n1 d1, .slice A2 n2 d2, .slice A3 n3 d3, .slice A4 n4 d4], .agg #[.slice P0 ua c0, .int .i64 f.ret.1, .int .i64 f.ret.2, .slice P1 ul c1, .slice P2 uc c2], .agg #[.int .i64 29, .int .i64 ia, .int .i64 ib], .slice D k g] w (Chgs w.heap.size [(4, ia)] [t] w) := by
  have HH := Lib.hid H
  have TK := Lib.hid takes_any
  have PU := Lib.hid puts_any
  have PL1 := Lib.hid (fun w => plain_any 1 w)
  clear H
  subst hj hl
  obtain ⟨a, cs, ea, hab, hcl, hr⟩ := HH.out.s0.at hq
  subst ea
  obtain ⟨P9, e9, rfl, hle9, hmx9, hsq9⟩ := hr
  have RC : Hid (∀ v, Below w.heap.size w v → Calls Tryz.prog 82 #[.slice P9 r.length e9, .agg #[.int .i64 29, .int .i64 (j : Int), .int .i64 (l : Int)]] v (Chgs w.heap.size [(4, (j : Int))] [t] v)) := fun v hb => record_29 w.heap.size P9 r.length e9 r (j : Int) (l : Int) v hb.size rfl hle9 hmx9 (hsq9.below hb (Nat.le_refl _)) hia t l rfl ht
  have hjn : (j : Int) < (n0 : Int) := by have := (List.getElem?_eq_some_iff.1 hq).1; have := HH.out.l0; omega
  have hqn : n0 ≤ 1000 := HH.out.b0
  clear hq hle9 hmx9 hsq9 ht
  generalize r.length = qa at *
  go_enter Tryz.func44, Tryz.ntmps44
  go_upto_region 2 with (first
    | (go_at_call 77; (with_reducible refine (PL1.out _).mono ?_); rintro e w1 ⟨rfl, hb1⟩; have HR1 := Lib.hid hb1; have hs1 := hb1.size; simp at hs1; clear hb1))
  refine wp_world fun W hW => ?_
  have HBW : Hid (Below w.heap.size w W) := by show Below _ _ _; rw [hW]; exact (((((below_new w _).alloc (by simp) _).alloc (by simp <;> omega) _).alloc (by simp <;> omega) _).trans (HR1.out.mono (by simp <;> omega))).alloc (by omega) _
  have HM : Hid (Blk W w.heap.size 28 #[.slice (some a) n0 d0, .slice A1 n1 d1, .slice A2 n2 d2, .slice A3 n3 d3, .slice A4 n4 d4]) := by show Blk _ _ _ _; rw [hW]; exact blk_keep (blk_below (blk_keep (blk_keep (blk_keep (blk_new w _ _)))) HR1.out (by simp <;> omega))
  have HF : Hid (Blk W (w.heap.size + 1) 44 #[.slice P0 ua c0, .int .i64 f.ret.1, .int .i64 f.ret.2, .slice P1 ul c1, .slice P2 uc c2]) := by show Blk _ _ _ _; rw [hW]; exact blk_keep (blk_below (blk_keep (blk_keep (blk_at (by simp)))) HR1.out (by simp <;> omega))
  have HI : Hid (Blk W (w.heap.size + 2) 49 #[.int .i64 29, .int .i64 (j : Int), .int .i64 (l : Int)]) := by show Blk _ _ _ _; rw [hW]; exact blk_keep (blk_below (blk_keep (blk_at (by simp))) HR1.out (by simp <;> omega))
  have HRW : Hid (Blk W (w.heap.size + 3) 86 #[.slice none 0 0, .slice none 0 0]) := by show Blk _ _ _ _; rw [hW]; exact blk_keep (blk_below (blk_at (by simp)) HR1.out (by simp <;> omega))
  have HG : Hid (Blk W w1.heap.size 41 #[.int .i64 1, .int .i64 0]) := by show Blk _ _ _ _; rw [hW]; exact blk_at rfl
  have hg1 : w.heap.size + 4 ≤ w1.heap.size := by omega
  have hsW : w1.heap.size + 1 ≤ W.heap.size := by rw [hW]; simp
  have hop := HI.out.cell 0
  simp only [List.getElem?_toArray, List.getElem?_cons_zero] at hop
  clear hW
  have hc0 := (HBW.out.cell (p := a.add j) (by rw [addBlock]; omega)).trans (one_cell (K := tysL.k) rfl (hcl 0 _ rfl))
  clear hcl
  have HL : Hid (∀ w' : World, (∀ b, b < W.heap.size → b ≠ (w.heap.size + 3) → w'.heap[b]? = W.heap[b]?) → w'.cell? ⟨w.heap.size, 0, none⟩ = some (.slice (some a) n0 d0) ∧ w'.cell? ⟨w.heap.size + 2, 0, none⟩ = some (.int .i64 29) ∧ w'.cell? ⟨w.heap.size + 2, 1, none⟩ = some (.int .i64 (j : Int)) ∧ w'.cell? ⟨w.heap.size + 2, 2, none⟩ = some (.int .i64 (l : Int)) ∧ w'.cell? (a.add j) = some (.slice P9 qa e9)) := fun w' hk => ⟨(World.cell?_of_block (hk _ (by show w.heap.size < _; omega) (by show w.heap.size ≠ _; omega))).trans (HM.out.cell 0), (World.cell?_of_block (hk _ (by show w.heap.size + 2 < _; omega) (by show w.heap.size + 2 ≠ _; omega))).trans (HI.out.cell 0), (World.cell?_of_block (hk _ (by show w.heap.size + 2 < _; omega) (by show w.heap.size + 2 ≠ _; omega))).trans (HI.out.cell 1), (World.cell?_of_block (hk _ (by show w.heap.size + 2 < _; omega) (by show w.heap.size + 2 ≠ _; omega))).trans (HI.out.cell 2), (World.cell?_of_block (hk _ (by show (a.add j).block < _; rw [addBlock]; omega) (by show (a.add j).block ≠ _; rw [addBlock]; omega))).trans (hc0)⟩
  have HC : Hid (∀ w', Below W.heap.size W w' → w'.cell? ⟨w.heap.size, 0, none⟩ = some (.slice (some a) n0 d0) ∧ w'.cell? ⟨w.heap.size + 2, 0, none⟩ = some (.int .i64 29) ∧ w'.cell? ⟨w.heap.size + 2, 1, none⟩ = some (.int .i64 (j : Int)) ∧ w'.cell? ⟨w.heap.size + 2, 2, none⟩ = some (.int .i64 (l : Int)) ∧ w'.cell? (a.add j) = some (.slice P9 qa e9)) := fun w' hb => HL.out w' fun b h1 _ => hb.block b h1
  have HCs : Hid (∀ w' u v, Below W.heap.size W w' → ((w'.setCell ⟨(w.heap.size + 3), 0, none⟩ u).setCell ⟨(w.heap.size + 3), 1, none⟩ v).cell? ⟨w.heap.size, 0, none⟩ = some (.slice (some a) n0 d0) ∧ ((w'.setCell ⟨(w.heap.size + 3), 0, none⟩ u).setCell ⟨(w.heap.size + 3), 1, none⟩ v).cell? ⟨w.heap.size + 2, 0, none⟩ = some (.int .i64 29) ∧ ((w'.setCell ⟨(w.heap.size + 3), 0, none⟩ u).setCell ⟨(w.heap.size + 3), 1, none⟩ v).cell? ⟨w.heap.size + 2, 1, none⟩ = some (.int .i64 (j : Int)) ∧ ((w'.setCell ⟨(w.heap.size + 3), 0, none⟩ u).setCell ⟨(w.heap.size + 3), 1, none⟩ v).cell? ⟨w.heap.size + 2, 2, none⟩ = some (.int .i64 (l : Int)) ∧ ((w'.setCell ⟨(w.heap.size + 3), 0, none⟩ u).setCell ⟨(w.heap.size + 3), 1, none⟩ v).cell? (a.add j) = some (.slice P9 qa e9)) := fun w' u v hb => HL.out _ fun b h1 h2 => ((Below.heap_setCell _ ⟨(w.heap.size + 3), 1, none⟩ v b h2).trans (Below.heap_setCell _ ⟨(w.heap.size + 3), 0, none⟩ u b h2)).trans (hb.block b h1)
  have SW := Lib.hid (HC.out W (Below.refl _ _))
  go_wp2_with fail
  go_region_held3 (fun w' => w'.cell? ⟨w.heap.size, 0, none⟩ = some (.slice (some a) n0 d0) ∧ w'.cell? ⟨w.heap.size + 2, 0, none⟩ = some (.int .i64 29) ∧ w'.cell? ⟨w.heap.size + 2, 1, none⟩ = some (.int .i64 (j : Int)) ∧ w'.cell? ⟨w.heap.size + 2, 2, none⟩ = some (.int .i64 (l : Int)) ∧ w'.cell? (a.add j) = some (.slice P9 qa e9))
    (first | exact SS4.out | (have hz := HB4.out; clear hz; first | exact HC.out _ (HB4.out.alloc HB4.out.size _) | exact HC.out _ ((HB4.out.alloc HB4.out.size _).alloc (by have := HB4.out.size; simp; omega) _)) | (have hz := HB4.out; clear hz; exact HCs.out _ _ _ HB4.out) | exact SW.out | exact HC.out _ (Below.refl _ W).drew | exact HC.out _ (below_new W _).drew | exact HC.out _ ((below_new W _).alloc (by simp) _).drew)
    (first
        | (go_at_call 82
           refine (RC.out _ HBW.out.drew).mono ?_
           rintro e w4 ⟨hb4, A9, n9, c9, B9, m9, d9, rfl, h9, h8⟩
           have HX9 := Lib.hid h9
           have HX8 := Lib.hid h8
           clear h9 h8
           have HB4 : Hid (Below W.heap.size W w4) := (by show Below _ _ _; first | exact trn ((Below.refl _ W).drew) hb4 | exact trn ((below_new W _).drew) hb4 | exact trn (((below_new W _).alloc (by simp) _).drew) hb4 | exact trn (below_new W _) hb4 | exact trn ((below_new W _).alloc (by simp) _) hb4 | exact trn (Below.refl _ W) hb4)
           have HR4 := Lib.hid hb4
           have hs4 := hb4.size
           try simp at hs4
           have HBk4 : Hid (Blk w4 (w.heap.size + 3) 86 #[.slice none 0 0, .slice none 0 0]) := blk_below HRW.out HB4.out (by omega)
           have hra4 := HBk4.out.cell 0
           have hrb4 := HBk4.out.cell 1
           have hfa4 := HBk4.out.frozen 0
           have hfb4 := HBk4.out.frozen 1
           have SS4 := Lib.hid (HC.out _ HB4.out)
           clear hb4))
  all_goals
    go_wp2_with fail
    refine bodyPost_ret (res_chg rfl _ _ rfl (set2_0 hra4) (set2_1 hrb4)) rfl ⟨below_set2 (HBW.out.trans (HB4.out.mono HBW.out.size)) (by omega), _, _, _, _, _, _, rfl, ?_, ?_⟩
    · exact chg_thru HX9.out (by show _ ≤ W.heap.size; omega) (by omega) (by show _ < W.heap.size; omega)
    · exact chg_thru HX8.out (by show _ ≤ W.heap.size; omega) (by omega) (by show _ < W.heap.size; omega)
set_option maxRecDepth 100000 in
set_option maxHeartbeats 4000000 in
theorem change_30 (A0 A1 A2 A3 A4 P0 P1 P2 D : Option Addr) (n0 n1 n2 n3 n4 d0 d1 d2 d3 d4 ua ul uc c0 c1 c2 k g : Nat) (x : Mod) (f : Fn) (ts : List Typ) (ia ib : Int) (w : World) (H : Cx w A0 A1 A2 A3 A4 P0 P1 P2 D n0 n1 n2 n3 n4 d0 d1 d2 d3 d4 ua ul uc c0 c1 c2 k g x f ts) (hia : I64 ia) (r : List Typ) (j : Nat) (hj : ia = (j : Int)) (hq : x.recs[j]? = some r) (t : Typ) (l : Nat) (hl : ib = (l : Int)) (ht : r[l]? = some t) : Calls Tryz.prog 44 #[.agg #[.slice A0 n0 d0, .slice A1 n1 d1, .slice A2 n2 d2, .slice A3 n3 d3, .slice A4 n4 d4], .agg #[.slice P0 ua c0, .int .i64 f.ret.1, .int .i64 f.ret.2, .slice P1 ul c1, .slice P2 uc c2], .agg #[.int .i64 30, .int .i64 ia, .int .i64 ib], .slice D k g] w (Chgs w.heap.size [(4, ia), t] [] w) := by
  have HH := Lib.hid H
  have TK := Lib.hid takes_any
  have PU := Lib.hid puts_any
  have PL1 := Lib.hid (fun w => plain_any 1 w)
  clear H
  subst hj hl
  obtain ⟨a, cs, ea, hab, hcl, hr⟩ := HH.out.s0.at hq
  subst ea
  obtain ⟨P9, e9, rfl, hle9, hmx9, hsq9⟩ := hr
  have RC : Hid (∀ v, Below w.heap.size w v → Calls Tryz.prog 82 #[.slice P9 r.length e9, .agg #[.int .i64 30, .int .i64 (j : Int), .int .i64 (l : Int)]] v (Chgs w.heap.size [(4, (j : Int)), t] [] v)) := fun v hb => record_30 w.heap.size P9 r.length e9 r (j : Int) (l : Int) v hb.size rfl hle9 hmx9 (hsq9.below hb (Nat.le_refl _)) hia t l rfl ht
  have hjn : (j : Int) < (n0 : Int) := by have := (List.getElem?_eq_some_iff.1 hq).1; have := HH.out.l0; omega
  have hqn : n0 ≤ 1000 := HH.out.b0
  clear hq hle9 hmx9 hsq9 ht
  generalize r.length = qa at *
  go_enter Tryz.func44, Tryz.ntmps44
  go_upto_region 2 with (first
    | (go_at_call 77; (with_reducible refine (PL1.out _).mono ?_); rintro e w1 ⟨rfl, hb1⟩; have HR1 := Lib.hid hb1; have hs1 := hb1.size; simp at hs1; clear hb1))
  refine wp_world fun W hW => ?_
  have HBW : Hid (Below w.heap.size w W) := by show Below _ _ _; rw [hW]; exact (((((below_new w _).alloc (by simp) _).alloc (by simp <;> omega) _).alloc (by simp <;> omega) _).trans (HR1.out.mono (by simp <;> omega))).alloc (by omega) _
  have HM : Hid (Blk W w.heap.size 28 #[.slice (some a) n0 d0, .slice A1 n1 d1, .slice A2 n2 d2, .slice A3 n3 d3, .slice A4 n4 d4]) := by show Blk _ _ _ _; rw [hW]; exact blk_keep (blk_below (blk_keep (blk_keep (blk_keep (blk_new w _ _)))) HR1.out (by simp <;> omega))
  have HF : Hid (Blk W (w.heap.size + 1) 44 #[.slice P0 ua c0, .int .i64 f.ret.1, .int .i64 f.ret.2, .slice P1 ul c1, .slice P2 uc c2]) := by show Blk _ _ _ _; rw [hW]; exact blk_keep (blk_below (blk_keep (blk_keep (blk_at (by simp)))) HR1.out (by simp <;> omega))
  have HI : Hid (Blk W (w.heap.size + 2) 49 #[.int .i64 30, .int .i64 (j : Int), .int .i64 (l : Int)]) := by show Blk _ _ _ _; rw [hW]; exact blk_keep (blk_below (blk_keep (blk_at (by simp))) HR1.out (by simp <;> omega))
  have HRW : Hid (Blk W (w.heap.size + 3) 86 #[.slice none 0 0, .slice none 0 0]) := by show Blk _ _ _ _; rw [hW]; exact blk_keep (blk_below (blk_at (by simp)) HR1.out (by simp <;> omega))
  have HG : Hid (Blk W w1.heap.size 41 #[.int .i64 1, .int .i64 0]) := by show Blk _ _ _ _; rw [hW]; exact blk_at rfl
  have hg1 : w.heap.size + 4 ≤ w1.heap.size := by omega
  have hsW : w1.heap.size + 1 ≤ W.heap.size := by rw [hW]; simp
  have hop := HI.out.cell 0
  simp only [List.getElem?_toArray, List.getElem?_cons_zero] at hop
  clear hW
  have hc0 := (HBW.out.cell (p := a.add j) (by rw [addBlock]; omega)).trans (one_cell (K := tysL.k) rfl (hcl 0 _ rfl))
  clear hcl
  have HL : Hid (∀ w' : World, (∀ b, b < W.heap.size → b ≠ (w.heap.size + 3) → w'.heap[b]? = W.heap[b]?) → w'.cell? ⟨w.heap.size, 0, none⟩ = some (.slice (some a) n0 d0) ∧ w'.cell? ⟨w.heap.size + 2, 0, none⟩ = some (.int .i64 30) ∧ w'.cell? ⟨w.heap.size + 2, 1, none⟩ = some (.int .i64 (j : Int)) ∧ w'.cell? ⟨w.heap.size + 2, 2, none⟩ = some (.int .i64 (l : Int)) ∧ w'.cell? (a.add j) = some (.slice P9 qa e9)) := fun w' hk => ⟨(World.cell?_of_block (hk _ (by show w.heap.size < _; omega) (by show w.heap.size ≠ _; omega))).trans (HM.out.cell 0), (World.cell?_of_block (hk _ (by show w.heap.size + 2 < _; omega) (by show w.heap.size + 2 ≠ _; omega))).trans (HI.out.cell 0), (World.cell?_of_block (hk _ (by show w.heap.size + 2 < _; omega) (by show w.heap.size + 2 ≠ _; omega))).trans (HI.out.cell 1), (World.cell?_of_block (hk _ (by show w.heap.size + 2 < _; omega) (by show w.heap.size + 2 ≠ _; omega))).trans (HI.out.cell 2), (World.cell?_of_block (hk _ (by show (a.add j).block < _; rw [addBlock]; omega) (by show (a.add j).block ≠ _; rw [addBlock]; omega))).trans (hc0)⟩
  have HC : Hid (∀ w', Below W.heap.size W w' → w'.cell? ⟨w.heap.size, 0, none⟩ = some (.slice (some a) n0 d0) ∧ w'.cell? ⟨w.heap.size + 2, 0, none⟩ = some (.int .i64 30) ∧ w'.cell? ⟨w.heap.size + 2, 1, none⟩ = some (.int .i64 (j : Int)) ∧ w'.cell? ⟨w.heap.size + 2, 2, none⟩ = some (.int .i64 (l : Int)) ∧ w'.cell? (a.add j) = some (.slice P9 qa e9)) := fun w' hb => HL.out w' fun b h1 _ => hb.block b h1
  have HCs : Hid (∀ w' u v, Below W.heap.size W w' → ((w'.setCell ⟨(w.heap.size + 3), 0, none⟩ u).setCell ⟨(w.heap.size + 3), 1, none⟩ v).cell? ⟨w.heap.size, 0, none⟩ = some (.slice (some a) n0 d0) ∧ ((w'.setCell ⟨(w.heap.size + 3), 0, none⟩ u).setCell ⟨(w.heap.size + 3), 1, none⟩ v).cell? ⟨w.heap.size + 2, 0, none⟩ = some (.int .i64 30) ∧ ((w'.setCell ⟨(w.heap.size + 3), 0, none⟩ u).setCell ⟨(w.heap.size + 3), 1, none⟩ v).cell? ⟨w.heap.size + 2, 1, none⟩ = some (.int .i64 (j : Int)) ∧ ((w'.setCell ⟨(w.heap.size + 3), 0, none⟩ u).setCell ⟨(w.heap.size + 3), 1, none⟩ v).cell? ⟨w.heap.size + 2, 2, none⟩ = some (.int .i64 (l : Int)) ∧ ((w'.setCell ⟨(w.heap.size + 3), 0, none⟩ u).setCell ⟨(w.heap.size + 3), 1, none⟩ v).cell? (a.add j) = some (.slice P9 qa e9)) := fun w' u v hb => HL.out _ fun b h1 h2 => ((Below.heap_setCell _ ⟨(w.heap.size + 3), 1, none⟩ v b h2).trans (Below.heap_setCell _ ⟨(w.heap.size + 3), 0, none⟩ u b h2)).trans (hb.block b h1)
  have SW := Lib.hid (HC.out W (Below.refl _ _))
  go_wp2_with fail
  go_region_held3 (fun w' => w'.cell? ⟨w.heap.size, 0, none⟩ = some (.slice (some a) n0 d0) ∧ w'.cell? ⟨w.heap.size + 2, 0, none⟩ = some (.int .i64 30) ∧ w'.cell? ⟨w.heap.size + 2, 1, none⟩ = some (.int .i64 (j : Int)) ∧ w'.cell? ⟨w.heap.size + 2, 2, none⟩ = some (.int .i64 (l : Int)) ∧ w'.cell? (a.add j) = some (.slice P9 qa e9))
    (first | exact SS4.out | (have hz := HB4.out; clear hz; first | exact HC.out _ (HB4.out.alloc HB4.out.size _) | exact HC.out _ ((HB4.out.alloc HB4.out.size _).alloc (by have := HB4.out.size; simp; omega) _)) | (have hz := HB4.out; clear hz; exact HCs.out _ _ _ HB4.out) | exact SW.out | exact HC.out _ (Below.refl _ W).drew | exact HC.out _ (below_new W _).drew | exact HC.out _ ((below_new W _).alloc (by simp) _).drew)
    (first
        | (go_at_call 82
           refine (RC.out _ HBW.out.drew).mono ?_
           rintro e w4 ⟨hb4, A9, n9, c9, B9, m9, d9, rfl, h9, h8⟩
           have HX9 := Lib.hid h9
           have HX8 := Lib.hid h8
           clear h9 h8
           have HB4 : Hid (Below W.heap.size W w4) := (by show Below _ _ _; first | exact trn ((Below.refl _ W).drew) hb4 | exact trn ((below_new W _).drew) hb4 | exact trn (((below_new W _).alloc (by simp) _).drew) hb4 | exact trn (below_new W _) hb4 | exact trn ((below_new W _).alloc (by simp) _) hb4 | exact trn (Below.refl _ W) hb4)
           have HR4 := Lib.hid hb4
           have hs4 := hb4.size
           try simp at hs4
           have HBk4 : Hid (Blk w4 (w.heap.size + 3) 86 #[.slice none 0 0, .slice none 0 0]) := blk_below HRW.out HB4.out (by omega)
           have hra4 := HBk4.out.cell 0
           have hrb4 := HBk4.out.cell 1
           have hfa4 := HBk4.out.frozen 0
           have hfb4 := HBk4.out.frozen 1
           have SS4 := Lib.hid (HC.out _ HB4.out)
           clear hb4))
  all_goals
    go_wp2_with fail
    refine bodyPost_ret (res_chg rfl _ _ rfl (set2_0 hra4) (set2_1 hrb4)) rfl ⟨below_set2 (HBW.out.trans (HB4.out.mono HBW.out.size)) (by omega), _, _, _, _, _, _, rfl, ?_, ?_⟩
    · exact chg_thru HX9.out (by show _ ≤ W.heap.size; omega) (by omega) (by show _ < W.heap.size; omega)
    · exact chg_thru HX8.out (by show _ ≤ W.heap.size; omega) (by omega) (by show _ < W.heap.size; omega)
end Go.Proofs.YtikhhcmfjncabaaGreat
namespace Go.Proofs.YtikhhcmfjncabaaGreat
open Go.RowKit

theorem change_any (A0 A1 A2 A3 A4 P0 P1 P2 D : Option Addr) (n0 n1 n2 n3 n4 d0 d1 d2 d3 d4 ua ul uc c0 c1 c2 k g : Nat) (x : Mod) (f : Fn) (ts : List Typ) (o ia ib : Int) (w : World) (H : Cx w A0 A1 A2 A3 A4 P0 P1 P2 D n0 n1 n2 n3 n4 d0 d1 d2 d3 d4 ua ul uc c0 c1 c2 k g x f ts) (hg : goodI o ia ib = true) (hn : namedB x f (o, ia, ib) = true) : Calls Tryz.prog 44 #[.agg #[.slice A0 n0 d0, .slice A1 n1 d1, .slice A2 n2 d2, .slice A3 n3 d3, .slice A4 n4 d4], .agg #[.slice P0 ua c0, .int .i64 f.ret.1, .int .i64 f.ret.2, .slice P1 ul c1, .slice P2 uc c2], .agg #[.int .i64 o, .int .i64 ia, .int .i64 ib], .slice D k g] w (Chgs w.heap.size (chgB x f (o, ia, ib) ts).1 (chgB x f (o, ia, ib) ts).2 w) := by
  obtain ⟨o1, j, l, rfl, rfl, rfl, ho, hj, hl, -, -, -⟩ := goodI_parts hg
  have hia : I64 (j : Int) := ⟨by omega, by omega⟩
  by_cases h0 : o1 = 0
  · subst h0
    exact change_0 A0 A1 A2 A3 A4 P0 P1 P2 D n0 n1 n2 n3 n4 d0 d1 d2 d3 d4 ua ul uc c0 c1 c2 k g x f ts _ _ w H hia
  by_cases h1 : o1 = 1
  · subst h1
    exact change_1 A0 A1 A2 A3 A4 P0 P1 P2 D n0 n1 n2 n3 n4 d0 d1 d2 d3 d4 ua ul uc c0 c1 c2 k g x f ts _ _ w H hia
  by_cases h2 : o1 = 2
  · subst h2
    exact change_2 A0 A1 A2 A3 A4 P0 P1 P2 D n0 n1 n2 n3 n4 d0 d1 d2 d3 d4 ua ul uc c0 c1 c2 k g x f ts _ _ w H hia
  by_cases h3 : o1 = 3
  · subst h3
    exact change_3 A0 A1 A2 A3 A4 P0 P1 P2 D n0 n1 n2 n3 n4 d0 d1 d2 d3 d4 ua ul uc c0 c1 c2 k g x f ts _ _ w H hia
  by_cases h4 : o1 = 4
  · subst h4
    exact change_4 A0 A1 A2 A3 A4 P0 P1 P2 D n0 n1 n2 n3 n4 d0 d1 d2 d3 d4 ua ul uc c0 c1 c2 k g x f ts _ _ w H hia
  by_cases h5 : o1 = 5
  · subst h5
    exact change_5 A0 A1 A2 A3 A4 P0 P1 P2 D n0 n1 n2 n3 n4 d0 d1 d2 d3 d4 ua ul uc c0 c1 c2 k g x f ts _ _ w H hia
  by_cases h6 : o1 = 6
  · subst h6
    exact change_6 A0 A1 A2 A3 A4 P0 P1 P2 D n0 n1 n2 n3 n4 d0 d1 d2 d3 d4 ua ul uc c0 c1 c2 k g x f ts _ _ w H hia
  by_cases h7 : o1 = 7
  · subst h7
    exact change_7 A0 A1 A2 A3 A4 P0 P1 P2 D n0 n1 n2 n3 n4 d0 d1 d2 d3 d4 ua ul uc c0 c1 c2 k g x f ts _ _ w H hia
  by_cases h22 : o1 = 22
  · subst h22
    exact change_22 A0 A1 A2 A3 A4 P0 P1 P2 D n0 n1 n2 n3 n4 d0 d1 d2 d3 d4 ua ul uc c0 c1 c2 k g x f ts _ _ w H hia
  by_cases h23 : o1 = 23
  · subst h23
    exact change_23 A0 A1 A2 A3 A4 P0 P1 P2 D n0 n1 n2 n3 n4 d0 d1 d2 d3 d4 ua ul uc c0 c1 c2 k g x f ts _ _ w H hia
  by_cases h24 : o1 = 24
  · subst h24
    exact change_24 A0 A1 A2 A3 A4 P0 P1 P2 D n0 n1 n2 n3 n4 d0 d1 d2 d3 d4 ua ul uc c0 c1 c2 k g x f ts _ _ w H hia
  by_cases h26 : o1 = 26
  · subst h26
    exact change_26 A0 A1 A2 A3 A4 P0 P1 P2 D n0 n1 n2 n3 n4 d0 d1 d2 d3 d4 ua ul uc c0 c1 c2 k g x f ts _ _ w H hia
  by_cases h39 : o1 = 39
  · subst h39
    exact change_39 A0 A1 A2 A3 A4 P0 P1 P2 D n0 n1 n2 n3 n4 d0 d1 d2 d3 d4 ua ul uc c0 c1 c2 k g x f ts _ _ w H hia
  by_cases h40 : o1 = 40
  · subst h40
    exact change_40 A0 A1 A2 A3 A4 P0 P1 P2 D n0 n1 n2 n3 n4 d0 d1 d2 d3 d4 ua ul uc c0 c1 c2 k g x f ts _ _ w H hia
  by_cases h41 : o1 = 41
  · subst h41
    exact change_41 A0 A1 A2 A3 A4 P0 P1 P2 D n0 n1 n2 n3 n4 d0 d1 d2 d3 d4 ua ul uc c0 c1 c2 k g x f ts _ _ w H hia
  by_cases h31 : o1 = 31
  · subst h31
    exact change_31 A0 A1 A2 A3 A4 P0 P1 P2 D n0 n1 n2 n3 n4 d0 d1 d2 d3 d4 ua ul uc c0 c1 c2 k g x f ts _ _ w H hia
  by_cases h32 : o1 = 32
  · subst h32
    exact change_32 A0 A1 A2 A3 A4 P0 P1 P2 D n0 n1 n2 n3 n4 d0 d1 d2 d3 d4 ua ul uc c0 c1 c2 k g x f ts _ _ w H hia
  by_cases h33 : o1 = 33
  · subst h33
    exact change_33 A0 A1 A2 A3 A4 P0 P1 P2 D n0 n1 n2 n3 n4 d0 d1 d2 d3 d4 ua ul uc c0 c1 c2 k g x f ts _ _ w H hia
  by_cases h34 : o1 = 34
  · subst h34
    exact change_34 A0 A1 A2 A3 A4 P0 P1 P2 D n0 n1 n2 n3 n4 d0 d1 d2 d3 d4 ua ul uc c0 c1 c2 k g x f ts _ _ w H hia
  by_cases h35 : o1 = 35
  · subst h35
    exact change_35 A0 A1 A2 A3 A4 P0 P1 P2 D n0 n1 n2 n3 n4 d0 d1 d2 d3 d4 ua ul uc c0 c1 c2 k g x f ts _ _ w H hia
  by_cases h36 : o1 = 36
  · subst h36
    exact change_36 A0 A1 A2 A3 A4 P0 P1 P2 D n0 n1 n2 n3 n4 d0 d1 d2 d3 d4 ua ul uc c0 c1 c2 k g x f ts _ _ w H hia
  by_cases h37 : o1 = 37
  · subst h37
    exact change_37 A0 A1 A2 A3 A4 P0 P1 P2 D n0 n1 n2 n3 n4 d0 d1 d2 d3 d4 ua ul uc c0 c1 c2 k g x f ts _ _ w H hia
  by_cases h38 : o1 = 38
  · subst h38
    exact change_38 A0 A1 A2 A3 A4 P0 P1 P2 D n0 n1 n2 n3 n4 d0 d1 d2 d3 d4 ua ul uc c0 c1 c2 k g x f ts _ _ w H hia
  by_cases h25 : o1 = 25
  · subst h25
    simp [namedB] at hn
    obtain ⟨q, hq⟩ : ∃ q, x.funcs[j]? = some q := ⟨x.funcs[j]'(by omega), List.getElem?_eq_getElem _⟩
    have e : chgB x f ((25 : Nat), (j : Int), (l : Int)) ts = (q.args, [q.ret]) := by simp [chgB, ruleB, hq]
    rw [e]
    exact change_25 A0 A1 A2 A3 A4 P0 P1 P2 D n0 n1 n2 n3 n4 d0 d1 d2 d3 d4 ua ul uc c0 c1 c2 k g x f ts _ _ w H hia q j rfl hq
  by_cases h27 : o1 = 27
  · subst h27
    simp [namedB] at hn
    obtain ⟨q, hq⟩ : ∃ q, x.imps[j]? = some q := ⟨x.imps[j]'(by omega), List.getElem?_eq_getElem _⟩
    have e : chgB x f ((27 : Nat), (j : Int), (l : Int)) ts = (q.args, [q.ret]) := by simp [chgB, ruleB, hq]
    rw [e]
    exact change_27 A0 A1 A2 A3 A4 P0 P1 P2 D n0 n1 n2 n3 n4 d0 d1 d2 d3 d4 ua ul uc c0 c1 c2 k g x f ts _ _ w H hia q j rfl hq
  by_cases h28 : o1 = 28
  · subst h28
    simp [namedB] at hn
    obtain ⟨r, hr⟩ : ∃ r, x.recs[j]? = some r := ⟨x.recs[j]'(by omega), List.getElem?_eq_getElem _⟩
    have e : chgB x f ((28 : Nat), (j : Int), (l : Int)) ts = (r, [(4, (j : Int))]) := by simp [chgB, ruleB, hr]
    rw [e]
    exact change_28 A0 A1 A2 A3 A4 P0 P1 P2 D n0 n1 n2 n3 n4 d0 d1 d2 d3 d4 ua ul uc c0 c1 c2 k g x f ts _ _ w H hia r j rfl hr
  by_cases h29 : o1 = 29
  · subst h29
    simp [namedB] at hn
    cases hr : x.recs[j]? with
    | none => rw [hr] at hn; simp at hn
    | some r =>
      rw [hr] at hn
      simp at hn
      obtain ⟨t, ht⟩ : ∃ t, r[l]? = some t := ⟨r[l]'(by omega), List.getElem?_eq_getElem _⟩
      have e : chgB x f ((29 : Nat), (j : Int), (l : Int)) ts = ([(4, (j : Int))], [t]) := by simp [chgB, ruleB, fldB, hr, ht]
      rw [e]
      exact change_29 A0 A1 A2 A3 A4 P0 P1 P2 D n0 n1 n2 n3 n4 d0 d1 d2 d3 d4 ua ul uc c0 c1 c2 k g x f ts _ _ w H hia r j rfl hr t l rfl ht
  by_cases h30 : o1 = 30
  · subst h30
    simp [namedB] at hn
    cases hr : x.recs[j]? with
    | none => rw [hr] at hn; simp at hn
    | some r =>
      rw [hr] at hn
      simp at hn
      obtain ⟨t, ht⟩ : ∃ t, r[l]? = some t := ⟨r[l]'(by omega), List.getElem?_eq_getElem _⟩
      have e : chgB x f ((30 : Nat), (j : Int), (l : Int)) ts = ([(4, (j : Int)), t], []) := by simp [chgB, ruleB, fldB, hr, ht]
      rw [e]
      exact change_30 A0 A1 A2 A3 A4 P0 P1 P2 D n0 n1 n2 n3 n4 d0 d1 d2 d3 d4 ua ul uc c0 c1 c2 k g x f ts _ _ w H hia r j rfl hr t l rfl ht
  have e : chgB x f ((o1 : Int), (j : Int), (l : Int)) ts = ([(1, 0), (1, 0)], [(1, 0)]) := by
    simp only [chgB, ruleB]
    repeat rw [if_neg (by omega)]
    rfl
  rw [e]
  exact change_def A0 A1 A2 A3 A4 P0 P1 P2 D n0 n1 n2 n3 n4 d0 d1 d2 d3 d4 ua ul uc c0 c1 c2 k g x f ts _ _ _ w H hia (by omega) (by omega)
end Go.Proofs.YtikhhcmfjncabaaGreat
