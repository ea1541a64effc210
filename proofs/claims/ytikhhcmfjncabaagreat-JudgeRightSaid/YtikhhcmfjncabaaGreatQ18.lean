/-
  Fcd
-/
import Derived.Test.YtikhhcmfjncabaaGreatQ13
import Derived.Test.YtikhhcmfjncabaaGreatQ17
set_option linter.unusedSimpArgs false
set_option linter.unusedVariables false
namespace Go.Proofs.YtikhhcmfjncabaaGreat
open Go.RowKit

set_option maxRecDepth 100000 in
set_option maxHeartbeats 4000000 in
theorem change_31 (A0 A1 A2 A3 A4 P0 P1 P2 D : Option Addr) (n0 n1 n2 n3 n4 d0 d1 d2 d3 d4 ua ul uc c0 c1 c2 k g : Nat) (x : Mod) (f : Fn) (ts : List Typ) (ia ib : Int) (w : World) (H : Cx w A0 A1 A2 A3 A4 P0 P1 P2 D n0 n1 n2 n3 n4 d0 d1 d2 d3 d4 ua ul uc c0 c1 c2 k g x f ts) (hia : I64 ia) : Calls Tryz.prog 44 #[.agg #[.slice A0 n0 d0, .slice A1 n1 d1, .slice A2 n2 d2, .slice A3 n3 d3, .slice A4 n4 d4], .agg #[.slice P0 ua c0, .int .i64 f.ret.1, .int .i64 f.ret.2, .slice P1 ul c1, .slice P2 uc c2], .agg #[.int .i64 31, .int .i64 ia, .int .i64 ib], .slice D k g] w (Chgs w.heap.size [(1, 0)] [(3, 0)] w) := by
  have HH := Lib.hid H
  have TK := Lib.hid takes_any
  have PU := Lib.hid puts_any
  have PL1 := Lib.hid (fun w => plain_any 1 w)
  clear H
  have AC := Lib.hid (fun v => array_31 w.heap.size v)
  go_enter Tryz.func44, Tryz.ntmps44
  go_upto_region 2 with (first
    | (go_at_call 77; (with_reducible refine (PL1.out _).mono ?_); rintro e w1 ⟨rfl, hb1⟩; have HR1 := Lib.hid hb1; have hs1 := hb1.size; simp at hs1; clear hb1))
  refine wp_world fun W hW => ?_
  have HBW : Hid (Below w.heap.size w W) := by show Below _ _ _; rw [hW]; exact (((((below_new w _).alloc (by simp) _).alloc (by simp <;> omega) _).alloc (by simp <;> omega) _).trans (HR1.out.mono (by simp <;> omega))).alloc (by omega) _
  have HM : Hid (Blk W w.heap.size 28 #[.slice A0 n0 d0, .slice A1 n1 d1, .slice A2 n2 d2, .slice A3 n3 d3, .slice A4 n4 d4]) := by show Blk _ _ _ _; rw [hW]; exact blk_keep (blk_below (blk_keep (blk_keep (blk_keep (blk_new w _ _)))) HR1.out (by simp <;> omega))
  have HF : Hid (Blk W (w.heap.size + 1) 44 #[.slice P0 ua c0, .int .i64 f.ret.1, .int .i64 f.ret.2, .slice P1 ul c1, .slice P2 uc c2]) := by show Blk _ _ _ _; rw [hW]; exact blk_keep (blk_below (blk_keep (blk_keep (blk_at (by simp)))) HR1.out (by simp <;> omega))
  have HI : Hid (Blk W (w.heap.size + 2) 49 #[.int .i64 31, .int .i64 ia, .int .i64 ib]) := by show Blk _ _ _ _; rw [hW]; exact blk_keep (blk_below (blk_keep (blk_at (by simp))) HR1.out (by simp <;> omega))
  have HRW : Hid (Blk W (w.heap.size + 3) 86 #[.slice none 0 0, .slice none 0 0]) := by show Blk _ _ _ _; rw [hW]; exact blk_keep (blk_below (blk_at (by simp)) HR1.out (by simp <;> omega))
  have HG : Hid (Blk W w1.heap.size 41 #[.int .i64 1, .int .i64 0]) := by show Blk _ _ _ _; rw [hW]; exact blk_at rfl
  have hg1 : w.heap.size + 4 ≤ w1.heap.size := by omega
  have hsW : w1.heap.size + 1 ≤ W.heap.size := by rw [hW]; simp
  have hop := HI.out.cell 0
  simp only [List.getElem?_toArray, List.getElem?_cons_zero] at hop
  clear hW
  have HL : Hid (∀ w' : World, (∀ b, b < W.heap.size → b ≠ (w.heap.size + 3) → w'.heap[b]? = W.heap[b]?) → w'.cell? ⟨w.heap.size + 2, 0, none⟩ = some (.int .i64 31)) := fun w' hk => (World.cell?_of_block (hk _ (by show w.heap.size + 2 < _; omega) (by show w.heap.size + 2 ≠ _; omega))).trans (HI.out.cell 0)
  have HC : Hid (∀ w', Below W.heap.size W w' → w'.cell? ⟨w.heap.size + 2, 0, none⟩ = some (.int .i64 31)) := fun w' hb => HL.out w' fun b h1 _ => hb.block b h1
  have HCs : Hid (∀ w' u v, Below W.heap.size W w' → ((w'.setCell ⟨(w.heap.size + 3), 0, none⟩ u).setCell ⟨(w.heap.size + 3), 1, none⟩ v).cell? ⟨w.heap.size + 2, 0, none⟩ = some (.int .i64 31)) := fun w' u v hb => HL.out _ fun b h1 h2 => ((Below.heap_setCell _ ⟨(w.heap.size + 3), 1, none⟩ v b h2).trans (Below.heap_setCell _ ⟨(w.heap.size + 3), 0, none⟩ u b h2)).trans (hb.block b h1)
  have SW := Lib.hid (HC.out W (Below.refl _ _))
  go_wp2_with (first
        | (go_at_call 83
           refine (AC.out _).mono ?_
           rintro e w4 ⟨hb4, A9, n9, c9, B9, m9, d9, rfl, h9, h8⟩
           have HX9 := Lib.hid h9
           have HX8 := Lib.hid h8
           clear h9 h8
           have HB4 : Hid (Below W.heap.size W w4) := (by show Below _ _ _; first | exact trn ((Below.refl _ W).drew) hb4 | exact trn ((below_new W _).drew) hb4 | exact trn (((below_new W _).alloc (by simp) _).drew) hb4 | exact trn (below_new W _) hb4 | exact trn ((below_new W _).alloc (by simp) _) hb4 | exact trn (Below.refl _ W) hb4)
           have HR4 := Lib.hid hb4
           have hs4 := hb4.size
           try simp at hs4
           have HBk4 : Hid (Blk w4 (w.heap.size + 3) 86 #[.slice none 0 0, .slice none 0 0]) := blk_below HRW.out HB4.out (by omega)
           have hra4 := HBk4.out.cell 0
           have hrb4 := HBk4.out.cell 1
           have hfa4 := HBk4.out.frozen 0
           have hfb4 := HBk4.out.frozen 1
           have SS4 := Lib.hid (HC.out _ HB4.out)
           clear hb4))
  refine bodyPost_ret (res_chg rfl _ _ rfl (set2_0 hra4) (set2_1 hrb4)) rfl ⟨below_set2 (HBW.out.trans (HB4.out.mono HBW.out.size)) (by omega), _, _, _, _, _, _, rfl, ?_, ?_⟩
  · exact chg_thru HX9.out (by show _ ≤ W.heap.size; omega) (by omega) (by show _ < W.heap.size; omega)
  · exact chg_thru HX8.out (by show _ ≤ W.heap.size; omega) (by omega) (by show _ < W.heap.size; omega)
set_option maxRecDepth 100000 in
set_option maxHeartbeats 4000000 in
theorem change_32 (A0 A1 A2 A3 A4 P0 P1 P2 D : Option Addr) (n0 n1 n2 n3 n4 d0 d1 d2 d3 d4 ua ul uc c0 c1 c2 k g : Nat) (x : Mod) (f : Fn) (ts : List Typ) (ia ib : Int) (w : World) (H : Cx w A0 A1 A2 A3 A4 P0 P1 P2 D n0 n1 n2 n3 n4 d0 d1 d2 d3 d4 ua ul uc c0 c1 c2 k g x f ts) (hia : I64 ia) : Calls Tryz.prog 44 #[.agg #[.slice A0 n0 d0, .slice A1 n1 d1, .slice A2 n2 d2, .slice A3 n3 d3, .slice A4 n4 d4], .agg #[.slice P0 ua c0, .int .i64 f.ret.1, .int .i64 f.ret.2, .slice P1 ul c1, .slice P2 uc c2], .agg #[.int .i64 32, .int .i64 ia, .int .i64 ib], .slice D k g] w (Chgs w.heap.size [(3, 0), (1, 0)] [(1, 0)] w) := by
  have HH := Lib.hid H
  have TK := Lib.hid takes_any
  have PU := Lib.hid puts_any
  have PL1 := Lib.hid (fun w => plain_any 1 w)
  clear H
  have AC := Lib.hid (fun v => array_32 w.heap.size v)
  go_enter Tryz.func44, Tryz.ntmps44
  go_upto_region 2 with (first
    | (go_at_call 77; (with_reducible refine (PL1.out _).mono ?_); rintro e w1 ⟨rfl, hb1⟩; have HR1 := Lib.hid hb1; have hs1 := hb1.size; simp at hs1; clear hb1))
  refine wp_world fun W hW => ?_
  have HBW : Hid (Below w.heap.size w W) := by show Below _ _ _; rw [hW]; exact (((((below_new w _).alloc (by simp) _).alloc (by simp <;> omega) _).alloc (by simp <;> omega) _).trans (HR1.out.mono (by simp <;> omega))).alloc (by omega) _
  have HM : Hid (Blk W w.heap.size 28 #[.slice A0 n0 d0, .slice A1 n1 d1, .slice A2 n2 d2, .slice A3 n3 d3, .slice A4 n4 d4]) := by show Blk _ _ _ _; rw [hW]; exact blk_keep (blk_below (blk_keep (blk_keep (blk_keep (blk_new w _ _)))) HR1.out (by simp <;> omega))
  have HF : Hid (Blk W (w.heap.size + 1) 44 #[.slice P0 ua c0, .int .i64 f.ret.1, .int .i64 f.ret.2, .slice P1 ul c1, .slice P2 uc c2]) := by show Blk _ _ _ _; rw [hW]; exact blk_keep (blk_below (blk_keep (blk_keep (blk_at (by simp)))) HR1.out (by simp <;> omega))
  have HI : Hid (Blk W (w.heap.size + 2) 49 #[.int .i64 32, .int .i64 ia, .int .i64 ib]) := by show Blk _ _ _ _; rw [hW]; exact blk_keep (blk_below (blk_keep (blk_at (by simp))) HR1.out (by simp <;> omega))
  have HRW : Hid (Blk W (w.heap.size + 3) 86 #[.slice none 0 0, .slice none 0 0]) := by show Blk _ _ _ _; rw [hW]; exact blk_keep (blk_below (blk_at (by simp)) HR1.out (by simp <;> omega))
  have HG : Hid (Blk W w1.heap.size 41 #[.int .i64 1, .int .i64 0]) := by show Blk _ _ _ _; rw [hW]; exact blk_at rfl
  have hg1 : w.heap.size + 4 ≤ w1.heap.size := by omega
  have hsW : w1.heap.size + 1 ≤ W.heap.size := by rw [hW]; simp
  have hop := HI.out.cell 0
  simp only [List.getElem?_toArray, List.getElem?_cons_zero] at hop
  clear hW
  have HL : Hid (∀ w' : World, (∀ b, b < W.heap.size → b ≠ (w.heap.size + 3) → w'.heap[b]? = W.heap[b]?) → w'.cell? ⟨w.heap.size + 2, 0, none⟩ = some (.int .i64 32)) := fun w' hk => (World.cell?_of_block (hk _ (by show w.heap.size + 2 < _; omega) (by show w.heap.size + 2 ≠ _; omega))).trans (HI.out.cell 0)
  have HC : Hid (∀ w', Below W.heap.size W w' → w'.cell? ⟨w.heap.size + 2, 0, none⟩ = some (.int .i64 32)) := fun w' hb => HL.out w' fun b h1 _ => hb.block b h1
  have HCs : Hid (∀ w' u v, Below W.heap.size W w' → ((w'.setCell ⟨(w.heap.size + 3), 0, none⟩ u).setCell ⟨(w.heap.size + 3), 1, none⟩ v).cell? ⟨w.heap.size + 2, 0, none⟩ = some (.int .i64 32)) := fun w' u v hb => HL.out _ fun b h1 h2 => ((Below.heap_setCell _ ⟨(w.heap.size + 3), 1, none⟩ v b h2).trans (Below.heap_setCell _ ⟨(w.heap.size + 3), 0, none⟩ u b h2)).trans (hb.block b h1)
  have SW := Lib.hid (HC.out W (Below.refl _ _))
  go_wp2_with (first
        | (go_at_call 83
           refine (AC.out _).mono ?_
           rintro e w4 ⟨hb4, A9, n9, c9, B9, m9, d9, rfl, h9, h8⟩
           have HX9 := Lib.hid h9
           have HX8 := Lib.hid h8
           clear h9 h8
           have HB4 : Hid (Below W.heap.size W w4) := (by show Below _ _ _; first | exact trn ((Below.refl _ W).drew) hb4 | exact trn ((below_new W _).drew) hb4 | exact trn (((below_new W _).alloc (by simp) _).drew) hb4 | exact trn (below_new W _) hb4 | exact trn ((below_new W _).alloc (by simp) _) hb4 | exact trn (Below.refl _ W) hb4)
           have HR4 := Lib.hid hb4
           have hs4 := hb4.size
           try simp at hs4
           have HBk4 : Hid (Blk w4 (w.heap.size + 3) 86 #[.slice none 0 0, .slice none 0 0]) := blk_below HRW.out HB4.out (by omega)
           have hra4 := HBk4.out.cell 0
           have hrb4 := HBk4.out.cell 1
           have hfa4 := HBk4.out.frozen 0
           have hfb4 := HBk4.out.frozen 1
           have SS4 := Lib.hid (HC.out _ HB4.out)
           clear hb4))
  refine bodyPost_ret (res_chg rfl _ _ rfl (set2_0 hra4) (set2_1 hrb4)) rfl ⟨below_set2 (HBW.out.trans (HB4.out.mono HBW.out.size)) (by omega), _, _, _, _, _, _, rfl, ?_, ?_⟩
  · exact chg_thru HX9.out (by show _ ≤ W.heap.size; omega) (by omega) (by show _ < W.heap.size; omega)
  · exact chg_thru HX8.out (by show _ ≤ W.heap.size; omega) (by omega) (by show _ < W.heap.size; omega)
set_option maxRecDepth 100000 in
set_option maxHeartbeats 4000000 in
theorem change_33 (A0 A1 A2 A3 A4 P0 P1 P2 D : Option Addr) (n0 n1 n2 n3 n4 d0 d1 d2 d3 d4 ua ul uc c0 c1 c2 k g : Nat) (x : Mod) (f : Fn) (ts : List Typ) (ia ib : Int) (w : World) (H : Cx w A0 A1 A2 A3 A4 P0 P1 P2 D n0 n1 n2 n3 n4 d0 d1 d2 d3 d4 ua ul uc c0 c1 c2 k g x f ts) (hia : I64 ia) : Calls Tryz.prog 44 #[.agg #[.slice A0 n0 d0, .slice A1 n1 d1, .slice A2 n2 d2, .slice A3 n3 d3, .slice A4 n4 d4], .agg #[.slice P0 ua c0, .int .i64 f.ret.1, .int .i64 f.ret.2, .slice P1 ul c1, .slice P2 uc c2], .agg #[.int .i64 33, .int .i64 ia, .int .i64 ib], .slice D k g] w (Chgs w.heap.size [(3, 0), (1, 0), (1, 0)] [] w) := by
  have HH := Lib.hid H
  have TK := Lib.hid takes_any
  have PU := Lib.hid puts_any
  have PL1 := Lib.hid (fun w => plain_any 1 w)
  clear H
  have AC := Lib.hid (fun v => array_33 w.heap.size v)
  go_enter Tryz.func44, Tryz.ntmps44
  go_upto_region 2 with (first
    | (go_at_call 77; (with_reducible refine (PL1.out _).mono ?_); rintro e w1 ⟨rfl, hb1⟩; have HR1 := Lib.hid hb1; have hs1 := hb1.size; simp at hs1; clear hb1))
  refine wp_world fun W hW => ?_
  have HBW : Hid (Below w.heap.size w W) := by show Below _ _ _; rw [hW]; exact (((((below_new w _).alloc (by simp) _).alloc (by simp <;> omega) _).alloc (by simp <;> omega) _).trans (HR1.out.mono (by simp <;> omega))).alloc (by omega) _
  have HM : Hid (Blk W w.heap.size 28 #[.slice A0 n0 d0, .slice A1 n1 d1, .slice A2 n2 d2, .slice A3 n3 d3, .slice A4 n4 d4]) := by show Blk _ _ _ _; rw [hW]; exact blk_keep (blk_below (blk_keep (blk_keep (blk_keep (blk_new w _ _)))) HR1.out (by simp <;> omega))
  have HF : Hid (Blk W (w.heap.size + 1) 44 #[.slice P0 ua c0, .int .i64 f.ret.1, .int .i64 f.ret.2, .slice P1 ul c1, .slice P2 uc c2]) := by show Blk _ _ _ _; rw [hW]; exact blk_keep (blk_below (blk_keep (blk_keep (blk_at (by simp)))) HR1.out (by simp <;> omega))
  have HI : Hid (Blk W (w.heap.size + 2) 49 #[.int .i64 33, .int .i64 ia, .int .i64 ib]) := by show Blk _ _ _ _; rw [hW]; exact blk_keep (blk_below (blk_keep (blk_at (by simp))) HR1.out (by simp <;> omega))
  have HRW : Hid (Blk W (w.heap.size + 3) 86 #[.slice none 0 0, .slice none 0 0]) := by show Blk _ _ _ _; rw [hW]; exact blk_keep (blk_below (blk_at (by simp)) HR1.out (by simp <;> omega))
  have HG : Hid (Blk W w1.heap.size 41 #[.int .i64 1, .int .i64 0]) := by show Blk _ _ _ _; rw [hW]; exact blk_at rfl
  have hg1 : w.heap.size + 4 ≤ w1.heap.size := by omega
  have hsW : w1.heap.size + 1 ≤ W.heap.size := by rw [hW]; simp
  have hop := HI.out.cell 0
  simp only [List.getElem?_toArray, List.getElem?_cons_zero] at hop
  clear hW
  have HL : Hid (∀ w' : World, (∀ b, b < W.heap.size → b ≠ (w.heap.size + 3) → w'.heap[b]? = W.heap[b]?) → w'.cell? ⟨w.heap.size + 2, 0, none⟩ = some (.int .i64 33)) := fun w' hk => (World.cell?_of_block (hk _ (by show w.heap.size + 2 < _; omega) (by show w.heap.size + 2 ≠ _; omega))).trans (HI.out.cell 0)
  have HC : Hid (∀ w', Below W.heap.size W w' → w'.cell? ⟨w.heap.size + 2, 0, none⟩ = some (.int .i64 33)) := fun w' hb => HL.out w' fun b h1 _ => hb.block b h1
  have HCs : Hid (∀ w' u v, Below W.heap.size W w' → ((w'.setCell ⟨(w.heap.size + 3), 0, none⟩ u).setCell ⟨(w.heap.size + 3), 1, none⟩ v).cell? ⟨w.heap.size + 2, 0, none⟩ = some (.int .i64 33)) := fun w' u v hb => HL.out _ fun b h1 h2 => ((Below.heap_setCell _ ⟨(w.heap.size + 3), 1, none⟩ v b h2).trans (Below.heap_setCell _ ⟨(w.heap.size + 3), 0, none⟩ u b h2)).trans (hb.block b h1)
  have SW := Lib.hid (HC.out W (Below.refl _ _))
  go_wp2_with (first
        | (go_at_call 83
           refine (AC.out _).mono ?_
           rintro e w4 ⟨hb4, A9, n9, c9, B9, m9, d9, rfl, h9, h8⟩
           have HX9 := Lib.hid h9
           have HX8 := Lib.hid h8
           clear h9 h8
           have HB4 : Hid (Below W.heap.size W w4) := (by show Below _ _ _; first | exact trn ((Below.refl _ W).drew) hb4 | exact trn ((below_new W _).drew) hb4 | exact trn (((below_new W _).alloc (by simp) _).drew) hb4 | exact trn (below_new W _) hb4 | exact trn ((below_new W _).alloc (by simp) _) hb4 | exact trn (Below.refl _ W) hb4)
           have HR4 := Lib.hid hb4
           have hs4 := hb4.size
           try simp at hs4
           have HBk4 : Hid (Blk w4 (w.heap.size + 3) 86 #[.slice none 0 0, .slice none 0 0]) := blk_below HRW.out HB4.out (by omega)
           have hra4 := HBk4.out.cell 0
           have hrb4 := HBk4.out.cell 1
           have hfa4 := HBk4.out.frozen 0
           have hfb4 := HBk4.out.frozen 1
           have SS4 := Lib.hid (HC.out _ HB4.out)
           clear hb4))
  refine bodyPost_ret (res_chg rfl _ _ rfl (set2_0 hra4) (set2_1 hrb4)) rfl ⟨below_set2 (HBW.out.trans (HB4.out.mono HBW.out.size)) (by omega), _, _, _, _, _, _, rfl, ?_, ?_⟩
  · exact chg_thru HX9.out (by show _ ≤ W.heap.size; omega) (by omega) (by show _ < W.heap.size; omega)
  · exact chg_thru HX8.out (by show _ ≤ W.heap.size; omega) (by omega) (by show _ < W.heap.size; omega)
set_option maxRecDepth 100000 in
set_option maxHeartbeats 4000000 in
theorem change_34 (A0 A1 A2 A3 A4 P0 P1 P2 D : Option Addr) (n0 n1 n2 n3 n4 d0 d1 d2 d3 d4 ua ul uc c0 c1 c2 k g : Nat) (x : Mod) (f : Fn) (ts : List Typ) (ia ib : Int) (w : World) (H : Cx w A0 A1 A2 A3 A4 P0 P1 P2 D n0 n1 n2 n3 n4 d0 d1 d2 d3 d4 ua ul uc c0 c1 c2 k g x f ts) (hia : I64 ia) : Calls Tryz.prog 44 #[.agg #[.slice A0 n0 d0, .slice A1 n1 d1, .slice A2 n2 d2, .slice A3 n3 d3, .slice A4 n4 d4], .agg #[.slice P0 ua c0, .int .i64 f.ret.1, .int .i64 f.ret.2, .slice P1 ul c1, .slice P2 uc c2], .agg #[.int .i64 34, .int .i64 ia, .int .i64 ib], .slice D k g] w (Chgs w.heap.size [(3, 0)] [(1, 0)] w) := by
  have HH := Lib.hid H
  have TK := Lib.hid takes_any
  have PU := Lib.hid puts_any
  have PL1 := Lib.hid (fun w => plain_any 1 w)
  clear H
  have AC := Lib.hid (fun v => array_34 w.heap.size v)
  go_enter Tryz.func44, Tryz.ntmps44
  go_upto_region 2 with (first
    | (go_at_call 77; (with_reducible refine (PL1.out _).mono ?_); rintro e w1 ⟨rfl, hb1⟩; have HR1 := Lib.hid hb1; have hs1 := hb1.size; simp at hs1; clear hb1))
  refine wp_world fun W hW => ?_
  have HBW : Hid (Below w.heap.size w W) := by show Below _ _ _; rw [hW]; exact (((((below_new w _).alloc (by simp) _).alloc (by simp <;> omega) _).alloc (by simp <;> omega) _).trans (HR1.out.mono (by simp <;> omega))).alloc (by omega) _
  have HM : Hid (Blk W w.heap.size 28 #[.slice A0 n0 d0, .slice A1 n1 d1, .slice A2 n2 d2, .slice A3 n3 d3, .slice A4 n4 d4]) := by show Blk _ _ _ _; rw [hW]; exact blk_keep (blk_below (blk_keep (blk_keep (blk_keep (blk_new w _ _)))) HR1.out (by simp <;> omega))
  have HF : Hid (Blk W (w.heap.size + 1) 44 #[.slice P0 ua c0, .int .i64 f.ret.1, .int .i64 f.ret.2, .slice P1 ul c1, .slice P2 uc c2]) := by show Blk _ _ _ _; rw [hW]; exact blk_keep (blk_below (blk_keep (blk_keep (blk_at (by simp)))) HR1.out (by simp <;> omega))
  have HI : Hid (Blk W (w.heap.size + 2) 49 #[.int .i64 34, .int .i64 ia, .int .i64 ib]) := by show Blk _ _ _ _; rw [hW]; exact blk_keep (blk_below (blk_keep (blk_at (by simp))) HR1.out (by simp <;> omega))
  have HRW : Hid (Blk W (w.heap.size + 3) 86 #[.slice none 0 0, .slice none 0 0]) := by show Blk _ _ _ _; rw [hW]; exact blk_keep (blk_below (blk_at (by simp)) HR1.out (by simp <;> omega))
  have HG : Hid (Blk W w1.heap.size 41 #[.int .i64 1, .int .i64 0]) := by show Blk _ _ _ _; rw [hW]; exact blk_at rfl
  have hg1 : w.heap.size + 4 ≤ w1.heap.size := by omega
  have hsW : w1.heap.size + 1 ≤ W.heap.size := by rw [hW]; simp
  have hop := HI.out.cell 0
  simp only [List.getElem?_toArray, List.getElem?_cons_zero] at hop
  clear hW
  have HL : Hid (∀ w' : World, (∀ b, b < W.heap.size → b ≠ (w.heap.size + 3) → w'.heap[b]? = W.heap[b]?) → w'.cell? ⟨w.heap.size + 2, 0, none⟩ = some (.int .i64 34)) := fun w' hk => (World.cell?_of_block (hk _ (by show w.heap.size + 2 < _; omega) (by show w.heap.size + 2 ≠ _; omega))).trans (HI.out.cell 0)
  have HC : Hid (∀ w', Below W.heap.size W w' → w'.cell? ⟨w.heap.size + 2, 0, none⟩ = some (.int .i64 34)) := fun w' hb => HL.out w' fun b h1 _ => hb.block b h1
  have HCs : Hid (∀ w' u v, Below W.heap.size W w' → ((w'.setCell ⟨(w.heap.size + 3), 0, none⟩ u).setCell ⟨(w.heap.size + 3), 1, none⟩ v).cell? ⟨w.heap.size + 2, 0, none⟩ = some (.int .i64 34)) := fun w' u v hb => HL.out _ fun b h1 h2 => ((Below.heap_setCell _ ⟨(w.heap.size + 3), 1, none⟩ v b h2).trans (Below.heap_setCell _ ⟨(w.heap.size + 3), 0, none⟩ u b h2)).trans (hb.block b h1)
  have SW := Lib.hid (HC.out W (Below.refl _ _))
  go_wp2_with (first
        | (go_at_call 83
           refine (AC.out _).mono ?_
           rintro e w4 ⟨hb4, A9, n9, c9, B9, m9, d9, rfl, h9, h8⟩
           have HX9 := Lib.hid h9
           have HX8 := Lib.hid h8
           clear h9 h8
           have HB4 : Hid (Below W.heap.size W w4) := (by show Below _ _ _; first | exact trn ((Below.refl _ W).drew) hb4 | exact trn ((below_new W _).drew) hb4 | exact trn (((below_new W _).alloc (by simp) _).drew) hb4 | exact trn (below_new W _) hb4 | exact trn ((below_new W _).alloc (by simp) _) hb4 | exact trn (Below.refl _ W) hb4)
           have HR4 := Lib.hid hb4
           have hs4 := hb4.size
           try simp at hs4
           have HBk4 : Hid (Blk w4 (w.heap.size + 3) 86 #[.slice none 0 0, .slice none 0 0]) := blk_below HRW.out HB4.out (by omega)
           have hra4 := HBk4.out.cell 0
           have hrb4 := HBk4.out.cell 1
           have hfa4 := HBk4.out.frozen 0
           have hfb4 := HBk4.out.frozen 1
           have SS4 := Lib.hid (HC.out _ HB4.out)
           clear hb4))
  refine bodyPost_ret (res_chg rfl _ _ rfl (set2_0 hra4) (set2_1 hrb4)) rfl ⟨below_set2 (HBW.out.trans (HB4.out.mono HBW.out.size)) (by omega), _, _, _, _, _, _, rfl, ?_, ?_⟩
  · exact chg_thru HX9.out (by show _ ≤ W.heap.size; omega) (by omega) (by show _ < W.heap.size; omega)
  · exact chg_thru HX8.out (by show _ ≤ W.heap.size; omega) (by omega) (by show _ < W.heap.size; omega)
set_option maxRecDepth 100000 in
set_option maxHeartbeats 4000000 in
theorem change_35 (A0 A1 A2 A3 A4 P0 P1 P2 D : Option Addr) (n0 n1 n2 n3 n4 d0 d1 d2 d3 d4 ua ul uc c0 c1 c2 k g : Nat) (x : Mod) (f : Fn) (ts : List Typ) (ia ib : Int) (w : World) (H : Cx w A0 A1 A2 A3 A4 P0 P1 P2 D n0 n1 n2 n3 n4 d0 d1 d2 d3 d4 ua ul uc c0 c1 c2 k g x f ts) (hia : I64 ia) : Calls Tryz.prog 44 #[.agg #[.slice A0 n0 d0, .slice A1 n1 d1, .slice A2 n2 d2, .slice A3 n3 d3, .slice A4 n4 d4], .agg #[.slice P0 ua c0, .int .i64 f.ret.1, .int .i64 f.ret.2, .slice P1 ul c1, .slice P2 uc c2], .agg #[.int .i64 35, .int .i64 ia, .int .i64 ib], .slice D k g] w (Chgs w.heap.size [(1, 0)] [(2, 0)] w) := by
  have HH := Lib.hid H
  have TK := Lib.hid takes_any
  have PU := Lib.hid puts_any
  have PL1 := Lib.hid (fun w => plain_any 1 w)
  clear H
  have AC := Lib.hid (fun v => array_35 w.heap.size v)
  go_enter Tryz.func44, Tryz.ntmps44
  go_upto_region 2 with (first
    | (go_at_call 77; (with_reducible refine (PL1.out _).mono ?_); rintro e w1 ⟨rfl, hb1⟩; have HR1 := Lib.hid hb1; have hs1 := hb1.size; simp at hs1; clear hb1))
  refine wp_world fun W hW => ?_
  have HBW : Hid (Below w.heap.size w W) := by show Below _ _ _; rw [hW]; exact (((((below_new w _).alloc (by simp) _).alloc (by simp <;> omega) _).alloc (by simp <;> omega) _).trans (HR1.out.mono (by simp <;> omega))).alloc (by omega) _
  have HM : Hid (Blk W w.heap.size 28 #[.slice A0 n0 d0, .slice A1 n1 d1, .slice A2 n2 d2, .slice A3 n3 d3, .slice A4 n4 d4]) := by show Blk _ _ _ _; rw [hW]; exact blk_keep (blk_below (blk_keep (blk_keep (blk_keep (blk_new w _ _)))) HR1.out (by simp <;> omega))
  have HF : Hid (Blk W (w.heap.size + 1) 44 #[.slice P0 ua c0, .int .i64 f.ret.1, .int .i64 f.ret.2, .slice P1 ul c1, .slice P2 uc c2]) := by show Blk _ _ _ _; rw [hW]; exact blk_keep (blk_below (blk_keep (blk_keep (blk_at (by simp)))) HR1.out (by simp <;> omega))
  have HI : Hid (Blk W (w.heap.size + 2) 49 #[.int .i64 35, .int .i64 ia, .int .i64 ib]) := by show Blk _ _ _ _; rw [hW]; exact blk_keep (blk_below (blk_keep (blk_at (by simp))) HR1.out (by simp <;> omega))
  have HRW : Hid (Blk W (w.heap.size + 3) 86 #[.slice none 0 0, .slice none 0 0]) := by show Blk _ _ _ _; rw [hW]; exact blk_keep (blk_below (blk_at (by simp)) HR1.out (by simp <;> omega))
  have HG : Hid (Blk W w1.heap.size 41 #[.int .i64 1, .int .i64 0]) := by show Blk _ _ _ _; rw [hW]; exact blk_at rfl
  have hg1 : w.heap.size + 4 ≤ w1.heap.size := by omega
  have hsW : w1.heap.size + 1 ≤ W.heap.size := by rw [hW]; simp
  have hop := HI.out.cell 0
  simp only [List.getElem?_toArray, List.getElem?_cons_zero] at hop
  clear hW
  have HL : Hid (∀ w' : World, (∀ b, b < W.heap.size → b ≠ (w.heap.size + 3) → w'.heap[b]? = W.heap[b]?) → w'.cell? ⟨w.heap.size + 2, 0, none⟩ = some (.int .i64 35)) := fun w' hk => (World.cell?_of_block (hk _ (by show w.heap.size + 2 < _; omega) (by show w.heap.size + 2 ≠ _; omega))).trans (HI.out.cell 0)
  have HC : Hid (∀ w', Below W.heap.size W w' → w'.cell? ⟨w.heap.size + 2, 0, none⟩ = some (.int .i64 35)) := fun w' hb => HL.out w' fun b h1 _ => hb.block b h1
  have HCs : Hid (∀ w' u v, Below W.heap.size W w' → ((w'.setCell ⟨(w.heap.size + 3), 0, none⟩ u).setCell ⟨(w.heap.size + 3), 1, none⟩ v).cell? ⟨w.heap.size + 2, 0, none⟩ = some (.int .i64 35)) := fun w' u v hb => HL.out _ fun b h1 h2 => ((Below.heap_setCell _ ⟨(w.heap.size + 3), 1, none⟩ v b h2).trans (Below.heap_setCell _ ⟨(w.heap.size + 3), 0, none⟩ u b h2)).trans (hb.block b h1)
  have SW := Lib.hid (HC.out W (Below.refl _ _))
  go_wp2_with (first
        | (go_at_call 83
           refine (AC.out _).mono ?_
           rintro e w4 ⟨hb4, A9, n9, c9, B9, m9, d9, rfl, h9, h8⟩
           have HX9 := Lib.hid h9
           have HX8 := Lib.hid h8
           clear h9 h8
           have HB4 : Hid (Below W.heap.size W w4) := (by show Below _ _ _; first | exact trn ((Below.refl _ W).drew) hb4 | exact trn ((below_new W _).drew) hb4 | exact trn (((below_new W _).alloc (by simp) _).drew) hb4 | exact trn (below_new W _) hb4 | exact trn ((below_new W _).alloc (by simp) _) hb4 | exact trn (Below.refl _ W) hb4)
           have HR4 := Lib.hid hb4
           have hs4 := hb4.size
           try simp at hs4
           have HBk4 : Hid (Blk w4 (w.heap.size + 3) 86 #[.slice none 0 0, .slice none 0 0]) := blk_below HRW.out HB4.out (by omega)
           have hra4 := HBk4.out.cell 0
           have hrb4 := HBk4.out.cell 1
           have hfa4 := HBk4.out.frozen 0
           have hfb4 := HBk4.out.frozen 1
           have SS4 := Lib.hid (HC.out _ HB4.out)
           clear hb4))
  refine bodyPost_ret (res_chg rfl _ _ rfl (set2_0 hra4) (set2_1 hrb4)) rfl ⟨below_set2 (HBW.out.trans (HB4.out.mono HBW.out.size)) (by omega), _, _, _, _, _, _, rfl, ?_, ?_⟩
  · exact chg_thru HX9.out (by show _ ≤ W.heap.size; omega) (by omega) (by show _ < W.heap.size; omega)
  · exact chg_thru HX8.out (by show _ ≤ W.heap.size; omega) (by omega) (by show _ < W.heap.size; omega)
set_option maxRecDepth 100000 in
set_option maxHeartbeats 4000000 in
theorem change_36 (A0 A1 A2 A3 A4 P0 P1 P2 D : Option Addr) (n0 n1 n2 n3 n4 d0 d1 d2 d3 d4 ua ul uc c0 c1 c2 k g : Nat) (x : Mod) (f : Fn) (ts : List Typ) (ia ib : Int) (w : World) (H : Cx w A0 A1 A2 A3 A4 P0 P1 P2 D n0 n1 n2 n3 n4 d0 d1 d2 d3 d4 ua ul uc c0 c1 c2 k g x f ts) (hia : I64 ia) : Calls Tryz.prog 44 #[.agg #[.slice A0 n0 d0, .slice A1 n1 d1, .slice A2 n2 d2, .slice A3 n3 d3, .slice A4 n4 d4], .agg #[.slice P0 ua c0, .int .i64 f.ret.1, .int .i64 f.ret.2, .slice P1 ul c1, .slice P2 uc c2], .agg #[.int .i64 36, .int .i64 ia, .int .i64 ib], .slice D k g] w (Chgs w.heap.size [(2, 0), (1, 0)] [(1, 0)] w) := by
  have HH := Lib.hid H
  have TK := Lib.hid takes_any
  have PU := Lib.hid puts_any
  have PL1 := Lib.hid (fun w => plain_any 1 w)
  clear H
  have AC := Lib.hid (fun v => array_36 w.heap.size v)
  go_enter Tryz.func44, Tryz.ntmps44
  go_upto_region 2 with (first
    | (go_at_call 77; (with_reducible refine (PL1.out _).mono ?_); rintro e w1 ⟨rfl, hb1⟩; have HR1 := Lib.hid hb1; have hs1 := hb1.size; simp at hs1; clear hb1))
  refine wp_world fun W hW => ?_
  have HBW : Hid (Below w.heap.size w W) := by show Below _ _ _; rw [hW]; exact (((((below_new w _).alloc (by simp) _).alloc (by simp <;> omega) _).alloc (by simp <;> omega) _).trans (HR1.out.mono (by simp <;> omega))).alloc (by omega) _
  have HM : Hid (Blk W w.heap.size 28 #[.slice A0 n0 d0, .slice A1 n1 d1, .slice A2 n2 d2, .slice A3 n3 d3, .slice A4 n4 d4]) := by show Blk _ _ _ _; rw [hW]; exact blk_keep (blk_below (blk_keep (blk_keep (blk_keep (blk_new w _ _)))) HR1.out (by simp <;> omega))
  have HF : Hid (Blk W (w.heap.size + 1) 44 #[.slice P0 ua c0, .int .i64 f.ret.1, .int .i64 f.ret.2, .slice P1 ul c1, .slice P2 uc c2]) := by show Blk _ _ _ _; rw [hW]; exact blk_keep (blk_below (blk_keep (blk_keep (blk_at (by simp)))) HR1.out (by simp <;> omega))
  have HI : Hid (Blk W (w.heap.size + 2) 49 #[.int .i64 36, .int .i64 ia, .int .i64 ib]) := by show Blk _ _ _ _; rw [hW]; exact blk_keep (blk_below (blk_keep (blk_at (by simp))) HR1.out (by simp <;> omega))
  have HRW : Hid (Blk W (w.heap.size + 3) 86 #[.slice none 0 0, .slice none 0 0]) := by show Blk _ _ _ _; rw [hW]; exact blk_keep (blk_below (blk_at (by simp)) HR1.out (by simp <;> omega))
  have HG : Hid (Blk W w1.heap.size 41 #[.int .i64 1, .int .i64 0]) := by show Blk _ _ _ _; rw [hW]; exact blk_at rfl
  have hg1 : w.heap.size + 4 ≤ w1.heap.size := by omega
  have hsW : w1.heap.size + 1 ≤ W.heap.size := by rw [hW]; simp
  have hop := HI.out.cell 0
  simp only [List.getElem?_toArray, List.getElem?_cons_zero] at hop
  clear hW
  have HL : Hid (∀ w' : World, (∀ b, b < W.heap.size → b ≠ (w.heap.size + 3) → w'.heap[b]? = W.heap[b]?) → w'.cell? ⟨w.heap.size + 2, 0, none⟩ = some (.int .i64 36)) := fun w' hk => (World.cell?_of_block (hk _ (by show w.heap.size + 2 < _; omega) (by show w.heap.size + 2 ≠ _; omega))).trans (HI.out.cell 0)
  have HC : Hid (∀ w', Below W.heap.size W w' → w'.cell? ⟨w.heap.size + 2, 0, none⟩ = some (.int .i64 36)) := fun w' hb => HL.out w' fun b h1 _ => hb.block b h1
  have HCs : Hid (∀ w' u v, Below W.heap.size W w' → ((w'.setCell ⟨(w.heap.size + 3), 0, none⟩ u).setCell ⟨(w.heap.size + 3), 1, none⟩ v).cell? ⟨w.heap.size + 2, 0, none⟩ = some (.int .i64 36)) := fun w' u v hb => HL.out _ fun b h1 h2 => ((Below.heap_setCell _ ⟨(w.heap.size + 3), 1, none⟩ v b h2).trans (Below.heap_setCell _ ⟨(w.heap.size + 3), 0, none⟩ u b h2)).trans (hb.block b h1)
  have SW := Lib.hid (HC.out W (Below.refl _ _))
  go_wp2_with (first
        | (go_at_call 83
           refine (AC.out _).mono ?_
           rintro e w4 ⟨hb4, A9, n9, c9, B9, m9, d9, rfl, h9, h8⟩
           have HX9 := Lib.hid h9
           have HX8 := Lib.hid h8
           clear h9 h8
           have HB4 : Hid (Below W.heap.size W w4) := (by show Below _ _ _; first | exact trn ((Below.refl _ W).drew) hb4 | exact trn ((below_new W _).drew) hb4 | exact trn (((below_new W _).alloc (by simp) _).drew) hb4 | exact trn (below_new W _) hb4 | exact trn ((below_new W _).alloc (by simp) _) hb4 | exact trn (Below.refl _ W) hb4)
           have HR4 := Lib.hid hb4
           have hs4 := hb4.size
           try simp at hs4
           have HBk4 : Hid (Blk w4 (w.heap.size + 3) 86 #[.slice none 0 0, .slice none 0 0]) := blk_below HRW.out HB4.out (by omega)
           have hra4 := HBk4.out.cell 0
           have hrb4 := HBk4.out.cell 1
           have hfa4 := HBk4.out.frozen 0
           have hfb4 := HBk4.out.frozen 1
           have SS4 := Lib.hid (HC.out _ HB4.out)
           clear hb4))
  refine bodyPost_ret (res_chg rfl _ _ rfl (set2_0 hra4) (set2_1 hrb4)) rfl ⟨below_set2 (HBW.out.trans (HB4.out.mono HBW.out.size)) (by omega), _, _, _, _, _, _, rfl, ?_, ?_⟩
  · exact chg_thru HX9.out (by show _ ≤ W.heap.size; omega) (by omega) (by show _ < W.heap.size; omega)
  · exact chg_thru HX8.out (by show _ ≤ W.heap.size; omega) (by omega) (by show _ < W.heap.size; omega)
set_option maxRecDepth 100000 in
set_option maxHeartbeats 4000000 in
theorem change_37 (A0 A1 A2 A3 A4 P0 P1 P2 D : Option Addr) (n0 n1 n2 n3 n4 d0 d1 d2 d3 d4 ua ul uc c0 c1 c2 k g : Nat) (x : Mod) (f : Fn) (ts : List Typ) (ia ib : Int) (w : World) (H : Cx w A0 A1 A2 A3 A4 P0 P1 P2 D n0 n1 n2 n3 n4 d0 d1 d2 d3 d4 ua ul uc c0 c1 c2 k g x f ts) (hia : I64 ia) : Calls Tryz.prog 44 #[.agg #[.slice A0 n0 d0, .slice A1 n1 d1, .slice A2 n2 d2, .slice A3 n3 d3, .slice A4 n4 d4], .agg #[.slice P0 ua c0, .int .i64 f.ret.1, .int .i64 f.ret.2, .slice P1 ul c1, .slice P2 uc c2], .agg #[.int .i64 37, .int .i64 ia, .int .i64 ib], .slice D k g] w (Chgs w.heap.size [(2, 0), (1, 0), (1, 0)] [] w) := by
  have HH := Lib.hid H
  have TK := Lib.hid takes_any
  have PU := Lib.hid puts_any
  have PL1 := Lib.hid (fun w => plain_any 1 w)
  clear H
  have AC := Lib.hid (fun v => array_37 w.heap.size v)
  go_enter Tryz.func44, Tryz.ntmps44
  go_upto_region 2 with (first
    | (go_at_call 77; (with_reducible refine (PL1.out _).mono ?_); rintro e w1 ⟨rfl, hb1⟩; have HR1 := Lib.hid hb1; have hs1 := hb1.size; simp at hs1; clear hb1))
  refine wp_world fun W hW => ?_
  have HBW : Hid (Below w.heap.size w W) := by show Below _ _ _; rw [hW]; exact (((((below_new w _).alloc (by simp) _).alloc (by simp <;> omega) _).alloc (by simp <;> omega) _).trans (HR1.out.mono (by simp <;> omega))).alloc (by omega) _
  have HM : Hid (Blk W w.heap.size 28 #[.slice A0 n0 d0, .slice A1 n1 d1, .slice A2 n2 d2, .slice A3 n3 d3, .slice A4 n4 d4]) := by show Blk _ _ _ _; rw [hW]; exact blk_keep (blk_below (blk_keep (blk_keep (blk_keep (blk_new w _ _)))) HR1.out (by simp <;> omega))
  have HF : Hid (Blk W (w.heap.size + 1) 44 #[.slice P0 ua c0, .int .i64 f.ret.1, .int .i64 f.ret.2, .slice P1 ul c1, .slice P2 uc c2]) := by show Blk _ _ _ _; rw [hW]; exact blk_keep (blk_below (blk_keep (blk_keep (blk_at (by simp)))) HR1.out (by simp <;> omega))
  have HI : Hid (Blk W (w.heap.size + 2) 49 #[.int .i64 37, .int .i64 ia, .int .i64 ib]) := by show Blk _ _ _ _; rw [hW]; exact blk_keep (blk_below (blk_keep (blk_at (by simp))) HR1.out (by simp <;> omega))
  have HRW : Hid (Blk W (w.heap.size + 3) 86 #[.slice none 0 0, .slice none 0 0]) := by show Blk _ _ _ _; rw [hW]; exact blk_keep (blk_below (blk_at (by simp)) HR1.out (by simp <;> omega))
  have HG : Hid (Blk W w1.heap.size 41 #[.int .i64 1, .int .i64 0]) := by show Blk _ _ _ _; rw [hW]; exact blk_at rfl
  have hg1 : w.heap.size + 4 ≤ w1.heap.size := by omega
  have hsW : w1.heap.size + 1 ≤ W.heap.size := by rw [hW]; simp
  have hop := HI.out.cell 0
  simp only [List.getElem?_toArray, List.getElem?_cons_zero] at hop
  clear hW
  have HL : Hid (∀ w' : World, (∀ b, b < W.heap.size → b ≠ (w.heap.size + 3) → w'.heap[b]? = W.heap[b]?) → w'.cell? ⟨w.heap.size + 2, 0, none⟩ = some (.int .i64 37)) := fun w' hk => (World.cell?_of_block (hk _ (by show w.heap.size + 2 < _; omega) (by show w.heap.size + 2 ≠ _; omega))).trans (HI.out.cell 0)
  have HC : Hid (∀ w', Below W.heap.size W w' → w'.cell? ⟨w.heap.size + 2, 0, none⟩ = some (.int .i64 37)) := fun w' hb => HL.out w' fun b h1 _ => hb.block b h1
  have HCs : Hid (∀ w' u v, Below W.heap.size W w' → ((w'.setCell ⟨(w.heap.size + 3), 0, none⟩ u).setCell ⟨(w.heap.size + 3), 1, none⟩ v).cell? ⟨w.heap.size + 2, 0, none⟩ = some (.int .i64 37)) := fun w' u v hb => HL.out _ fun b h1 h2 => ((Below.heap_setCell _ ⟨(w.heap.size + 3), 1, none⟩ v b h2).trans (Below.heap_setCell _ ⟨(w.heap.size + 3), 0, none⟩ u b h2)).trans (hb.block b h1)
  have SW := Lib.hid (HC.out W (Below.refl _ _))
  go_wp2_with (first
        | (go_at_call 83
           refine (AC.out _).mono ?_
           rintro e w4 ⟨hb4, A9, n9, c9, B9, m9, d9, rfl, h9, h8⟩
           have HX9 := Lib.hid h9
           have HX8 := Lib.hid h8
           clear h9 h8
           have HB4 : Hid (Below W.heap.size W w4) := (by show Below _ _ _; first | exact trn ((Below.refl _ W).drew) hb4 | exact trn ((below_new W _).drew) hb4 | exact trn (((below_new W _).alloc (by simp) _).drew) hb4 | exact trn (below_new W _) hb4 | exact trn ((below_new W _).alloc (by simp) _) hb4 | exact trn (Below.refl _ W) hb4)
           have HR4 := Lib.hid hb4
           have hs4 := hb4.size
           try simp at hs4
           have HBk4 : Hid (Blk w4 (w.heap.size + 3) 86 #[.slice none 0 0, .slice none 0 0]) := blk_below HRW.out HB4.out (by omega)
           have hra4 := HBk4.out.cell 0
           have hrb4 := HBk4.out.cell 1
           have hfa4 := HBk4.out.frozen 0
           have hfb4 := HBk4.out.frozen 1
           have SS4 := Lib.hid (HC.out _ HB4.out)
           clear hb4))
  refine bodyPost_ret (res_chg rfl _ _ rfl (set2_0 hra4) (set2_1 hrb4)) rfl ⟨below_set2 (HBW.out.trans (HB4.out.mono HBW.out.size)) (by omega), _, _, _, _, _, _, rfl, ?_, ?_⟩
  · exact chg_thru HX9.out (by show _ ≤ W.heap.size; omega) (by omega) (by show _ < W.heap.size; omega)
  · exact chg_thru HX8.out (by show _ ≤ W.heap.size; omega) (by omega) (by show _ < W.heap.size; omega)
set_option maxRecDepth 100000 in
set_option maxHeartbeats 4000000 in
theorem change_38 (A0 A1 A2 A3 A4 P0 P1 P2 D : Option Addr) (n0 n1 n2 n3 n4 d0 d1 d2 d3 d4 ua ul uc c0 c1 c2 k g : Nat) (x : Mod) (f : Fn) (ts : List Typ) (ia ib : Int) (w : World) (H : Cx w A0 A1 A2 A3 A4 P0 P1 P2 D n0 n1 n2 n3 n4 d0 d1 d2 d3 d4 ua ul uc c0 c1 c2 k g x f ts) (hia : I64 ia) : Calls Tryz.prog 44 #[.agg #[.slice A0 n0 d0, .slice A1 n1 d1, .slice A2 n2 d2, .slice A3 n3 d3, .slice A4 n4 d4], .agg #[.slice P0 ua c0, .int .i64 f.ret.1, .int .i64 f.ret.2, .slice P1 ul c1, .slice P2 uc c2], .agg #[.int .i64 38, .int .i64 ia, .int .i64 ib], .slice D k g] w (Chgs w.heap.size [(2, 0)] [(1, 0)] w) := by
  have HH := Lib.hid H
  have TK := Lib.hid takes_any
  have PU := Lib.hid puts_any
  have PL1 := Lib.hid (fun w => plain_any 1 w)
  clear H
  have AC := Lib.hid (fun v => array_38 w.heap.size v)
  go_enter Tryz.func44, Tryz.ntmps44
  go_upto_region 2 with (first
    | (go_at_call 77; (with_reducible refine (PL1.out _).mono ?_); rintro e w1 ⟨rfl, hb1⟩; have HR1 := Lib.hid hb1; have hs1 := hb1.size; simp at hs1; clear hb1))
  refine wp_world fun W hW => ?_
  have HBW : Hid (Below w.heap.size w W) := by show Below _ _ _; rw [hW]; exact (((((below_new w _).alloc (by simp) _).alloc (by simp <;> omega) _).alloc (by simp <;> omega) _).trans (HR1.out.mono (by simp <;> omega))).alloc (by omega) _
  have HM : Hid (Blk W w.heap.size 28 #[.slice A0 n0 d0, .slice A1 n1 d1, .slice A2 n2 d2, .slice A3 n3 d3, .slice A4 n4 d4]) := by show Blk _ _ _ _; rw [hW]; exact blk_keep (blk_below (blk_keep (blk_keep (blk_keep (blk_new w _ _)))) HR1.out (by simp <;> omega))
  have HF : Hid (Blk W (w.heap.size + 1) 44 #[.slice P0 ua c0, .int .i64 f.ret.1, .int .i64 f.ret.2, .slice P1 ul c1, .slice P2 uc c2]) := by show Blk _ _ _ _; rw [hW]; exact blk_keep (blk_below (blk_keep (blk_keep (blk_at (by simp)))) HR1.out (by simp <;> omega))
  have HI : Hid (Blk W (w.heap.size + 2) 49 #[.int .i64 38, .int .i64 ia, .int .i64 ib]) := by show Blk _ _ _ _; rw [hW]; exact blk_keep (blk_below (blk_keep (blk_at (by simp))) HR1.out (by simp <;> omega))
  have HRW : Hid (Blk W (w.heap.size + 3) 86 #[.slice none 0 0, .slice none 0 0]) := by show Blk _ _ _ _; rw [hW]; exact blk_keep (blk_below (blk_at (by simp)) HR1.out (by simp <;> omega))
  have HG : Hid (Blk W w1.heap.size 41 #[.int .i64 1, .int .i64 0]) := by show Blk _ _ _ _; rw [hW]; exact blk_at rfl
  have hg1 : w.heap.size + 4 ≤ w1.heap.size := by omega
  have hsW : w1.heap.size + 1 ≤ W.heap.size := by rw [hW]; simp
  have hop := HI.out.cell 0
  simp only [List.getElem?_toArray, List.getElem?_cons_zero] at hop
  clear hW
  have HL : Hid (∀ w' : World, (∀ b, b < W.heap.size → b ≠ (w.heap.size + 3) → w'.heap[b]? = W.heap[b]?) → w'.cell? ⟨w.heap.size + 2, 0, none⟩ = some (.int .i64 38)) := fun w' hk => (World.cell?_of_block (hk _ (by show w.heap.size + 2 < _; omega) (by show w.heap.size + 2 ≠ _; omega))).trans (HI.out.cell 0)
  have HC : Hid (∀ w', Below W.heap.size W w' → w'.cell? ⟨w.heap.size + 2, 0, none⟩ = some (.int .i64 38)) := fun w' hb => HL.out w' fun b h1 _ => hb.block b h1
  have HCs : Hid (∀ w' u v, Below W.heap.size W w' → ((w'.setCell ⟨(w.heap.size + 3), 0, none⟩ u).setCell ⟨(w.heap.size + 3), 1, none⟩ v).cell? ⟨w.heap.size + 2, 0, none⟩ = some (.int .i64 38)) := fun w' u v hb => HL.out _ fun b h1 h2 => ((Below.heap_setCell _ ⟨(w.heap.size + 3), 1, none⟩ v b h2).trans (Below.heap_setCell _ ⟨(w.heap.size + 3), 0, none⟩ u b h2)).trans (hb.block b h1)
  have SW := Lib.hid (HC.out W (Below.refl _ _))
  go_wp2_with (first
        | (go_at_call 83
           refine (AC.out _).mono ?_
           rintro e w4 ⟨hb4, A9, n9, c9, B9, m9, d9, rfl, h9, h8⟩
           have HX9 := Lib.hid h9
           have HX8 := Lib.hid h8
           clear h9 h8
           have HB4 : Hid (Below W.heap.size W w4) := (by show Below _ _ _; first | exact trn ((Below.refl _ W).drew) hb4 | exact trn ((below_new W _).drew) hb4 | exact trn (((below_new W _).alloc (by simp) _).drew) hb4 | exact trn (below_new W _) hb4 | exact trn ((below_new W _).alloc (by simp) _) hb4 | exact trn (Below.refl _ W) hb4)
           have HR4 := Lib.hid hb4
           have hs4 := hb4.size
           try simp at hs4
           have HBk4 : Hid (Blk w4 (w.heap.size + 3) 86 #[.slice none 0 0, .slice none 0 0]) := blk_below HRW.out HB4.out (by omega)
           have hra4 := HBk4.out.cell 0
           have hrb4 := HBk4.out.cell 1
           have hfa4 := HBk4.out.frozen 0
           have hfb4 := HBk4.out.frozen 1
           have SS4 := Lib.hid (HC.out _ HB4.out)
           clear hb4))
  refine bodyPost_ret (res_chg rfl _ _ rfl (set2_0 hra4) (set2_1 hrb4)) rfl ⟨below_set2 (HBW.out.trans (HB4.out.mono HBW.out.size)) (by omega), _, _, _, _, _, _, rfl, ?_, ?_⟩
  · exact chg_thru HX9.out (by show _ ≤ W.heap.size; omega) (by omega) (by show _ < W.heap.size; omega)
  · exact chg_thru HX8.out (by show _ ≤ W.heap.size; omega) (by omega) (by show _ < W.heap.size; omega)
end Go.Proofs.YtikhhcmfjncabaaGreat
