/-
  Frc
-/
import Derived.Test.YtikhhcmfjncabaaQ11
import Derived.Deep.RegionHeld3
set_option linter.unusedSimpArgs false
set_option linter.unusedVariables false
namespace Go.Proofs.Ytikhhcmfjncabaa
open Go.RowKit

set_option maxRecDepth 100000 in
set_option maxHeartbeats 4000000 in
theorem record_28 (K : Nat) (A : Option Addr) (n c : Nat) (ts : List Typ) (ia ib : Int) (w : World) (hK : K ≤ w.heap.size) (hl : ts.length = n) (hcap : n ≤ c) (hmx : c ≤ maxLen) (h : Sq typL (· < K) w A ts) (hia : I64 ia) : Calls Try.prog 63 #[.slice A n c, .agg #[.int .i64 28, .int .i64 ia, .int .i64 ib]] w (Chgs K ts [(4, ia)] w) := by
  have TK := Lib.hid takes_any
  have PU := Lib.hid puts_any
  have HTS : Hid (tysL.R (· < K) w [.slice A n c] ts) := ⟨A, c, by rw [hl], by rw [hl]; exact hcap, hmx, h⟩
  have HIA : Hid (I64 ((4, ia) : Typ).1 ∧ I64 ((4, ia) : Typ).2) := ⟨i64_small (by omega) (by omega), hia⟩
  have hn9 : n ≤ 9223372036854775807 := by unfold maxLen at hmx; omega
  clear hmx hl h
  go_enter Try.func63, Try.ntmps63
  go_wp2_with fail
  refine wp_world fun W hW => ?_
  have HBW : Hid (Below w.heap.size w W) := by show Below _ _ _; rw [hW]; exact ((below_new w _).alloc (by simp) _).alloc (by simp <;> omega) _
  have HI : Hid (Blk W w.heap.size 29 #[.int .i64 28, .int .i64 ia, .int .i64 ib]) := by show Blk _ _ _ _; rw [hW]; exact blk_keep (blk_keep (blk_new w _ _))
  have HRW : Hid (Blk W (w.heap.size + 1) 79 #[.slice none 0 0, .slice none 0 0]) := by show Blk _ _ _ _; rw [hW]; exact blk_keep (blk_at (by simp))
  have HG : Hid (Blk W (w.heap.size + 2) 27 #[.int .i64 4, .int .i64 ia]) := by show Blk _ _ _ _; rw [hW]; exact blk_at (by simp)
  have hsW : w.heap.size + 3 ≤ W.heap.size := by rw [hW]; simp
  clear hW
  have HL : Hid (∀ w' : World, (∀ b, b < W.heap.size → b ≠ (w.heap.size + 1) → w'.heap[b]? = W.heap[b]?) → w'.cell? ⟨w.heap.size + 2, 0, none⟩ = some (.int .i64 4) ∧ w'.cell? ⟨w.heap.size + 2, 1, none⟩ = some (.int .i64 ia)) := fun w' hk => ⟨(World.cell?_of_block (hk _ (by show w.heap.size + 2 < _; omega) (by show w.heap.size + 2 ≠ _; omega))).trans (HG.out.cell 0), (World.cell?_of_block (hk _ (by show w.heap.size + 2 < _; omega) (by show w.heap.size + 2 ≠ _; omega))).trans (HG.out.cell 1)⟩
  have HC : Hid (∀ w', Below W.heap.size W w' → w'.cell? ⟨w.heap.size + 2, 0, none⟩ = some (.int .i64 4) ∧ w'.cell? ⟨w.heap.size + 2, 1, none⟩ = some (.int .i64 ia)) := fun w' hb => HL.out w' fun b h1 _ => hb.block b h1
  have HCs : Hid (∀ w' u v, Below W.heap.size W w' → ((w'.setCell ⟨(w.heap.size + 1), 0, none⟩ u).setCell ⟨(w.heap.size + 1), 1, none⟩ v).cell? ⟨w.heap.size + 2, 0, none⟩ = some (.int .i64 4) ∧ ((w'.setCell ⟨(w.heap.size + 1), 0, none⟩ u).setCell ⟨(w.heap.size + 1), 1, none⟩ v).cell? ⟨w.heap.size + 2, 1, none⟩ = some (.int .i64 ia)) := fun w' u v hb => HL.out _ fun b h1 h2 => ((Below.heap_setCell _ ⟨(w.heap.size + 1), 1, none⟩ v b h2).trans (Below.heap_setCell _ ⟨(w.heap.size + 1), 0, none⟩ u b h2)).trans (hb.block b h1)
  have SW := Lib.hid (HC.out W (Below.refl _ _))
  go_wp2_with fail
  go_region_held3 (fun w' => w'.cell? ⟨w.heap.size + 2, 0, none⟩ = some (.int .i64 4) ∧ w'.cell? ⟨w.heap.size + 2, 1, none⟩ = some (.int .i64 ia))
    (first | exact SS5.out | exact SS4.out | (have hz := HB5.out; clear hz; first | exact HC.out _ (HB5.out.alloc HB5.out.size _) | exact HC.out _ ((HB5.out.alloc HB5.out.size _).alloc (by have := HB5.out.size; simp; omega) _)) | (have hz := HB4.out; clear hz; first | exact HC.out _ (HB4.out.alloc HB4.out.size _) | exact HC.out _ ((HB4.out.alloc HB4.out.size _).alloc (by have := HB4.out.size; simp; omega) _)) | (have hz := HB5.out; clear hz; exact HCs.out _ _ _ HB5.out) | (have hz := HB4.out; clear hz; exact HCs.out _ _ _ HB4.out) | exact SW.out | exact HC.out _ (Below.refl _ W).drew | exact HC.out _ (below_new W _).drew | exact HC.out _ ((below_new W _).alloc (by simp) _).drew)
    (first
        | (go_at_call 59
           with_reducible refine (TK.out _ _ _ _).mono ?_
           rintro e w4 ⟨rfl, hb4⟩
           have HB4 : Hid (Below W.heap.size W w4) := (by show Below _ _ _; first | exact trn ((Below.refl _ W).drew) hb4 | exact trn ((below_new W _).drew) hb4 | exact trn (((below_new W _).alloc (by simp) _).drew) hb4 | exact trn (below_new W _) hb4 | exact trn ((below_new W _).alloc (by simp) _) hb4 | exact trn (Below.refl _ W) hb4)
           have HR4 := Lib.hid hb4
           have hs4 := hb4.size
           try simp at hs4
           have HBk4 : Hid (Blk w4 (w.heap.size + 1) 79 #[.slice none 0 0, .slice none 0 0]) := blk_below HRW.out HB4.out (by omega)
           have hra4 := HBk4.out.cell 0
           have hrb4 := HBk4.out.cell 1
           have hfa4 := HBk4.out.frozen 0
           have hfb4 := HBk4.out.frozen 1
           have SS4 := Lib.hid (HC.out _ HB4.out)
           clear hb4)
        | (go_at_call 60
           with_reducible refine (PU.out _ _ _ _ _ _ _).mono ?_
           rintro e w5 ⟨rfl, hb5⟩
           have HB5 : Hid (Below W.heap.size W w5) := (by show Below _ _ _; first | exact trn (HB4.out) hb5 | exact trn (HB4.out.alloc HB4.out.size _) hb5 | exact trn ((HB4.out.alloc HB4.out.size _).alloc (by have := HB4.out.size; simp; omega) _) hb5)
           have HR5 := Lib.hid hb5
           have hs5 := hb5.size
           try simp at hs5
           have HBk5 : Hid (Blk w5 (w.heap.size + 1) 79 #[.slice none 0 0, .slice none 0 0]) := blk_below HRW.out HB5.out (by omega)
           have hra5 := HBk5.out.cell 0
           have hrb5 := HBk5.out.cell 1
           have hfa5 := HBk5.out.frozen 0
           have hfb5 := HBk5.out.frozen 1
           have SS5 := Lib.hid (HC.out _ HB5.out)
           clear hb5))
  all_goals
    go_wp2_with fail
    refine bodyPost_ret (res_chg rfl _ _ rfl (set2_0 hra5) (set2_1 hrb5)) rfl ⟨below_set2 (HBW.out.trans (HB5.out.mono HBW.out.size)) (by omega), _, _, _, _, _, _, rfl, ?_, ?_⟩
    · exact tysL.wide (tysL.keep HTS.out fun b hb => (below_set2 (R := (w.heap.size + 1)) (HBW.out.trans (HB5.out.mono HBW.out.size)) (by omega)).block b (by omega)) fun b hb => .inl hb
    · exact lit_lt (cs := #[.int .i64 4, .int .i64 ia]) (ts := [(4, ia)]) (by (repeat (first | ((with_reducible refine blk_at ?_); simp; done) | with_reducible refine blk_keep ?_ | with_reducible refine blk_drew ?_ | with_reducible refine blk_other ?_ (by omega) | with_reducible refine blk_below ?_ HR5.out (by first | omega | (simp <;> omega)) | with_reducible refine blk_below ?_ HR4.out (by first | omega | (simp <;> omega)) | with_reducible exact HRW.out))) (by omega) rfl (a64_cons HIA.out (A64.nil)) rfl (by omega)
set_option maxRecDepth 100000 in
set_option maxHeartbeats 4000000 in
theorem record_29 (K : Nat) (A : Option Addr) (n c : Nat) (ts : List Typ) (ia ib : Int) (w : World) (hK : K ≤ w.heap.size) (hl : ts.length = n) (hcap : n ≤ c) (hmx : c ≤ maxLen) (h : Sq typL (· < K) w A ts) (hia : I64 ia) (t : Typ) (j : Nat) (hj : ib = (j : Int)) (ht : ts[j]? = some t) : Calls Try.prog 63 #[.slice A n c, .agg #[.int .i64 29, .int .i64 ia, .int .i64 ib]] w (Chgs K [(4, ia)] [t] w) := by
  have TK := Lib.hid takes_any
  have PU := Lib.hid puts_any
  have HTS : Hid (tysL.R (· < K) w [.slice A n c] ts) := ⟨A, c, by rw [hl], by rw [hl]; exact hcap, hmx, h⟩
  have HIA : Hid (I64 ((4, ia) : Typ).1 ∧ I64 ((4, ia) : Typ).2) := ⟨i64_small (by omega) (by omega), hia⟩
  subst hj
  have hjn : (j : Int) < (n : Int) := by have := (List.getElem?_eq_some_iff.1 ht).1; omega
  have HTT := Lib.hid (h.a64 t (List.mem_of_getElem? ht))
  obtain ⟨a, cs, rfl, hab, hcl, hr⟩ := h.at ht
  obtain ⟨rfl, -, -⟩ := hr
  have hn9 : n ≤ 9223372036854775807 := by unfold maxLen at hmx; omega
  clear hmx ht hl h
  go_enter Try.func63, Try.ntmps63
  go_wp2_with fail
  refine wp_world fun W hW => ?_
  have HBW : Hid (Below w.heap.size w W) := by show Below _ _ _; rw [hW]; exact ((below_new w _).alloc (by simp) _).alloc (by simp <;> omega) _
  have HI : Hid (Blk W w.heap.size 29 #[.int .i64 29, .int .i64 ia, .int .i64 (j : Int)]) := by show Blk _ _ _ _; rw [hW]; exact blk_keep (blk_keep (blk_new w _ _))
  have HRW : Hid (Blk W (w.heap.size + 1) 79 #[.slice none 0 0, .slice none 0 0]) := by show Blk _ _ _ _; rw [hW]; exact blk_keep (blk_at (by simp))
  have HG : Hid (Blk W (w.heap.size + 2) 27 #[.int .i64 4, .int .i64 ia]) := by show Blk _ _ _ _; rw [hW]; exact blk_at (by simp)
  have hsW : w.heap.size + 3 ≤ W.heap.size := by rw [hW]; simp
  clear hW
  have hc0 := (HBW.out.cell (p := a.add (j * 2)) (by rw [addBlock]; omega)).trans (hcl 0 _ rfl)
  have hc1 := (HBW.out.cell (p := a.add (j * 2 + 1)) (by rw [addBlock]; omega)).trans (hcl 1 _ rfl)
  rw [next_cell a (j * 2) 1 (by omega)] at hc1
  clear hcl
  have HL : Hid (∀ w' : World, (∀ b, b < W.heap.size → b ≠ (w.heap.size + 1) → w'.heap[b]? = W.heap[b]?) → w'.cell? ⟨w.heap.size + 2, 0, none⟩ = some (.int .i64 4) ∧ w'.cell? ⟨w.heap.size + 2, 1, none⟩ = some (.int .i64 ia) ∧ w'.cell? ⟨w.heap.size, 2, none⟩ = some (.int .i64 (j : Int)) ∧ w'.cell? (a.add (j * 2)) = some (.int .i64 t.1) ∧ w'.cell? ⟨(a.add (j * 2)).block, (a.add (j * 2)).off + 1, none⟩ = some (.int .i64 t.2)) := fun w' hk => ⟨(World.cell?_of_block (hk _ (by show w.heap.size + 2 < _; omega) (by show w.heap.size + 2 ≠ _; omega))).trans (HG.out.cell 0), (World.cell?_of_block (hk _ (by show w.heap.size + 2 < _; omega) (by show w.heap.size + 2 ≠ _; omega))).trans (HG.out.cell 1), (World.cell?_of_block (hk _ (by show w.heap.size < _; omega) (by show w.heap.size ≠ _; omega))).trans (HI.out.cell 2), (World.cell?_of_block (hk _ (by show (a.add (j * 2)).block < _; rw [addBlock]; omega) (by show (a.add (j * 2)).block ≠ _; rw [addBlock]; omega))).trans (hc0), (World.cell?_of_block (hk _ (by show (a.add (j * 2)).block < _; rw [addBlock]; omega) (by show (a.add (j * 2)).block ≠ _; rw [addBlock]; omega))).trans (hc1)⟩
  have HC : Hid (∀ w', Below W.heap.size W w' → w'.cell? ⟨w.heap.size + 2, 0, none⟩ = some (.int .i64 4) ∧ w'.cell? ⟨w.heap.size + 2, 1, none⟩ = some (.int .i64 ia) ∧ w'.cell? ⟨w.heap.size, 2, none⟩ = some (.int .i64 (j : Int)) ∧ w'.cell? (a.add (j * 2)) = some (.int .i64 t.1) ∧ w'.cell? ⟨(a.add (j * 2)).block, (a.add (j * 2)).off + 1, none⟩ = some (.int .i64 t.2)) := fun w' hb => HL.out w' fun b h1 _ => hb.block b h1
  have HCs : Hid (∀ w' u v, Below W.heap.size W w' → ((w'.setCell ⟨(w.heap.size + 1), 0, none⟩ u).setCell ⟨(w.heap.size + 1), 1, none⟩ v).cell? ⟨w.heap.size + 2, 0, none⟩ = some (.int .i64 4) ∧ ((w'.setCell ⟨(w.heap.size + 1), 0, none⟩ u).setCell ⟨(w.heap.size + 1), 1, none⟩ v).cell? ⟨w.heap.size + 2, 1, none⟩ = some (.int .i64 ia) ∧ ((w'.setCell ⟨(w.heap.size + 1), 0, none⟩ u).setCell ⟨(w.heap.size + 1), 1, none⟩ v).cell? ⟨w.heap.size, 2, none⟩ = some (.int .i64 (j : Int)) ∧ ((w'.setCell ⟨(w.heap.size + 1), 0, none⟩ u).setCell ⟨(w.heap.size + 1), 1, none⟩ v).cell? (a.add (j * 2)) = some (.int .i64 t.1) ∧ ((w'.setCell ⟨(w.heap.size + 1), 0, none⟩ u).setCell ⟨(w.heap.size + 1), 1, none⟩ v).cell? ⟨(a.add (j * 2)).block, (a.add (j * 2)).off + 1, none⟩ = some (.int .i64 t.2)) := fun w' u v hb => HL.out _ fun b h1 h2 => ((Below.heap_setCell _ ⟨(w.heap.size + 1), 1, none⟩ v b h2).trans (Below.heap_setCell _ ⟨(w.heap.size + 1), 0, none⟩ u b h2)).trans (hb.block b h1)
  have SW := Lib.hid (HC.out W (Below.refl _ _))
  go_wp2_with fail
  go_region_held3 (fun w' => w'.cell? ⟨w.heap.size + 2, 0, none⟩ = some (.int .i64 4) ∧ w'.cell? ⟨w.heap.size + 2, 1, none⟩ = some (.int .i64 ia) ∧ w'.cell? ⟨w.heap.size, 2, none⟩ = some (.int .i64 (j : Int)) ∧ w'.cell? (a.add (j * 2)) = some (.int .i64 t.1) ∧ w'.cell? ⟨(a.add (j * 2)).block, (a.add (j * 2)).off + 1, none⟩ = some (.int .i64 t.2))
    (first | exact SS5.out | exact SS4.out | (have hz := HB5.out; clear hz; first | exact HC.out _ (HB5.out.alloc HB5.out.size _) | exact HC.out _ ((HB5.out.alloc HB5.out.size _).alloc (by have := HB5.out.size; simp; omega) _)) | (have hz := HB4.out; clear hz; first | exact HC.out _ (HB4.out.alloc HB4.out.size _) | exact HC.out _ ((HB4.out.alloc HB4.out.size _).alloc (by have := HB4.out.size; simp; omega) _)) | (have hz := HB5.out; clear hz; exact HCs.out _ _ _ HB5.out) | (have hz := HB4.out; clear hz; exact HCs.out _ _ _ HB4.out) | exact SW.out | exact HC.out _ (Below.refl _ W).drew | exact HC.out _ (below_new W _).drew | exact HC.out _ ((below_new W _).alloc (by simp) _).drew)
    (first
        | (go_at_call 59
           with_reducible refine (TK.out _ _ _ _).mono ?_
           rintro e w4 ⟨rfl, hb4⟩
           have HB4 : Hid (Below W.heap.size W w4) := (by show Below _ _ _; first | exact trn ((Below.refl _ W).drew) hb4 | exact trn ((below_new W _).drew) hb4 | exact trn (((below_new W _).alloc (by simp) _).drew) hb4 | exact trn (below_new W _) hb4 | exact trn ((below_new W _).alloc (by simp) _) hb4 | exact trn (Below.refl _ W) hb4)
           have HR4 := Lib.hid hb4
           have hs4 := hb4.size
           try simp at hs4
           have HBk4 : Hid (Blk w4 (w.heap.size + 1) 79 #[.slice none 0 0, .slice none 0 0]) := blk_below HRW.out HB4.out (by omega)
           have hra4 := HBk4.out.cell 0
           have hrb4 := HBk4.out.cell 1
           have hfa4 := HBk4.out.frozen 0
           have hfb4 := HBk4.out.frozen 1
           have SS4 := Lib.hid (HC.out _ HB4.out)
           clear hb4)
        | (go_at_call 60
           with_reducible refine (PU.out _ _ _ _ _ _ _).mono ?_
           rintro e w5 ⟨rfl, hb5⟩
           have HB5 : Hid (Below W.heap.size W w5) := (by show Below _ _ _; first | exact trn (HB4.out) hb5 | exact trn (HB4.out.alloc HB4.out.size _) hb5 | exact trn ((HB4.out.alloc HB4.out.size _).alloc (by have := HB4.out.size; simp; omega) _) hb5)
           have HR5 := Lib.hid hb5
           have hs5 := hb5.size
           try simp at hs5
           have HBk5 : Hid (Blk w5 (w.heap.size + 1) 79 #[.slice none 0 0, .slice none 0 0]) := blk_below HRW.out HB5.out (by omega)
           have hra5 := HBk5.out.cell 0
           have hrb5 := HBk5.out.cell 1
           have hfa5 := HBk5.out.frozen 0
           have hfb5 := HBk5.out.frozen 1
           have SS5 := Lib.hid (HC.out _ HB5.out)
           clear hb5))
  all_goals
    go_wp2_with fail
    refine bodyPost_ret (res_chg rfl _ _ rfl (set2_0 hra5) (set2_1 hrb5)) rfl ⟨below_set2 (HBW.out.trans (HB5.out.mono HBW.out.size)) (by omega), _, _, _, _, _, _, rfl, ?_, ?_⟩
    · exact lit_lt (cs := #[.int .i64 4, .int .i64 ia]) (ts := [(4, ia)]) (by (repeat (first | ((with_reducible refine blk_at ?_); simp; done) | with_reducible refine blk_keep ?_ | with_reducible refine blk_drew ?_ | with_reducible refine blk_other ?_ (by omega) | with_reducible refine blk_below ?_ HR5.out (by first | omega | (simp <;> omega)) | with_reducible refine blk_below ?_ HR4.out (by first | omega | (simp <;> omega)) | with_reducible exact HRW.out))) (by omega) rfl (a64_cons HIA.out (A64.nil)) rfl (by omega)
    · exact lit_lt (cs := #[.int .i64 t.1, .int .i64 t.2]) (ts := [t]) (by (repeat (first | ((with_reducible refine blk_at ?_); simp; done) | with_reducible refine blk_keep ?_ | with_reducible refine blk_drew ?_ | with_reducible refine blk_other ?_ (by omega) | with_reducible refine blk_below ?_ HR5.out (by first | omega | (simp <;> omega)) | with_reducible refine blk_below ?_ HR4.out (by first | omega | (simp <;> omega)) | with_reducible exact HRW.out))) (by omega) rfl (a64_cons HTT.out (A64.nil)) rfl (by omega)
set_option maxRecDepth 100000 in
set_option maxHeartbeats 4000000 in
theorem record_30 (K : Nat) (A : Option Addr) (n c : Nat) (ts : List Typ) (ia ib : Int) (w : World) (hK : K ≤ w.heap.size) (hl : ts.length = n) (hcap : n ≤ c) (hmx : c ≤ maxLen) (h : Sq typL (· < K) w A ts) (hia : I64 ia) (t : Typ) (j : Nat) (hj : ib = (j : Int)) (ht : ts[j]? = some t) : Calls Try.prog 63 #[.slice A n c, .agg #[.int .i64 30, .int .i64 ia, .int .i64 ib]] w (Chgs K [(4, ia), t] [] w) := by
  have TK := Lib.hid takes_any
  have PU := Lib.hid puts_any
  have HTS : Hid (tysL.R (· < K) w [.slice A n c] ts) := ⟨A, c, by rw [hl], by rw [hl]; exact hcap, hmx, h⟩
  have HIA : Hid (I64 ((4, ia) : Typ).1 ∧ I64 ((4, ia) : Typ).2) := ⟨i64_small (by omega) (by omega), hia⟩
  subst hj
  have hjn : (j : Int) < (n : Int) := by have := (List.getElem?_eq_some_iff.1 ht).1; omega
  have HTT := Lib.hid (h.a64 t (List.mem_of_getElem? ht))
  obtain ⟨a, cs, rfl, hab, hcl, hr⟩ := h.at ht
  obtain ⟨rfl, -, -⟩ := hr
  have hn9 : n ≤ 9223372036854775807 := by unfold maxLen at hmx; omega
  clear hmx ht hl h
  go_enter Try.func63, Try.ntmps63
  go_wp2_with fail
  refine wp_world fun W hW => ?_
  have HBW : Hid (Below w.heap.size w W) := by show Below _ _ _; rw [hW]; exact ((below_new w _).alloc (by simp) _).alloc (by simp <;> omega) _
  have HI : Hid (Blk W w.heap.size 29 #[.int .i64 30, .int .i64 ia, .int .i64 (j : Int)]) := by show Blk _ _ _ _; rw [hW]; exact blk_keep (blk_keep (blk_new w _ _))
  have HRW : Hid (Blk W (w.heap.size + 1) 79 #[.slice none 0 0, .slice none 0 0]) := by show Blk _ _ _ _; rw [hW]; exact blk_keep (blk_at (by simp))
  have HG : Hid (Blk W (w.heap.size + 2) 27 #[.int .i64 4, .int .i64 ia]) := by show Blk _ _ _ _; rw [hW]; exact blk_at (by simp)
  have hsW : w.heap.size + 3 ≤ W.heap.size := by rw [hW]; simp
  clear hW
  have hc0 := (HBW.out.cell (p := a.add (j * 2)) (by rw [addBlock]; omega)).trans (hcl 0 _ rfl)
  have hc1 := (HBW.out.cell (p := a.add (j * 2 + 1)) (by rw [addBlock]; omega)).trans (hcl 1 _ rfl)
  rw [next_cell a (j * 2) 1 (by omega)] at hc1
  clear hcl
  have HL : Hid (∀ w' : World, (∀ b, b < W.heap.size → b ≠ (w.heap.size + 1) → w'.heap[b]? = W.heap[b]?) → w'.cell? ⟨w.heap.size + 2, 0, none⟩ = some (.int .i64 4) ∧ w'.cell? ⟨w.heap.size + 2, 1, none⟩ = some (.int .i64 ia) ∧ w'.cell? ⟨w.heap.size, 2, none⟩ = some (.int .i64 (j : Int)) ∧ w'.cell? (a.add (j * 2)) = some (.int .i64 t.1) ∧ w'.cell? ⟨(a.add (j * 2)).block, (a.add (j * 2)).off + 1, none⟩ = some (.int .i64 t.2)) := fun w' hk => ⟨(World.cell?_of_block (hk _ (by show w.heap.size + 2 < _; omega) (by show w.heap.size + 2 ≠ _; omega))).trans (HG.out.cell 0), (World.cell?_of_block (hk _ (by show w.heap.size + 2 < _; omega) (by show w.heap.size + 2 ≠ _; omega))).trans (HG.out.cell 1), (World.cell?_of_block (hk _ (by show w.heap.size < _; omega) (by show w.heap.size ≠ _; omega))).trans (HI.out.cell 2), (World.cell?_of_block (hk _ (by show (a.add (j * 2)).block < _; rw [addBlock]; omega) (by show (a.add (j * 2)).block ≠ _; rw [addBlock]; omega))).trans (hc0), (World.cell?_of_block (hk _ (by show (a.add (j * 2)).block < _; rw [addBlock]; omega) (by show (a.add (j * 2)).block ≠ _; rw [addBlock]; omega))).trans (hc1)⟩
  have HC : Hid (∀ w', Below W.heap.size W w' → w'.cell? ⟨w.heap.size + 2, 0, none⟩ = some (.int .i64 4) ∧ w'.cell? ⟨w.heap.size + 2, 1, none⟩ = some (.int .i64 ia) ∧ w'.cell? ⟨w.heap.size, 2, none⟩ = some (.int .i64 (j : Int)) ∧ w'.cell? (a.add (j * 2)) = some (.int .i64 t.1) ∧ w'.cell? ⟨(a.add (j * 2)).block, (a.add (j * 2)).off + 1, none⟩ = some (.int .i64 t.2)) := fun w' hb => HL.out w' fun b h1 _ => hb.block b h1
  have HCs : Hid (∀ w' u v, Below W.heap.size W w' → ((w'.setCell ⟨(w.heap.size + 1), 0, none⟩ u).setCell ⟨(w.heap.size + 1), 1, none⟩ v).cell? ⟨w.heap.size + 2, 0, none⟩ = some (.int .i64 4) ∧ ((w'.setCell ⟨(w.heap.size + 1), 0, none⟩ u).setCell ⟨(w.heap.size + 1), 1, none⟩ v).cell? ⟨w.heap.size + 2, 1, none⟩ = some (.int .i64 ia) ∧ ((w'.setCell ⟨(w.heap.size + 1), 0, none⟩ u).setCell ⟨(w.heap.size + 1), 1, none⟩ v).cell? ⟨w.heap.size, 2, none⟩ = some (.int .i64 (j : Int)) ∧ ((w'.setCell ⟨(w.heap.size + 1), 0, none⟩ u).setCell ⟨(w.heap.size + 1), 1, none⟩ v).cell? (a.add (j * 2)) = some (.int .i64 t.1) ∧ ((w'.setCell ⟨(w.heap.size + 1), 0, none⟩ u).setCell ⟨(w.heap.size + 1), 1, none⟩ v).cell? ⟨(a.add (j * 2)).block, (a.add (j * 2)).off + 1, none⟩ = some (.int .i64 t.2)) := fun w' u v hb => HL.out _ fun b h1 h2 => ((Below.heap_setCell _ ⟨(w.heap.size + 1), 1, none⟩ v b h2).trans (Below.heap_setCell _ ⟨(w.heap.size + 1), 0, none⟩ u b h2)).trans (hb.block b h1)
  have SW := Lib.hid (HC.out W (Below.refl _ _))
  go_wp2_with fail
  go_region_held3 (fun w' => w'.cell? ⟨w.heap.size + 2, 0, none⟩ = some (.int .i64 4) ∧ w'.cell? ⟨w.heap.size + 2, 1, none⟩ = some (.int .i64 ia) ∧ w'.cell? ⟨w.heap.size, 2, none⟩ = some (.int .i64 (j : Int)) ∧ w'.cell? (a.add (j * 2)) = some (.int .i64 t.1) ∧ w'.cell? ⟨(a.add (j * 2)).block, (a.add (j * 2)).off + 1, none⟩ = some (.int .i64 t.2))
    (first | exact SS4.out | (have hz := HB4.out; clear hz; first | exact HC.out _ (HB4.out.alloc HB4.out.size _) | exact HC.out _ ((HB4.out.alloc HB4.out.size _).alloc (by have := HB4.out.size; simp; omega) _)) | (have hz := HB4.out; clear hz; exact HCs.out _ _ _ HB4.out) | exact SW.out | exact HC.out _ (Below.refl _ W).drew | exact HC.out _ (below_new W _).drew | exact HC.out _ ((below_new W _).alloc (by simp) _).drew)
    (first
        | (go_at_call 59
           with_reducible refine (TK.out _ _ _ _).mono ?_
           rintro e w4 ⟨rfl, hb4⟩
           have HB4 : Hid (Below W.heap.size W w4) := (by show Below _ _ _; first | exact trn ((Below.refl _ W).drew) hb4 | exact trn ((below_new W _).drew) hb4 | exact trn (((below_new W _).alloc (by simp) _).drew) hb4 | exact trn (below_new W _) hb4 | exact trn ((below_new W _).alloc (by simp) _) hb4 | exact trn (Below.refl _ W) hb4)
           have HR4 := Lib.hid hb4
           have hs4 := hb4.size
           try simp at hs4
           have HBk4 : Hid (Blk w4 (w.heap.size + 1) 79 #[.slice none 0 0, .slice none 0 0]) := blk_below HRW.out HB4.out (by omega)
           have hra4 := HBk4.out.cell 0
           have hrb4 := HBk4.out.cell 1
           have hfa4 := HBk4.out.frozen 0
           have hfb4 := HBk4.out.frozen 1
           have SS4 := Lib.hid (HC.out _ HB4.out)
           clear hb4))
  all_goals
    go_wp2_with fail
    refine bodyPost_ret (res_chg rfl _ _ rfl (set2_0 hra4) (set2_1 hrb4)) rfl ⟨below_set2 (HBW.out.trans (HB4.out.mono HBW.out.size)) (by omega), _, _, _, _, _, _, rfl, ?_, ?_⟩
    · exact lit_lt (cs := #[.int .i64 4, .int .i64 ia, .int .i64 t.1, .int .i64 t.2]) (ts := [(4, ia), t]) (by (repeat (first | ((with_reducible refine blk_at ?_); simp; done) | with_reducible refine blk_keep ?_ | with_reducible refine blk_drew ?_ | with_reducible refine blk_other ?_ (by omega) | with_reducible refine blk_below ?_ HR4.out (by first | omega | (simp <;> omega)) | with_reducible exact HRW.out))) (by omega) rfl (a64_cons HIA.out (a64_cons HTT.out (A64.nil))) rfl (by omega)
    · exact nil_sl _ _ _
end Go.Proofs.Ytikhhcmfjncabaa
