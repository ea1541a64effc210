/-
  The law JudgeWider holds: what is right stays so when a type that nobody uses again is told as of no use; the law's function returns true and turns nothing that was there.
  Conditions: none.
-/
import Derived.Test.YtikhhcmfjncabaaQ01
import Derived.Test.YtikhhcmfjncabaaQ24
import Derived.Deep.RegionHeld3
import Derived.Deep.DeepCutAuto
namespace Go.Proofs.Ytikhhcmfjncabaa.judgeWider
open Go.ChangeShapes Go.WideShapes Go.ChangeAt Go.RowKit
set_option linter.unusedVariables false
set_option linter.unusedSimpArgs false

set_option maxRecDepth 100000 in
set_option maxHeartbeats 8000000 in
theorem walk (n : Int) (w : World) (hn : 0 ≤ n ∧ n ≤ 255) :
    Calls Try.prog 4 #[.int .u8 n] w fun e w' => e = .returned (.bool true) ∧ Below w.heap.size w w' := by
  have AN := Lib.hid (fun w => answers10 w)
  obtain ⟨k, ek, hk⟩ : ∃ k : Nat, n % 6 = (k : Int) ∧ k < 6 := ⟨(n % 6).toNat, by omega, by omega⟩
  have HK := Lib.hid hk
  go_enter Try.func4, Try.ntmps4
  go_upto_region 3 with (fail)
  try simp only [ek]
  clear ek hn
  go_upto_region 6 with (fail)
  refine wp_world fun W5 hW5 => ?_
  have b0 : Blk W5 (w.heap.size) 27 #[.int .i64 1, .int .i64 0] := by rw [hW5]; repeat (first | (refine blk_at ?_; simp; done) | refine blk_keep ?_)
  have b1 : Blk W5 (w.heap.size + 1) 27 #[.int .i64 8, .int .i64 0] := by rw [hW5]; repeat (first | (refine blk_at ?_; simp; done) | refine blk_keep ?_)
  have b2 : Blk W5 (w.heap.size + 1 + 1) 29 #[.int .i64 0, .int .i64 0, .int .i64 0, .int .i64 0, .int .i64 0, .int .i64 0] := by rw [hW5]; repeat (first | (refine blk_at ?_; simp; done) | refine blk_keep ?_)
  have b3 : Blk W5 (w.heap.size + 1 + 1 + 1) 27 #[.int .i64 1, .int .i64 0] := by rw [hW5]; repeat (first | (refine blk_at ?_; simp; done) | refine blk_keep ?_)
  have b4 : Blk W5 (w.heap.size + 1 + 1 + 1 + 1) 32 #[.bool true, .slice none 0 0, .bool true, .slice (some ⟨w.heap.size + 1 + 1 + 1, 0, none⟩) 1 1] := by rw [hW5]; repeat (first | (refine blk_at ?_; simp; done) | refine blk_keep ?_)
  have b5 : Blk W5 (w.heap.size + 1 + 1 + 1 + 1 + 1) 27 #[.int .i64 1, .int .i64 0] := by rw [hW5]; repeat (first | (refine blk_at ?_; simp; done) | refine blk_keep ?_)
  have b6 : Blk W5 (w.heap.size + 1 + 1 + 1 + 1 + 1 + 1) 32 #[.bool true, .slice none 0 0, .bool true, .slice (some ⟨w.heap.size + 1 + 1 + 1 + 1 + 1, 0, none⟩) 1 1] := by rw [hW5]; repeat (first | (refine blk_at ?_; simp; done) | refine blk_keep ?_)
  have hs5 : w.heap.size + 7 ≤ W5.heap.size := by rw [hW5]; simp
  have HB5 : Hid (Below w.heap.size w W5) := by show Below _ _ _; rw [hW5]; exact ((((((below_new w _).alloc (by simp) _).alloc (by simp <;> omega) _).alloc (by simp <;> omega) _).alloc (by simp <;> omega) _).alloc (by simp <;> omega) _).alloc (by simp <;> omega) _
  have HN0 := Lib.hid b0
  have HN1 := Lib.hid b1
  have HNm : Hid (∀ v, Below (w.heap.size + 2) W5 v → v.cell? ⟨w.heap.size, 0, none⟩ = some (.int .i64 1) ∧ v.cell? ⟨w.heap.size, 1, none⟩ = some (.int .i64 0) ∧ v.cell? ⟨w.heap.size + 1, 0, none⟩ = some (.int .i64 8) ∧ v.cell? ⟨w.heap.size + 1, 1, none⟩ = some (.int .i64 0)) := fun v hb => by
    have f0 := blk_below HN0.out hb (by omega)
    have f1 := blk_below HN1.out hb (by omega)
    exact ⟨f0.cell 0, f0.cell 1, f1.cell 0, f1.cell 1⟩
  have HT5 : Hid (Tri (w.heap.size + 2) W5 (.slice (some ⟨w.heap.size + 1 + 1, 0, none⟩) 2 2) (.slice (some ⟨w.heap.size + 1 + 1 + 1 + 1, 0, none⟩) 2 2) (.slice (some ⟨w.heap.size + 1 + 1 + 1 + 1 + 1 + 1, 0, none⟩) 2 2) (wCode 0) (wA 0) (wB 0)) :=
    tri_begin b2 b3 b4 b5 b6 (by omega) (by omega) (by omega) (by omega) (by omega)
  clear hW5 b0 b1 b2 b3 b4 b5 b6
  have hk6 : (k : Int) < 6 := by omega
  go_wp2_with fail
  go_loopw [6, 7, 8, 9] (fun vc va vb i wr => ∃ j : Nat, j ≤ k ∧ i = .int .i64 (j : Nat) ∧ Below (w.heap.size + 2) W5 wr ∧ Tri (w.heap.size + 2) wr vc va vb (wCode j) (wA j) (wB j)) (fun _ _ _ i _ => k - (intOf i).toNat)
  case atStart => exact ⟨0, Nat.zero_le _, rfl, Below.refl _ _, HT5.out⟩
  case round =>
    obtain ⟨wf, eW⟩ : ∃ wf, wf = wr := ⟨_, rfl⟩
    subst eW
    obtain ⟨j, hj, rfl, hbf, hT⟩ := hrel
    have HBf := Lib.hid hbf
    have HTf := Lib.hid hT
    have hsf := hbf.size
    clear hbf hT HT5
    by_cases hlt : j < k
    · have hlt' : (j : Int) < (k : Int) := by omega
      go_upto_region 10 with (first
        | (at_builtin
           refine walk_append_inss _ rfl (.tmp 35) (.tmp 38) rfl (w.heap.size + 2) u6 (wCode j).length (wCode j) rfl (HTf.out.below (below_new wf _)).code ⟨wf.heap.size, 0, none⟩ 2 2 [(5, 0, 0), (0, 0, 0)] rfl rfl (cell_new wf 29 [.int .i64 5, .int .i64 0, .int .i64 0, .int .i64 0, .int .i64 0, .int .i64 0]) (by rw [wCode_len]; omega) (by simp; omega) ?_
           intro v1 w1 hown1 hg1 hv1
           have HT1 := Lib.hid (Tri.grow_c (HTf.out.below (below_new wf _)) rfl hown1 hg1 hv1)
           have HB1 : Hid (Below (w.heap.size + 2) W5 w1) := HBf.out.trans (((below_new wf _).mono (by omega)).grown hg1 (by simp; omega) fun i hi => (HTf.out.code.lt i hi).1)
           have hs1 := HB1.out.size
           clear hown1 hg1 hv1))
      have HW1 := Lib.hid (HNm.out w1 HB1.out)
      obtain ⟨n0, n1, n2, n3⟩ := HNm.out w1 HB1.out
      have a0 := fun ob => (HNm.out (w1.alloc ob) (HB1.out.alloc (by omega) ob)).1
      have a1 := fun ob => (HNm.out (w1.alloc ob) (HB1.out.alloc (by omega) ob)).2.1
      clear HW1 n0 n1 n2 n3 a0 a1
      obtain ⟨n0, n1, n2, n3⟩ := HNm.out w1 HB1.out
      have a0 := fun ob => (HNm.out (w1.alloc ob) (HB1.out.alloc (by omega) ob)).1
      have a1 := fun ob => (HNm.out (w1.alloc ob) (HB1.out.alloc (by omega) ob)).2.1
      have HW1 := Lib.hid n0
      go_upto_region 11 with (first
        | (at_builtin
           refine list_world fun V hV => ?_
           have bS : Blk V w1.heap.size 27 #[.int .i64 1, .int .i64 0, .int .i64 1, .int .i64 0] := (by rw [hV]; exact blk_keep (blk_keep (blk_at rfl)))
           have bO : Blk V (w1.heap.size + 1) 27 #[.int .i64 1, .int .i64 0] := (by rw [hV]; exact blk_keep (blk_at (by simp)))
           have bR : Blk V (w1.heap.size + 1 + 1) 32 #[.bool true, .slice (some ⟨w1.heap.size, 0, none⟩) 2 2, .bool true, .slice (some ⟨w1.heap.size + 1, 0, none⟩) 1 1] := (by rw [hV]; exact blk_at (by simp))
           have hVb : Below w1.heap.size w1 V := (by rw [hV]; exact ((below_new w1 _).alloc (by simp) _).alloc (by simp <;> omega) _)
           refine walk_append_a V rfl (.tmp 40) (.tmp 48) rfl (w.heap.size + 2) v1 u7 u8 _ _ _ rfl (HT1.out.below hVb) ⟨w1.heap.size + 1 + 1, 0, none⟩ 2 rfl [.bool true, .slice (some ⟨w1.heap.size, 0, none⟩) 2 2] [.bool true, .slice (some ⟨w1.heap.size + 1, 0, none⟩) 1 1] (true, [(1, 0), (1, 0)]) (true, [(1, 0)]) (blk_cells bR) (shp_of (two_sl (L := typL) (x := (1, 0)) (y := (1, 0)) (c0 := [.int .i64 1, .int .i64 0]) (c1 := [.int .i64 1, .int .i64 0]) bS ⟨bS.lt, HT1.out.no3 (Nat.le_refl _)⟩ rfl w_num w_num)) (shp_of (one_sl (L := typL) (x := (1, 0)) bO ⟨bO.lt, HT1.out.no3 (by omega)⟩ w_num)) (by rw [wA_len]; omega) (by have := hVb.size; omega) ?_
           intro v2 w2 hT2 hb2
           have HT2 := Lib.hid hT2
           have HB2 : Hid (Below (w.heap.size + 2) W5 w2) := HB1.out.trans ((hVb.mono (by omega)).trans hb2)
           have hs2 := HB2.out.size
           clear hV bS bO bR hVb hT2 hb2))
      clear HW1 n0 n1 n2 n3 a0 a1
      obtain ⟨n0, n1, n2, n3⟩ := HNm.out w2 HB2.out
      have a0 := fun ob => (HNm.out (w2.alloc ob) (HB2.out.alloc (by omega) ob)).1
      have a1 := fun ob => (HNm.out (w2.alloc ob) (HB2.out.alloc (by omega) ob)).2.1
      have HW1 := Lib.hid n0
      go_upto_region 8 with (first
        | (at_builtin
           refine list_world fun V hV => ?_
           have bS : Blk V w2.heap.size 27 #[.int .i64 1, .int .i64 0, .int .i64 8, .int .i64 0] := (by rw [hV]; exact blk_keep (blk_keep (blk_at rfl)))
           have bO : Blk V (w2.heap.size + 1) 27 #[.int .i64 1, .int .i64 0] := (by rw [hV]; exact blk_keep (blk_at (by simp)))
           have bR : Blk V (w2.heap.size + 1 + 1) 32 #[.bool true, .slice (some ⟨w2.heap.size, 0, none⟩) 2 2, .bool true, .slice (some ⟨w2.heap.size + 1, 0, none⟩) 1 1] := (by rw [hV]; exact blk_at (by simp))
           have hVb : Below w2.heap.size w2 V := (by rw [hV]; exact ((below_new w2 _).alloc (by simp) _).alloc (by simp <;> omega) _)
           refine walk_append_b V rfl (.tmp 50) (.tmp 58) rfl (w.heap.size + 2) v1 v2 u8 _ _ _ rfl (HT2.out.below hVb) ⟨w2.heap.size + 1 + 1, 0, none⟩ 2 rfl [.bool true, .slice (some ⟨w2.heap.size, 0, none⟩) 2 2] [.bool true, .slice (some ⟨w2.heap.size + 1, 0, none⟩) 1 1] (true, [(1, 0), (8, 0)]) (true, [(1, 0)]) (blk_cells bR) (shp_of (two_sl (L := typL) (x := (1, 0)) (y := (8, 0)) (c0 := [.int .i64 1, .int .i64 0]) (c1 := [.int .i64 8, .int .i64 0]) bS ⟨bS.lt, HT2.out.no3 (Nat.le_refl _)⟩ rfl w_num w_non)) (shp_of (one_sl (L := typL) (x := (1, 0)) bO ⟨bO.lt, HT2.out.no3 (by omega)⟩ w_num)) (by rw [wB_len]; omega) (by have := hVb.size; omega) ?_
           intro v3 w3 hT3 hb3
           have HT3 := Lib.hid hT3
           have HB3 : Hid (Below (w.heap.size + 2) W5 w3) := HB2.out.trans ((hVb.mono (by omega)).trans hb3)
           have hs3 := HB3.out.size
           clear hV bS bO bR hVb hT3 hb3))
      clear HW1 n0 n1 n2 n3 a0 a1
      go_wp2_with fail
      exact ⟨⟨j + 1, by omega, by simp, HB3.out, HT3.out⟩, by simp [intOf]; omega⟩
    obtain rfl : j = k := by omega
    go_upto_region 13 with (first
      | (at_builtin
         refine walk_append_inss _ rfl (.tmp 60) (.tmp 63) rfl (w.heap.size + 2) u6 (wCode j).length (wCode j) rfl (HTf.out.below (below_new wf _)).code ⟨wf.heap.size, 0, none⟩ 2 2 [(5, 0, 0), (26, 0, 0)] rfl rfl (cell_new wf 29 [.int .i64 5, .int .i64 0, .int .i64 0, .int .i64 26, .int .i64 0, .int .i64 0]) (by rw [wCode_len]; omega) (by simp; omega) ?_
         intro v1 w1 hown1 hg1 hv1
         have HT1 := Lib.hid (Tri.grow_c (HTf.out.below (below_new wf _)) rfl hown1 hg1 hv1)
         have HB1 : Hid (Below (w.heap.size + 2) W5 w1) := HBf.out.trans (((below_new wf _).mono (by omega)).grown hg1 (by simp; omega) fun i hi => (HTf.out.code.lt i hi).1)
         have hs1 := HB1.out.size
         clear hown1 hg1 hv1))
    have HW1 := Lib.hid (HNm.out w1 HB1.out)
    obtain ⟨n0, n1, n2, n3⟩ := HNm.out w1 HB1.out
    have a0 := fun ob => (HNm.out (w1.alloc ob) (HB1.out.alloc (by omega) ob)).1
    have a1 := fun ob => (HNm.out (w1.alloc ob) (HB1.out.alloc (by omega) ob)).2.1
    clear HW1 n0 n1 n2 n3 a0 a1
    obtain ⟨n0, n1, n2, n3⟩ := HNm.out w1 HB1.out
    have a0 := fun ob => (HNm.out (w1.alloc ob) (HB1.out.alloc (by omega) ob)).1
    have a1 := fun ob => (HNm.out (w1.alloc ob) (HB1.out.alloc (by omega) ob)).2.1
    have HW1 := Lib.hid n0
    go_upto_region 14 with (first
      | (at_builtin
         refine list_world fun V hV => ?_
         have bS : Blk V w1.heap.size 27 #[.int .i64 1, .int .i64 0, .int .i64 1, .int .i64 0] := (by rw [hV]; exact blk_keep (blk_keep (blk_at rfl)))
         have bO : Blk V (w1.heap.size + 1) 27 #[.int .i64 1, .int .i64 0] := (by rw [hV]; exact blk_keep (blk_at (by simp)))
         have bR : Blk V (w1.heap.size + 1 + 1) 32 #[.bool true, .slice (some ⟨w1.heap.size, 0, none⟩) 2 2, .bool true, .slice (some ⟨w1.heap.size + 1, 0, none⟩) 1 1] := (by rw [hV]; exact blk_at (by simp))
         have hVb : Below w1.heap.size w1 V := (by rw [hV]; exact ((below_new w1 _).alloc (by simp) _).alloc (by simp <;> omega) _)
         refine walk_append_a V rfl (.tmp 65) (.tmp 73) rfl (w.heap.size + 2) v1 u7 u8 _ _ _ rfl (HT1.out.below hVb) ⟨w1.heap.size + 1 + 1, 0, none⟩ 2 rfl [.bool true, .slice (some ⟨w1.heap.size, 0, none⟩) 2 2] [.bool true, .slice (some ⟨w1.heap.size + 1, 0, none⟩) 1 1] (true, [(1, 0), (1, 0)]) (true, [(1, 0)]) (blk_cells bR) (shp_of (two_sl (L := typL) (x := (1, 0)) (y := (1, 0)) (c0 := [.int .i64 1, .int .i64 0]) (c1 := [.int .i64 1, .int .i64 0]) bS ⟨bS.lt, HT1.out.no3 (Nat.le_refl _)⟩ rfl w_num w_num)) (shp_of (one_sl (L := typL) (x := (1, 0)) bO ⟨bO.lt, HT1.out.no3 (by omega)⟩ w_num)) (by rw [wA_len]; omega) (by have := hVb.size; omega) ?_
         intro v2 w2 hT2 hb2
         have HT2 := Lib.hid hT2
         have HB2 : Hid (Below (w.heap.size + 2) W5 w2) := HB1.out.trans ((hVb.mono (by omega)).trans hb2)
         have hs2 := HB2.out.size
         clear hV bS bO bR hVb hT2 hb2))
    clear HW1 n0 n1 n2 n3 a0 a1
    obtain ⟨n0, n1, n2, n3⟩ := HNm.out w2 HB2.out
    have a0 := fun ob => (HNm.out (w2.alloc ob) (HB2.out.alloc (by omega) ob)).1
    have a1 := fun ob => (HNm.out (w2.alloc ob) (HB2.out.alloc (by omega) ob)).2.1
    have HW1 := Lib.hid n0
    go_upto_region 15 with (first
      | (at_builtin
         refine list_world fun V hV => ?_
         have bS : Blk V w2.heap.size 27 #[.int .i64 1, .int .i64 0, .int .i64 8, .int .i64 0] := (by rw [hV]; exact blk_keep (blk_keep (blk_at rfl)))
         have bO : Blk V (w2.heap.size + 1) 27 #[.int .i64 1, .int .i64 0] := (by rw [hV]; exact blk_keep (blk_at (by simp)))
         have bR : Blk V (w2.heap.size + 1 + 1) 32 #[.bool true, .slice (some ⟨w2.heap.size, 0, none⟩) 2 2, .bool true, .slice (some ⟨w2.heap.size + 1, 0, none⟩) 1 1] := (by rw [hV]; exact blk_at (by simp))
         have hVb : Below w2.heap.size w2 V := (by rw [hV]; exact ((below_new w2 _).alloc (by simp) _).alloc (by simp <;> omega) _)
         refine walk_append_b V rfl (.tmp 75) (.tmp 83) rfl (w.heap.size + 2) v1 v2 u8 _ _ _ rfl (HT2.out.below hVb) ⟨w2.heap.size + 1 + 1, 0, none⟩ 2 rfl [.bool true, .slice (some ⟨w2.heap.size, 0, none⟩) 2 2] [.bool true, .slice (some ⟨w2.heap.size + 1, 0, none⟩) 1 1] (true, [(1, 0), (8, 0)]) (true, [(1, 0)]) (blk_cells bR) (shp_of (two_sl (L := typL) (x := (1, 0)) (y := (8, 0)) (c0 := [.int .i64 1, .int .i64 0]) (c1 := [.int .i64 8, .int .i64 0]) bS ⟨bS.lt, HT2.out.no3 (Nat.le_refl _)⟩ rfl w_num w_non)) (shp_of (one_sl (L := typL) (x := (1, 0)) bO ⟨bO.lt, HT2.out.no3 (by omega)⟩ w_num)) (by rw [wB_len]; omega) (by have := hVb.size; omega) ?_
         intro v3 w3 hT3 hb3
         have HT3 := Lib.hid hT3
         have HB3 : Hid (Below (w.heap.size + 2) W5 w3) := HB2.out.trans ((hVb.mono (by omega)).trans hb3)
         have hs3 := HB3.out.size
         clear hV bS bO bR hVb hT3 hb3))
    clear HW1 n0 n1 n2 n3 a0 a1
    obtain ⟨q, hq⟩ : ∃ q : Nat, 3 + 2 * j = q := ⟨_, rfl⟩
    have HQ := Lib.hid hq
    have hk7 := HT3.out.code
    have hlen : (wCode j ++ [((5, 0, 0) : Ins), (26, 0, 0)]).length = q + 1 := by
      rw [List.length_append, wCode_len, ← hq]
      simp only [List.length_cons, List.length_nil]
      omega
    rw [hlen] at hk7
    obtain ⟨gc, cc, rfl, -, -⟩ := ownr_some hk7 (by omega)
    obtain ⟨_, _, e7, hcod⟩ := own_cod hk7 (w_i64 j HK.out)
    simp only [Value.slice.injEq, true_and] at e7
    obtain ⟨rfl, rfl⟩ := e7
    obtain ⟨ga, ca, rfl⟩ := HT3.out.ra.some (n := q + 1) (by rw [← hq]; exact (wA_len (j + 1)).trans (by omega)) (by omega)
    obtain ⟨gb, cb, rfl⟩ := HT3.out.rb.some (n := q + 1) (by rw [← hq]; exact (wB_len (j + 1)).trans (by omega)) (by omega)
    have HCod := Lib.hid hcod
    have HRA : Hid (rowL.R (· < w3.heap.size) w3 [.slice (some ⟨ga, 0, none⟩) (q + 1) ca] (wA (j + 1))) := HT3.out.ra.sl
    have HRB : Hid (rowL.R (· < w3.heap.size) w3 [.slice (some ⟨gb, 0, none⟩) (q + 1) cb] (wB (j + 1))) := HT3.out.rb.sl
    clear hq hk7 hcod
    obtain ⟨n0, n1, n2, n3⟩ := HNm.out w3 HB3.out
    have a0 := fun ob => (HNm.out (w3.alloc ob) (HB3.out.alloc (by omega) ob)).1
    have a1 := fun ob => (HNm.out (w3.alloc ob) (HB3.out.alloc (by omega) ob)).2.1
    go_upto_region 16 with (fail)
    refine wp_world fun W6 hW6 => ?_
    have b1 : Blk W6 w3.heap.size 34 #[.int .u64 1] := by rw [hW6]; repeat (first | (refine blk_at ?_; simp; done) | refine blk_keep ?_)
    have b2 : Blk W6 (w3.heap.size + 1) 37 #[.slice none 0 0, .int .i64 1, .int .i64 0, .slice none 0 0, .slice (some ⟨gc, 0, none⟩) (q + 1) cc] := by rw [hW6]; repeat (first | (refine blk_at ?_; simp; done) | refine blk_keep ?_)
    have b3 : Blk W6 (w3.heap.size + 1 + 1) 43 #[.slice none 0 0, .slice (some ⟨w3.heap.size + 1, 0, none⟩) 1 1, .slice none 0 0, .slice (some ⟨w3.heap.size, 0, none⟩) 1 1, .slice none 0 0] := by rw [hW6]; repeat (first | (refine blk_at ?_; simp; done) | refine blk_keep ?_)
    have hb6 : Below w3.heap.size w3 W6 := by rw [hW6]; exact ((below_new w3 _).alloc (by simp) _).alloc (by simp <;> omega) _
    have i64 : ∀ k : Int, 0 ≤ k → k ≤ 1000 → I64 k := fun k h1 h2 => ⟨by omega, by omega⟩
    have hcod6 : codL.R (· < W6.heap.size) W6 [.slice (some ⟨gc, 0, none⟩) (q + 1) cc] (wFn j).code := codL.wide (codL.keep HCod.out fun b h1 => hb6.block b h1) fun b h1 => Nat.lt_of_lt_of_le h1 hb6.size
    have HL : Hid (∀ v, Below W6.heap.size W6 v → modL.R (· < v.heap.size) v [.slice none 0 0, .slice (some ⟨w3.heap.size + 1, 0, none⟩) 1 1, .slice none 0 0, .slice (some ⟨w3.heap.size, 0, none⟩) 1 1, .slice none 0 0] (wMod j)) := fun v hb => mod_at
      ⟨_, _, _, _, _, rfl, nil_sl _ _ _, one_sl (L := fnL) (x := wFn j) b2 b2.lt ⟨_, _, _, rfl, i64 1 (by decide) (by decide), i64 0 (by decide) (by decide), nil_sl _ _ _, nil_sl _ _ _, hcod6⟩, nil_sl _ _ _, one_sl (L := numL) (x := 1) b1 b1.lt ⟨rfl, by decide⟩, nil_sl _ _ _⟩ hb
    have HM6 := Lib.hid b3
    have hm6 := b3.lt
    have HK6 := Lib.hid hb6
    have HB6 : Hid (Below (w.heap.size + 2) W5 W6) := HB3.out.trans (hb6.mono (by omega))
    have hs6 := HB6.out.size
    clear hW6 b1 b2 b3 hb6 hcod6 n0 n1 n2 n3 a0 a1
    go_upto_region 17 with (first
      | (at_builtin
         refine walk_append_all shpL _ rfl (.tmp 91) (.tmp 92) 33 32 rfl (.agg #[.bool false, .slice none 0 0]) 32 Try.underlying33 shp_info rfl (by decide) (by omega) W6.heap.size (.slice (some ⟨W6.heap.size, 0, none⟩) 0 0) rfl (ownr_empty W6 _ _) ⟨gb, 0, none⟩ (q + 1) cb (wB (j + 1)) rfl (by rw [← HQ.out]; exact (wB_len (j + 1)).trans (by omega)) _ ((sq_of_sl HRB.out).keep fun b h1 => (HK6.out.trans ((below_new W6 _).mono HK6.out.size)).block b h1) (by have := HQ.out; omega) (by simp) ?_
         intro v7 w7 css7 hl7 hown7 hR7 hg7
         have HO7 := Lib.hid hown7
         have HR7 := Lib.hid hR7
         have HL7 := Lib.hid hl7
         have hb7 : Below W6.heap.size W6 w7 := (below_new W6 _).grown hg7 (by simp) (fun i hi => by simp [Value.ownBlock] at hi; omega)
         have HK7 := Lib.hid hb7
         have HB7 : Hid (Below (w.heap.size + 2) W5 w7) := HB6.out.trans (hb7.mono (by omega))
         have hs7 := hb7.size
         clear hl7 hown7 hR7 hg7 hb7))
    obtain ⟨g7, c7, rfl, hg7a, hg7b⟩ := ownr_some HO7.out (by omega)
    have hlenB : (wB (j + 1)).length = q + 1 := by rw [← HQ.out]; exact (wB_len (j + 1)).trans (by omega)
    obtain ⟨cq, hcq⟩ : ∃ cs, css7[q]? = some cs := ⟨css7[q]'(by rw [HL7.out]; omega), List.getElem?_eq_getElem _⟩
    obtain ⟨⟨xb, xs⟩, hxq⟩ : ∃ x, (wB (j + 1))[q]? = some x := ⟨(wB (j + 1))[q]'(by rw [hlenB]; omega), List.getElem?_eq_getElem _⟩
    have hk2 : ∀ cs ∈ css7, cs.length = 2 := fun cs hcs => by
      obtain ⟨i, hi⟩ := List.mem_iff_getElem?.1 hcs
      have hil : i < (wB (j + 1)).length := by rw [hlenB, ← HL7.out]; exact (List.getElem?_eq_some_iff.1 hi).1
      exact shpL.len (HR7.out i _ cs (List.getElem?_eq_getElem hil) hi)
    obtain ⟨vq, rfl, -⟩ := HR7.out q _ cq hxq hcq
    have hown8 := fun ob => ownr_keep (w' := w7.alloc ob) HO7.out fun b hb => by
      have e : b = g7 := by simp [Value.ownBlock] at hb; omega
      rw [e]
      exact Below.heap_alloc w7 ob g7 hg7b
    have f0 := fun ob => ((hown8 ob).cellAt (q * 2 + 0) (by show _ < (q + 1) * 2; omega)).trans (flat_get hk2 hcq 0 (by omega))
    have f1 := fun ob => ((hown8 ob).cellAt (q * 2 + 1) (by show _ < (q + 1) * 2; omega)).trans (flat_get hk2 hcq 1 (by omega))
    have z0 := fun ob => (hown8 ob).frozenAt (q * 2)
    have z1 := fun ob => (hown8 ob).frozenAt (q * 2 + 1)
    have f2 := (HO7.out.cellAt (q * 2 + 0) (by show _ < (q + 1) * 2; omega)).trans (flat_get hk2 hcq 0 (by omega))
    have f3 := (HO7.out.cellAt (q * 2 + 1) (by show _ < (q + 1) * 2; omega)).trans (flat_get hk2 hcq 1 (by omega))
    have z4 := HO7.out.frozenAt (q * 2)
    have z5 := HO7.out.frozenAt (q * 2 + 1)
    simp only [Nat.add_zero, List.getElem?_cons_zero, List.getElem?_cons_succ] at f0 f1 f2 f3
    obtain ⟨n0, n1, n2, n3⟩ := HNm.out w7 HB7.out
    have hq1 : ((q + 1 : Nat) : Int) - 1 = (q : Int) := by omega
    have hq2 : (q : Int) + 1 - 1 = (q : Int) := by omega
    have hq3 : (q : Int) < ((q + 1 : Nat) : Int) := by omega
    have hq4 : (0 : Int) ≤ (q : Int) := by omega
    have hq5 : wrap64 (q : Int) = (q : Int) := by have := HQ.out; rw [← IntWalk.i64_left, IntKind.wrap_i64]; omega
    have HK2 := Lib.hid hk2
    have HCq := Lib.hid hcq
    have HXq := Lib.hid hxq
    have HLB := Lib.hid hlenB
    have hown7 := (HO7.out.stored (q * 2) (.bool true)).1
    have hs7' : (w7.setCell ⟨g7, q * 2, none⟩ (.bool true)).heap.size = w7.heap.size := by simp [World.setCell]
    have z2 := fun ob => (ownr_keep (w' := (w7.setCell ⟨g7, q * 2, none⟩ (.bool true)).alloc ob) hown7 fun b hb => by
      have e : b = g7 := by simp [Value.ownBlock] at hb; omega
      rw [e]
      exact Below.heap_alloc _ ob g7 (by omega)).frozenAt (q * 2 + 1)
    have z3 := hown7.frozenAt (q * 2 + 1)
    clear hk2 hcq hxq hlenB hown8 hown7
    go_upto_region 18 with (fail)
    clear hs7'
    refine wp_world fun W8 hW8 => ?_
    have hs78 : W8.heap.size = w7.heap.size + 1 := by rw [hW8]; simp [World.setCell]
    have hk78 : ∀ b, b < w7.heap.size → b ≠ g7 → W8.heap[b]? = w7.heap[b]? := fun b h1 h2 => by
      rw [hW8]
      exact (Below.heap_alloc _ _ b (by simpa [World.setCell] using h1)).trans ((Below.heap_setCell _ ⟨g7, q * 2 + 1, none⟩ _ b h2).trans (Below.heap_setCell _ ⟨g7, q * 2, none⟩ _ b h2))
    have hos : W8.os = w7.os ∧ W8.tape = w7.tape ∧ W8.output = w7.output := by rw [hW8]; exact ⟨rfl, rfl, rfl⟩
    have HK8 : Hid (Below W6.heap.size W6 W8) := ⟨hos.1.trans HK7.out.os, hos.2.1.trans HK7.out.tape, hos.2.2.trans HK7.out.output, by omega, fun b hb => (hk78 b (by omega) (by omega)).trans (HK7.out.block b hb)⟩
    have hown9 : W8.ownsRow W6.heap.size 32 2 (.slice (some ⟨g7, 0, none⟩) (q + 1) c7) (q + 1) (css7.set q [.bool true, .slice (some ⟨w7.heap.size, 0, none⟩) 1 1]).flatten := by
      rw [hW8]
      refine ownr_keep (w := (w7.setCell ⟨g7, q * 2, none⟩ (.bool true)).setCell ⟨g7, q * 2 + 1, none⟩ (.slice (some ⟨w7.heap.size, 0, none⟩) 1 1)) ?_ fun b hb => Below.heap_alloc _ _ b (by
        have e : b = g7 := by simp [Value.ownBlock] at hb; omega
        rw [e]
        simpa [World.setCell] using hg7b)
      have o9 := ((HO7.out.stored (q * 2) (.bool true)).1.stored (q * 2 + 1) (.slice (some ⟨w7.heap.size, 0, none⟩) 1 1)).1
      have e1 := flat_set HK2.out HCq.out (i := 0) (by omega) (.bool true)
      rw [Nat.add_zero] at e1
      have hk3 : ∀ cs ∈ css7.set q ([Value.bool xb, vq].set 0 (.bool true)), cs.length = 2 := fun cs hcs => by
        rcases List.mem_or_eq_of_mem_set hcs with h | rfl
        · exact HK2.out cs h
        · rfl
      have e2 := flat_set (css := css7.set q ([Value.bool xb, vq].set 0 (.bool true))) hk3 (j := q) (cs := [Value.bool xb, vq].set 0 (.bool true)) (by rw [List.getElem?_set_self (List.getElem?_eq_some_iff.1 HCq.out).1]) (i := 1) (by omega) (.slice (some ⟨w7.heap.size, 0, none⟩) 1 1)
      rw [e1, e2, List.set_set] at o9
      exact o9
    have bst : Blk W8 w7.heap.size 27 #[.int .i64 8, .int .i64 0] := by rw [hW8]; exact blk_at (by simp [World.setCell])
    have HRC : Hid (rowL.R (· < W8.heap.size) W8 [.slice (some ⟨g7, 0, none⟩) (q + 1) c7] (wC j)) := by
      have hlC : (wC j).length = q + 1 := by rw [wC, List.length_set]; exact HLB.out
      refine raw_sl (base := W6.heap.size) (ty := 32) (css := css7.set q [.bool true, .slice (some ⟨w7.heap.size, 0, none⟩) 1 1]) (by rw [List.length_set, HL7.out, hlC]) (by rw [hlC]; exact hown9) (fun i x cs h1 h2 => ?_) (fun b _ hb => hb)
      by_cases e : i = q
      · subst e
        rw [wC, HQ.out, List.getElem?_set_self (by rw [HLB.out]; omega)] at h1
        rw [List.getElem?_set_self (by rw [HL7.out]; omega)] at h2
        injection h1 with h1
        injection h2 with h2
        subst h1 h2
        exact shp_of (one_sl (L := typL) (x := (8, 0)) bst bst.lt w_non)
      · rw [wC, HQ.out, List.getElem?_set_ne (fun h => e h.symm)] at h1
        rw [List.getElem?_set_ne (fun h => e h.symm)] at h2
        have hs36 := HK6.out.size
        exact shpL.wide (shpL.keep (HR7.out i x cs h1 h2) fun b hb => ((HK8.out.block b (by omega)).trans (Below.heap_alloc W6 _ b (by omega)).symm)) fun b hb => by omega
    have LA : Hid (∀ v, Below W6.heap.size W6 v → rowL.R (· < v.heap.size) v [.slice (some ⟨ga, 0, none⟩) (q + 1) ca] (wA (j + 1))) := fun v hb => row_low HRA.out (HK6.out.trans (hb.mono HK6.out.size))
    have LB : Hid (∀ v, Below W6.heap.size W6 v → rowL.R (· < v.heap.size) v [.slice (some ⟨gb, 0, none⟩) (q + 1) cb] (wB (j + 1))) := fun v hb => row_low HRB.out (HK6.out.trans (hb.mono HK6.out.size))
    have LC : Hid (∀ v, Below W8.heap.size W8 v → rowL.R (· < v.heap.size) v [.slice (some ⟨g7, 0, none⟩) (q + 1) c7] (wC j)) := fun v hb => row_low HRC.out hb
    have HMv : Hid (∀ v, Below W6.heap.size W6 v → C5 (w3.heap.size + 1 + 1) (.slice none 0 0) (.slice (some ⟨w3.heap.size + 1, 0, none⟩) 1 1) (.slice none 0 0) (.slice (some ⟨w3.heap.size, 0, none⟩) 1 1) (.slice none 0 0) v) := fun v hb => by
      have f := blk_below HM6.out hb hm6
      exact ⟨f.cell 0, f.cell 1, f.cell 2, f.cell 3, f.cell 4⟩
    clear hW8 hs78 hk78 hos hown9 bst f0 f1 f2 f3 z0 z1 z2 z3 z4 z5 n0 n1 n2 n3 hq1 hq2 hq3 hq4 hq5
    go_wp2_with fail
    refine (AN.out W8).mono ?_
    rintro e w9 ⟨rfl, hb9⟩
    have HW9 := Lib.hid hb9
    have HQ9 : Hid (Below W6.heap.size W6 w9) := HK8.out.trans (hb9.mono HK8.out.size)
    obtain ⟨y0, y1, y2, y3, y4⟩ := HMv.out w9 HQ9.out
    clear hb9
    go_wp2_with fail
    refine calls_world fun V10 hV10 => ?_
    have b10 : Blk V10 w9.heap.size 33 #[.slice (some ⟨ga, 0, none⟩) (q + 1) ca] := by rw [hV10]; exact blk_at rfl
    have hbV10 : Below w9.heap.size w9 V10 := by rw [hV10]; exact below_new w9 _
    have HP10 : Hid (Below W6.heap.size W6 V10) := HQ9.out.trans (hbV10.mono HQ9.out.size)
    refine (rright_tells (b := true) (jright_any _ (wMod j) _ 1 1 [wA (j + 1)] V10 (HL.out _ HP10.out) rfl (sq_of_sl (one_sl (L := rowL) (x := wA (j + 1)) b10 b10.lt (LA.out V10 HP10.out))) (by omega)) ⟨fun _ => ⟨w_main j HK.out, w_right_a HK.out⟩, fun _ => rfl⟩).mono ?_
    rintro e w10 ⟨rfl, hb10⟩
    have HQ10 : Hid (Below W6.heap.size W6 w10) := HP10.out.trans (hb10.mono HP10.out.size)
    have HW10 : Hid (Below W8.heap.size W8 w10) := HW9.out.trans ((hbV10.trans (hb10.mono hbV10.size)).mono HW9.out.size)
    clear hV10 b10 hbV10 hb10 y0 y1 y2 y3 y4
    obtain ⟨y0, y1, y2, y3, y4⟩ := HMv.out w10 HQ10.out
    go_wp2_with fail
    refine calls_world fun V11 hV11 => ?_
    have b11 : Blk V11 w10.heap.size 33 #[.slice (some ⟨gb, 0, none⟩) (q + 1) cb] := by rw [hV11]; exact blk_at rfl
    have hbV11 : Below w10.heap.size w10 V11 := by rw [hV11]; exact below_new w10 _
    have HP11 : Hid (Below W6.heap.size W6 V11) := HQ10.out.trans (hbV11.mono HQ10.out.size)
    refine (rright_tells (b := true) (jright_any _ (wMod j) _ 1 1 [wB (j + 1)] V11 (HL.out _ HP11.out) rfl (sq_of_sl (one_sl (L := rowL) (x := wB (j + 1)) b11 b11.lt (LB.out V11 HP11.out))) (by omega)) ⟨fun _ => ⟨w_main j HK.out, w_right_b HK.out⟩, fun _ => rfl⟩).mono ?_
    rintro e w11 ⟨rfl, hb11⟩
    have HQ11 : Hid (Below W6.heap.size W6 w11) := HP11.out.trans (hb11.mono HP11.out.size)
    have HW11 : Hid (Below W8.heap.size W8 w11) := HW10.out.trans ((hbV11.trans (hb11.mono hbV11.size)).mono HW10.out.size)
    clear hV11 b11 hbV11 hb11 y0 y1 y2 y3 y4
    obtain ⟨y0, y1, y2, y3, y4⟩ := HMv.out w11 HQ11.out
    go_wp2_with fail
    refine calls_world fun V12 hV12 => ?_
    have b12 : Blk V12 w11.heap.size 33 #[.slice (some ⟨g7, 0, none⟩) (q + 1) c7] := by rw [hV12]; exact blk_at rfl
    have hbV12 : Below w11.heap.size w11 V12 := by rw [hV12]; exact below_new w11 _
    have HP12 : Hid (Below W6.heap.size W6 V12) := HQ11.out.trans (hbV12.mono HQ11.out.size)
    refine (rright_tells (b := false) (jright_any _ (wMod j) _ 1 1 [wC j] V12 (HL.out _ HP12.out) rfl (sq_of_sl (one_sl (L := rowL) (x := wC j) b12 b12.lt (LC.out V12 (HW11.out.trans (hbV12.mono HW11.out.size))))) (by omega)) ⟨fun h => (by cases h), fun h => absurd h.2 (w_right_c HK.out)⟩).mono ?_
    rintro e w12 ⟨rfl, hb12⟩
    have HQ12 : Hid (Below W6.heap.size W6 w12) := HP12.out.trans (hb12.mono HP12.out.size)
    clear hV12 b12 hbV12 hb12 y0 y1 y2 y3 y4
    obtain ⟨y0, y1, y2, y3, y4⟩ := HMv.out w12 HQ12.out
    go_wp2_with fail
    go_ret
    exact ⟨rfl, HB5.out.trans ((HB6.out.trans (HQ12.out.mono (by omega))).mono (by omega))⟩

set_option maxRecDepth 100000 in
theorem lifted (os : Os) (started : os.Started) (H : Type) (enc : TypeId × Value → H) :
    ReturnsInHanded {} Try.checked os 4 .any (Rows.judgeWiderSpec.pre6 enc Try.prog Try.f4 Rows.judgeWiderRow.domain false) (Rows.judgeWiderSpec.post enc Try.prog Try.f4 false true false false) := by
  refine returnsInHanded_of_change (C := Try.checked) own started (by kernel_rfl) Try.func4
    (ChangeSpec.witness6 (enc := enc) (C := Try.checked) false ⟨#[], #[.int .u8 0], []⟩ 8 (by kernel_rfl) (by kernel_rfl) (by kernel_rfl) (by kernel_rfl)) ?_
  intro W base args ds gs before hval0 hW hcnd _
  have hval : ∀ (j : Nat) t v, Try.f4.params[j]? = some t → args[j]? = some v → Value.okWide Try.prog W .any base t v := hval0
  have hW' := hW
  obtain ⟨p, q, hA0, hV, rfl, hfz, hnd⟩ := hW
  have hA : DataW.TrodAll enc Try.prog W 0 (fun _ => true) true Try.f4.params.toList args.toList ds p := hA0
  rw [Try.params4] at hA hval
  obtain ⟨v0, vs0, d0, ds0, p0, q0, hargs, rfl, rfl, h0, r0⟩ := trodAll_cons hA
  obtain ⟨rfl, rfl, rfl⟩ := trodAll_nil r0
  obtain rfl : args = #[v0] := by cases args; simp_all
  obtain ⟨rfl, rfl⟩ := trodVars_none hV
  obtain ⟨a0, rfl, rfl, rfl, w0⟩ := open_int Try.underlying5 (hval 0 5 v0 rfl rfl) h0
  clear hA0 hval0
  simp only [List.append_nil] at hW'
  refine (walk a0 W (bounds_u8 w0)).mono fun e W' ⟨he, bel⟩ => ?_
  subst he
  exact ⟨_, rfl, _, _, _, [], _, [], hW', trodAll_mk1 (shut_bool Try.underlying4 _), (trodAll_cons_mk (shut_int Try.underlying5 w0) trodAll_mk0), rfl, bel.frame _, fun h => by cases h⟩

theorem over : Rows.judgeWiderRow.holds Try.pinned (OpenSpec.ofChange Rows.judgeWiderSpec) :=
  OpenClaim.holds_of_wide 4 Try.f4 rfl rfl rfl rfl rfl rfl rfl ⟨rfl, rfl, rfl, rfl, rfl⟩ rfl rfl rfl rfl rfl (by kernel_rfl) Try.func4 (by kernel_rfl)
    (of_decide_eq_true (by kernel_rfl)) (by unfold Func.isWrapper; first | (rw [if_pos (by decide +kernel)]; kernel_rfl) | (rw [if_neg (by decide +kernel)]; exact ⟨rfl, rfl⟩))
    (fun os started H enc _ => lifted os started H enc)

/-- The statement. -/
theorem proved : Rows.JudgeWiderSaid := over
end Go.Proofs.Ytikhhcmfjncabaa.judgeWider
