/-
  What ModuleBounds' function does at the case 1: true. Conditions: as the theorem says.
  What ModuleBounds' function does at the case 2: true. Conditions: as the theorem says.
  What ModuleBounds' function does at the case 3: true. Conditions: as the theorem says.
  What ModuleBounds' function does at the case 4: true. Conditions: as the theorem says.
-/
import Derived.Test.YtngjnkkdhjholaaP02
import Derived.Test.YtngjnkkdhjholaaP16
import Derived.Test.YtngjnkkdhjholaaP20
import Derived.RangeFuncBox
namespace Go.Proofs.Ytngjnkkdhjholaa
open Go.RowKit
set_option linter.unusedSimpArgs false
set_option linter.unusedVariables false

set_option maxRecDepth 100000 in
set_option maxHeartbeats 4000000 in
theorem bounds1 (t n : Int) (w : World) (ht : 0 ≤ t ∧ t ≤ 255) (hn : 0 ≤ n ∧ n ≤ 255) (hc : t % 7 = 1) :
    Calls Try.prog 4 #[.int .u8 t, .int .u8 n] w fun e w' => e = .returned (.bool true) ∧ Below w.heap.size w w' := by
  have AN := Lib.hid (fun w => answers6 w)
  obtain ⟨k, ek, hk⟩ : ∃ k : Nat, n % 70 = (k : Int) ∧ k < 70 := ⟨(n % 70).toNat, by omega, by omega⟩
  go_enter Try.func4, Try.ntmps4
  go_wp2_with fail
  rw [ek]
  refine wp_world fun W0 hW0 => ?_
  have HFB := Lib.hid (four_blk w tA iA #[.slice none 0 0, .int .i64 1, .int .i64 0, .slice none 0 0, .slice (some ⟨w.heap.size + 1, 0, none⟩) 1 1] #[.slice none 0 0, .slice (some ⟨w.heap.size + 2, 0, none⟩) 1 1, .slice none 0 0, .slice none 0 0, .slice none 0 0] 33 35 39 28)
  have B0 : Hid (Blk W0 w.heap.size 33 tA) := by show Blk _ _ _ _; rw [hW0]; exact HFB.out.1
  have B1 : Hid (Blk W0 (w.heap.size + 1) 35 iA) := by show Blk _ _ _ _; rw [hW0]; exact HFB.out.2.1
  have B2 : Hid (Blk W0 (w.heap.size + 2) 39 #[.slice none 0 0, .int .i64 1, .int .i64 0, .slice none 0 0, .slice (some ⟨w.heap.size + 1, 0, none⟩) 1 1]) := by show Blk _ _ _ _; rw [hW0]; exact HFB.out.2.2.1
  have B3 : Hid (Blk W0 (w.heap.size + 3) 28 #[.slice none 0 0, .slice (some ⟨w.heap.size + 2, 0, none⟩) 1 1, .slice none 0 0, .slice none 0 0, .slice none 0 0]) := by show Blk _ _ _ _; rw [hW0]; exact HFB.out.2.2.2
  clear HFB
  have HB0 : Hid (Below w.heap.size w W0) := by show Below _ _ _; rw [hW0]; exact ((((Below.refl _ _).alloc (Nat.le_refl _) _).alloc (by simp) _).alloc (by simp; omega) _).alloc (by simp; omega) _
  have hz0 : w.heap.size + 4 ≤ W0.heap.size := by rw [hW0]; simp
  clear hW0
  go_loopw [8, 9] (fun mo i wr => ∃ j : Nat, j ≤ k ∧ i = .int .i64 (j : Nat) ∧ ∃ q : Int, mo = .int .i64 q ∧ (j = 0 → q = 0) ∧ (0 < j → q = 7) ∧ ∃ v, Bst w.heap.size 39 5 (w.heap.size + 2) (w.heap.size + 3) 28 (fun v => #[.slice none 0 0, v, .slice none 0 0, .slice none 0 0, .slice none 0 0]) w W0 wr (List.replicate (j + 1) [.slice none 0 0, .int .i64 1, .int .i64 0, .slice none 0 0, .slice (some ⟨w.heap.size + 1, 0, none⟩) 1 1] : List (List Value)) v) (fun _ i _ => k - (intOf i).toNat)
  case atStart =>
    refine ⟨0, Nat.zero_le _, rfl, 0, rfl, fun _ => rfl, fun h => absurd h (by omega), .slice (some ⟨w.heap.size + 2, 0, none⟩) 1 1, HB0.out, hz0, ?_, (fun b e => .inl (by simpa [Value.ownBlock] using e.symm)), fun b _ _ _ => rfl, B3.out⟩
    exact raw_one B2.out (by omega) rfl
  case round =>
    obtain ⟨j, hj, rfl, q, rfl, hq0, hq1, v, hst⟩ := hrel
    have HS := Lib.hid hst
    have HBw := Lib.hid hst.1
    have hz := hst.2.1
    have hown := hst.2.2.1
    rw [show (List.replicate (j + 1) [.slice none 0 0, .int .i64 1, .int .i64 0, .slice none 0 0, .slice (some ⟨w.heap.size + 1, 0, none⟩) 1 1] : List (List Value)).length = j + 1 by simp] at hown
    obtain ⟨gv, cap, rfl⟩ := ownsRow_succ hown
    clear hst
    by_cases hlt : j < k
    · have hcell : ∀ i u, ([.slice none 0 0, .int .i64 1, .int .i64 0, .slice none 0 0, .slice (some ⟨w.heap.size + 1, 0, none⟩) 1 1] : List Value)[i]? = some u → wr.cell? ⟨gv, i, none⟩ = some u := fun i u hu => by
        have h := hown.cells rfl i u (by rw [List.replicate_succ, List.flatten_cons, List.getElem?_append_left (by have := (List.getElem?_eq_some_iff.1 hu).1; simpa using this)]; exact hu)
        have e : (⟨gv, 0, none⟩ : Addr).add i = ⟨gv, i, none⟩ := by unfold Addr.add; split <;> simp_all
        rwa [e] at h
      have y0 : wr.cell? ⟨gv, 0, none⟩ = some (.slice none 0 0) := hcell 0 _ rfl
      have y1 : wr.cell? ⟨gv, 1, none⟩ = some (.int .i64 1) := hcell 1 _ rfl
      have y2 : wr.cell? ⟨gv, 2, none⟩ = some (.int .i64 0) := hcell 2 _ rfl
      have y3 : wr.cell? ⟨gv, 3, none⟩ = some (.slice none 0 0) := hcell 3 _ rfl
      have y4 : wr.cell? ⟨gv, 4, none⟩ = some (.slice (some ⟨w.heap.size + 1, 0, none⟩) 1 1) := hcell 4 _ rfl
      have m0 : wr.cell? ⟨w.heap.size + 1 + 1 + 1, 1, none⟩ = some (.slice (some ⟨gv, 0, none⟩) (j + 1) cap) := by simpa using HS.out.2.2.2.2.2.cell 1
      have m0a : ∀ o : Obj, (wr.alloc o).cell? ⟨w.heap.size + 1 + 1 + 1, 1, none⟩ = some (.slice (some ⟨gv, 0, none⟩) (j + 1) cap) := fun o => (((Below.refl _ _).alloc (Nat.le_refl _) _).cell (p := ⟨w.heap.size + 1 + 1 + 1, 1, none⟩) (by simp; omega)).trans m0
      have hpos : (0 : Int) < (j : Int) + 1 := by omega
      have hpos2 : (0 : Int) < ((j + 1 : Nat) : Int) := by omega
      clear hcell hown
      go_wp2_with fail
      go_region_law (first
        | (with_reducible refine step_is (.tmp 39) (.tmp 44) 23 ?_
           refine step_append_raw 5 _ (by rfl) (.tmp 39) (.tmp 44) 23 39 (by rfl) (.agg #[.slice none 0 0, .int .i64 0, .int .i64 0, .slice none 0 0, .slice none 0 0]) 88 Try.underlying23 info_fn rfl (by decide) (by decide) (w.heap.size + 1) (.slice (some ⟨gv, 0, none⟩) (j + 1) cap) (List.replicate (j + 1) [.slice none 0 0, .int .i64 1, .int .i64 0, .slice none 0 0, .slice (some ⟨w.heap.size + 1, 0, none⟩) 1 1] : List (List Value)).length (List.replicate (j + 1) [.slice none 0 0, .int .i64 1, .int .i64 0, .slice none 0 0, .slice (some ⟨w.heap.size + 1, 0, none⟩) 1 1] : List (List Value)).flatten (by rfl)
             (raw_below HS.out.2.2.1 (((Below.refl _ _).alloc (Nat.le_refl _) _).drew) (Nat.le_refl _)) ⟨wr.heap.size, 0, none⟩ 1 (by rfl) [.slice none 0 0, .int .i64 1, .int .i64 0, .slice none 0 0, .slice (some ⟨w.heap.size + 1, 0, none⟩) 1 1] rfl (cell_new wr 39 [.slice none 0 0, .int .i64 1, .int .i64 0, .slice none 0 0, .slice (some ⟨w.heap.size + 1, 0, none⟩) 1 1]) (by simp [Value.oneCell']) (by simp; omega) (by simp; omega) ?_
           intro v2 w2 hown2 hg2 h5
           have HB2 := Lib.hid (HS.out.blk (by omega) (by omega) (((Below.refl _ _).alloc (Nat.le_refl _) _).drew) hg2)
           have HS2 := Lib.hid (HS.out.step (i := 1) (by omega) (by omega) (by omega) (by omega) (((Below.refl _ _).alloc (Nat.le_refl _) _).drew) hown2 hg2 h5 (by simp))
           obtain ⟨Av, nv, cv, rfl⟩ := raw_shape hown2
           have d3 : w2.cell? ⟨w.heap.size + 1 + 1 + 1, 1, none⟩ = some (.slice (some ⟨gv, 0, none⟩) (j + 1) cap) := by simpa using HB2.out.cell 1
           have f3 : w2.frozen? ⟨w.heap.size + 1 + 1 + 1, 1, none⟩ = false := HB2.out.frozen 1
           clear hown2 hg2 h5))
      all_goals
        go_wp2_with fail
        refine ⟨⟨j + 1, by omega, by simp, 7, rfl, fun h => absurd h (by omega), fun _ => rfl, .slice Av nv cv, ?_⟩, by simp [intOf]; omega⟩
        have := HS2.out
        rw [show (List.replicate (j + 1 + 1) [.slice none 0 0, .int .i64 1, .int .i64 0, .slice none 0 0, .slice (some ⟨w.heap.size + 1, 0, none⟩) 1 1] : List (List Value)) = (List.replicate (j + 1) [.slice none 0 0, .int .i64 1, .int .i64 0, .slice none 0 0, .slice (some ⟨w.heap.size + 1, 0, none⟩) 1 1] : List (List Value)) ++ [[.slice none 0 0, .int .i64 1, .int .i64 0, .slice none 0 0, .slice (some ⟨w.heap.size + 1, 0, none⟩) 1 1]] by simp [List.replicate_succ']]
        exact this
    · obtain rfl : j = k := by omega
      have HB1' : Hid (Blk wr (w.heap.size + 1) 35 iA) := ((HS.out.2.2.2.2.1 (w.heap.size + 1) (by omega) (by omega) (by omega)).trans B1.out)
      have HV : Hid ((slL fnL).R (· < wr.heap.size) wr [.slice (some ⟨gv, 0, none⟩) (j + 1) cap] (bm 1 j).funcs) := by
        refine raw_sl (L := fnL) (css := (List.replicate (j + 1) [.slice none 0 0, .int .i64 1, .int .i64 0, .slice none 0 0, .slice (some ⟨w.heap.size + 1, 0, none⟩) 1 1] : List (List Value))) (by simp [bm]) (by have := HS.out.2.2.1; rw [show (List.replicate (j + 1) [.slice none 0 0, .int .i64 1, .int .i64 0, .slice none 0 0, .slice (some ⟨w.heap.size + 1, 0, none⟩) 1 1] : List (List Value)).length = (bm 1 j).funcs.length by simp [bm]] at this; exact this) (fun i x cs h1 h2 => ?_) (fun b _ h => h)
        obtain rfl : cs = [.slice none 0 0, .int .i64 1, .int .i64 0, .slice none 0 0, .slice (some ⟨w.heap.size + 1, 0, none⟩) 1 1] := by simp [List.getElem?_replicate] at h2; first | exact h2.2.symm | exact h2.2
        obtain rfl : x = fn0 := by simp [bm, List.getElem?_replicate] at h1; first | exact h1.2.symm | exact h1.2
        exact ⟨_, _, _, rfl, by unfold I64 fn0; simp, by unfold I64 fn0; simp, nil_sl _ _ _, nil_sl _ _ _, one_sl (x := (26, 0, 0)) HB1'.out (Blk.lt HB1'.out) ⟨rfl, by unfold I64; simp, by unfold I64; simp, by unfold I64; simp⟩⟩
      have HL : Hid (modL.R (· < wr.heap.size) wr [.slice none 0 0, .slice (some ⟨gv, 0, none⟩) (j + 1) cap, .slice none 0 0, .slice none 0 0, .slice none 0 0] (bm 1 j)) := ⟨_, _, _, _, _, rfl, nil_sl _ _ _, HV.out, nil_sl _ _ _, nil_sl _ _ _, nil_sl _ _ _⟩
      have hb3 := HS.out.2.2.2.2.2
      clear HB1'
      have c0 : wr.cell? ⟨w.heap.size + 1 + 1 + 1, 0, none⟩ = some (.slice none 0 0) := by simpa using hb3.cell 0
      have c1 : wr.cell? ⟨w.heap.size + 1 + 1 + 1, 1, none⟩ = some (.slice (some ⟨gv, 0, none⟩) (j + 1) cap) := by simpa using hb3.cell 1
      have c2 : wr.cell? ⟨w.heap.size + 1 + 1 + 1, 2, none⟩ = some (.slice none 0 0) := by simpa using hb3.cell 2
      have c3 : wr.cell? ⟨w.heap.size + 1 + 1 + 1, 3, none⟩ = some (.slice none 0 0) := by simpa using hb3.cell 3
      have c4 : wr.cell? ⟨w.heap.size + 1 + 1 + 1, 4, none⟩ = some (.slice none 0 0) := by simpa using hb3.cell 4
      have hq : decide ((j : Int) ≤ q) = decide (j ≤ bt 1) := by
        rw [decide_eq_decide, show bt 1 = 7 from rfl]
        rcases Nat.eq_zero_or_pos j with h | h
        · rw [hq0 h]; omega
        · rw [hq1 h]; omega
      clear HV hb3 HS B0 B1 B2 B3 HB0 hq0 hq1
      go_wp2_with fail
      refine (encode_any _ (bm 1 j) wr HL.out).mono ?_
      rintro e w1 ⟨hb1, ⟨h1, rfl⟩ | ⟨h1, u, rfl, hown⟩⟩
      · have HB1 := Lib.hid (HBw.out.trans (hb1.mono HBw.out.size))
        have hq1 : decide ((j : Int) ≤ q) = false := by rw [← h1, bm_fit, ← hq]
        clear hb1 hq h1
        go_wp2_with fail
        refine (AN.out w1).mono ?_
        rintro e w2 ⟨rfl, hb2⟩
        go_wp2_with fail
        go_ret
        exact ⟨rfl, HB1.out.trans (hb2.mono HB1.out.size)⟩
      · obtain ⟨A5, c5, rfl, -, -, -, -⟩ := own_slice hown
        have HB1 := Lib.hid (HBw.out.trans (hb1.mono HBw.out.size))
        have hq1 : decide ((j : Int) ≤ q) = true := by rw [← h1, bm_fit, ← hq]
        have hp := modB_pos (bm 1 j)
        generalize (modB (bm 1 j)).length = len at *
        have hp1 : decide ((len : Int) > 0) = true := by simp; omega
        clear hb1 hown hq h1
        go_wp2_with fail
        refine (AN.out w1).mono ?_
        rintro e w2 ⟨rfl, hb2⟩
        go_wp2_with fail
        go_ret
        exact ⟨rfl, HB1.out.trans (hb2.mono HB1.out.size)⟩
end Go.Proofs.Ytngjnkkdhjholaa
namespace Go.Proofs.Ytngjnkkdhjholaa
open Go.RowKit
set_option linter.unusedSimpArgs false
set_option linter.unusedVariables false

set_option maxRecDepth 100000 in
set_option maxHeartbeats 4000000 in
theorem bounds2 (t n : Int) (w : World) (ht : 0 ≤ t ∧ t ≤ 255) (hn : 0 ≤ n ∧ n ≤ 255) (hc : t % 7 = 2) :
    Calls Try.prog 4 #[.int .u8 t, .int .u8 n] w fun e w' => e = .returned (.bool true) ∧ Below w.heap.size w w' := by
  have AN := Lib.hid (fun w => answers6 w)
  obtain ⟨k, ek, hk⟩ : ∃ k : Nat, n % 70 = (k : Int) ∧ k < 70 := ⟨(n % 70).toNat, by omega, by omega⟩
  go_enter Try.func4, Try.ntmps4
  go_wp2_with fail
  rw [ek]
  refine wp_world fun W0 hW0 => ?_
  have HFB := Lib.hid (four_blk w tA iA #[.slice none 0 0, .int .i64 1, .int .i64 0, .slice none 0 0, .slice (some ⟨w.heap.size + 1, 0, none⟩) 1 1] #[.slice none 0 0, .slice (some ⟨w.heap.size + 2, 0, none⟩) 1 1, .slice none 0 0, .slice none 0 0, .slice none 0 0] 33 35 39 28)
  have B0 : Hid (Blk W0 w.heap.size 33 tA) := by show Blk _ _ _ _; rw [hW0]; exact HFB.out.1
  have B1 : Hid (Blk W0 (w.heap.size + 1) 35 iA) := by show Blk _ _ _ _; rw [hW0]; exact HFB.out.2.1
  have B2 : Hid (Blk W0 (w.heap.size + 2) 39 #[.slice none 0 0, .int .i64 1, .int .i64 0, .slice none 0 0, .slice (some ⟨w.heap.size + 1, 0, none⟩) 1 1]) := by show Blk _ _ _ _; rw [hW0]; exact HFB.out.2.2.1
  have B3 : Hid (Blk W0 (w.heap.size + 3) 28 #[.slice none 0 0, .slice (some ⟨w.heap.size + 2, 0, none⟩) 1 1, .slice none 0 0, .slice none 0 0, .slice none 0 0]) := by show Blk _ _ _ _; rw [hW0]; exact HFB.out.2.2.2
  clear HFB
  have HB0 : Hid (Below w.heap.size w W0) := by show Below _ _ _; rw [hW0]; exact ((((Below.refl _ _).alloc (Nat.le_refl _) _).alloc (by simp) _).alloc (by simp; omega) _).alloc (by simp; omega) _
  have hz0 : w.heap.size + 4 ≤ W0.heap.size := by rw [hW0]; simp
  clear hW0
  go_loopw [8, 9] (fun mo i wr => ∃ j : Nat, j ≤ k ∧ i = .int .i64 (j : Nat) ∧ ∃ q : Int, mo = .int .i64 q ∧ (j = 0 → q = 0) ∧ (0 < j → q = 8) ∧ ∃ v, Bst w.heap.size 41 3 (w.heap.size + 4) (w.heap.size + 3) 28 (fun v => #[.slice none 0 0, .slice (some ⟨w.heap.size + 2, 0, none⟩) 1 1, v, .slice none 0 0, .slice none 0 0]) w W0 wr ((List.replicate j [.slice none 0 0, .int .i64 1, .int .i64 0] : List (List Value))) v) (fun _ i _ => k - (intOf i).toNat)
  case atStart =>
    refine ⟨0, Nat.zero_le _, rfl, 0, rfl, fun _ => rfl, fun h => absurd h (by omega), .slice none 0 0, HB0.out, hz0, ?_, (fun b e => by cases e), fun b _ _ _ => rfl, B3.out⟩
    exact World.ownsRow_nil _ _ _ _
  case round =>
    obtain ⟨j, hj, rfl, q, rfl, hq0, hq1, v, hst⟩ := hrel
    have HS := Lib.hid hst
    have HBw := Lib.hid hst.1
    have hz := hst.2.1
    clear hst
    by_cases hlt : j < k
    · have c3 : wr.cell? ⟨w.heap.size + 1 + 1 + 1, 2, none⟩ = some v := by simpa using HS.out.2.2.2.2.2.cell 2
      have hlen : ((List.replicate j [.slice none 0 0, .int .i64 1, .int .i64 0] : List (List Value))).length = j := by simp
      have p0 := (HS.out.2.2.2.2.1 w.heap.size (by omega) (by omega) (by omega)).trans B0.out
      have p1 := Blk.cell p0 0
      have p2 := Blk.cell p0 1
      simp [tA] at p1 p2
      clear p0
      go_wp2_with (first
        | (at_builtin
           refine walk_append_raw 3 _ rfl (.tmp 50) (.tmp 53) 24 41 rfl (.agg #[.slice none 0 0, .int .i64 0, .int .i64 0]) 40 Try.underlying24 info_imp rfl (by decide) (by decide) (w.heap.size + 1) v ((List.replicate j [.slice none 0 0, .int .i64 1, .int .i64 0] : List (List Value))).length ((List.replicate j [.slice none 0 0, .int .i64 1, .int .i64 0] : List (List Value))).flatten rfl
             (raw_below HS.out.2.2.1 ((Below.refl _ _).alloc (Nat.le_refl _) _) (Nat.le_refl _)) ⟨wr.heap.size, 0, none⟩ 1 rfl [.slice none 0 0, .int .i64 1, .int .i64 0] rfl (cell_new wr 41 [.slice none 0 0, .int .i64 1, .int .i64 0]) (by simp [Value.oneCell']) (by rw [hlen]; omega) (by simp; omega) ?_
           intro v2 w2 hown2 hg2 h5
           have HB2 := Lib.hid (HS.out.blk (by omega) (by omega) ((Below.refl _ _).alloc (Nat.le_refl _) _) hg2)
           have HS2 := Lib.hid (HS.out.step (i := 2) (by omega) (by omega) (by omega) (by omega) ((Below.refl _ _).alloc (Nat.le_refl _) _) hown2 hg2 h5 (by simp))
           obtain ⟨Av, nv, cv, rfl⟩ := raw_shape hown2
           have d3 : w2.cell? ⟨w.heap.size + 1 + 1 + 1, 2, none⟩ = some v := by simpa using HB2.out.cell 2
           have f3 : w2.frozen? ⟨w.heap.size + 1 + 1 + 1, 2, none⟩ = false := HB2.out.frozen 2
           clear hown2 hg2 h5))
      refine ⟨⟨j + 1, by omega, by simp, 8, rfl, fun h => absurd h (by omega), fun _ => rfl, .slice Av nv cv, ?_⟩, by simp [intOf]; omega⟩
      have := HS2.out
      simpa [List.replicate_succ'] using this
    · obtain rfl : j = k := by omega
      have HV : Hid ((slL impL).R (· < wr.heap.size) wr [v] (bm 2 j).imps) := by
        refine raw_sl (L := impL) (css := (List.replicate j [.slice none 0 0, .int .i64 1, .int .i64 0] : List (List Value))) (by simp [bm]) (by have := HS.out.2.2.1; rw [show ((List.replicate j [.slice none 0 0, .int .i64 1, .int .i64 0] : List (List Value))).length = (bm 2 j).imps.length by simp [bm]] at this; exact this) (fun i x cs h1 h2 => ?_) (fun b _ h => h)
        obtain rfl : cs = [.slice none 0 0, .int .i64 1, .int .i64 0] := by simp [List.getElem?_replicate] at h2; first | exact h2.2.symm | exact h2.2
        obtain rfl : x = ⟨[], (1, 0)⟩ := by simp [bm, List.getElem?_replicate] at h1; first | exact h1.2.symm | exact h1.2
        exact ⟨_, rfl, by unfold I64; simp, by unfold I64; simp, nil_sl _ _ _⟩
      have HF : Hid ((slL fnL).R (· < wr.heap.size) wr [.slice (some ⟨w.heap.size + 2, 0, none⟩) 1 1] [fn0]) :=
        fn_laid ((HS.out.2.2.2.2.1 (w.heap.size + 2) (by omega) (by omega) (by omega)).trans B2.out) ((HS.out.2.2.2.2.1 (w.heap.size + 1) (by omega) (by omega) (by omega)).trans B1.out)
      have HL : Hid (modL.R (· < wr.heap.size) wr [.slice none 0 0, .slice (some ⟨w.heap.size + 2, 0, none⟩) 1 1, v, .slice none 0 0, .slice none 0 0] (bm 2 j)) := ⟨_, _, _, _, _, rfl, nil_sl _ _ _, HF.out, HV.out, nil_sl _ _ _, nil_sl _ _ _⟩
      have hb3 := HS.out.2.2.2.2.2
      obtain ⟨Av, nv, cv, rfl⟩ := raw_shape HS.out.2.2.1
      have c0 : wr.cell? ⟨w.heap.size + 1 + 1 + 1, 0, none⟩ = some (.slice none 0 0) := by simpa using hb3.cell 0
      have c1 : wr.cell? ⟨w.heap.size + 1 + 1 + 1, 1, none⟩ = some (.slice (some ⟨w.heap.size + 2, 0, none⟩) 1 1) := by simpa using hb3.cell 1
      have c2 : wr.cell? ⟨w.heap.size + 1 + 1 + 1, 2, none⟩ = some (.slice Av nv cv) := by simpa using hb3.cell 2
      have c3 : wr.cell? ⟨w.heap.size + 1 + 1 + 1, 3, none⟩ = some (.slice none 0 0) := by simpa using hb3.cell 3
      have c4 : wr.cell? ⟨w.heap.size + 1 + 1 + 1, 4, none⟩ = some (.slice none 0 0) := by simpa using hb3.cell 4
      have hq : decide ((j : Int) ≤ q) = decide (j ≤ bt 2) := by
        rw [decide_eq_decide, show bt 2 = 8 from rfl]
        rcases Nat.eq_zero_or_pos j with h | h
        · rw [hq0 h]; omega
        · rw [hq1 h]; omega
      clear HV HF hb3 HS B0 B1 B2 B3 HB0 hq0 hq1
      go_wp2_with fail
      refine (encode_any _ (bm 2 j) wr HL.out).mono ?_
      rintro e w1 ⟨hb1, ⟨h1, rfl⟩ | ⟨h1, u, rfl, hown⟩⟩
      · have HB1 := Lib.hid (HBw.out.trans (hb1.mono HBw.out.size))
        have hq1 : decide ((j : Int) ≤ q) = false := by rw [← h1, bm_fit, ← hq]
        clear hb1 hq h1
        go_wp2_with fail
        refine (AN.out w1).mono ?_
        rintro e w2 ⟨rfl, hb2⟩
        go_wp2_with fail
        go_ret
        exact ⟨rfl, HB1.out.trans (hb2.mono HB1.out.size)⟩
      · obtain ⟨A5, c5, rfl, -, -, -, -⟩ := own_slice hown
        have HB1 := Lib.hid (HBw.out.trans (hb1.mono HBw.out.size))
        have hq1 : decide ((j : Int) ≤ q) = true := by rw [← h1, bm_fit, ← hq]
        have hp := modB_pos (bm 2 j)
        generalize (modB (bm 2 j)).length = len at *
        have hp1 : decide ((len : Int) > 0) = true := by simp; omega
        clear hb1 hown hq h1
        go_wp2_with fail
        refine (AN.out w1).mono ?_
        rintro e w2 ⟨rfl, hb2⟩
        go_wp2_with fail
        go_ret
        exact ⟨rfl, HB1.out.trans (hb2.mono HB1.out.size)⟩
end Go.Proofs.Ytngjnkkdhjholaa
namespace Go.Proofs.Ytngjnkkdhjholaa
open Go.RowKit
set_option linter.unusedSimpArgs false
set_option linter.unusedVariables false

set_option maxRecDepth 100000 in
set_option maxHeartbeats 4000000 in
theorem bounds3 (t n : Int) (w : World) (ht : 0 ≤ t ∧ t ≤ 255) (hn : 0 ≤ n ∧ n ≤ 255) (hc : t % 7 = 3) :
    Calls Try.prog 4 #[.int .u8 t, .int .u8 n] w fun e w' => e = .returned (.bool true) ∧ Below w.heap.size w w' := by
  have AN := Lib.hid (fun w => answers6 w)
  obtain ⟨k, ek, hk⟩ : ∃ k : Nat, n % 70 = (k : Int) ∧ k < 70 := ⟨(n % 70).toNat, by omega, by omega⟩
  go_enter Try.func4, Try.ntmps4
  go_wp2_with fail
  rw [ek]
  refine wp_world fun W0 hW0 => ?_
  have HFB := Lib.hid (four_blk w tA iA #[.slice none 0 0, .int .i64 1, .int .i64 0, .slice none 0 0, .slice (some ⟨w.heap.size + 1, 0, none⟩) 1 1] #[.slice none 0 0, .slice (some ⟨w.heap.size + 2, 0, none⟩) 1 1, .slice none 0 0, .slice none 0 0, .slice none 0 0] 33 35 39 28)
  have B0 : Hid (Blk W0 w.heap.size 33 tA) := by show Blk _ _ _ _; rw [hW0]; exact HFB.out.1
  have B1 : Hid (Blk W0 (w.heap.size + 1) 35 iA) := by show Blk _ _ _ _; rw [hW0]; exact HFB.out.2.1
  have B2 : Hid (Blk W0 (w.heap.size + 2) 39 #[.slice none 0 0, .int .i64 1, .int .i64 0, .slice none 0 0, .slice (some ⟨w.heap.size + 1, 0, none⟩) 1 1]) := by show Blk _ _ _ _; rw [hW0]; exact HFB.out.2.2.1
  have B3 : Hid (Blk W0 (w.heap.size + 3) 28 #[.slice none 0 0, .slice (some ⟨w.heap.size + 2, 0, none⟩) 1 1, .slice none 0 0, .slice none 0 0, .slice none 0 0]) := by show Blk _ _ _ _; rw [hW0]; exact HFB.out.2.2.2
  clear HFB
  have HB0 : Hid (Below w.heap.size w W0) := by show Below _ _ _; rw [hW0]; exact ((((Below.refl _ _).alloc (Nat.le_refl _) _).alloc (by simp) _).alloc (by simp; omega) _).alloc (by simp; omega) _
  have hz0 : w.heap.size + 4 ≤ W0.heap.size := by rw [hW0]; simp
  clear hW0
  go_loopw [8, 9] (fun mo i wr => ∃ j : Nat, j ≤ k ∧ i = .int .i64 (j : Nat) ∧ ∃ q : Int, mo = .int .i64 q ∧ (j = 0 → q = 0) ∧ (0 < j → q = 16) ∧ ∃ v, Bst w.heap.size 42 1 (w.heap.size + 4) (w.heap.size + 3) 28 (fun v => #[.slice none 0 0, .slice (some ⟨w.heap.size + 2, 0, none⟩) 1 1, .slice none 0 0, v, .slice none 0 0]) w W0 wr (((List.range j).map fun n => [.int .u64 (n : Nat)] : List (List Value))) v) (fun _ i _ => k - (intOf i).toNat)
  case atStart =>
    refine ⟨0, Nat.zero_le _, rfl, 0, rfl, fun _ => rfl, fun h => absurd h (by omega), .slice none 0 0, HB0.out, hz0, ?_, (fun b e => by cases e), fun b _ _ _ => rfl, B3.out⟩
    exact World.ownsRow_nil _ _ _ _
  case round =>
    obtain ⟨j, hj, rfl, q, rfl, hq0, hq1, v, hst⟩ := hrel
    have HS := Lib.hid hst
    have HBw := Lib.hid hst.1
    have hz := hst.2.1
    clear hst
    by_cases hlt : j < k
    · have c3 : wr.cell? ⟨w.heap.size + 1 + 1 + 1, 3, none⟩ = some v := by simpa using HS.out.2.2.2.2.2.cell 3
      have hlen : (((List.range j).map fun n => [.int .u64 (n : Nat)] : List (List Value))).length = j := by simp
      have hw64 : IntKind.u64.wrap (j : Int) = (j : Int) := by rw [IntKind.wrap_u64]; omega
      go_wp2_with (first
        | (at_builtin
           refine walk_append_raw 1 _ rfl (.tmp 59) (.tmp 62) 25 42 rfl (.int .u64 0) 8 Try.underlying25 info_num rfl (by decide) (by decide) (w.heap.size + 1) v (((List.range j).map fun n => [.int .u64 (n : Nat)] : List (List Value))).length (((List.range j).map fun n => [.int .u64 (n : Nat)] : List (List Value))).flatten rfl
             (raw_below HS.out.2.2.1 ((Below.refl _ _).alloc (Nat.le_refl _) _) (Nat.le_refl _)) ⟨wr.heap.size, 0, none⟩ 1 rfl [.int .u64 (j : Nat)] rfl (cell_new wr 42 [.int .u64 (j : Nat)]) (by simp [Value.oneCell']) (by rw [hlen]; omega) (by simp; omega) ?_
           intro v2 w2 hown2 hg2 h5
           have HB2 := Lib.hid (HS.out.blk (by omega) (by omega) ((Below.refl _ _).alloc (Nat.le_refl _) _) hg2)
           have HS2 := Lib.hid (HS.out.step (i := 3) (by omega) (by omega) (by omega) (by omega) ((Below.refl _ _).alloc (Nat.le_refl _) _) hown2 hg2 h5 (by simp))
           obtain ⟨Av, nv, cv, rfl⟩ := raw_shape hown2
           have d3 : w2.cell? ⟨w.heap.size + 1 + 1 + 1, 3, none⟩ = some v := by simpa using HB2.out.cell 3
           have f3 : w2.frozen? ⟨w.heap.size + 1 + 1 + 1, 3, none⟩ = false := HB2.out.frozen 3
           clear hown2 hg2 h5))
      refine ⟨⟨j + 1, by omega, by simp, 16, rfl, fun h => absurd h (by omega), fun _ => rfl, .slice Av nv cv, ?_⟩, by simp [intOf]; omega⟩
      have := HS2.out
      simpa [List.range_succ] using this
    · obtain rfl : j = k := by omega
      have HV : Hid ((slL numL).R (· < wr.heap.size) wr [v] (bm 3 j).ints) := by
        refine raw_sl (L := numL) (css := ((List.range j).map fun n => [.int .u64 (n : Nat)] : List (List Value))) (by simp [bm]) (by have := HS.out.2.2.1; rw [show (((List.range j).map fun n => [.int .u64 (n : Nat)] : List (List Value))).length = (bm 3 j).ints.length by simp [bm]] at this; exact this) (fun i x cs h1 h2 => ?_) (fun b _ h => h)
        obtain ⟨a, ha, rfl⟩ : ∃ a, (List.range j)[i]? = some a ∧ [.int .u64 (a : Nat)] = cs := by simpa using h2
        have h3 : (List.range j)[i]? = some x := h1
        rw [ha] at h3
        injection h3 with h3
        subst h3
        have h4 : a < j := by have := List.mem_of_getElem? ha; simpa using this
        exact ⟨rfl, by unfold B64; omega⟩
      have HF : Hid ((slL fnL).R (· < wr.heap.size) wr [.slice (some ⟨w.heap.size + 2, 0, none⟩) 1 1] [fn0]) :=
        fn_laid ((HS.out.2.2.2.2.1 (w.heap.size + 2) (by omega) (by omega) (by omega)).trans B2.out) ((HS.out.2.2.2.2.1 (w.heap.size + 1) (by omega) (by omega) (by omega)).trans B1.out)
      have HL : Hid (modL.R (· < wr.heap.size) wr [.slice none 0 0, .slice (some ⟨w.heap.size + 2, 0, none⟩) 1 1, .slice none 0 0, v, .slice none 0 0] (bm 3 j)) := ⟨_, _, _, _, _, rfl, nil_sl _ _ _, HF.out, nil_sl _ _ _, HV.out, nil_sl _ _ _⟩
      have hb3 := HS.out.2.2.2.2.2
      obtain ⟨Av, nv, cv, rfl⟩ := raw_shape HS.out.2.2.1
      have c0 : wr.cell? ⟨w.heap.size + 1 + 1 + 1, 0, none⟩ = some (.slice none 0 0) := by simpa using hb3.cell 0
      have c1 : wr.cell? ⟨w.heap.size + 1 + 1 + 1, 1, none⟩ = some (.slice (some ⟨w.heap.size + 2, 0, none⟩) 1 1) := by simpa using hb3.cell 1
      have c2 : wr.cell? ⟨w.heap.size + 1 + 1 + 1, 2, none⟩ = some (.slice none 0 0) := by simpa using hb3.cell 2
      have c3 : wr.cell? ⟨w.heap.size + 1 + 1 + 1, 3, none⟩ = some (.slice Av nv cv) := by simpa using hb3.cell 3
      have c4 : wr.cell? ⟨w.heap.size + 1 + 1 + 1, 4, none⟩ = some (.slice none 0 0) := by simpa using hb3.cell 4
      have hq : decide ((j : Int) ≤ q) = decide (j ≤ bt 3) := by
        rw [decide_eq_decide, show bt 3 = 16 from rfl]
        rcases Nat.eq_zero_or_pos j with h | h
        · rw [hq0 h]; omega
        · rw [hq1 h]; omega
      clear HV HF hb3 HS B0 B1 B2 B3 HB0 hq0 hq1
      go_wp2_with fail
      refine (encode_any _ (bm 3 j) wr HL.out).mono ?_
      rintro e w1 ⟨hb1, ⟨h1, rfl⟩ | ⟨h1, u, rfl, hown⟩⟩
      · have HB1 := Lib.hid (HBw.out.trans (hb1.mono HBw.out.size))
        have hq1 : decide ((j : Int) ≤ q) = false := by rw [← h1, bm_fit, ← hq]
        clear hb1 hq h1
        go_wp2_with fail
        refine (AN.out w1).mono ?_
        rintro e w2 ⟨rfl, hb2⟩
        go_wp2_with fail
        go_ret
        exact ⟨rfl, HB1.out.trans (hb2.mono HB1.out.size)⟩
      · obtain ⟨A5, c5, rfl, -, -, -, -⟩ := own_slice hown
        have HB1 := Lib.hid (HBw.out.trans (hb1.mono HBw.out.size))
        have hq1 : decide ((j : Int) ≤ q) = true := by rw [← h1, bm_fit, ← hq]
        have hp := modB_pos (bm 3 j)
        generalize (modB (bm 3 j)).length = len at *
        have hp1 : decide ((len : Int) > 0) = true := by simp; omega
        clear hb1 hown hq h1
        go_wp2_with fail
        refine (AN.out w1).mono ?_
        rintro e w2 ⟨rfl, hb2⟩
        go_wp2_with fail
        go_ret
        exact ⟨rfl, HB1.out.trans (hb2.mono HB1.out.size)⟩
end Go.Proofs.Ytngjnkkdhjholaa
namespace Go.Proofs.Ytngjnkkdhjholaa
open Go.RowKit
set_option linter.unusedSimpArgs false
set_option linter.unusedVariables false

set_option maxRecDepth 100000 in
set_option maxHeartbeats 4000000 in
theorem bounds4 (t n : Int) (w : World) (ht : 0 ≤ t ∧ t ≤ 255) (hn : 0 ≤ n ∧ n ≤ 255) (hc : t % 7 = 4) :
    Calls Try.prog 4 #[.int .u8 t, .int .u8 n] w fun e w' => e = .returned (.bool true) ∧ Below w.heap.size w w' := by
  have AN := Lib.hid (fun w => answers6 w)
  obtain ⟨k, ek, hk⟩ : ∃ k : Nat, n % 70 = (k : Int) ∧ k < 70 := ⟨(n % 70).toNat, by omega, by omega⟩
  go_enter Try.func4, Try.ntmps4
  go_wp2_with fail
  rw [ek]
  refine wp_world fun W0 hW0 => ?_
  have HFB := Lib.hid (four_blk w tA iA #[.slice none 0 0, .int .i64 1, .int .i64 0, .slice none 0 0, .slice (some ⟨w.heap.size + 1, 0, none⟩) 1 1] #[.slice none 0 0, .slice (some ⟨w.heap.size + 2, 0, none⟩) 1 1, .slice none 0 0, .slice none 0 0, .slice none 0 0] 33 35 39 28)
  have B0 : Hid (Blk W0 w.heap.size 33 tA) := by show Blk _ _ _ _; rw [hW0]; exact HFB.out.1
  have B1 : Hid (Blk W0 (w.heap.size + 1) 35 iA) := by show Blk _ _ _ _; rw [hW0]; exact HFB.out.2.1
  have B2 : Hid (Blk W0 (w.heap.size + 2) 39 #[.slice none 0 0, .int .i64 1, .int .i64 0, .slice none 0 0, .slice (some ⟨w.heap.size + 1, 0, none⟩) 1 1]) := by show Blk _ _ _ _; rw [hW0]; exact HFB.out.2.2.1
  have B3 : Hid (Blk W0 (w.heap.size + 3) 28 #[.slice none 0 0, .slice (some ⟨w.heap.size + 2, 0, none⟩) 1 1, .slice none 0 0, .slice none 0 0, .slice none 0 0]) := by show Blk _ _ _ _; rw [hW0]; exact HFB.out.2.2.2
  clear HFB
  have HB0 : Hid (Below w.heap.size w W0) := by show Below _ _ _; rw [hW0]; exact ((((Below.refl _ _).alloc (Nat.le_refl _) _).alloc (by simp) _).alloc (by simp; omega) _).alloc (by simp; omega) _
  have hz0 : w.heap.size + 4 ≤ W0.heap.size := by rw [hW0]; simp
  clear hW0
  go_loopw [8, 9] (fun mo i wr => ∃ j : Nat, j ≤ k ∧ i = .int .i64 (j : Nat) ∧ ∃ q : Int, mo = .int .i64 q ∧ (j = 0 → q = 0) ∧ (0 < j → q = 16) ∧ ∃ v, Bst w.heap.size 9 1 (w.heap.size + 4) (w.heap.size + 3) 28 (fun v => #[.slice none 0 0, .slice (some ⟨w.heap.size + 2, 0, none⟩) 1 1, .slice none 0 0, .slice none 0 0, v]) w W0 wr ((List.replicate j [.string ⟨#[97]⟩] : List (List Value))) v) (fun _ i _ => k - (intOf i).toNat)
  case atStart =>
    refine ⟨0, Nat.zero_le _, rfl, 0, rfl, fun _ => rfl, fun h => absurd h (by omega), .slice none 0 0, HB0.out, hz0, ?_, (fun b e => by cases e), fun b _ _ _ => rfl, B3.out⟩
    exact World.ownsRow_nil _ _ _ _
  case round =>
    obtain ⟨j, hj, rfl, q, rfl, hq0, hq1, v, hst⟩ := hrel
    have HS := Lib.hid hst
    have HBw := Lib.hid hst.1
    have hz := hst.2.1
    clear hst
    by_cases hlt : j < k
    · have c3 : wr.cell? ⟨w.heap.size + 1 + 1 + 1, 4, none⟩ = some v := by simpa using HS.out.2.2.2.2.2.cell 4
      have hlen : ((List.replicate j [.string ⟨#[97]⟩] : List (List Value))).length = j := by simp
      go_wp2_with (first
        | (at_builtin
           refine walk_append_raw 1 _ rfl (.tmp 68) (.tmp 69) 26 9 rfl (.string ⟨#[]⟩) 16 Try.underlying26 info_str rfl (by decide) (by decide) (w.heap.size + 1) v ((List.replicate j [.string ⟨#[97]⟩] : List (List Value))).length ((List.replicate j [.string ⟨#[97]⟩] : List (List Value))).flatten rfl
             (raw_below HS.out.2.2.1 ((Below.refl _ _).alloc (Nat.le_refl _) _) (Nat.le_refl _)) ⟨wr.heap.size, 0, none⟩ 1 rfl [.string ⟨#[97]⟩] rfl (cell_new wr 9 [.string ⟨#[97]⟩]) (by simp [Value.oneCell']) (by rw [hlen]; omega) (by simp; omega) ?_
           intro v2 w2 hown2 hg2 h5
           have HB2 := Lib.hid (HS.out.blk (by omega) (by omega) ((Below.refl _ _).alloc (Nat.le_refl _) _) hg2)
           have HS2 := Lib.hid (HS.out.step (i := 4) (by omega) (by omega) (by omega) (by omega) ((Below.refl _ _).alloc (Nat.le_refl _) _) hown2 hg2 h5 (by simp))
           obtain ⟨Av, nv, cv, rfl⟩ := raw_shape hown2
           have d3 : w2.cell? ⟨w.heap.size + 1 + 1 + 1, 4, none⟩ = some v := by simpa using HB2.out.cell 4
           have f3 : w2.frozen? ⟨w.heap.size + 1 + 1 + 1, 4, none⟩ = false := HB2.out.frozen 4
           clear hown2 hg2 h5))
      refine ⟨⟨j + 1, by omega, by simp, 16, rfl, fun h => absurd h (by omega), fun _ => rfl, .slice Av nv cv, ?_⟩, by simp [intOf]; omega⟩
      have := HS2.out
      simpa [List.replicate_succ'] using this
    · obtain rfl : j = k := by omega
      have HV : Hid ((slL strL).R (· < wr.heap.size) wr [v] (bm 4 j).texts) := by
        refine raw_sl (L := strL) (css := (List.replicate j [.string ⟨#[97]⟩] : List (List Value))) (by simp [bm]) (by have := HS.out.2.2.1; rw [show ((List.replicate j [.string ⟨#[97]⟩] : List (List Value))).length = (bm 4 j).texts.length by simp [bm]] at this; exact this) (fun i x cs h1 h2 => ?_) (fun b _ h => h)
        obtain rfl : cs = [.string ⟨#[97]⟩] := by simp [List.getElem?_replicate] at h2; first | exact h2.2.symm | exact h2.2
        obtain rfl : x = [97] := by simp [bm, List.getElem?_replicate] at h1; first | exact h1.2.symm | exact h1.2
        exact ⟨_, rfl, rfl⟩
      have HF : Hid ((slL fnL).R (· < wr.heap.size) wr [.slice (some ⟨w.heap.size + 2, 0, none⟩) 1 1] [fn0]) :=
        fn_laid ((HS.out.2.2.2.2.1 (w.heap.size + 2) (by omega) (by omega) (by omega)).trans B2.out) ((HS.out.2.2.2.2.1 (w.heap.size + 1) (by omega) (by omega) (by omega)).trans B1.out)
      have HL : Hid (modL.R (· < wr.heap.size) wr [.slice none 0 0, .slice (some ⟨w.heap.size + 2, 0, none⟩) 1 1, .slice none 0 0, .slice none 0 0, v] (bm 4 j)) := ⟨_, _, _, _, _, rfl, nil_sl _ _ _, HF.out, nil_sl _ _ _, nil_sl _ _ _, HV.out⟩
      have hb3 := HS.out.2.2.2.2.2
      obtain ⟨Av, nv, cv, rfl⟩ := raw_shape HS.out.2.2.1
      have c0 : wr.cell? ⟨w.heap.size + 1 + 1 + 1, 0, none⟩ = some (.slice none 0 0) := by simpa using hb3.cell 0
      have c1 : wr.cell? ⟨w.heap.size + 1 + 1 + 1, 1, none⟩ = some (.slice (some ⟨w.heap.size + 2, 0, none⟩) 1 1) := by simpa using hb3.cell 1
      have c2 : wr.cell? ⟨w.heap.size + 1 + 1 + 1, 2, none⟩ = some (.slice none 0 0) := by simpa using hb3.cell 2
      have c3 : wr.cell? ⟨w.heap.size + 1 + 1 + 1, 3, none⟩ = some (.slice none 0 0) := by simpa using hb3.cell 3
      have c4 : wr.cell? ⟨w.heap.size + 1 + 1 + 1, 4, none⟩ = some (.slice Av nv cv) := by simpa using hb3.cell 4
      have hq : decide ((j : Int) ≤ q) = decide (j ≤ bt 4) := by
        rw [decide_eq_decide, show bt 4 = 16 from rfl]
        rcases Nat.eq_zero_or_pos j with h | h
        · rw [hq0 h]; omega
        · rw [hq1 h]; omega
      clear HV HF hb3 HS B0 B1 B2 B3 HB0 hq0 hq1
      go_wp2_with fail
      refine (encode_any _ (bm 4 j) wr HL.out).mono ?_
      rintro e w1 ⟨hb1, ⟨h1, rfl⟩ | ⟨h1, u, rfl, hown⟩⟩
      · have HB1 := Lib.hid (HBw.out.trans (hb1.mono HBw.out.size))
        have hq1 : decide ((j : Int) ≤ q) = false := by rw [← h1, bm_fit, ← hq]
        clear hb1 hq h1
        go_wp2_with fail
        refine (AN.out w1).mono ?_
        rintro e w2 ⟨rfl, hb2⟩
        go_wp2_with fail
        go_ret
        exact ⟨rfl, HB1.out.trans (hb2.mono HB1.out.size)⟩
      · obtain ⟨A5, c5, rfl, -, -, -, -⟩ := own_slice hown
        have HB1 := Lib.hid (HBw.out.trans (hb1.mono HBw.out.size))
        have hq1 : decide ((j : Int) ≤ q) = true := by rw [← h1, bm_fit, ← hq]
        have hp := modB_pos (bm 4 j)
        generalize (modB (bm 4 j)).length = len at *
        have hp1 : decide ((len : Int) > 0) = true := by simp; omega
        clear hb1 hown hq h1
        go_wp2_with fail
        refine (AN.out w1).mono ?_
        rintro e w2 ⟨rfl, hb2⟩
        go_wp2_with fail
        go_ret
        exact ⟨rfl, HB1.out.trans (hb2.mono HB1.out.size)⟩
end Go.Proofs.Ytngjnkkdhjholaa
