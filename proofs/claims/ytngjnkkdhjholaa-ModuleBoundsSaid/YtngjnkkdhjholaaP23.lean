/-
  What ModuleBounds' function does at the case 6: true. Conditions: as the theorem says.
-/
import Derived.Test.YtngjnkkdhjholaaP02
import Derived.Test.YtngjnkkdhjholaaP13
import Derived.Test.YtngjnkkdhjholaaP20
import Derived.RangeFuncBox
namespace Go.Proofs.Ytngjnkkdhjholaa
open Go.RowKit
set_option linter.unusedSimpArgs false
set_option linter.unusedVariables false

set_option maxRecDepth 100000 in
set_option maxHeartbeats 4000000 in
theorem bounds6 (t n : Int) (w : World) (ht : 0 ≤ t ∧ t ≤ 255) (hn : 0 ≤ n ∧ n ≤ 255) (hc : t % 7 = 6) :
    Calls Try.prog 4 #[.int .u8 t, .int .u8 n] w fun e w' => e = .returned (.bool true) ∧ Below w.heap.size w w' := by
  have AN := Lib.hid (fun w => answers6 w)
  obtain ⟨k, ek, hk⟩ : ∃ k : Nat, n % 70 = (k : Int) ∧ k < 70 := ⟨(n % 70).toNat, by omega, by omega⟩
  go_enter Try.func4, Try.ntmps4
  go_wp2_with fail
  rw [ek]
  refine wp_world fun W0 hW0 => ?_
  have HFB := Lib.hid (four_blk w tA iA #[.slice none 0 0, .int .i64 1, .int .i64 0, .slice none 0 0, .slice (some ⟨w.heap.size + 1, 0, none⟩) 1 1] #[.slice none 0 0, .slice (some ⟨w.heap.size + 2, 0, none⟩) 1 1, .slice none 0 0, .slice none 0 0, .slice none 0 0] 33 35 39 28)
  have B0 : Hid (Blk W0 w.heap.size 33 tA) := by show Blk _ _ _ _; rw [hW0]; exact HFB.out.1
  have B1 : Hid (Blk W0 (w.heap.size + 1) 35 iA) := by show Blk _ _ _ _; rw [hW0]; exact HFB.out.2.1
  have B2 : Hid (Blk W0 (w.heap.size + 2) 39 #[.slice none 0 0, .int .i64 1, .int .i64 0, .slice none 0 0, .slice (some ⟨w.heap.size + 1, 0, none⟩) 1 1]) := by show Blk _ _ _ _; rw [hW0]; exact HFB.out.2.2.1
  have B3 : Hid (Blk W0 (w.heap.size + 3) 28 #[.slice none 0 0, .slice (some ⟨w.heap.size + 2, 0, none⟩) 1 1, .slice none 0 0, .slice none 0 0, .slice none 0 0]) := by show Blk _ _ _ _; rw [hW0]; exact HFB.out.2.2.2
  clear HFB
  have HB0 : Hid (Below w.heap.size w W0) := by show Below _ _ _; rw [hW0]; exact ((((Below.refl _ _).alloc (Nat.le_refl _) _).alloc (by simp) _).alloc (by simp; omega) _).alloc (by simp; omega) _
  have hz0 : w.heap.size + 4 ≤ W0.heap.size := by rw [hW0]; simp
  clear hW0
  go_loopw [8, 9] (fun mo i wr => ∃ j : Nat, j ≤ k ∧ i = .int .i64 (j : Nat) ∧ ∃ q : Int, mo = .int .i64 q ∧ (j = 0 → q = 0) ∧ (0 < j → q = 63) ∧ ∃ v, Bst w.heap.size 35 3 (w.heap.size + 1) (w.heap.size + 2) 39 (fun v => #[.slice none 0 0, .int .i64 1, .int .i64 0, .slice none 0 0, v]) w W0 wr ([.int .i64 26, .int .i64 0, .int .i64 0] :: List.replicate j [.int .i64 5, .int .i64 0, .int .i64 0] : List (List Value)) v) (fun _ i _ => k - (intOf i).toNat)
  case atStart =>
    refine ⟨0, Nat.zero_le _, rfl, 0, rfl, fun _ => rfl, fun h => absurd h (by omega), .slice (some ⟨w.heap.size + 1, 0, none⟩) 1 1, HB0.out, hz0, ?_, (fun b e => .inl (by simpa [Value.ownBlock] using e.symm)), fun b _ _ _ => rfl, B2.out⟩
    exact raw_one B1.out (by omega) rfl
  case round =>
    obtain ⟨j, hj, rfl, q, rfl, hq0, hq1, v, hst⟩ := hrel
    have HS := Lib.hid hst
    have HBw := Lib.hid hst.1
    have hz := hst.2.1
    obtain ⟨Aw, nw, cw, rfl⟩ := raw_shape hst.2.2.1
    clear hst
    by_cases hlt : j < k
    · have p0 := (HS.out.2.2.2.2.1 w.heap.size (by omega) (by omega) (by omega)).trans B0.out
      have q0 : Blk wr (w.heap.size + 3) 28 #[.slice none 0 0, .slice (some ⟨w.heap.size + 2, 0, none⟩) 1 1, .slice none 0 0, .slice none 0 0, .slice none 0 0] := (HS.out.2.2.2.2.1 (w.heap.size + 3) (by omega) (by omega) (by omega)).trans B3.out
      have HQ := Lib.hid q0
      have p1 := Blk.cell p0 0
      have p2 := Blk.cell p0 1
      simp [tA] at p1 p2
      have m0 : wr.cell? ⟨w.heap.size + 1 + 1, 4, none⟩ = some (.slice Aw nw cw) := by simpa using HS.out.2.2.2.2.2.cell 4
      have m0a : ∀ o : Obj, (wr.alloc o).cell? ⟨w.heap.size + 1 + 1, 4, none⟩ = some (.slice Aw nw cw) := fun o => (((Below.refl _ _).alloc (Nat.le_refl _) _).cell (p := ⟨w.heap.size + 1 + 1, 4, none⟩) (by simp; omega)).trans m0
      have n0 : wr.cell? ⟨w.heap.size + 1 + 1 + 1, 1, none⟩ = some (.slice (some ⟨w.heap.size + 1 + 1, 0, none⟩) 1 1) := by simpa using q0.cell 1
      have n0a : ∀ o : Obj, (wr.alloc o).cell? ⟨w.heap.size + 1 + 1 + 1, 1, none⟩ = some (.slice (some ⟨w.heap.size + 1 + 1, 0, none⟩) 1 1) := fun o => (((Below.refl _ _).alloc (Nat.le_refl _) _).cell (p := ⟨w.heap.size + 1 + 1 + 1, 1, none⟩) (by simp; omega)).trans n0
      clear p0 q0
      go_wp2_with fail
      go_region_law (first
        | (with_reducible refine step_is (.tmp 94) (.tmp 96) 36 ?_
           refine step_append_raw 3 _ (by rfl) (.tmp 94) (.tmp 96) 36 35 (by rfl) (.agg #[.int .i64 0, .int .i64 0, .int .i64 0]) 24 Try.underlying36 info_ins rfl (by decide) (by decide) (w.heap.size + 1) (.slice Aw nw cw) ([.int .i64 26, .int .i64 0, .int .i64 0] :: List.replicate j [.int .i64 5, .int .i64 0, .int .i64 0] : List (List Value)).length ([.int .i64 26, .int .i64 0, .int .i64 0] :: List.replicate j [.int .i64 5, .int .i64 0, .int .i64 0] : List (List Value)).flatten (by rfl)
             (raw_below HS.out.2.2.1 (((Below.refl _ _).alloc (Nat.le_refl _) _).drew) (Nat.le_refl _)) ⟨wr.heap.size, 0, none⟩ 1 (by rfl) [.int .i64 5, .int .i64 0, .int .i64 0] rfl (cell_new wr 35 [.int .i64 5, .int .i64 0, .int .i64 0]) (by simp [Value.oneCell']) (by simp; omega) (by simp; omega) ?_
           intro v2 w2 hown2 hg2 h5
           have HB2 := Lib.hid (HS.out.blk (by omega) (by omega) (((Below.refl _ _).alloc (Nat.le_refl _) _).drew) hg2)
           have HS2 := Lib.hid (HS.out.step (i := 4) (by omega) (by omega) (by omega) (by omega) (((Below.refl _ _).alloc (Nat.le_refl _) _).drew) hown2 hg2 h5 (by simp))
           obtain ⟨Av, nv, cv, rfl⟩ := raw_shape hown2
           have d3 : w2.cell? ⟨w.heap.size + 1 + 1, 4, none⟩ = some (.slice Aw nw cw) := by simpa using HB2.out.cell 4
           have f3 : w2.frozen? ⟨w.heap.size + 1 + 1, 4, none⟩ = false := HB2.out.frozen 4
           have hb3 : w2.heap[w.heap.size + 3]? = wr.heap[w.heap.size + 3]? := (hg2.block (w.heap.size + 3) (by simp [World.drew]; omega) (fun e => by rcases HS.out.2.2.2.1 _ e.symm with h | h <;> omega)).trans ((((Below.refl wr.heap.size wr).alloc (Nat.le_refl _) _).drew).block _ (by omega))
           have n2 : w2.cell? ⟨w.heap.size + 1 + 1 + 1, 1, none⟩ = some (.slice (some ⟨w.heap.size + 1 + 1, 0, none⟩) 1 1) := by simpa using Blk.cell (hb3.trans HQ.out) 1
           clear hb3
           clear hown2 hg2 h5))
      all_goals
        go_wp2_with fail
        refine ⟨⟨j + 1, by omega, by simp, 63, rfl, fun h => absurd h (by omega), fun _ => rfl, .slice Av nv cv, ?_⟩, by simp [intOf]; omega⟩
        have := HS2.out
        rw [show ([.int .i64 26, .int .i64 0, .int .i64 0] :: List.replicate (j + 1) [.int .i64 5, .int .i64 0, .int .i64 0] : List (List Value)) = ([.int .i64 26, .int .i64 0, .int .i64 0] :: List.replicate j [.int .i64 5, .int .i64 0, .int .i64 0] : List (List Value)) ++ [[.int .i64 5, .int .i64 0, .int .i64 0]] by simp [List.replicate_succ']]
        exact this
    · obtain rfl : j = k := by omega
      have HV : Hid ((slL insL).R (· < wr.heap.size) wr [.slice Aw nw cw] ((26, 0, 0) :: List.replicate j (5, 0, 0) : List Ins)) := by
        refine raw_sl (L := insL) (css := ([.int .i64 26, .int .i64 0, .int .i64 0] :: List.replicate j [.int .i64 5, .int .i64 0, .int .i64 0] : List (List Value))) (by simp) (by have := HS.out.2.2.1; rw [show ([.int .i64 26, .int .i64 0, .int .i64 0] :: List.replicate j [.int .i64 5, .int .i64 0, .int .i64 0] : List (List Value)).length = ((26, 0, 0) :: List.replicate j (5, 0, 0) : List Ins).length by simp] at this; exact this) (fun i x cs h1 h2 => ?_) (fun b _ h => h)
        match i, h1, h2 with
        | 0, h1, h2 =>
          simp at h1 h2
          subst h1 h2
          exact ⟨rfl, by unfold I64; simp, by unfold I64; simp, by unfold I64; simp⟩
        | i + 1, h1, h2 =>
          obtain rfl : cs = [.int .i64 5, .int .i64 0, .int .i64 0] := by simp [List.getElem?_replicate] at h2; first | exact h2.2.symm | exact h2.2
          obtain rfl : x = (5, 0, 0) := by simp [List.getElem?_replicate] at h1; first | exact h1.2.symm | exact h1.2
          exact ⟨rfl, by unfold I64; simp, by unfold I64; simp, by unfold I64; simp⟩
      have HL : Hid (modL.R (· < wr.heap.size) wr [.slice none 0 0, .slice (some ⟨w.heap.size + 2, 0, none⟩) 1 1, .slice none 0 0, .slice none 0 0, .slice none 0 0] (bm 6 j)) := ⟨_, _, _, _, _, rfl, nil_sl _ _ _, one_sl HS.out.2.2.2.2.2 HS.out.2.2.2.2.2.lt ⟨_, _, _, rfl, by simp [I64], by simp [I64], nil_sl _ _ _, nil_sl _ _ _, HV.out⟩, nil_sl _ _ _, nil_sl _ _ _, nil_sl _ _ _⟩
      have hb3 : Blk wr (w.heap.size + 3) 28 #[.slice none 0 0, .slice (some ⟨w.heap.size + 2, 0, none⟩) 1 1, .slice none 0 0, .slice none 0 0, .slice none 0 0] := (HS.out.2.2.2.2.1 (w.heap.size + 3) (by omega) (by omega) (by omega)).trans B3.out
      have c0 : wr.cell? ⟨w.heap.size + 1 + 1 + 1, 0, none⟩ = some (.slice none 0 0) := by simpa using hb3.cell 0
      have c1 : wr.cell? ⟨w.heap.size + 1 + 1 + 1, 1, none⟩ = some (.slice (some ⟨w.heap.size + 2, 0, none⟩) 1 1) := by simpa using hb3.cell 1
      have c2 : wr.cell? ⟨w.heap.size + 1 + 1 + 1, 2, none⟩ = some (.slice none 0 0) := by simpa using hb3.cell 2
      have c3 : wr.cell? ⟨w.heap.size + 1 + 1 + 1, 3, none⟩ = some (.slice none 0 0) := by simpa using hb3.cell 3
      have c4 : wr.cell? ⟨w.heap.size + 1 + 1 + 1, 4, none⟩ = some (.slice none 0 0) := by simpa using hb3.cell 4
      have hq : decide ((j : Int) ≤ q) = decide (j ≤ bt 6) := by
        rw [decide_eq_decide, show bt 6 = 63 from rfl]
        rcases Nat.eq_zero_or_pos j with h | h
        · rw [hq0 h]; omega
        · rw [hq1 h]; omega
      clear HV hb3 HS B0 B1 B2 B3 HB0 hq0 hq1
      go_wp2_with fail
      refine (encode_any _ (bm 6 j) wr HL.out).mono ?_
      rintro e w1 ⟨hb1, ⟨h1, rfl⟩ | ⟨h1, u, rfl, hown⟩⟩
      · have HB1 := Lib.hid (HBw.out.trans (hb1.mono HBw.out.size))
        have hq1 : decide ((j : Int) ≤ q) = false := by rw [← h1, bm_fit, ← hq]
        clear hb1 hq h1
        go_wp2_with fail
        refine (AN.out w1).mono ?_
        rintro e w2 ⟨rfl, hb2⟩
        go_wp2_with fail
        go_ret
        exact ⟨rfl, HB1.out.trans (hb2.mono HB1.out.size)⟩
      · obtain ⟨A5, c5, rfl, -, -, -, -⟩ := own_slice hown
        have HB1 := Lib.hid (HBw.out.trans (hb1.mono HBw.out.size))
        have hq1 : decide ((j : Int) ≤ q) = true := by rw [← h1, bm_fit, ← hq]
        have hp := modB_pos (bm 6 j)
        generalize (modB (bm 6 j)).length = len at *
        have hp1 : decide ((len : Int) > 0) = true := by simp; omega
        clear hb1 hown hq h1
        go_wp2_with fail
        refine (AN.out w1).mono ?_
        rintro e w2 ⟨rfl, hb2⟩
        go_wp2_with fail
        go_ret
        exact ⟨rfl, HB1.out.trans (hb2.mono HB1.out.size)⟩
end Go.Proofs.Ytngjnkkdhjholaa
