/-
  The law InstCuts holds: an instruction that is cut off is none; the law's function returns true and turns nothing that was there.
  Conditions: none.
-/
import Derived.Test.YtolofgifcjkaaaaOpn
import Derived.Test.YtolofgifcjkaaaaIan
import Derived.Test.YtolofgifcjkaaaaIun
namespace Go.Proofs.Ytolofgifcjkaaaa.instCuts
open Go.ChangeShapes Go.WideShapes Go.ChangeAt Go.RowKit
set_option linter.unusedVariables false
set_option linter.unusedSimpArgs false

theorem blk_at {b B : Nat} {w w' : World} {t : TypeId} {cs : Array Value} (h : Blk w b t cs) (hb : Below B w w') (hlt : b < B) : Blk w' b t cs := (hb.block b hlt).trans h
theorem argN_there (r : Nat) (h : r < 42) : 0 ≤ argN r := by
  unfold argN
  repeat' split
  all_goals omega

set_option maxRecDepth 100000 in
set_option maxHeartbeats 2000000 in
theorem walk_0 (o r x y t : Nat) (w : World) (ho : o ≤ 255) (hx : x ≤ 255) (hy : y ≤ 255) (ht : t ≤ 255) (er : (o : Int) % 42 = (r : Nat)) (hr42 : r < 42) (hn : argN r = 0) :
    Calls Try.prog 5 #[.int .u8 (o : Nat), .int .u8 (x : Nat), .int .u8 (y : Nat), .int .u8 (t : Nat)] w fun e w' => e = .returned (.bool true) ∧ Below w.heap.size w w' := by
  have RA := Lib.hid (fun w => refArgs_any r w)
  rw [hn] at RA
  have hg : goodI (r : Nat) (0 : Nat) (0 : Nat) = true := goodI_mk (by omega) (by omega) (by omega) (fun h => by omega) (fun h => by omega)
  have PT := Lib.hid (fun w => iput_any (r : Nat) (0 : Nat) (0 : Nat) w)
  obtain ⟨L, hL⟩ : ∃ L, (insB (r : Nat) (0 : Nat) (0 : Nat)).length = L := ⟨_, rfl⟩
  have hL5 : L ≤ 5 := by rw [← hL]; exact insB_len _ _ _
  have hL0 : 0 < L := by rw [← hL]; exact insB_pos hg
  have HL := Lib.hid hL
  rw [hL] at PT
  obtain ⟨k, hk⟩ : ∃ k, t % L = k := ⟨_, rfl⟩
  have hkL : k < L := by rw [← hk]; exact Nat.mod_lt _ hL0
  have ek : (t : Int) % (L : Int) = (k : Nat) := by rw [← hk]; omega
  have eL : ((L : Int) == 0) = false := by simp; omega
  have HN := Lib.hid (no_cut hg (hL ▸ hkL))
  have HT : Hid (((insB (r : Nat) (0 : Nat) (0 : Nat)).take k).length = k) := by show ((insB (r : Nat) (0 : Nat) (0 : Nat)).take k).length = k; rw [List.length_take, hL]; omega
  have HZ : Hid (∀ z ∈ (insB (r : Nat) (0 : Nat) (0 : Nat)).take k, z < 256) := fun z hz => insB_bytes _ _ _ z (List.mem_of_mem_take hz)
  clear hn hg hL hk
  go_enter Try.func5, Try.ntmps5
  go_wp2_with (first
    | (go_at_call 12
       have hp := HK1.out
       clear hp
       refine (RA.out _).mono ?_
       rintro e w2 ⟨rfl, hb2⟩
       have HB2 : Hid (Below w.heap.size w w2) := HB1.out.trans (hb2.mono HB1.out.size)
       have hk2 : Blk w2 w.heap.size 23 #[.int .i64 (r : Nat), .int .i64 0, .int .i64 0] := blk_at HK1.out hb2 HK1.out.lt
       have HK2 := Lib.hid hk2
       have k20 := hk2.cell 0
       have k21 := hk2.cell 1
       have k22 := hk2.cell 2
       have f22 := hk2.frozen 2
       simp at k20 k21 k22
       clear hb2 hk2)
    | (go_at_call 12
       refine (RA.out _).mono ?_
       rintro e w1 ⟨rfl, hb1⟩
       have HB1 : Hid (Below w.heap.size w w1) := ((Below.refl _ _).alloc (Nat.le_refl _) _).trans (hb1.mono (by simp))
       have hk1 : Blk w1 w.heap.size 23 #[.int .i64 (r : Nat), .int .i64 0, .int .i64 0] := (hb1.block w.heap.size (by simp)).trans (blk_new w 23 #[.int .i64 (r : Nat), .int .i64 0, .int .i64 0])
       have HK1 := Lib.hid hk1
       have k10 := hk1.cell 0
       have k11 := hk1.cell 1
       have f11 := hk1.frozen 1
       simp at k10 k11
       clear hb1 hk1)
    | (go_at_call 8
       refine (PT.out _).mono ?_
       rintro e w3 ⟨u3, rfl, hown3, hb3⟩
       obtain ⟨A3, c3, rfl, -, hc3, hc3m, hY3⟩ := own_slice hown3
       have HY3 := Lib.hid (hY3.wide (T := (· < w3.heap.size)) fun b hb => hb.2)
       have HB3 : Hid (Below w.heap.size w w3) := HB2.out.trans (hb3.mono HB2.out.size)
       obtain ⟨a3, rfl, -, -⟩ := HY3.out.at (k := 0) (by rw [HL.out]; exact hL0)
       have e2 : k ≤ c3 := (by omega)
       have e3 : (k : Int) ≤ (c3 : Int) := (by omega)
       unfold maxLen at hc3m
       clear hown3 hb3 hY3)
    | (go_at_call 13
       refine (newReader_any (some a3) k c3 ((insB (r : Nat) (0 : Nat) (0 : Nat)).take k) w3 HT.out (HY3.out.take k) (by omega)).mono ?_
       rintro e w4 ⟨g, rfl, hG4, hg4, hb4⟩
       have HG4 := Lib.hid hG4
       have HB4 : Hid (Below w.heap.size w w4) := HB3.out.trans (hb4.mono HB3.out.size)
       have hg4' : w.heap.size ≤ g := (by have := HB3.out.size; omega)
       clear hG4 hb4 hg4)
    | (go_at_call 14
       refine (iget_no g ((insB (r : Nat) (0 : Nat) (0 : Nat)).take k) w4 HG4.out HZ.out (by rw [HT.out]; omega) HN.out).mono ?_
       rintro e w5 ⟨rfl, ho5⟩
       have HB5 : Hid (Below w.heap.size w w5) := HB4.out.trans (below_only ho5 hg4' HB4.out.size)
       clear ho5
       unfold insV)
    | (go_at_call 7
       refine (answers5 _).mono ?_
       rintro e w6 ⟨rfl, hb6⟩
       have HB6 : Hid (Below w.heap.size w w6) := (HB5.out.alloc HB5.out.size _).trans (hb6.mono (by simp; have := HB5.out.size; omega))
       have hk6 := (hb6.block w5.heap.size (by simp)).trans (blk_new w5 23 #[.int .i64 0, .int .i64 0, .int .i64 0])
       have k60 := Blk.cell hk6 0
       have k61 := Blk.cell hk6 1
       have k62 := Blk.cell hk6 2
       simp at k60 k61 k62
       clear hb6 hk6))
  go_ret
  exact ⟨rfl, HB6.out⟩

set_option maxRecDepth 100000 in
set_option maxHeartbeats 2000000 in
theorem walk_1 (o r x y t : Nat) (w : World) (ho : o ≤ 255) (hx : x ≤ 255) (hy : y ≤ 255) (ht : t ≤ 255) (er : (o : Int) % 42 = (r : Nat)) (hr42 : r < 42) (hn : argN r = 1) :
    Calls Try.prog 5 #[.int .u8 (o : Nat), .int .u8 (x : Nat), .int .u8 (y : Nat), .int .u8 (t : Nat)] w fun e w' => e = .returned (.bool true) ∧ Below w.heap.size w w' := by
  have RA := Lib.hid (fun w => refArgs_any r w)
  rw [hn] at RA
  have hg : goodI (r : Nat) (x : Nat) (0 : Nat) = true := goodI_mk (by omega) (by omega) (by omega) (fun h => by omega) (fun h => by omega)
  have PT := Lib.hid (fun w => iput_any (r : Nat) (x : Nat) (0 : Nat) w)
  obtain ⟨L, hL⟩ : ∃ L, (insB (r : Nat) (x : Nat) (0 : Nat)).length = L := ⟨_, rfl⟩
  have hL5 : L ≤ 5 := by rw [← hL]; exact insB_len _ _ _
  have hL0 : 0 < L := by rw [← hL]; exact insB_pos hg
  have HL := Lib.hid hL
  rw [hL] at PT
  obtain ⟨k, hk⟩ : ∃ k, t % L = k := ⟨_, rfl⟩
  have hkL : k < L := by rw [← hk]; exact Nat.mod_lt _ hL0
  have ek : (t : Int) % (L : Int) = (k : Nat) := by rw [← hk]; omega
  have eL : ((L : Int) == 0) = false := by simp; omega
  have HN := Lib.hid (no_cut hg (hL ▸ hkL))
  have HT : Hid (((insB (r : Nat) (x : Nat) (0 : Nat)).take k).length = k) := by show ((insB (r : Nat) (x : Nat) (0 : Nat)).take k).length = k; rw [List.length_take, hL]; omega
  have HZ : Hid (∀ z ∈ (insB (r : Nat) (x : Nat) (0 : Nat)).take k, z < 256) := fun z hz => insB_bytes _ _ _ z (List.mem_of_mem_take hz)
  clear hn hg hL hk
  go_enter Try.func5, Try.ntmps5
  go_wp2_with (first
    | (go_at_call 12
       have hp := HK1.out
       clear hp
       refine (RA.out _).mono ?_
       rintro e w2 ⟨rfl, hb2⟩
       have HB2 : Hid (Below w.heap.size w w2) := (HB1.out.setCell (p := ⟨w.heap.size, 1, none⟩) (Nat.le_refl _) _).trans (hb2.mono (by simp; exact HB1.out.size))
       have hk2 : Blk w2 w.heap.size 23 #[.int .i64 (r : Nat), .int .i64 (x : Nat), .int .i64 0] := blk_at (by simpa using HK1.out.set 1 (.int .i64 (x : Nat))) hb2 (by simp; exact HK1.out.lt)
       have HK2 := Lib.hid hk2
       have k20 := hk2.cell 0
       have k21 := hk2.cell 1
       have k22 := hk2.cell 2
       have f22 := hk2.frozen 2
       simp at k20 k21 k22
       clear hb2 hk2)
    | (go_at_call 12
       refine (RA.out _).mono ?_
       rintro e w1 ⟨rfl, hb1⟩
       have HB1 : Hid (Below w.heap.size w w1) := ((Below.refl _ _).alloc (Nat.le_refl _) _).trans (hb1.mono (by simp))
       have hk1 : Blk w1 w.heap.size 23 #[.int .i64 (r : Nat), .int .i64 0, .int .i64 0] := (hb1.block w.heap.size (by simp)).trans (blk_new w 23 #[.int .i64 (r : Nat), .int .i64 0, .int .i64 0])
       have HK1 := Lib.hid hk1
       have k10 := hk1.cell 0
       have k11 := hk1.cell 1
       have f11 := hk1.frozen 1
       simp at k10 k11
       clear hb1 hk1)
    | (go_at_call 8
       refine (PT.out _).mono ?_
       rintro e w3 ⟨u3, rfl, hown3, hb3⟩
       obtain ⟨A3, c3, rfl, -, hc3, hc3m, hY3⟩ := own_slice hown3
       have HY3 := Lib.hid (hY3.wide (T := (· < w3.heap.size)) fun b hb => hb.2)
       have HB3 : Hid (Below w.heap.size w w3) := HB2.out.trans (hb3.mono HB2.out.size)
       obtain ⟨a3, rfl, -, -⟩ := HY3.out.at (k := 0) (by rw [HL.out]; exact hL0)
       have e2 : k ≤ c3 := (by omega)
       have e3 : (k : Int) ≤ (c3 : Int) := (by omega)
       unfold maxLen at hc3m
       clear hown3 hb3 hY3)
    | (go_at_call 13
       refine (newReader_any (some a3) k c3 ((insB (r : Nat) (x : Nat) (0 : Nat)).take k) w3 HT.out (HY3.out.take k) (by omega)).mono ?_
       rintro e w4 ⟨g, rfl, hG4, hg4, hb4⟩
       have HG4 := Lib.hid hG4
       have HB4 : Hid (Below w.heap.size w w4) := HB3.out.trans (hb4.mono HB3.out.size)
       have hg4' : w.heap.size ≤ g := (by have := HB3.out.size; omega)
       clear hG4 hb4 hg4)
    | (go_at_call 14
       refine (iget_no g ((insB (r : Nat) (x : Nat) (0 : Nat)).take k) w4 HG4.out HZ.out (by rw [HT.out]; omega) HN.out).mono ?_
       rintro e w5 ⟨rfl, ho5⟩
       have HB5 : Hid (Below w.heap.size w w5) := HB4.out.trans (below_only ho5 hg4' HB4.out.size)
       clear ho5
       unfold insV)
    | (go_at_call 7
       refine (answers5 _).mono ?_
       rintro e w6 ⟨rfl, hb6⟩
       have HB6 : Hid (Below w.heap.size w w6) := (HB5.out.alloc HB5.out.size _).trans (hb6.mono (by simp; have := HB5.out.size; omega))
       have hk6 := (hb6.block w5.heap.size (by simp)).trans (blk_new w5 23 #[.int .i64 0, .int .i64 0, .int .i64 0])
       have k60 := Blk.cell hk6 0
       have k61 := Blk.cell hk6 1
       have k62 := Blk.cell hk6 2
       simp at k60 k61 k62
       clear hb6 hk6))
  go_ret
  exact ⟨rfl, HB6.out⟩

set_option maxRecDepth 100000 in
set_option maxHeartbeats 2000000 in
theorem walk_2 (o r x y t : Nat) (w : World) (ho : o ≤ 255) (hx : x ≤ 255) (hy : y ≤ 255) (ht : t ≤ 255) (er : (o : Int) % 42 = (r : Nat)) (hr42 : r < 42) (hn : argN r = 2) :
    Calls Try.prog 5 #[.int .u8 (o : Nat), .int .u8 (x : Nat), .int .u8 (y : Nat), .int .u8 (t : Nat)] w fun e w' => e = .returned (.bool true) ∧ Below w.heap.size w w' := by
  have RA := Lib.hid (fun w => refArgs_any r w)
  rw [hn] at RA
  have hg : goodI (r : Nat) (x : Nat) (y : Nat) = true := goodI_mk (by omega) (by omega) (by omega) (fun h => by omega) (fun h => by omega)
  have PT := Lib.hid (fun w => iput_any (r : Nat) (x : Nat) (y : Nat) w)
  obtain ⟨L, hL⟩ : ∃ L, (insB (r : Nat) (x : Nat) (y : Nat)).length = L := ⟨_, rfl⟩
  have hL5 : L ≤ 5 := by rw [← hL]; exact insB_len _ _ _
  have hL0 : 0 < L := by rw [← hL]; exact insB_pos hg
  have HL := Lib.hid hL
  rw [hL] at PT
  obtain ⟨k, hk⟩ : ∃ k, t % L = k := ⟨_, rfl⟩
  have hkL : k < L := by rw [← hk]; exact Nat.mod_lt _ hL0
  have ek : (t : Int) % (L : Int) = (k : Nat) := by rw [← hk]; omega
  have eL : ((L : Int) == 0) = false := by simp; omega
  have HN := Lib.hid (no_cut hg (hL ▸ hkL))
  have HT : Hid (((insB (r : Nat) (x : Nat) (y : Nat)).take k).length = k) := by show ((insB (r : Nat) (x : Nat) (y : Nat)).take k).length = k; rw [List.length_take, hL]; omega
  have HZ : Hid (∀ z ∈ (insB (r : Nat) (x : Nat) (y : Nat)).take k, z < 256) := fun z hz => insB_bytes _ _ _ z (List.mem_of_mem_take hz)
  clear hn hg hL hk
  go_enter Try.func5, Try.ntmps5
  go_wp2_with (first
    | (go_at_call 12
       have hp := HK1.out
       clear hp
       refine (RA.out _).mono ?_
       rintro e w2 ⟨rfl, hb2⟩
       have HB2 : Hid (Below w.heap.size w w2) := (HB1.out.setCell (p := ⟨w.heap.size, 1, none⟩) (Nat.le_refl _) _).trans (hb2.mono (by simp; exact HB1.out.size))
       have hk2 : Blk w2 w.heap.size 23 #[.int .i64 (r : Nat), .int .i64 (x : Nat), .int .i64 0] := blk_at (by simpa using HK1.out.set 1 (.int .i64 (x : Nat))) hb2 (by simp; exact HK1.out.lt)
       have HK2 := Lib.hid hk2
       have k20 := hk2.cell 0
       have k21 := hk2.cell 1
       have k22 := hk2.cell 2
       have f22 := hk2.frozen 2
       simp at k20 k21 k22
       clear hb2 hk2)
    | (go_at_call 12
       refine (RA.out _).mono ?_
       rintro e w1 ⟨rfl, hb1⟩
       have HB1 : Hid (Below w.heap.size w w1) := ((Below.refl _ _).alloc (Nat.le_refl _) _).trans (hb1.mono (by simp))
       have hk1 : Blk w1 w.heap.size 23 #[.int .i64 (r : Nat), .int .i64 0, .int .i64 0] := (hb1.block w.heap.size (by simp)).trans (blk_new w 23 #[.int .i64 (r : Nat), .int .i64 0, .int .i64 0])
       have HK1 := Lib.hid hk1
       have k10 := hk1.cell 0
       have k11 := hk1.cell 1
       have f11 := hk1.frozen 1
       simp at k10 k11
       clear hb1 hk1)
    | (go_at_call 8
       refine (PT.out _).mono ?_
       rintro e w3 ⟨u3, rfl, hown3, hb3⟩
       obtain ⟨A3, c3, rfl, -, hc3, hc3m, hY3⟩ := own_slice hown3
       have HY3 := Lib.hid (hY3.wide (T := (· < w3.heap.size)) fun b hb => hb.2)
       have HB3 : Hid (Below w.heap.size w w3) := (HB2.out.setCell (p := ⟨w.heap.size, 2, none⟩) (Nat.le_refl _) _).trans (hb3.mono (by simp; exact HB2.out.size))
       obtain ⟨a3, rfl, -, -⟩ := HY3.out.at (k := 0) (by rw [HL.out]; exact hL0)
       have e2 : k ≤ c3 := (by omega)
       have e3 : (k : Int) ≤ (c3 : Int) := (by omega)
       unfold maxLen at hc3m
       clear hown3 hb3 hY3)
    | (go_at_call 13
       refine (newReader_any (some a3) k c3 ((insB (r : Nat) (x : Nat) (y : Nat)).take k) w3 HT.out (HY3.out.take k) (by omega)).mono ?_
       rintro e w4 ⟨g, rfl, hG4, hg4, hb4⟩
       have HG4 := Lib.hid hG4
       have HB4 : Hid (Below w.heap.size w w4) := HB3.out.trans (hb4.mono HB3.out.size)
       have hg4' : w.heap.size ≤ g := (by have := HB3.out.size; omega)
       clear hG4 hb4 hg4)
    | (go_at_call 14
       refine (iget_no g ((insB (r : Nat) (x : Nat) (y : Nat)).take k) w4 HG4.out HZ.out (by rw [HT.out]; omega) HN.out).mono ?_
       rintro e w5 ⟨rfl, ho5⟩
       have HB5 : Hid (Below w.heap.size w w5) := HB4.out.trans (below_only ho5 hg4' HB4.out.size)
       clear ho5
       unfold insV)
    | (go_at_call 7
       refine (answers5 _).mono ?_
       rintro e w6 ⟨rfl, hb6⟩
       have HB6 : Hid (Below w.heap.size w w6) := (HB5.out.alloc HB5.out.size _).trans (hb6.mono (by simp; have := HB5.out.size; omega))
       have hk6 := (hb6.block w5.heap.size (by simp)).trans (blk_new w5 23 #[.int .i64 0, .int .i64 0, .int .i64 0])
       have k60 := Blk.cell hk6 0
       have k61 := Blk.cell hk6 1
       have k62 := Blk.cell hk6 2
       simp at k60 k61 k62
       clear hb6 hk6))
  go_ret
  exact ⟨rfl, HB6.out⟩

theorem walk (op a b at0 : Int) (w : World) (hop : 0 ≤ op ∧ op ≤ 255) (ha : 0 ≤ a ∧ a ≤ 255) (hb : 0 ≤ b ∧ b ≤ 255) (hat : 0 ≤ at0 ∧ at0 ≤ 255) :
    Calls Try.prog 5 #[.int .u8 op, .int .u8 a, .int .u8 b, .int .u8 at0] w fun e w' => e = .returned (.bool true) ∧ Below w.heap.size w w' := by
  obtain ⟨o, rfl⟩ : ∃ o : Nat, op = (o : Int) := ⟨op.toNat, by omega⟩
  obtain ⟨x, rfl⟩ : ∃ x : Nat, a = (x : Int) := ⟨a.toNat, by omega⟩
  obtain ⟨y, rfl⟩ : ∃ y : Nat, b = (y : Int) := ⟨b.toNat, by omega⟩
  obtain ⟨t, rfl⟩ : ∃ t : Nat, at0 = (t : Int) := ⟨at0.toNat, by omega⟩
  have hn0 := argN_there (o % 42) (by omega)
  rcases argN_cases (o % 42 : Nat) with hn | hn | hn | hn
  · omega
  · exact walk_0 o (o % 42) x y t w (by omega) (by omega) (by omega) (by omega) (by omega) (by omega) hn
  · exact walk_1 o (o % 42) x y t w (by omega) (by omega) (by omega) (by omega) (by omega) (by omega) hn
  · exact walk_2 o (o % 42) x y t w (by omega) (by omega) (by omega) (by omega) (by omega) (by omega) hn

set_option maxRecDepth 100000 in
theorem lifted (os : Os) (started : os.Started) (H : Type) (enc : TypeId × Value → H) :
    ReturnsInHanded {} Try.checked os 5 .any (Rows.instCutsSpec.pre6 enc Try.prog Try.f5 Rows.instCutsRow.domain false) (Rows.instCutsSpec.post enc Try.prog Try.f5 false true false false) := by
  refine returnsInHanded_of_change (C := Try.checked) own started (by kernel_rfl) Try.func5
    (ChangeSpec.witness6 (enc := enc) (C := Try.checked) false ⟨#[], #[.int .u8 0, .int .u8 0, .int .u8 0, .int .u8 0], []⟩ 8 (by kernel_rfl) (by kernel_rfl) (by kernel_rfl) (by kernel_rfl)) ?_
  intro W base args ds gs before hval0 hW hcnd _
  have hval : ∀ (j : Nat) t v, Try.f5.params[j]? = some t → args[j]? = some v → Value.okWide Try.prog W .any base t v := hval0
  have hW' := hW
  obtain ⟨p, q, hA0, hV, rfl, hfz, hnd⟩ := hW
  have hA : DataW.TrodAll enc Try.prog W 0 (fun _ => true) true Try.f5.params.toList args.toList ds p := hA0
  rw [Try.params5] at hA hval
  obtain ⟨v0, vs0, d0, ds0, p0, q0, hargs, rfl, rfl, h0, r0⟩ := trodAll_cons hA
  obtain ⟨v1, vs1, d1, ds1, p1, q1, rfl, rfl, rfl, h1, r1⟩ := trodAll_cons r0
  obtain ⟨v2, vs2, d2, ds2, p2, q2, rfl, rfl, rfl, h2, r2⟩ := trodAll_cons r1
  obtain ⟨v3, vs3, d3, ds3, p3, q3, rfl, rfl, rfl, h3, r3⟩ := trodAll_cons r2
  obtain ⟨rfl, rfl, rfl⟩ := trodAll_nil r3
  obtain rfl : args = #[v0, v1, v2, v3] := by cases args; simp_all
  obtain ⟨rfl, rfl⟩ := trodVars_none hV
  obtain ⟨a0, rfl, rfl, rfl, w0⟩ := open_int Try.underlying5 (hval 0 5 v0 rfl rfl) h0
  obtain ⟨a1, rfl, rfl, rfl, w1⟩ := open_int Try.underlying5 (hval 1 5 v1 rfl rfl) h1
  obtain ⟨a2, rfl, rfl, rfl, w2⟩ := open_int Try.underlying5 (hval 2 5 v2 rfl rfl) h2
  obtain ⟨a3, rfl, rfl, rfl, w3⟩ := open_int Try.underlying5 (hval 3 5 v3 rfl rfl) h3
  clear hA0 hval0
  simp only [List.append_nil] at hW'
  refine (walk a0 a1 a2 a3 W (bounds_u8 w0) (bounds_u8 w1) (bounds_u8 w2) (bounds_u8 w3)).mono fun e W' ⟨he, bel⟩ => ?_
  subst he
  exact ⟨_, rfl, _, _, _, [], _, [], hW', trodAll_mk1 (shut_bool Try.underlying4 _), (trodAll_cons_mk (shut_int Try.underlying5 w0) (trodAll_cons_mk (shut_int Try.underlying5 w1) (trodAll_cons_mk (shut_int Try.underlying5 w2) (trodAll_cons_mk (shut_int Try.underlying5 w3) trodAll_mk0)))), rfl, bel.frame _, fun h => by cases h⟩

theorem over : Rows.instCutsRow.holds Try.pinned (OpenSpec.ofChange Rows.instCutsSpec) :=
  OpenClaim.holds_of_wide 5 Try.f5 rfl rfl rfl rfl rfl rfl rfl ⟨rfl, rfl, rfl, rfl, rfl⟩ rfl rfl rfl rfl rfl (by kernel_rfl) Try.func5 (by kernel_rfl)
    (of_decide_eq_true (by kernel_rfl)) (by unfold Func.isWrapper; first | (rw [if_pos (by decide +kernel)]; kernel_rfl) | (rw [if_neg (by decide +kernel)]; exact ⟨rfl, rfl⟩))
    (fun os started H enc _ => lifted os started H enc)

/-- The statement. -/
theorem proved : Rows.InstCutsSaid := over
end Go.Proofs.Ytolofgifcjkaaaa.instCuts
