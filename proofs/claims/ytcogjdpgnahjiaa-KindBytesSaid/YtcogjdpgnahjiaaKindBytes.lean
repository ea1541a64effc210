/-
  The law KindBytes holds: a good type is read from its bytes; what is no good one is not; the law's function returns true and turns nothing that was there.
  Conditions: none.
-/
import Derived.Test.YtcogjdpgnahjiaaOpn
import Derived.Test.YtcogjdpgnahjiaaOty
import Derived.Test.YtcogjdpgnahjiaaKan
import Derived.Test.YtcogjdpgnahjiaaRkn
import Derived.Test.YtcogjdpgnahjiaaRkt
import Derived.Test.YtcogjdpgnahjiaaKgt
import Derived.Test.YtcogjdpgnahjiaaSme
namespace Go.Proofs.Ytcogjdpgnahjiaa.kindBytes
open Go.ChangeShapes Go.WideShapes Go.ChangeAt Go.RowKit
set_option linter.unusedVariables false
set_option linter.unusedSimpArgs false

theorem blk_below {b B : Nat} {w w' : World} {t : TypeId} {cs : Array Value} (h : Blk w b t cs) (hb : Below B w w') (hlt : b < B) : Blk w' b t cs := (hb.block b hlt).trans h

theorem below_after_draw {w9 w w' : World} {q : Nat} (h : Below (w.drewN q).heap.size (w.drewN q) w9) (k : Below w9.heap.size w9 w') : Below w.heap.size w w' :=
  Below.trans (b := w9) ⟨h.os, h.tape, h.output, h.size, h.block⟩ (k.mono h.size)

theorem good_bounds (k n r : Int) (hr : 0 ≤ r ∧ r ≤ 255) (h : goodB k n r = true) : 0 ≤ k ∧ k ≤ 8 ∧ 0 ≤ n ∧ n ≤ 255 := by
  unfold goodB at h
  split at h
  · simp at h
    omega
  · split at h
    · simp at h
      omega
    · split at h
      · simp at h
        omega
      · cases h

set_option maxRecDepth 100000 in
set_option maxHeartbeats 2000000 in
theorem walk_good (k n rc : Int) (A : Option Addr) (m c : Nat) (xs : List Nat) (w : World) (hk : -9223372036854775808 ≤ k ∧ k ≤ 9223372036854775807) (hn : -9223372036854775808 ≤ n ∧ n ≤ 9223372036854775807) (hr : 0 ≤ rc ∧ rc ≤ 255) (hx : xs.length = m) (hb : ∀ x ∈ xs, x < 256) (hB : Byt (· < w.heap.size) w A xs) (hcm : c ≤ maxLen) (hm : m ≤ 50) (hg : goodB k n rc = true) :
    Calls Try.prog 5 #[.agg #[.int .i64 k, .int .i64 n], .int .u8 rc, .slice A m c] w fun e w' => e = .returned (.bool true) ∧ Below w.heap.size w w' := by
  obtain ⟨L, hL⟩ : ∃ L, (typB k n).length = L := ⟨_, rfl⟩
  have hL20 : L ≤ 20 := by rw [← hL]; exact typB_len k n hk.2 hn.2
  have HL := Lib.hid hL
  have HX := Lib.hid hx
  have HB := Lib.hid hB
  obtain ⟨a, ea⟩ : ∃ a, k.toNat = a := ⟨_, rfl⟩
  obtain ⟨b, eb⟩ : ∃ b, n.toNat = b := ⟨_, rfl⟩
  have HTV : Hid (TwoVars (typB k n ++ xs) a b xs) := by
    rw [← ea, ← eb]
    refine ⟨(vb k.toNat).length, (vb n.toNat).length, ?_, ?_, ?_⟩
    · rw [typB, List.append_assoc]
      exact isVar_app _ (by unfold B64; omega) _
    · rw [typB, List.append_assoc, List.drop_left]
      exact isVar_app _ (by unfold B64; omega) _
    · rw [typB, List.append_assoc, List.drop_left, List.drop_left]
  have HAll : Hid (∀ x ∈ typB k n ++ xs, x < 256) := by
    intro x hx
    rcases List.mem_append.1 hx with h | h
    · rcases List.mem_append.1 h with h | h
      · exact vb_bytes _ x h
      · exact vb_bytes _ x h
    · exact hb x h
  have PT := Lib.hid (fun w => kput k n w hk hn)
  have RT := Lib.hid (fun w => rtype k n w hk hn)
  have RG := Lib.hid (fun w => rgood k n rc w)
  clear hx hB hb hL
  obtain ⟨b1, b2, b3, b4⟩ := good_bounds k n rc hr hg
  have ek : (a : Int) = k := by omega
  have en : (b : Int) = n := by omega
  have HP : Hid (a ≤ 8 ∧ b ≤ 255 ∧ goodB a b rc = true) := ⟨by omega, by omega, by rw [ek, en]; exact hg⟩
  have EK := Lib.hid ek
  have EN := Lib.hid en
  rw [hg] at RG
  clear hg b1 b2 b3 b4 ek en hk hn ea eb
  go_enter Try.func5, Try.ntmps5
  go_wp2_with (first
    | (at_builtin
       refine walk_append _ rfl (.tmp 17) (.tmp 18) rfl w1.heap.size (.slice (some ⟨w1.heap.size, 0, none⟩) 0 0) 0 [] rfl (own_empty w1) A1 L c1 (typB k n) rfl HL.out (· < w1.heap.size)
         (HY1.out.keep fun b hb => Below.heap_alloc w1 _ b hb) (by omega) (by simp) ?_
       intro v2 w2 hown2 hg2 _
       rw [Nat.zero_add, List.nil_append] at hown2
       have HO2 := Lib.hid hown2
       have HC2 : Hid (Below w1.heap.size w1 w2) := ((Below.refl _ w1).alloc (Nat.le_refl _) _).grown hg2 (by simp) (fun i hi => by simp [Value.ownBlock] at hi; omega)
       have hs2 := HC2.out.size
       clear hown2 hg2)
    | (at_builtin
       refine walk_append _ rfl (.tmp 19) (.tmp 20) rfl w1.heap.size v2 L (typB k n) rfl HO2.out A m c xs rfl HX.out (· < w.heap.size) ((HB.out.below HW1.out (Nat.le_refl _)).below HC2.out (by omega)) (by omega) hs2 ?_
       intro v3 w3 hown3 hg3 _
       obtain ⟨A3, c3, rfl, -, hc3, hc3m, hY3⟩ := own_slice hown3
       have HY3 := Lib.hid (hY3.wide (T := (· < w3.heap.size)) fun b hb => hb.2)
       have HC3 : Hid (Below w1.heap.size w1 w3) := HC2.out.grown hg3 hs2 (fun i hi => (HO2.out.lt i hi).1)
       have hs3 := HC3.out.size
       clear hown3 hg3 hY3 hc3 hc3m)
    | (go_at_call 17
       refine (PT.out _).mono ?_
       rintro e w1 ⟨u1, rfl, hown1, hb1⟩
       rw [HL.out] at hown1
       obtain ⟨A1, c1, rfl, -, hc1, hc1m, hY1⟩ := own_slice hown1
       have HY1 := Lib.hid (hY1.wide (T := (· < w1.heap.size)) fun b hb => hb.2)
       have HT1 := Lib.hid ((hb1.block w.heap.size (by simp)).trans (blk_new w 23 #[.int .i64 k, .int .i64 n]))
       have HW1 : Hid (Below w.heap.size w w1) := ((Below.refl _ w).alloc (Nat.le_refl _) _).trans (hb1.mono (by simp))
       have hs1 : w.heap.size < w1.heap.size := (by have := hb1.size; simp at this; omega)
       unfold maxLen at hc1m
       clear hown1 hb1 hY1)
    | (go_at_call 18
       refine (newReader_any A3 (L + m) c3 (typB k n ++ xs) w3 (by rw [List.length_append, HL.out, HX.out]) HY3.out (by omega)).mono ?_
       rintro e w4 ⟨g, rfl, hG4, hg4, hb4⟩
       have HG4 := Lib.hid hG4
       have HC4 := Lib.hid (HC3.out.trans (hb4.mono hs3))
       have hs4 := hb4.size
       clear hG4 hb4)
    | (go_at_call 19
       refine (kget_two g (typB k n ++ xs) xs a b rc w4 HG4.out HAll.out (by rw [List.length_append, HL.out, HX.out]; omega) HTV.out).mono ?_
       rintro e w5 ⟨rfl, hG5, ho5⟩
       rw [if_pos HP.out, EK.out, EN.out]
       have HG5 := Lib.hid hG5
       have HC5 := Lib.hid (HC4.out.trans (below_only ho5 (B := w1.heap.size) (by omega) (by omega)))
       have hs5 := ho5.size
       have hl5 : w.heap.size < w5.heap.size := (by omega)
       have hn5 : w.heap.size ≠ w5.heap.size := (by omega)
       have ht5 := blk_below HT1.out HC5.out hs1
       have t50 := ht5.cell 0
       have t51 := ht5.cell 1
       simp at t50 t51
       clear hG5 ho5 ht5)
    | (go_at_call 21
       refine (RT.out _).mono ?_
       rintro e w7 ⟨u2, rfl, hown7, hb7⟩
       rw [HL.out] at hown7
       obtain ⟨A7, c7, rfl, -, -, -, hY7⟩ := own_slice hown7
       have HY7 := Lib.hid hY7
       have HC7 := Lib.hid ((HC5.out.alloc (by omega) _).trans (hb7.mono (by simp; omega)))
       have HD7 := Lib.hid hb7
       have HX7 := Lib.hid ((hb7.block w5.heap.size (by simp)).trans (blk_new w5 23 #[.int .i64 k, .int .i64 n]))
       have HG7 := Lib.hid ((HG5.out.alloc _).below hb7 (by simp; have := HG5.out.lt; omega))
       have hs7 : w5.heap.size < w7.heap.size := (by have := hb7.size; simp at this; omega)
       clear hown7 hb7 hY7)
    | (go_at_call 20
       refine (same_yes A1 A7 L L c1 c7 (typB k n) (typB k n) w7 _ _ HL.out HL.out rfl (HY1.out.below HC7.out (Nat.le_refl _)) HY7.out (by omega)).mono ?_
       rintro e w8 ⟨rfl, q, rfl⟩
       have ht8 := blk_below HT1.out HC7.out hs1
       have t80 := ht8.cell 0
       have t81 := ht8.cell 1
       simp at t80 t81
       clear ht8)
    | (go_at_call 10
       refine (RG.out _).mono ?_
       rintro e w9 ⟨rfl, hb9⟩
       have HB9 := Lib.hid hb9
       clear hb9)
    | (go_at_call 8
       have hp := HB9.out
       clear hp
       refine (answers4 w9).mono ?_
       rintro e w10 ⟨rfl, hb10⟩
       have HD10 : Hid (Below w7.heap.size w7 w10) := below_after_draw HB9.out hb10
       have ht10 := blk_below HT1.out (HC7.out.trans (HD10.out.mono HC7.out.size)) hs1
       have hx10 := blk_below HX7.out HD10.out hs7
       have HG10 := Lib.hid (HG7.out.below HD10.out HG7.out.lt)
       have t100 := ht10.cell 0
       have t101 := ht10.cell 1
       have x100 := hx10.cell 0
       have x101 := hx10.cell 1
       simp at t100 t101 x100 x101
       clear hb10 ht10 hx10)
    | (go_at_call 22
       refine (left_good g xs w10 HG10.out).mono ?_
       rw [HX.out]
       rintro e w11 ⟨rfl, rfl⟩))
  go_ret
  exact ⟨rfl, HW1.out.trans ((HC7.out.trans (HD10.out.mono HC7.out.size)).mono (by omega))⟩

set_option maxRecDepth 100000 in
set_option maxHeartbeats 2000000 in
theorem walk_none (k n rc : Int) (A : Option Addr) (m c : Nat) (xs : List Nat) (w : World) (hk : -9223372036854775808 ≤ k ∧ k ≤ 9223372036854775807) (hn : -9223372036854775808 ≤ n ∧ n ≤ 9223372036854775807) (hr : 0 ≤ rc ∧ rc ≤ 255) (hx : xs.length = m) (hb : ∀ x ∈ xs, x < 256) (hB : Byt (· < w.heap.size) w A xs) (hcm : c ≤ maxLen) (hm : m ≤ 50) (hg : goodB k n rc = false) (hp : ¬ (k.toNat ≤ 8 ∧ n.toNat ≤ 255 ∧ goodB k.toNat n.toNat rc = true)) :
    Calls Try.prog 5 #[.agg #[.int .i64 k, .int .i64 n], .int .u8 rc, .slice A m c] w fun e w' => e = .returned (.bool true) ∧ Below w.heap.size w w' := by
  obtain ⟨L, hL⟩ : ∃ L, (typB k n).length = L := ⟨_, rfl⟩
  have hL20 : L ≤ 20 := by rw [← hL]; exact typB_len k n hk.2 hn.2
  have HL := Lib.hid hL
  have HX := Lib.hid hx
  have HB := Lib.hid hB
  obtain ⟨a, ea⟩ : ∃ a, k.toNat = a := ⟨_, rfl⟩
  obtain ⟨b, eb⟩ : ∃ b, n.toNat = b := ⟨_, rfl⟩
  have HTV : Hid (TwoVars (typB k n ++ xs) a b xs) := by
    rw [← ea, ← eb]
    refine ⟨(vb k.toNat).length, (vb n.toNat).length, ?_, ?_, ?_⟩
    · rw [typB, List.append_assoc]
      exact isVar_app _ (by unfold B64; omega) _
    · rw [typB, List.append_assoc, List.drop_left]
      exact isVar_app _ (by unfold B64; omega) _
    · rw [typB, List.append_assoc, List.drop_left, List.drop_left]
  have HAll : Hid (∀ x ∈ typB k n ++ xs, x < 256) := by
    intro x hx
    rcases List.mem_append.1 hx with h | h
    · rcases List.mem_append.1 h with h | h
      · exact vb_bytes _ x h
      · exact vb_bytes _ x h
    · exact hb x h
  have PT := Lib.hid (fun w => kput k n w hk hn)
  have RT := Lib.hid (fun w => rtype k n w hk hn)
  have RG := Lib.hid (fun w => rgood k n rc w)
  clear hx hB hb hL
  rw [ea, eb] at hp
  have HP := Lib.hid hp
  rw [hg] at RG
  clear hg hk hn hp ea eb
  go_enter Try.func5, Try.ntmps5
  go_wp2_with (first
    | (at_builtin
       refine walk_append _ rfl (.tmp 17) (.tmp 18) rfl w1.heap.size (.slice (some ⟨w1.heap.size, 0, none⟩) 0 0) 0 [] rfl (own_empty w1) A1 L c1 (typB k n) rfl HL.out (· < w1.heap.size)
         (HY1.out.keep fun b hb => Below.heap_alloc w1 _ b hb) (by omega) (by simp) ?_
       intro v2 w2 hown2 hg2 _
       rw [Nat.zero_add, List.nil_append] at hown2
       have HO2 := Lib.hid hown2
       have HC2 : Hid (Below w1.heap.size w1 w2) := ((Below.refl _ w1).alloc (Nat.le_refl _) _).grown hg2 (by simp) (fun i hi => by simp [Value.ownBlock] at hi; omega)
       have hs2 := HC2.out.size
       clear hown2 hg2)
    | (at_builtin
       refine walk_append _ rfl (.tmp 19) (.tmp 20) rfl w1.heap.size v2 L (typB k n) rfl HO2.out A m c xs rfl HX.out (· < w.heap.size) ((HB.out.below HW1.out (Nat.le_refl _)).below HC2.out (by omega)) (by omega) hs2 ?_
       intro v3 w3 hown3 hg3 _
       obtain ⟨A3, c3, rfl, -, hc3, hc3m, hY3⟩ := own_slice hown3
       have HY3 := Lib.hid (hY3.wide (T := (· < w3.heap.size)) fun b hb => hb.2)
       have HC3 : Hid (Below w1.heap.size w1 w3) := HC2.out.grown hg3 hs2 (fun i hi => (HO2.out.lt i hi).1)
       have hs3 := HC3.out.size
       clear hown3 hg3 hY3 hc3 hc3m)
    | (go_at_call 17
       refine (PT.out _).mono ?_
       rintro e w1 ⟨u1, rfl, hown1, hb1⟩
       rw [HL.out] at hown1
       obtain ⟨A1, c1, rfl, -, hc1, hc1m, hY1⟩ := own_slice hown1
       have HY1 := Lib.hid (hY1.wide (T := (· < w1.heap.size)) fun b hb => hb.2)
       have HT1 := Lib.hid ((hb1.block w.heap.size (by simp)).trans (blk_new w 23 #[.int .i64 k, .int .i64 n]))
       have HW1 : Hid (Below w.heap.size w w1) := ((Below.refl _ w).alloc (Nat.le_refl _) _).trans (hb1.mono (by simp))
       have hs1 : w.heap.size < w1.heap.size := (by have := hb1.size; simp at this; omega)
       unfold maxLen at hc1m
       clear hown1 hb1 hY1)
    | (go_at_call 18
       refine (newReader_any A3 (L + m) c3 (typB k n ++ xs) w3 (by rw [List.length_append, HL.out, HX.out]) HY3.out (by omega)).mono ?_
       rintro e w4 ⟨g, rfl, hG4, hg4, hb4⟩
       have HG4 := Lib.hid hG4
       have HC4 := Lib.hid (HC3.out.trans (hb4.mono hs3))
       have hs4 := hb4.size
       clear hG4 hb4)
    | (go_at_call 19
       refine (kget_two g (typB k n ++ xs) xs a b rc w4 HG4.out HAll.out (by rw [List.length_append, HL.out, HX.out]; omega) HTV.out).mono ?_
       rintro e w5 ⟨rfl, hG5, ho5⟩
       rw [if_neg HP.out]
       have HG5 := Lib.hid hG5
       have HC5 := Lib.hid (HC4.out.trans (below_only ho5 (B := w1.heap.size) (by omega) (by omega)))
       have hs5 := ho5.size
       have hl5 : w.heap.size < w5.heap.size := (by omega)
       have hn5 : w.heap.size ≠ w5.heap.size := (by omega)
       have ht5 := blk_below HT1.out HC5.out hs1
       have t50 := ht5.cell 0
       have t51 := ht5.cell 1
       simp at t50 t51
       clear hG5 ho5 ht5)
    | (go_at_call 21
       refine (RT.out _).mono ?_
       rintro e w7 ⟨u2, rfl, hown7, hb7⟩
       rw [HL.out] at hown7
       obtain ⟨A7, c7, rfl, -, -, -, hY7⟩ := own_slice hown7
       have HY7 := Lib.hid hY7
       have HC7 := Lib.hid ((HC5.out.alloc (by omega) _).trans (hb7.mono (by simp; omega)))
       have HD7 := Lib.hid hb7
       have HX7 := Lib.hid ((hb7.block w5.heap.size (by simp)).trans (blk_new w5 23 #[.int .i64 0, .int .i64 0]))
       have HG7 := Lib.hid ((HG5.out.alloc _).below hb7 (by simp; have := HG5.out.lt; omega))
       have hs7 : w5.heap.size < w7.heap.size := (by have := hb7.size; simp at this; omega)
       clear hown7 hb7 hY7)
    | (go_at_call 20
       refine (same_yes A1 A7 L L c1 c7 (typB k n) (typB k n) w7 _ _ HL.out HL.out rfl (HY1.out.below HC7.out (Nat.le_refl _)) HY7.out (by omega)).mono ?_
       rintro e w8 ⟨rfl, q, rfl⟩
       have ht8 := blk_below HT1.out HC7.out hs1
       have t80 := ht8.cell 0
       have t81 := ht8.cell 1
       simp at t80 t81
       clear ht8)
    | (go_at_call 10
       refine (RG.out _).mono ?_
       rintro e w9 ⟨rfl, hb9⟩
       have HB9 := Lib.hid hb9
       clear hb9)
    | (go_at_call 8
       have hp := HB9.out
       clear hp
       refine (answers4 w9).mono ?_
       rintro e w10 ⟨rfl, hb10⟩
       have HD10 : Hid (Below w7.heap.size w7 w10) := below_after_draw HB9.out hb10
       have ht10 := blk_below HT1.out (HC7.out.trans (HD10.out.mono HC7.out.size)) hs1
       have hx10 := blk_below HX7.out HD10.out hs7
       have HG10 := Lib.hid (HG7.out.below HD10.out HG7.out.lt)
       have t100 := ht10.cell 0
       have t101 := ht10.cell 1
       have x100 := hx10.cell 0
       have x101 := hx10.cell 1
       simp at t100 t101 x100 x101
       clear hb10 ht10 hx10)
    | (go_at_call 22
       refine (left_good g xs w10 HG10.out).mono ?_
       rw [HX.out]
       rintro e w11 ⟨rfl, rfl⟩))
  go_ret
  exact ⟨rfl, HW1.out.trans ((HC7.out.trans (HD10.out.mono HC7.out.size)).mono (by omega))⟩

set_option maxRecDepth 100000 in
set_option maxHeartbeats 2000000 in
theorem walk_neg1 (k n rc : Int) (A : Option Addr) (m c : Nat) (xs : List Nat) (w : World) (hk : -9223372036854775808 ≤ k ∧ k ≤ 9223372036854775807) (hn : -9223372036854775808 ≤ n ∧ n ≤ 9223372036854775807) (hr : 0 ≤ rc ∧ rc ≤ 255) (hx : xs.length = m) (hb : ∀ x ∈ xs, x < 256) (hB : Byt (· < w.heap.size) w A xs) (hcm : c ≤ maxLen) (hm : m ≤ 50) (hg : goodB k n rc = false) (hp : k.toNat ≤ 8 ∧ n.toNat ≤ 255 ∧ goodB k.toNat n.toNat rc = true) (h0 : n < 0) :
    Calls Try.prog 5 #[.agg #[.int .i64 k, .int .i64 n], .int .u8 rc, .slice A m c] w fun e w' => e = .returned (.bool true) ∧ Below w.heap.size w w' := by
  obtain ⟨L, hL⟩ : ∃ L, (typB k n).length = L := ⟨_, rfl⟩
  have hL20 : L ≤ 20 := by rw [← hL]; exact typB_len k n hk.2 hn.2
  have HL := Lib.hid hL
  have HX := Lib.hid hx
  have HB := Lib.hid hB
  obtain ⟨a, ea⟩ : ∃ a, k.toNat = a := ⟨_, rfl⟩
  obtain ⟨b, eb⟩ : ∃ b, n.toNat = b := ⟨_, rfl⟩
  have HTV : Hid (TwoVars (typB k n ++ xs) a b xs) := by
    rw [← ea, ← eb]
    refine ⟨(vb k.toNat).length, (vb n.toNat).length, ?_, ?_, ?_⟩
    · rw [typB, List.append_assoc]
      exact isVar_app _ (by unfold B64; omega) _
    · rw [typB, List.append_assoc, List.drop_left]
      exact isVar_app _ (by unfold B64; omega) _
    · rw [typB, List.append_assoc, List.drop_left, List.drop_left]
  have HAll : Hid (∀ x ∈ typB k n ++ xs, x < 256) := by
    intro x hx
    rcases List.mem_append.1 hx with h | h
    · rcases List.mem_append.1 h with h | h
      · exact vb_bytes _ x h
      · exact vb_bytes _ x h
    · exact hb x h
  have PT := Lib.hid (fun w => kput k n w hk hn)
  have RT := Lib.hid (fun w => rtype k n w hk hn)
  have RG := Lib.hid (fun w => rgood k n rc w)
  clear hx hB hb hL
  rw [ea, eb] at hp
  have HP := Lib.hid hp
  rw [hg] at RG
  clear hg hk hn hp ea eb
  have e1 : decide (n < 0) = true := by simpa using h0
  clear h0
  go_enter Try.func5, Try.ntmps5
  go_wp2_with (first
    | (at_builtin
       refine walk_append _ rfl (.tmp 17) (.tmp 18) rfl w1.heap.size (.slice (some ⟨w1.heap.size, 0, none⟩) 0 0) 0 [] rfl (own_empty w1) A1 L c1 (typB k n) rfl HL.out (· < w1.heap.size)
         (HY1.out.keep fun b hb => Below.heap_alloc w1 _ b hb) (by omega) (by simp) ?_
       intro v2 w2 hown2 hg2 _
       rw [Nat.zero_add, List.nil_append] at hown2
       have HO2 := Lib.hid hown2
       have HC2 : Hid (Below w1.heap.size w1 w2) := ((Below.refl _ w1).alloc (Nat.le_refl _) _).grown hg2 (by simp) (fun i hi => by simp [Value.ownBlock] at hi; omega)
       have hs2 := HC2.out.size
       clear hown2 hg2)
    | (at_builtin
       refine walk_append _ rfl (.tmp 19) (.tmp 20) rfl w1.heap.size v2 L (typB k n) rfl HO2.out A m c xs rfl HX.out (· < w.heap.size) ((HB.out.below HW1.out (Nat.le_refl _)).below HC2.out (by omega)) (by omega) hs2 ?_
       intro v3 w3 hown3 hg3 _
       obtain ⟨A3, c3, rfl, -, hc3, hc3m, hY3⟩ := own_slice hown3
       have HY3 := Lib.hid (hY3.wide (T := (· < w3.heap.size)) fun b hb => hb.2)
       have HC3 : Hid (Below w1.heap.size w1 w3) := HC2.out.grown hg3 hs2 (fun i hi => (HO2.out.lt i hi).1)
       have hs3 := HC3.out.size
       clear hown3 hg3 hY3 hc3 hc3m)
    | (go_at_call 17
       refine (PT.out _).mono ?_
       rintro e w1 ⟨u1, rfl, hown1, hb1⟩
       rw [HL.out] at hown1
       obtain ⟨A1, c1, rfl, -, hc1, hc1m, hY1⟩ := own_slice hown1
       have HY1 := Lib.hid (hY1.wide (T := (· < w1.heap.size)) fun b hb => hb.2)
       have HT1 := Lib.hid ((hb1.block w.heap.size (by simp)).trans (blk_new w 23 #[.int .i64 k, .int .i64 n]))
       have HW1 : Hid (Below w.heap.size w w1) := ((Below.refl _ w).alloc (Nat.le_refl _) _).trans (hb1.mono (by simp))
       have hs1 : w.heap.size < w1.heap.size := (by have := hb1.size; simp at this; omega)
       unfold maxLen at hc1m
       clear hown1 hb1 hY1)
    | (go_at_call 18
       refine (newReader_any A3 (L + m) c3 (typB k n ++ xs) w3 (by rw [List.length_append, HL.out, HX.out]) HY3.out (by omega)).mono ?_
       rintro e w4 ⟨g, rfl, hG4, hg4, hb4⟩
       have HG4 := Lib.hid hG4
       have HC4 := Lib.hid (HC3.out.trans (hb4.mono hs3))
       have hs4 := hb4.size
       clear hG4 hb4)
    | (go_at_call 19
       refine (kget_two g (typB k n ++ xs) xs a b rc w4 HG4.out HAll.out (by rw [List.length_append, HL.out, HX.out]; omega) HTV.out).mono ?_
       rintro e w5 ⟨rfl, hG5, ho5⟩
       rw [if_pos HP.out]
       have HG5 := Lib.hid hG5
       have HC5 := Lib.hid (HC4.out.trans (below_only ho5 (B := w1.heap.size) (by omega) (by omega)))
       have hs5 := ho5.size
       have hl5 : w.heap.size < w5.heap.size := (by omega)
       have hn5 : w.heap.size ≠ w5.heap.size := (by omega)
       have ht5 := blk_below HT1.out HC5.out hs1
       have t50 := ht5.cell 0
       have t51 := ht5.cell 1
       simp at t50 t51
       clear hG5 ho5 ht5)
    | (go_at_call 21
       refine (RT.out _).mono ?_
       rintro e w7 ⟨u2, rfl, hown7, hb7⟩
       rw [HL.out] at hown7
       obtain ⟨A7, c7, rfl, -, -, -, hY7⟩ := own_slice hown7
       have HY7 := Lib.hid hY7
       have HC7 := Lib.hid ((HC5.out.alloc (by omega) _).trans (hb7.mono (by simp; omega)))
       have HD7 := Lib.hid hb7
       have HX7 := Lib.hid ((hb7.block w5.heap.size (by simp)).trans (blk_new w5 23 #[.int .i64 (a : Int), .int .i64 (b : Int)]))
       have HG7 := Lib.hid ((HG5.out.alloc _).below hb7 (by simp; have := HG5.out.lt; omega))
       have hs7 : w5.heap.size < w7.heap.size := (by have := hb7.size; simp at this; omega)
       clear hown7 hb7 hY7)
    | (go_at_call 20
       refine (same_yes A1 A7 L L c1 c7 (typB k n) (typB k n) w7 _ _ HL.out HL.out rfl (HY1.out.below HC7.out (Nat.le_refl _)) HY7.out (by omega)).mono ?_
       rintro e w8 ⟨rfl, q, rfl⟩
       have ht8 := blk_below HT1.out HC7.out hs1
       have t80 := ht8.cell 0
       have t81 := ht8.cell 1
       simp at t80 t81
       clear ht8)
    | (go_at_call 10
       refine (RG.out _).mono ?_
       rintro e w9 ⟨rfl, hb9⟩
       have HB9 := Lib.hid hb9
       clear hb9)
    | (go_at_call 8
       have hp := HB9.out
       clear hp
       refine (answers4 w9).mono ?_
       rintro e w10 ⟨rfl, hb10⟩
       have HD10 : Hid (Below w7.heap.size w7 w10) := below_after_draw HB9.out hb10
       have ht10 := blk_below HT1.out (HC7.out.trans (HD10.out.mono HC7.out.size)) hs1
       have hx10 := blk_below HX7.out HD10.out hs7
       have HG10 := Lib.hid (HG7.out.below HD10.out HG7.out.lt)
       have t100 := ht10.cell 0
       have t101 := ht10.cell 1
       have x100 := hx10.cell 0
       have x101 := hx10.cell 1
       simp at t100 t101 x100 x101
       clear hb10 ht10 hx10)
    | (go_at_call 22
       refine (left_good g xs w10 HG10.out).mono ?_
       rw [HX.out]
       rintro e w11 ⟨rfl, rfl⟩))
  go_ret
  exact ⟨rfl, HW1.out.trans ((HC7.out.trans (HD10.out.mono HC7.out.size)).mono (by omega))⟩

set_option maxRecDepth 100000 in
set_option maxHeartbeats 2000000 in
theorem walk_neg2 (k n rc : Int) (A : Option Addr) (m c : Nat) (xs : List Nat) (w : World) (hk : -9223372036854775808 ≤ k ∧ k ≤ 9223372036854775807) (hn : -9223372036854775808 ≤ n ∧ n ≤ 9223372036854775807) (hr : 0 ≤ rc ∧ rc ≤ 255) (hx : xs.length = m) (hb : ∀ x ∈ xs, x < 256) (hB : Byt (· < w.heap.size) w A xs) (hcm : c ≤ maxLen) (hm : m ≤ 50) (hg : goodB k n rc = false) (hp : k.toNat ≤ 8 ∧ n.toNat ≤ 255 ∧ goodB k.toNat n.toNat rc = true) (h0 : 0 ≤ n) (h1 : k < 0) :
    Calls Try.prog 5 #[.agg #[.int .i64 k, .int .i64 n], .int .u8 rc, .slice A m c] w fun e w' => e = .returned (.bool true) ∧ Below w.heap.size w w' := by
  obtain ⟨L, hL⟩ : ∃ L, (typB k n).length = L := ⟨_, rfl⟩
  have hL20 : L ≤ 20 := by rw [← hL]; exact typB_len k n hk.2 hn.2
  have HL := Lib.hid hL
  have HX := Lib.hid hx
  have HB := Lib.hid hB
  obtain ⟨a, ea⟩ : ∃ a, k.toNat = a := ⟨_, rfl⟩
  obtain ⟨b, eb⟩ : ∃ b, n.toNat = b := ⟨_, rfl⟩
  have HTV : Hid (TwoVars (typB k n ++ xs) a b xs) := by
    rw [← ea, ← eb]
    refine ⟨(vb k.toNat).length, (vb n.toNat).length, ?_, ?_, ?_⟩
    · rw [typB, List.append_assoc]
      exact isVar_app _ (by unfold B64; omega) _
    · rw [typB, List.append_assoc, List.drop_left]
      exact isVar_app _ (by unfold B64; omega) _
    · rw [typB, List.append_assoc, List.drop_left, List.drop_left]
  have HAll : Hid (∀ x ∈ typB k n ++ xs, x < 256) := by
    intro x hx
    rcases List.mem_append.1 hx with h | h
    · rcases List.mem_append.1 h with h | h
      · exact vb_bytes _ x h
      · exact vb_bytes _ x h
    · exact hb x h
  have PT := Lib.hid (fun w => kput k n w hk hn)
  have RT := Lib.hid (fun w => rtype k n w hk hn)
  have RG := Lib.hid (fun w => rgood k n rc w)
  clear hx hB hb hL
  rw [ea, eb] at hp
  have HP := Lib.hid hp
  rw [hg] at RG
  clear hg hk hn hp ea eb
  have e1 : decide (n < 0) = false := by simpa using h0
  have e2 : decide (k < 0) = true := by simpa using h1
  clear h0 h1
  go_enter Try.func5, Try.ntmps5
  go_wp2_with (first
    | (at_builtin
       refine walk_append _ rfl (.tmp 17) (.tmp 18) rfl w1.heap.size (.slice (some ⟨w1.heap.size, 0, none⟩) 0 0) 0 [] rfl (own_empty w1) A1 L c1 (typB k n) rfl HL.out (· < w1.heap.size)
         (HY1.out.keep fun b hb => Below.heap_alloc w1 _ b hb) (by omega) (by simp) ?_
       intro v2 w2 hown2 hg2 _
       rw [Nat.zero_add, List.nil_append] at hown2
       have HO2 := Lib.hid hown2
       have HC2 : Hid (Below w1.heap.size w1 w2) := ((Below.refl _ w1).alloc (Nat.le_refl _) _).grown hg2 (by simp) (fun i hi => by simp [Value.ownBlock] at hi; omega)
       have hs2 := HC2.out.size
       clear hown2 hg2)
    | (at_builtin
       refine walk_append _ rfl (.tmp 19) (.tmp 20) rfl w1.heap.size v2 L (typB k n) rfl HO2.out A m c xs rfl HX.out (· < w.heap.size) ((HB.out.below HW1.out (Nat.le_refl _)).below HC2.out (by omega)) (by omega) hs2 ?_
       intro v3 w3 hown3 hg3 _
       obtain ⟨A3, c3, rfl, -, hc3, hc3m, hY3⟩ := own_slice hown3
       have HY3 := Lib.hid (hY3.wide (T := (· < w3.heap.size)) fun b hb => hb.2)
       have HC3 : Hid (Below w1.heap.size w1 w3) := HC2.out.grown hg3 hs2 (fun i hi => (HO2.out.lt i hi).1)
       have hs3 := HC3.out.size
       clear hown3 hg3 hY3 hc3 hc3m)
    | (go_at_call 17
       refine (PT.out _).mono ?_
       rintro e w1 ⟨u1, rfl, hown1, hb1⟩
       rw [HL.out] at hown1
       obtain ⟨A1, c1, rfl, -, hc1, hc1m, hY1⟩ := own_slice hown1
       have HY1 := Lib.hid (hY1.wide (T := (· < w1.heap.size)) fun b hb => hb.2)
       have HT1 := Lib.hid ((hb1.block w.heap.size (by simp)).trans (blk_new w 23 #[.int .i64 k, .int .i64 n]))
       have HW1 : Hid (Below w.heap.size w w1) := ((Below.refl _ w).alloc (Nat.le_refl _) _).trans (hb1.mono (by simp))
       have hs1 : w.heap.size < w1.heap.size := (by have := hb1.size; simp at this; omega)
       unfold maxLen at hc1m
       clear hown1 hb1 hY1)
    | (go_at_call 18
       refine (newReader_any A3 (L + m) c3 (typB k n ++ xs) w3 (by rw [List.length_append, HL.out, HX.out]) HY3.out (by omega)).mono ?_
       rintro e w4 ⟨g, rfl, hG4, hg4, hb4⟩
       have HG4 := Lib.hid hG4
       have HC4 := Lib.hid (HC3.out.trans (hb4.mono hs3))
       have hs4 := hb4.size
       clear hG4 hb4)
    | (go_at_call 19
       refine (kget_two g (typB k n ++ xs) xs a b rc w4 HG4.out HAll.out (by rw [List.length_append, HL.out, HX.out]; omega) HTV.out).mono ?_
       rintro e w5 ⟨rfl, hG5, ho5⟩
       rw [if_pos HP.out]
       have HG5 := Lib.hid hG5
       have HC5 := Lib.hid (HC4.out.trans (below_only ho5 (B := w1.heap.size) (by omega) (by omega)))
       have hs5 := ho5.size
       have hl5 : w.heap.size < w5.heap.size := (by omega)
       have hn5 : w.heap.size ≠ w5.heap.size := (by omega)
       have ht5 := blk_below HT1.out HC5.out hs1
       have t50 := ht5.cell 0
       have t51 := ht5.cell 1
       simp at t50 t51
       clear hG5 ho5 ht5)
    | (go_at_call 21
       refine (RT.out _).mono ?_
       rintro e w7 ⟨u2, rfl, hown7, hb7⟩
       rw [HL.out] at hown7
       obtain ⟨A7, c7, rfl, -, -, -, hY7⟩ := own_slice hown7
       have HY7 := Lib.hid hY7
       have HC7 := Lib.hid ((HC5.out.alloc (by omega) _).trans (hb7.mono (by simp; omega)))
       have HD7 := Lib.hid hb7
       have HX7 := Lib.hid ((hb7.block w5.heap.size (by simp)).trans (blk_new w5 23 #[.int .i64 (a : Int), .int .i64 (b : Int)]))
       have HG7 := Lib.hid ((HG5.out.alloc _).below hb7 (by simp; have := HG5.out.lt; omega))
       have hs7 : w5.heap.size < w7.heap.size := (by have := hb7.size; simp at this; omega)
       clear hown7 hb7 hY7)
    | (go_at_call 20
       refine (same_yes A1 A7 L L c1 c7 (typB k n) (typB k n) w7 _ _ HL.out HL.out rfl (HY1.out.below HC7.out (Nat.le_refl _)) HY7.out (by omega)).mono ?_
       rintro e w8 ⟨rfl, q, rfl⟩
       have ht8 := blk_below HT1.out HC7.out hs1
       have t80 := ht8.cell 0
       have t81 := ht8.cell 1
       simp at t80 t81
       clear ht8)
    | (go_at_call 10
       refine (RG.out _).mono ?_
       rintro e w9 ⟨rfl, hb9⟩
       have HB9 := Lib.hid hb9
       clear hb9)
    | (go_at_call 8
       have hp := HB9.out
       clear hp
       refine (answers4 w9).mono ?_
       rintro e w10 ⟨rfl, hb10⟩
       have HD10 : Hid (Below w7.heap.size w7 w10) := below_after_draw HB9.out hb10
       have ht10 := blk_below HT1.out (HC7.out.trans (HD10.out.mono HC7.out.size)) hs1
       have hx10 := blk_below HX7.out HD10.out hs7
       have HG10 := Lib.hid (HG7.out.below HD10.out HG7.out.lt)
       have t100 := ht10.cell 0
       have t101 := ht10.cell 1
       have x100 := hx10.cell 0
       have x101 := hx10.cell 1
       simp at t100 t101 x100 x101
       clear hb10 ht10 hx10)
    | (go_at_call 22
       refine (left_good g xs w10 HG10.out).mono ?_
       rw [HX.out]
       rintro e w11 ⟨rfl, rfl⟩))
  go_ret
  exact ⟨rfl, HW1.out.trans ((HC7.out.trans (HD10.out.mono HC7.out.size)).mono (by omega))⟩

set_option maxRecDepth 100000 in
set_option maxHeartbeats 2000000 in
theorem walk_long (k n rc : Int) (A : Option Addr) (m c : Nat) (xs : List Nat) (w : World) (hk : -9223372036854775808 ≤ k ∧ k ≤ 9223372036854775807) (hn : -9223372036854775808 ≤ n ∧ n ≤ 9223372036854775807) (hr : 0 ≤ rc ∧ rc ≤ 255) (hx : xs.length = m) (hb : ∀ x ∈ xs, x < 256) (hB : Byt (· < w.heap.size) w A xs) (hcm : c ≤ maxLen) (hm : ¬ m ≤ 50) :
    Calls Try.prog 5 #[.agg #[.int .i64 k, .int .i64 n], .int .u8 rc, .slice A m c] w fun e w' => e = .returned (.bool true) ∧ Below w.heap.size w w' := by
  have hc1 : Hid (c ≤ 9223372036854775807) := by unfold maxLen at hcm; show c ≤ 9223372036854775807; omega
  clear hcm hB hb hx hk hn
  go_enter Try.func5, Try.ntmps5
  go_wp2_with fail
  refine (answers4 _).mono ?_
  rintro e w3 ⟨rfl, hb3⟩
  go_wp2_with fail
  go_ret
  exact ⟨rfl, ((Below.refl _ _).alloc (Nat.le_refl _) _).trans (hb3.mono (by simp))⟩

theorem walk (k n rc : Int) (A : Option Addr) (m c : Nat) (xs : List Nat) (w : World) (hk : -9223372036854775808 ≤ k ∧ k ≤ 9223372036854775807) (hn : -9223372036854775808 ≤ n ∧ n ≤ 9223372036854775807) (hr : 0 ≤ rc ∧ rc ≤ 255) (hx : xs.length = m) (hb : ∀ x ∈ xs, x < 256) (hB : Byt (· < w.heap.size) w A xs) (hcm : c ≤ maxLen) :
    Calls Try.prog 5 #[.agg #[.int .i64 k, .int .i64 n], .int .u8 rc, .slice A m c] w fun e w' => e = .returned (.bool true) ∧ Below w.heap.size w w' := by
  by_cases hm : m ≤ 50
  · cases hg : goodB k n rc
    · by_cases hp : k.toNat ≤ 8 ∧ n.toNat ≤ 255 ∧ goodB k.toNat n.toNat rc = true
      · by_cases h0 : n < 0
        · exact walk_neg1 k n rc A m c xs w hk hn hr hx hb hB hcm hm hg hp h0
        · by_cases h1 : k < 0
          · exact walk_neg2 k n rc A m c xs w hk hn hr hx hb hB hcm hm hg hp (by omega) h1
          · exfalso
            have h2 := hp.2.2
            rw [Int.toNat_of_nonneg (by omega), Int.toNat_of_nonneg (by omega), hg] at h2
            cases h2
      · exact walk_none k n rc A m c xs w hk hn hr hx hb hB hcm hm hg hp
    · exact walk_good k n rc A m c xs w hk hn hr hx hb hB hcm hm hg
  · exact walk_long k n rc A m c xs w hk hn hr hx hb hB hcm hm

set_option maxRecDepth 100000 in
theorem lifted (os : Os) (started : os.Started) (H : Type) (enc : TypeId × Value → H) :
    ReturnsInHanded {} Try.checked os 5 .any (Rows.kindBytesSpec.pre6 enc Try.prog Try.f5 Rows.kindBytesRow.domain false) (Rows.kindBytesSpec.post enc Try.prog Try.f5 false true false false) := by
  refine returnsInHanded_of_change (C := Try.checked) own started (by kernel_rfl) Try.func5
    (ChangeSpec.witness6 (enc := enc) (C := Try.checked) false ⟨#[], #[.agg #[.int .i64 0, .int .i64 0], .int .u8 0, .slice none 0 0], []⟩ 8 (by kernel_rfl) (by kernel_rfl) (by kernel_rfl) (by kernel_rfl)) ?_
  intro W base args ds gs before hval0 hW hcnd _
  have hval : ∀ (j : Nat) t v, Try.f5.params[j]? = some t → args[j]? = some v → Value.okWide Try.prog W .any base t v := hval0
  have hW' := hW
  obtain ⟨p, q, hA0, hV, rfl, hfz, hnd⟩ := hW
  have hA : DataW.TrodAll enc Try.prog W 0 (fun _ => true) true Try.f5.params.toList args.toList ds p := hA0
  rw [Try.params5] at hA hval
  obtain ⟨v0, vs0, d0, ds0, p0, q0, hargs, rfl, rfl, h0, r0⟩ := trodAll_cons hA
  obtain ⟨v1, vs1, d1, ds1, p1, q1, rfl, rfl, rfl, h1, r1⟩ := trodAll_cons r0
  obtain ⟨v2, vs2, d2, ds2, p2, q2, rfl, rfl, rfl, h2, r2⟩ := trodAll_cons r1
  obtain ⟨rfl, rfl, rfl⟩ := trodAll_nil r2
  obtain rfl : args = #[v0, v1, v2] := by cases args; simp_all
  obtain ⟨rfl, rfl⟩ := trodVars_none hV
  have lt0 : ∀ x ∈ p0, x.block < W.heap.size := by obtain ⟨m, hm⟩ := h0; exact DataW.trod_lt m _ _ _ hm
  obtain ⟨k0, n0, rfl, wk0, wn0⟩ := open_typ (hval 0 23 v0 rfl rfl) h0
  obtain ⟨a1, rfl, rfl, rfl, w1⟩ := open_int Try.underlying5 (hval 1 5 v1 rfl rfl) h1
  obtain ⟨a2, len2, cap2, rfl⟩ := okWide_slice Try.underlying31 (hval 2 31 v2 rfl rfl)
  have lt2 : ∀ x ∈ p2, x.block < W.heap.size := by obtain ⟨m, hm⟩ := h2; exact DataW.trod_lt m _ _ _ hm
  obtain ⟨xs2, hx2, hb2, hB2, hlc2, hcm2⟩ := open_byt h2
  clear hA0 hval0
  refine (walk k0 n0 a1 a2 len2 cap2 xs2 W (bounds_i64 wk0) (bounds_i64 wn0) (bounds_u8 w1) hx2 hb2 hB2 hcm2).mono fun e W' ⟨he, bel⟩ => ?_
  subst he
  exact ⟨_, rfl, _, _, _, [], _, [], hW', trodAll_mk1 (shut_bool Try.underlying4 _), (trodAll_cons_mk (Below.trod laidOut (by kernel_rfl) (of_decide_eq_true (by kernel_rfl)) h0 bel lt0) (trodAll_cons_mk (shut_int Try.underlying5 w1) (trodAll_cons_mk (Below.trod laidOut (by kernel_rfl) (of_decide_eq_true (by kernel_rfl)) h2 bel lt2) trodAll_mk0))), rfl, bel.frame _, fun h => by cases h⟩

theorem over : Rows.kindBytesRow.holds Try.pinned (OpenSpec.ofChange Rows.kindBytesSpec) :=
  OpenClaim.holds_of_wide 5 Try.f5 rfl rfl rfl rfl rfl rfl rfl ⟨rfl, rfl, rfl, rfl, rfl⟩ rfl rfl rfl rfl rfl (by kernel_rfl) Try.func5 (by kernel_rfl)
    (of_decide_eq_true (by kernel_rfl)) (by unfold Func.isWrapper; first | (rw [if_pos (by decide +kernel)]; kernel_rfl) | (rw [if_neg (by decide +kernel)]; exact ⟨rfl, rfl⟩))
    (fun os started H enc _ => lifted os started H enc)

/-- The statement. -/
theorem proved : Rows.KindBytesSaid := over
end Go.Proofs.Ytcogjdpgnahjiaa.kindBytes
