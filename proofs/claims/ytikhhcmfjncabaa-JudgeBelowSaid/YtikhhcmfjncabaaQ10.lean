/-
  Fon3 Fon4 Fon Ixhan Ixwrg Sc1 Ixmis Sc2
-/
import Derived.Test.YtikhhcmfjncabaaQ02
import Derived.Test.YtikhhcmfjncabaaQ08
import Derived.Test.YtikhhcmfjncabaaQ09
import Derived.BigQuiet
set_option linter.unusedSimpArgs false
set_option linter.unusedVariables false
namespace Go.Proofs.Ytikhhcmfjncabaa
open Go.RowKit

set_option maxRecDepth 100000 in
set_option maxHeartbeats 4000000 in
theorem on_full (A B : Option Addr) (a : Addr) (n m k c d g : Nat) (ins outs ts : List Typ) (w : World) (hn : ins.length = n) (hm : outs.length = m) (hk : ts.length = k) (sn : Sq typL (· < w.heap.size) w A ins) (sm : Sq typL (· < w.heap.size) w B outs) (sk : Sq typL (· < w.heap.size) w (some a) ts)
    (hlt : ¬ k < n) (hg : g = k - n) (bn : n ≤ 1000) (bm : m ≤ 1000) (bk : k ≤ 1000) (bg : k ≤ g) (bg2 : g ≤ 9223372036854775807) (bd : m ≤ d) (bd2 : d ≤ 9223372036854775807) : Calls Try.prog 36 #[.agg #[.slice A n c, .slice B m d], .slice (some a) k g] w (Moved (movB ts ins outs) w) := by
  have HN := Lib.hid hn
  have HM := Lib.hid hm
  have HK := Lib.hid hk
  have SN := Lib.hid sn
  have SM := Lib.hid sm
  have SK := Lib.hid sk
  have HB0 : Hid (∀ o : Obj, Below w.heap.size w (w.alloc o)) := fun o => below_new w o
  clear hn hm hk sn sm sk
  obtain ⟨b, hb⟩ : ∃ b : Nat, k - n = b := ⟨_, rfl⟩
  have HBe : Hid (ts.length - ins.length = b) := by show _ = b; rw [HK.out, HN.out]; exact hb
  have HLe : Hid (ins.length ≤ ts.length) := by show _ ≤ _; rw [HK.out, HN.out]; omega
  have e1 : (k : Int) - (n : Int) = (b : Int) := by omega
  have e2 : b ≤ k := by omega
  have e3 : b ≤ g := by omega
  have e4 : (b : Int) ≤ (k : Int) := by omega
  have e5 : (b : Int) ≤ (g : Int) := by omega
  have e6 : k - b = n := by omega
  have e7 : (k : Int) ≤ (g : Int) := by omega
  have e8 : decide ((b : Int) < 0) = false := by simp
  have TE : Hid (∀ w1 D' c', Below w.heap.size w w1 → (b < k → D' = (some a).map (·.add (b * 2))) → Calls Try.prog 9 #[.slice D' n c', .slice A n c, .func (.func 10) #[] #[]] w1 fun e w' => e = .returned (.bool (belowT (ts.drop b) ins)) ∧ Below w1.heap.size w1 w') := fun w1 D' c' hb1 hd =>
    equalFunc_sub D' A n n c' c (ts.drop b) ins w1 (by rw [List.length_drop, HK.out]; exact e6) HN.out (sq_from ((SK.out.below hb1 (Nat.le_refl _)).wide fun i hi => Nat.lt_of_lt_of_le hi hb1.size) D' (by rw [HK.out]; exact hd)) ((SN.out.below hb1 (Nat.le_refl _)).wide fun i hi => Nat.lt_of_lt_of_le hi hb1.size) (by omega) (by omega)
  have TC : Hid (∀ w1 G, Below w.heap.size w w1 → Blk w1 G 22 #[.slice (some a) b g, .slice B m d] → Calls Try.prog 65 #[.slice (some ⟨G, 0, none⟩) 2 2] w1 fun e w' => ∃ v, e = .returned v ∧ w'.ownsRow w1.heap.size 27 2 v (ts.take b ++ outs).length (T2 (ts.take b ++ outs)) ∧ Below w1.heap.size w1 w') := fun w1 G hb1 hblk => by
    have lb : (ts.take b).length = b := by rw [List.length_take, HK.out]; omega
    have r0 : tysL.R (· < w1.heap.size) w1 [.slice (some a) b g] (ts.take b) := ⟨some a, g, by rw [lb], by omega, by unfold maxLen; omega, ((SK.out.below hb1 (Nat.le_refl _)).wide fun i hi => Nat.lt_of_lt_of_le hi hb1.size).take b⟩
    have r1 : tysL.R (· < w1.heap.size) w1 [.slice B m d] outs := ⟨B, d, by rw [HM.out], by rw [HM.out]; exact bd, by unfold maxLen; omega, (SM.out.below hb1 (Nat.le_refl _)).wide fun i hi => Nat.lt_of_lt_of_le hi hb1.size⟩
    obtain ⟨A9, c9, e9, -, -, hsq⟩ := two_sl (L := tysL) hblk hblk.lt rfl r0 r1
    simp only [List.cons.injEq, Value.slice.injEq, and_true] at e9
    obtain ⟨rfl, -, -⟩ := e9
    have := concat_tys (some ⟨G, 0, none⟩) 2 2 [ts.take b, outs] w1 rfl hsq (by simp only [List.flatten_cons, List.flatten_nil, List.append_nil, List.length_append, lb, HM.out]; omega) (by omega)
    simpa using this
  have HC : Hid (∀ w1, Below (w.heap.size + 1) (w.alloc (.cells #[.slice A n c, .slice B m d] 79)) w1 → w1.cell? ⟨w.heap.size, 0, none⟩ = some (.slice A n c) ∧ w1.cell? ⟨w.heap.size, 1, none⟩ = some (.slice B m d)) := fun w1 hb1 => ⟨(hb1.cell (p := ⟨w.heap.size, 0, none⟩) (by simp)).trans (by simp [go_sem]), (hb1.cell (p := ⟨w.heap.size, 1, none⟩) (by simp)).trans (by simp [go_sem])⟩
  have HV0 : Hid (belowT (ts.drop b) ins = false → movB ts ins outs = none) := fun h => movB_not HBe.out h
  have HV1 : Hid (8 < b + m → movB ts ins outs = none) := fun h => movB_many HBe.out (by rw [HM.out]; exact h)
  have HV2 : Hid (belowT (ts.drop b) ins = true → b + m ≤ 8 → movB ts ins outs = some (ts.take b ++ outs)) := fun h1 h2 => movB_yes HBe.out HLe.out h1 (by rw [HM.out]; exact h2)
  rw [hb] at hg
  clear hlt hb
  have hg2 := hg.symm
  clear hg
  subst hg2
  have TE2 : Hid (∀ w1 c', Below w.heap.size w w1 → Calls Try.prog 9 #[.slice (some a) n c', .slice A n c, .func (.func 10) #[] #[]] w1 fun e w' => e = .returned (.bool (belowT (ts.drop b) ins)) ∧ Below w1.heap.size w1 w') := fun w1 c' hb1 => TE.out w1 _ c' hb1 (fun h => by omega)
  clear TE
  cases hbt : belowT (ts.drop b) ins
  case' true => by_cases h8 : 8 < b + m
  all_goals
    rw [hbt] at TE2
    have HBT := Lib.hid hbt
    clear hbt
    have hw1 : IntKind.i64.wrap ((b : Int) + (m : Int)) = (b : Int) + (m : Int) := by rw [IntKind.wrap_i64]; omega
    try (have h8i : decide ((8 : Int) < (b : Int) + (m : Int)) = decide (8 < b + m) := by rw [decide_eq_decide]; omega)
    try rw [decide_eq_true h8] at h8i
    try rw [decide_eq_false h8] at h8i
    go_enter Try.func36, Try.ntmps36
    go_wp2_with fail
    refine wp_world fun U hU => ?_
    have HBU : Hid (Below w.heap.size w U) := by show Below _ _ _; rw [hU]; exact HB0.out _
    have HCU : Hid (U.cell? ⟨w.heap.size, 0, none⟩ = some (.slice A n c) ∧ U.cell? ⟨w.heap.size, 1, none⟩ = some (.slice B m d)) := by show _ ∧ _; rw [hU]; exact HC.out _ (Below.refl _ _)
    have hsU : w.heap.size < U.heap.size := by rw [hU]; simp
    clear hU
    have HBR : Hid (∀ dq osq, Below w.heap.size w (Go.Sort.grow (redrawn U dq) osq)) := fun dq osq => HBU.out.trans ((below_regrown U dq osq).mono HBU.out.size)
    have x0 := cell_regrown HCU.out.1
    have x1 := cell_regrown HCU.out.2
    refine wp_region_quiet_below (by kernel_rfl) (by kernel_rfl) ?_
    repeat (quiet_step (first | with_reducible exact Calls.regrown_of (TE2.out _ _ (HBR.out _ _))))
    refine wpQuiet_nil ?_
    intro _ hw'
    obtain ⟨⟨dq, osq⟩, hw''⟩ := hw'
    subst hw''
    have HB1 := Lib.hid (HBR.out dq osq)
    have HS1 : Hid (w.heap.size < (Go.Sort.grow (redrawn U dq) osq).heap.size) := Nat.lt_of_lt_of_le hsU (below_regrown U dq osq).size
    go_wp2_with fail
    first
    | (go_ret2
       exact ⟨HB1.out, .inl ⟨by first | exact HV0.out HBT.out | exact HV1.out h8, rfl⟩⟩)
    | skip
  all_goals
    refine wp_world fun V hV => ?_
    have HBV : Hid (Below w.heap.size w V) := by show Below _ _ _; rw [hV]; exact HB1.out
    have HCV : Hid (V.cell? ⟨w.heap.size, 1, none⟩ = some (.slice B m d)) := by show _ = _; rw [hV]; exact x1 dq osq
    have hsV : w.heap.size < V.heap.size := by rw [hV]; exact HS1.out
    have HVX := Lib.hid (HV2.out HBT.out (by omega))
    clear hV x0 x1
    go_region_held3 (fun w' => w'.cell? ⟨w.heap.size, 1, none⟩ = some (.slice B m d))
      (first | exact HCV.out | exact SS4.out | exact (((below_new V _).cell (p := ⟨w.heap.size, 1, none⟩) hsV).trans HCV.out) | exact (((below_new V _).drew.cell (p := ⟨w.heap.size, 1, none⟩) hsV).trans HCV.out))
      (first
      | (go_at_call 65
         refine (TC.out _ V.heap.size ((HBV.out.alloc HBV.out.size _).drew) (blk_new V _ _)).mono ?_
         rintro e w4 ⟨v4, rfl, hown4, hb4⟩
         have HO4 := Lib.hid hown4
         have HB4 : Hid (Below V.heap.size V w4) := (by show Below _ _ _; first | exact (below_new V _).trans (hb4.mono (by simp)) | exact (below_new V _).drew.trans (hb4.mono (by simp)))
         have SS4 := Lib.hid ((HB4.out.cell (p := ⟨w.heap.size, 1, none⟩) hsV).trans HCV.out)
         clear hown4 hb4))
    go_wp2_with fail
    go_ret2
    refine ⟨HBV.out.trans (HB4.out.mono HBV.out.size), .inr ⟨_, v4, HVX.out, rfl, ?_⟩⟩
    refine ⟨HO4.out.1, ?_⟩
    rcases HO4.out.2 with h | ⟨g', cap, cur, e, hb2, rest⟩
    · exact .inl h
    · exact .inr ⟨g', cap, cur, e, by have := HBV.out.size; simp at hb2; omega, rest⟩
end Go.Proofs.Ytikhhcmfjncabaa
namespace Go.Proofs.Ytikhhcmfjncabaa
open Go.RowKit

set_option maxRecDepth 100000 in
set_option maxHeartbeats 4000000 in
theorem on_none (A B : Option Addr) (m c d : Nat) (ins outs ts : List Typ) (w : World) (hn : ins.length = 0) (hm : outs.length = m) (hk : ts.length = 0) (sn : Sq typL (· < w.heap.size) w A ins) (sm : Sq typL (· < w.heap.size) w B outs) (sk : Sq typL (· < w.heap.size) w none ts)
    (bm : m ≤ 1000) (bd : m ≤ d) (bd2 : d ≤ 9223372036854775807) : Calls Try.prog 36 #[.agg #[.slice A 0 c, .slice B m d], .slice none 0 0] w (Moved (movB ts ins outs) w) := by
  obtain rfl : ins = [] := List.eq_nil_of_length_eq_zero hn
  obtain rfl : ts = [] := List.eq_nil_of_length_eq_zero hk
  have HM := Lib.hid hm
  have SM := Lib.hid sm
  have HB0 : Hid (∀ o : Obj, Below w.heap.size w (w.alloc o)) := fun o => below_new w o
  clear hn hm hk sn sm sk
  have TE2 : Hid (∀ w1 c', Below w.heap.size w w1 → Calls Try.prog 9 #[.slice none 0 c', .slice A 0 c, .func (.func 10) #[] #[]] w1 fun e w' => e = .returned (.bool true) ∧ Below w1.heap.size w1 w') := fun w1 c' hb1 =>
    equalFunc_sub none A 0 0 c' c [] [] w1 rfl rfl (Sq.nil _ _ _ _) (Sq.nil _ _ _ _) (by omega) (by omega)
  have TC : Hid (∀ w1 G, Below w.heap.size w w1 → Blk w1 G 22 #[.slice none 0 0, .slice B m d] → Calls Try.prog 65 #[.slice (some ⟨G, 0, none⟩) 2 2] w1 fun e w' => ∃ v, e = .returned v ∧ w'.ownsRow w1.heap.size 27 2 v outs.length (T2 outs) ∧ Below w1.heap.size w1 w') := fun w1 G hb1 hblk => by
    have r0 : tysL.R (· < w1.heap.size) w1 [.slice none 0 0] [] := nil_sl _ _ _
    have r1 : tysL.R (· < w1.heap.size) w1 [.slice B m d] outs := ⟨B, d, by rw [HM.out], by rw [HM.out]; exact bd, by unfold maxLen; omega, (SM.out.below hb1 (Nat.le_refl _)).wide fun i hi => Nat.lt_of_lt_of_le hi hb1.size⟩
    obtain ⟨A9, c9, e9, -, -, hsq⟩ := two_sl (L := tysL) hblk hblk.lt rfl r0 r1
    simp only [List.cons.injEq, Value.slice.injEq, and_true] at e9
    obtain ⟨rfl, -, -⟩ := e9
    have := concat_tys (some ⟨G, 0, none⟩) 2 2 [[], outs] w1 rfl hsq (by simp only [List.flatten_cons, List.flatten_nil, List.append_nil, List.nil_append, HM.out]; omega) (by omega)
    simpa using this
  have HC : Hid (∀ w1, Below (w.heap.size + 1) (w.alloc (.cells #[.slice A 0 c, .slice B m d] 79)) w1 → w1.cell? ⟨w.heap.size, 0, none⟩ = some (.slice A 0 c) ∧ w1.cell? ⟨w.heap.size, 1, none⟩ = some (.slice B m d)) := fun w1 hb1 => ⟨(hb1.cell (p := ⟨w.heap.size, 0, none⟩) (by simp)).trans (by simp [go_sem]), (hb1.cell (p := ⟨w.heap.size, 1, none⟩) (by simp)).trans (by simp [go_sem])⟩
  have HV1 : Hid (8 < m → movB [] [] outs = none) := fun h => movB_many (b := 0) rfl (by rw [HM.out]; omega)
  have HV2 : Hid (m ≤ 8 → movB [] [] outs = some outs) := fun h2 => movB_yes (s := []) (b := 0) rfl (Nat.le_refl _) rfl (by rw [HM.out]; omega)
  by_cases h8 : 8 < m
  all_goals
    have hw1 : IntKind.i64.wrap (m : Int) = (m : Int) := by rw [IntKind.wrap_i64]; omega
    have h8i : decide ((8 : Int) < (m : Int)) = decide (8 < m) := by rw [decide_eq_decide]; omega
    try rw [decide_eq_true h8] at h8i
    try rw [decide_eq_false h8] at h8i
    go_enter Try.func36, Try.ntmps36
    go_wp2_with fail
    refine wp_world fun U hU => ?_
    have HBU : Hid (Below w.heap.size w U) := by show Below _ _ _; rw [hU]; exact HB0.out _
    have HCU : Hid (U.cell? ⟨w.heap.size, 0, none⟩ = some (.slice A 0 c) ∧ U.cell? ⟨w.heap.size, 1, none⟩ = some (.slice B m d)) := by show _ ∧ _; rw [hU]; exact HC.out _ (Below.refl _ _)
    have hsU : w.heap.size < U.heap.size := by rw [hU]; simp
    clear hU
    have HBR : Hid (∀ dq osq, Below w.heap.size w (Go.Sort.grow (redrawn U dq) osq)) := fun dq osq => HBU.out.trans ((below_regrown U dq osq).mono HBU.out.size)
    have x0 := cell_regrown HCU.out.1
    have x1 := cell_regrown HCU.out.2
    refine wp_region_quiet_below (by kernel_rfl) (by kernel_rfl) ?_
    repeat (quiet_step (first | with_reducible exact Calls.regrown_of (TE2.out _ _ (HBR.out _ _))))
    refine wpQuiet_nil ?_
    intro _ hw'
    obtain ⟨⟨dq, osq⟩, hw''⟩ := hw'
    subst hw''
    have HB1 := Lib.hid (HBR.out dq osq)
    have HS1 : Hid (w.heap.size < (Go.Sort.grow (redrawn U dq) osq).heap.size) := Nat.lt_of_lt_of_le hsU (below_regrown U dq osq).size
    go_wp2_with fail
    first
    | (go_ret2
       exact ⟨HB1.out, .inl ⟨by first | exact HV1.out h8, rfl⟩⟩)
    | skip
  all_goals
    refine wp_world fun V hV => ?_
    have HBV : Hid (Below w.heap.size w V) := by show Below _ _ _; rw [hV]; exact HB1.out
    have HCV : Hid (V.cell? ⟨w.heap.size, 1, none⟩ = some (.slice B m d)) := by show _ = _; rw [hV]; exact x1 dq osq
    have hsV : w.heap.size < V.heap.size := by rw [hV]; exact HS1.out
    have HVX := Lib.hid (HV2.out (by omega))
    clear hV x0 x1
    go_region_held3 (fun w' => w'.cell? ⟨w.heap.size, 1, none⟩ = some (.slice B m d))
      (first | exact HCV.out | exact SS4.out | exact (((below_new V _).cell (p := ⟨w.heap.size, 1, none⟩) hsV).trans HCV.out) | exact (((below_new V _).drew.cell (p := ⟨w.heap.size, 1, none⟩) hsV).trans HCV.out))
      (first
      | (go_at_call 65
         refine (TC.out _ V.heap.size ((HBV.out.alloc HBV.out.size _).drew) (blk_new V _ _)).mono ?_
         rintro e w4 ⟨v4, rfl, hown4, hb4⟩
         have HO4 := Lib.hid hown4
         have HB4 : Hid (Below V.heap.size V w4) := (by show Below _ _ _; first | exact (below_new V _).trans (hb4.mono (by simp)) | exact (below_new V _).drew.trans (hb4.mono (by simp)))
         have SS4 := Lib.hid ((HB4.out.cell (p := ⟨w.heap.size, 1, none⟩) hsV).trans HCV.out)
         clear hown4 hb4))
    go_wp2_with fail
    go_ret2
    refine ⟨HBV.out.trans (HB4.out.mono HBV.out.size), .inr ⟨_, v4, HVX.out, rfl, ?_⟩⟩
    refine ⟨HO4.out.1, ?_⟩
    rcases HO4.out.2 with h | ⟨g', cap, cur, e, hb2, rest⟩
    · exact .inl h
    · exact .inr ⟨g', cap, cur, e, by have := HBV.out.size; simp at hb2; omega, rest⟩
end Go.Proofs.Ytikhhcmfjncabaa
namespace Go.Proofs.Ytikhhcmfjncabaa
open Go.RowKit

theorem on_any (A B D : Option Addr) (n m k c d g : Nat) (ins outs ts : List Typ) (w : World) (hn : ins.length = n) (hm : outs.length = m) (hk : ts.length = k) (sn : Sq typL (· < w.heap.size) w A ins) (sm : Sq typL (· < w.heap.size) w B outs) (sk : Sq typL (· < w.heap.size) w D ts)
    (bn : n ≤ 1000) (bm : m ≤ 1000) (bk : k ≤ 1000) (bg : k ≤ g) (bg2 : g ≤ 9223372036854775807) (bd : m ≤ d) (bd2 : d ≤ 9223372036854775807) (hnil : D = none → g = 0) : Calls Try.prog 36 #[.agg #[.slice A n c, .slice B m d], .slice D k g] w (Moved (movB ts ins outs) w) := by
  by_cases hlt : k < n
  · exact on_few A B D n m k c d g ins outs ts w hn hm hk sn sm sk hlt bn bm bk bg bg2 bd bd2
  · cases D with
    | none =>
      obtain rfl := hnil rfl
      obtain rfl : k = 0 := by omega
      obtain rfl : n = 0 := by omega
      exact on_none A B m c d ins outs ts w hn hm hk sn sm sk bm bd bd2
    | some a =>
      by_cases hg : g = k - n
      · exact on_full A B a n m k c d g ins outs ts w hn hm hk sn sm sk hlt hg bn bm bk bg bg2 bd bd2
      · exact on_far A B a n m k c d g ins outs ts w hn hm hk sn sm sk hlt hg bn bm bk bg bg2 bd bd2
end Go.Proofs.Ytikhhcmfjncabaa
namespace Go.Proofs.Ytikhhcmfjncabaa
open Go.RowKit

set_option maxRecDepth 100000 in
set_option maxHeartbeats 1000000 in
theorem index_han (A : Option Addr) (n c : Nat) (xs : List Typ) (g : Typ → Bool) (w : World) (hl : xs.length = n) (h : Sq typL (· < w.heap.size) w A xs) (hn2 : n ≤ 9223372036854775807)
    (hG : ∀ (w1 : World) (cs : List Value) (x : Typ), Below w.heap.size w w1 → x ∈ xs → typL.R (· < w1.heap.size) w1 cs x → Calls Try.prog 27 #[vAgg cs] w1 (Tells (g x) w1)) :
    Calls Try.prog 52 #[.slice A n c, .func (.func 27) #[] #[]] w fun e w' => ∃ k : Int, e = .returned (.int .i64 k) ∧ decide (0 ≤ k) = xs.any g ∧ Below w.heap.size w w' := by
  have HL := Lib.hid hl
  have HS := Lib.hid h
  have HP0 := Lib.hid hG
  clear hl h hG
  go_enter Try.func52, Try.ntmps52
  go_wp2_with fail
  go_loopw [8] (fun i wr => ∃ k : Nat, k ≤ n ∧ i = .int .i64 (k : Nat) ∧ (xs.take k).any g = false ∧ Below w.heap.size w wr) (fun i _ => n - (intOf i).toNat)
  case atStart => exact ⟨0, Nat.zero_le _, rfl, by simp, Below.refl _ _⟩
  case round =>
    obtain ⟨k, hk, rfl, hall, hbel⟩ := hrel
    have HA := Lib.hid hall
    have HB := Lib.hid hbel
    have hs := hbel.size
    clear hall hbel
    by_cases hlt : k < n
    · skip
      obtain ⟨x, hx⟩ : ∃ x, xs[k]? = some x := ⟨xs[k]'(by rw [HL.out]; exact hlt), List.getElem?_eq_getElem _⟩
      have hmem : x ∈ xs := List.mem_of_getElem? hx
      obtain ⟨a, cs, rfl, hab, hc, hr⟩ := HS.out.at hx
      have HX := Lib.hid hx
      clear hx
      have HR := Lib.hid hr
      obtain ⟨rfl, -, -⟩ := hr
      have c0 := (HB.out.cell (p := a.add (k * 2)) (by rw [addBlock]; exact hab)).trans (hc 0 _ rfl)
      have c1 := (HB.out.cell (p := a.add (k * 2 + 1)) (by rw [addBlock]; exact hab)).trans (hc 1 _ rfl)
      rw [next_cell a (k * 2) 1 (by omega)] at c1
      have HP : Hid (∀ w1, Below w.heap.size w w1 → Calls Try.prog 27 #[.agg #[.int .i64 x.1, .int .i64 x.2]] w1 (Tells (g x) w1)) := fun w1 hb => HP0.out w1 [.int .i64 x.1, .int .i64 x.2] x hb hmem (typL.wide (typL.keep HR.out fun b hb1 => hb.block b hb1) fun b hb1 => Nat.lt_of_lt_of_le hb1 hb.size)
      clear hc
      have hk0 : 0 ≤ (k : Int) := by omega
      cases hg : g x
      · rw [hg] at HP
        have HG := Lib.hid hg
        clear hg
        go_wp2_with (first
          | (go_at_call 27
             refine (HP.out _ HB.out).mono ?_
             rintro e w2 ⟨rfl, hb2⟩
             have Hb2 := Lib.hid (HB.out.trans (hb2.mono hs))
             clear hb2))
        refine ⟨⟨k + 1, by omega, by simp, any_take HA.out HX.out HG.out, Hb2.out⟩, by simp [intOf]; omega⟩
      · rw [hg] at HP
        have e : xs.any g = true := any_here hmem hg
        have E := Lib.hid e
        clear e hg
        go_wp2_with (first
          | (go_at_call 27
             refine (HP.out _ HB.out).mono ?_
             rintro e w2 ⟨rfl, hb2⟩
             have Hb2 := Lib.hid (HB.out.trans (hb2.mono hs))
             clear hb2))
        go_ret
        exact ⟨_, rfl, by rw [E.out]; simp, Hb2.out⟩
    · obtain rfl : k = n := by omega
      go_wp2_with fail
      go_ret
      exact ⟨_, rfl, by rw [any_full HA.out HL.out]; rfl, HB.out⟩

set_option maxRecDepth 100000 in
theorem contains_han (A : Option Addr) (n c : Nat) (xs : List Typ) (g : Typ → Bool) (w : World) (hl : xs.length = n) (h : Sq typL (· < w.heap.size) w A xs) (hn2 : n ≤ 9223372036854775807)
    (hG : ∀ (w1 : World) (cs : List Value) (x : Typ), Below w.heap.size w w1 → x ∈ xs → typL.R (· < w1.heap.size) w1 cs x → Calls Try.prog 27 #[vAgg cs] w1 (Tells (g x) w1)) :
    Calls Try.prog 26 #[.slice A n c, .func (.func 27) #[] #[]] w (Tells (xs.any g) w) := by
  have HC := Lib.hid (index_han A n c xs g w hl h hn2 hG)
  clear hl h hG
  generalize xs.any g = ab at *
  go_enter Try.func26, Try.ntmps26
  go_wp2_with (first | (go_at_call 52; refine HC.out.mono ?_; rintro e w1 ⟨k, rfl, hk, hb⟩; have HB := Lib.hid hb; have HK := Lib.hid hk; clear hb hk))
  go_ret
  exact ⟨by rw [← HK.out]; rfl, HB.out⟩
end Go.Proofs.Ytikhhcmfjncabaa
namespace Go.Proofs.Ytikhhcmfjncabaa
open Go.RowKit

set_option maxRecDepth 100000 in
set_option maxHeartbeats 1000000 in
theorem index_wrg (A : Option Addr) (n c : Nat) (xs : List Typ) (g : Typ → Bool) (w : World) (hl : xs.length = n) (h : Sq typL (· < w.heap.size) w A xs) (hn2 : n ≤ 9223372036854775807)
    (hG : ∀ (w1 : World) (cs : List Value) (x : Typ), Below w.heap.size w w1 → x ∈ xs → typL.R (· < w1.heap.size) w1 cs x → Calls Try.prog 57 #[vAgg cs] w1 (Tells (g x) w1)) :
    Calls Try.prog 52 #[.slice A n c, .func (.func 57) #[] #[]] w fun e w' => ∃ k : Int, e = .returned (.int .i64 k) ∧ decide (0 ≤ k) = xs.any g ∧ Below w.heap.size w w' := by
  have HL := Lib.hid hl
  have HS := Lib.hid h
  have HP0 := Lib.hid hG
  clear hl h hG
  go_enter Try.func52, Try.ntmps52
  go_wp2_with fail
  go_loopw [8] (fun i wr => ∃ k : Nat, k ≤ n ∧ i = .int .i64 (k : Nat) ∧ (xs.take k).any g = false ∧ Below w.heap.size w wr) (fun i _ => n - (intOf i).toNat)
  case atStart => exact ⟨0, Nat.zero_le _, rfl, by simp, Below.refl _ _⟩
  case round =>
    obtain ⟨k, hk, rfl, hall, hbel⟩ := hrel
    have HA := Lib.hid hall
    have HB := Lib.hid hbel
    have hs := hbel.size
    clear hall hbel
    by_cases hlt : k < n
    · skip
      obtain ⟨x, hx⟩ : ∃ x, xs[k]? = some x := ⟨xs[k]'(by rw [HL.out]; exact hlt), List.getElem?_eq_getElem _⟩
      have hmem : x ∈ xs := List.mem_of_getElem? hx
      obtain ⟨a, cs, rfl, hab, hc, hr⟩ := HS.out.at hx
      have HX := Lib.hid hx
      clear hx
      have HR := Lib.hid hr
      obtain ⟨rfl, -, -⟩ := hr
      have c0 := (HB.out.cell (p := a.add (k * 2)) (by rw [addBlock]; exact hab)).trans (hc 0 _ rfl)
      have c1 := (HB.out.cell (p := a.add (k * 2 + 1)) (by rw [addBlock]; exact hab)).trans (hc 1 _ rfl)
      rw [next_cell a (k * 2) 1 (by omega)] at c1
      have HP : Hid (∀ w1, Below w.heap.size w w1 → Calls Try.prog 57 #[.agg #[.int .i64 x.1, .int .i64 x.2]] w1 (Tells (g x) w1)) := fun w1 hb => HP0.out w1 [.int .i64 x.1, .int .i64 x.2] x hb hmem (typL.wide (typL.keep HR.out fun b hb1 => hb.block b hb1) fun b hb1 => Nat.lt_of_lt_of_le hb1 hb.size)
      clear hc
      have hk0 : 0 ≤ (k : Int) := by omega
      cases hg : g x
      · rw [hg] at HP
        have HG := Lib.hid hg
        clear hg
        go_wp2_with (first
          | (go_at_call 57
             refine (HP.out _ HB.out).mono ?_
             rintro e w2 ⟨rfl, hb2⟩
             have Hb2 := Lib.hid (HB.out.trans (hb2.mono hs))
             clear hb2))
        refine ⟨⟨k + 1, by omega, by simp, any_take HA.out HX.out HG.out, Hb2.out⟩, by simp [intOf]; omega⟩
      · rw [hg] at HP
        have e : xs.any g = true := any_here hmem hg
        have E := Lib.hid e
        clear e hg
        go_wp2_with (first
          | (go_at_call 57
             refine (HP.out _ HB.out).mono ?_
             rintro e w2 ⟨rfl, hb2⟩
             have Hb2 := Lib.hid (HB.out.trans (hb2.mono hs))
             clear hb2))
        go_ret
        exact ⟨_, rfl, by rw [E.out]; simp, Hb2.out⟩
    · obtain rfl : k = n := by omega
      go_wp2_with fail
      go_ret
      exact ⟨_, rfl, by rw [any_full HA.out HL.out]; rfl, HB.out⟩

set_option maxRecDepth 100000 in
theorem contains_wrg (A : Option Addr) (n c : Nat) (xs : List Typ) (g : Typ → Bool) (w : World) (hl : xs.length = n) (h : Sq typL (· < w.heap.size) w A xs) (hn2 : n ≤ 9223372036854775807)
    (hG : ∀ (w1 : World) (cs : List Value) (x : Typ), Below w.heap.size w w1 → x ∈ xs → typL.R (· < w1.heap.size) w1 cs x → Calls Try.prog 57 #[vAgg cs] w1 (Tells (g x) w1)) :
    Calls Try.prog 26 #[.slice A n c, .func (.func 57) #[] #[]] w (Tells (xs.any g) w) := by
  have HC := Lib.hid (index_wrg A n c xs g w hl h hn2 hG)
  clear hl h hG
  generalize xs.any g = ab at *
  go_enter Try.func26, Try.ntmps26
  go_wp2_with (first | (go_at_call 52; refine HC.out.mono ?_; rintro e w1 ⟨k, rfl, hk, hb⟩; have HB := Lib.hid hb; have HK := Lib.hid hk; clear hb hk))
  go_ret
  exact ⟨by rw [← HK.out]; rfl, HB.out⟩
end Go.Proofs.Ytikhhcmfjncabaa
namespace Go.Proofs.Ytikhhcmfjncabaa
open Go.RowKit

theorem isHan_any (x : Typ) (w : World) (cs : List Value) (hr : typL.R (· < w.heap.size) w cs x) : Calls Try.prog 27 #[vAgg cs] w (Tells (hanB x) w) := by
  obtain ⟨rfl, -, -⟩ := hr
  show Calls Try.prog 27 #[.agg #[.int .i64 x.1, .int .i64 x.2]] w (Tells (hanB x) w)
  have HD : Hid (hanB x = (x.1 == 5)) := by show hanB x = _; rw [Bool.eq_iff_iff]; simp [hanB]
  generalize hanB x = gd at *
  generalize x.1 = q1 at *
  generalize x.2 = q2 at *
  go_enter Try.func27, Try.ntmps27
  go_wp2_with fail
  go_ret
  exact ⟨by rw [HD.out]; rfl, (Below.refl _ _).alloc (Nat.le_refl _) _⟩

theorem wrong_any (x : Typ) (w : World) (cs : List Value) (hr : typL.R (· < w.heap.size) w cs x) : Calls Try.prog 57 #[vAgg cs] w (Tells (!hostB x) w) := by
  have HC : Hid (∀ w1, Calls Try.prog 27 #[.agg #[.int .i64 x.1, .int .i64 x.2]] w1 (Tells (hanB x) w1)) := fun w1 => isHan_any x w1 _ ⟨rfl, hr.2⟩
  obtain ⟨rfl, -, -⟩ := hr
  show Calls Try.prog 57 #[.agg #[.int .i64 x.1, .int .i64 x.2]] w (Tells (!hostB x) w)
  have HB0 : Hid (∀ o : Obj, Below w.heap.size w (w.alloc o)) := fun o => (Below.refl _ _).alloc (Nat.le_refl _) _
  by_cases h : x.1 = 1
  · have HD : Hid (hostB x = true) := by show hostB x = _; simp [hostB, h]
    have b : (x.1 != 1) = false := by simpa using h
    clear h
    generalize hostB x = gd at *
    generalize x.1 = q1 at *
    generalize x.2 = q2 at *
    go_enter Try.func57, Try.ntmps57
    go_wp2_with fail
    go_ret
    exact ⟨by rw [HD.out]; rfl, HB0.out _⟩
  · have HD : Hid (hostB x = hanB x) := by show hostB x = _; simp [hostB, hanB, h]
    have b : (x.1 != 1) = true := by simpa using h
    clear h
    generalize hostB x = gd at *
    generalize hanB x = ge at *
    generalize x.1 = q1 at *
    generalize x.2 = q2 at *
    go_enter Try.func57, Try.ntmps57
    go_wp2_with (first | (go_at_call 27; refine (HC.out _).mono ?_; rintro e w1 ⟨rfl, hb⟩; have HB := Lib.hid ((HB0.out _).trans (hb.mono (by simp))); clear hb))
    go_ret
    exact ⟨by rw [HD.out]; rfl, HB.out⟩

set_option maxRecDepth 100000 in
theorem wrongImport_any (x : Imp) (w : World) (cs : List Value) (hr : impL.R (· < w.heap.size) w cs x) : Calls Try.prog 32 #[vAgg cs] w (Tells (badImp x) w) := by
  obtain ⟨p0, rfl, i1, i2, ⟨A4, d4, e4, l4, m4, s4⟩⟩ := hr
  simp only [List.cons.injEq, and_true] at e4
  subst e4
  show Calls Try.prog 32 #[.agg #[.slice A4 x.args.length d4, .int .i64 x.ret.1, .int .i64 x.ret.2]] w (Tells (badImp x) w)
  obtain ⟨n, hn⟩ : ∃ n, x.args.length = n := ⟨_, rfl⟩
  have hn2 : n ≤ 9223372036854775807 := by unfold maxLen at m4; omega
  have T0 : Hid (∀ w1, Below w.heap.size w w1 → Calls Try.prog 26 #[.slice A4 n d4, .func (.func 57) #[] #[]] w1 (Tells (x.args.any fun t => !hostB t) w1)) := fun w1 hb =>
    contains_wrg A4 n d4 x.args (fun t => !hostB t) w1 hn ((s4.keep fun b hb1 => hb.block b hb1).wide fun b hb1 => Nat.lt_of_lt_of_le hb1 hb.size) hn2 fun w2 cs y _ _ hr => wrong_any y w2 cs hr
  have T1 : Hid (∀ w1, Calls Try.prog 57 #[.agg #[.int .i64 x.ret.1, .int .i64 x.ret.2]] w1 (Tells (!hostB x.ret) w1)) := fun w1 => wrong_any x.ret w1 _ ⟨rfl, i1, i2⟩
  have HO : Hid (badImp x = ((x.args.any fun t => !hostB t) || !hostB x.ret)) := rfl
  rw [hn]
  clear hn l4 m4 s4 i1 i2
  generalize badImp x = gd at *
  generalize (x.args.any fun t => !hostB t) = b1 at *
  generalize (!hostB x.ret) = b2 at *
  generalize x.ret.1 = k1 at *
  generalize x.ret.2 = k2 at *
  have HB0 : Hid (Below w.heap.size w (w.alloc (.cells #[.slice A4 n d4, .int .i64 k1, .int .i64 k2] 73))) := (Below.refl _ _).alloc (Nat.le_refl _) _
  have HX1 : Hid (∀ w1, Below (w.alloc (.cells #[.slice A4 n d4, .int .i64 k1, .int .i64 k2] 73)).heap.size (w.alloc (.cells #[.slice A4 n d4, .int .i64 k1, .int .i64 k2] 73)) w1 → w1.cell? ⟨w.heap.size, 1, none⟩ = some (.int .i64 k1) ∧ w1.cell? ⟨w.heap.size, 2, none⟩ = some (.int .i64 k2)) := fun w1 h1 =>
    ⟨(h1.cell (p := ⟨w.heap.size, 1, none⟩) (by simp)).trans (by simp [go_sem]), (h1.cell (p := ⟨w.heap.size, 2, none⟩) (by simp)).trans (by simp [go_sem])⟩
  cases b1
  all_goals
    go_enter Try.func32, Try.ntmps32
    go_wp2_with (first
      | (go_at_call 26
         refine (T0.out _ HB0.out).mono ?_
         rintro e w1 ⟨rfl, hb1⟩
         have HB1 := Lib.hid (HB0.out.trans (hb1.mono HB0.out.size))
         obtain ⟨y1, y2⟩ := HX1.out w1 hb1
         clear hb1)
      | (go_at_call 57
         refine (T1.out _).mono ?_
         rintro e w2 ⟨rfl, hb2⟩
         have HB2 := Lib.hid (HB1.out.trans (hb2.mono HB1.out.size))
         clear hb2))
    go_ret
  · exact ⟨by rw [HO.out]; rfl, HB2.out⟩
  · exact ⟨by rw [HO.out]; rfl, HB1.out⟩
end Go.Proofs.Ytikhhcmfjncabaa
namespace Go.Proofs.Ytikhhcmfjncabaa
open Go.RowKit

set_option maxRecDepth 100000 in
set_option maxHeartbeats 1000000 in
theorem index_mis (A : Option Addr) (n c : Nat) (xs : List Ins) (g : Ins → Bool) (p7 : Addr) (p8 : Addr) (w : World) (hl : xs.length = n) (h : Sq insL (· < w.heap.size) w A xs) (hn2 : n ≤ 9223372036854775807)
    (hG : ∀ (w1 : World) (cs : List Value) (x : Ins), Below w.heap.size w w1 → x ∈ xs → insL.R (· < w1.heap.size) w1 cs x → Calls Try.prog 54 #[vAgg cs, .pointer (some p7), .pointer (some p8)] w1 (Tells (g x) w1)) :
    Calls Try.prog 53 #[.slice A n c, .func (.func 54) #[] #[.pointer (some p7), .pointer (some p8)]] w fun e w' => ∃ k : Int, e = .returned (.int .i64 k) ∧ decide (0 ≤ k) = xs.any g ∧ Below w.heap.size w w' := by
  have HL := Lib.hid hl
  have HS := Lib.hid h
  have HP0 := Lib.hid hG
  clear hl h hG
  go_enter Try.func53, Try.ntmps53
  go_wp2_with fail
  go_loopw [8] (fun i wr => ∃ k : Nat, k ≤ n ∧ i = .int .i64 (k : Nat) ∧ (xs.take k).any g = false ∧ Below w.heap.size w wr) (fun i _ => n - (intOf i).toNat)
  case atStart => exact ⟨0, Nat.zero_le _, rfl, by simp, Below.refl _ _⟩
  case round =>
    obtain ⟨k, hk, rfl, hall, hbel⟩ := hrel
    have HA := Lib.hid hall
    have HB := Lib.hid hbel
    have hs := hbel.size
    clear hall hbel
    by_cases hlt : k < n
    · skip
      obtain ⟨x, hx⟩ : ∃ x, xs[k]? = some x := ⟨xs[k]'(by rw [HL.out]; exact hlt), List.getElem?_eq_getElem _⟩
      have hmem : x ∈ xs := List.mem_of_getElem? hx
      obtain ⟨a, cs, rfl, hab, hc, hr⟩ := HS.out.at hx
      have HX := Lib.hid hx
      clear hx
      have HR := Lib.hid hr
      obtain ⟨rfl, -, -, -⟩ := hr
      have c0 := (HB.out.cell (p := a.add (k * 3)) (by rw [addBlock]; exact hab)).trans (hc 0 _ rfl)
      have c1 := (HB.out.cell (p := a.add (k * 3 + 1)) (by rw [addBlock]; exact hab)).trans (hc 1 _ rfl)
      rw [next_cell a (k * 3) 1 (by omega)] at c1
      have c2 := (HB.out.cell (p := a.add (k * 3 + 2)) (by rw [addBlock]; exact hab)).trans (hc 2 _ rfl)
      rw [next_cell a (k * 3) 2 (by omega)] at c2
      have HP : Hid (∀ w1, Below w.heap.size w w1 → Calls Try.prog 54 #[.agg #[.int .i64 x.1, .int .i64 x.2.1, .int .i64 x.2.2], .pointer (some p7), .pointer (some p8)] w1 (Tells (g x) w1)) := fun w1 hb => HP0.out w1 [.int .i64 x.1, .int .i64 x.2.1, .int .i64 x.2.2] x hb hmem (insL.wide (insL.keep HR.out fun b hb1 => hb.block b hb1) fun b hb1 => Nat.lt_of_lt_of_le hb1 hb.size)
      clear hc
      have hk0 : 0 ≤ (k : Int) := by omega
      cases hg : g x
      · rw [hg] at HP
        have HG := Lib.hid hg
        clear hg
        go_wp2_with (first
          | (go_at_call 54
             refine (HP.out _ HB.out).mono ?_
             rintro e w2 ⟨rfl, hb2⟩
             have Hb2 := Lib.hid (HB.out.trans (hb2.mono hs))
             clear hb2))
        refine ⟨⟨k + 1, by omega, by simp, any_take HA.out HX.out HG.out, Hb2.out⟩, by simp [intOf]; omega⟩
      · rw [hg] at HP
        have e : xs.any g = true := any_here hmem hg
        have E := Lib.hid e
        clear e hg
        go_wp2_with (first
          | (go_at_call 54
             refine (HP.out _ HB.out).mono ?_
             rintro e w2 ⟨rfl, hb2⟩
             have Hb2 := Lib.hid (HB.out.trans (hb2.mono hs))
             clear hb2))
        go_ret
        exact ⟨_, rfl, by rw [E.out]; simp, Hb2.out⟩
    · obtain rfl : k = n := by omega
      go_wp2_with fail
      go_ret
      exact ⟨_, rfl, by rw [any_full HA.out HL.out]; rfl, HB.out⟩

set_option maxRecDepth 100000 in
theorem contains_mis (A : Option Addr) (n c : Nat) (xs : List Ins) (g : Ins → Bool) (p7 : Addr) (p8 : Addr) (w : World) (hl : xs.length = n) (h : Sq insL (· < w.heap.size) w A xs) (hn2 : n ≤ 9223372036854775807)
    (hG : ∀ (w1 : World) (cs : List Value) (x : Ins), Below w.heap.size w w1 → x ∈ xs → insL.R (· < w1.heap.size) w1 cs x → Calls Try.prog 54 #[vAgg cs, .pointer (some p7), .pointer (some p8)] w1 (Tells (g x) w1)) :
    Calls Try.prog 28 #[.slice A n c, .func (.func 54) #[] #[.pointer (some p7), .pointer (some p8)]] w (Tells (xs.any g) w) := by
  have HC := Lib.hid (index_mis A n c xs g p7 p8 w hl h hn2 hG)
  clear hl h hG
  generalize xs.any g = ab at *
  go_enter Try.func28, Try.ntmps28
  go_wp2_with (first | (go_at_call 53; refine HC.out.mono ?_; rintro e w1 ⟨k, rfl, hk, hb⟩; have HB := Lib.hid hb; have HK := Lib.hid hk; clear hb hk))
  go_ret
  exact ⟨by rw [← HK.out]; rfl, HB.out⟩
end Go.Proofs.Ytikhhcmfjncabaa
namespace Go.Proofs.Ytikhhcmfjncabaa
open Go.RowKit

set_option maxRecDepth 100000 in
set_option maxHeartbeats 4000000 in
theorem missing1_any (A0 A1 A2 A3 A4 P0 P1 P2 : Option Addr) (n0 n1 n2 n3 n4 d0 d1 d2 d3 d4 u0 u1 u2 c0 c1 c2 : Nat) (r1 r2 : Int) (m : Mod) (f : Fn) (o a b : Int) (w : World) (B G : Nat) (h0 : m.recs.length = n0) (h1 : m.funcs.length = n1) (h2 : m.imps.length = n2) (h3 : m.ints.length = n3) (h4 : m.texts.length = n4) (g0 : f.args.length = u0) (g1 : f.locs.length = u1) (g2 : f.code.length = u2) (hn0 : n0 ≤ 9223372036854775807) (hu0 : u0 ≤ 1000) (hu1 : u1 ≤ 1000) (ha : 0 ≤ a ∧ a ≤ 255) (hb : 0 ≤ b ∧ b ≤ 255) (hR : Sq tysL (· < w.heap.size) w A0 m.recs) (hC : C5 B (.slice A0 n0 d0) (.slice A1 n1 d1) (.slice A2 n2 d2) (.slice A3 n3 d3) (.slice A4 n4 d4) w) (hD : C5 G (.slice P0 u0 c0) (.int .i64 r1) (.int .i64 r2) (.slice P1 u1 c1) (.slice P2 u2 c2) w) :
    Calls Try.prog 54 #[.agg #[.int .i64 o, .int .i64 a, .int .i64 b], .pointer (some ⟨B, 0, none⟩), .pointer (some ⟨G, 0, none⟩)] w (Tells (!namedB m f (o, a, b)) w) := by
  have HBel : Hid (Below w.heap.size w (w.alloc (.cells #[.int .i64 o, .int .i64 a, .int .i64 b] 29))) := (Below.refl _ _).alloc (Nat.le_refl _) _
  have hBl := World.block_lt_of_cell? w _ hC.1
  have hGl := World.block_lt_of_cell? w _ hD.1
  simp only at hBl hGl
  have hBn : B ≠ w.heap.size := by omega
  have hGn : G ≠ w.heap.size := by omega
  obtain ⟨x0, x1, x2, x3, x4⟩ := hC
  obtain ⟨y0, y1, y2, y3, y4⟩ := hD
  by_cases e0 : o = 0
  · subst e0
    have HN : Hid (namedB m f (0, a, b) = decide (a < (n3 : Int))) := by show namedB _ _ _ = _; simp [namedB, h0, h1, h2, h3, h4, g0, g1, g2]
    generalize namedB m f (0, a, b) = nb at *
    clear h0 h1 h2 h3 h4 g0 g1 g2 hR
    go_enter Try.func54, Try.ntmps54
    go_wp2_with fail
    go_ret
    exact ⟨by rw [HN.out, ← dge]; rfl, HBel.out⟩
  by_cases e1 : o = 1
  · subst e1
    have HN : Hid (namedB m f (1, a, b) = decide (a < (n4 : Int))) := by show namedB _ _ _ = _; simp [namedB, h0, h1, h2, h3, h4, g0, g1, g2]
    generalize namedB m f (1, a, b) = nb at *
    clear h0 h1 h2 h3 h4 g0 g1 g2 hR
    go_enter Try.func54, Try.ntmps54
    go_wp2_with fail
    go_ret
    exact ⟨by rw [HN.out, ← dge]; rfl, HBel.out⟩
  by_cases e3 : o = 3
  · subst e3
    have HN : Hid (namedB m f (3, a, b) = decide (a < (u0 : Int) + (u1 : Int))) := by show namedB _ _ _ = _; simp [namedB, h0, h1, h2, h3, h4, g0, g1, g2]
    generalize namedB m f (3, a, b) = nb at *
    clear h0 h1 h2 h3 h4 g0 g1 g2 hR
    go_enter Try.func54, Try.ntmps54
    go_wp2_with fail
    go_ret
    exact ⟨by rw [HN.out, ← dge]; rfl, HBel.out⟩
  by_cases e4 : o = 4
  · subst e4
    have HN : Hid (namedB m f (4, a, b) = decide (a < (u0 : Int) + (u1 : Int))) := by show namedB _ _ _ = _; simp [namedB, h0, h1, h2, h3, h4, g0, g1, g2]
    generalize namedB m f (4, a, b) = nb at *
    clear h0 h1 h2 h3 h4 g0 g1 g2 hR
    go_enter Try.func54, Try.ntmps54
    go_wp2_with fail
    go_ret
    exact ⟨by rw [HN.out, ← dge]; rfl, HBel.out⟩
  by_cases e23 : o = 23
  · subst e23
    have HN : Hid (namedB m f (23, a, b) = decide (a < (u2 : Int))) := by show namedB _ _ _ = _; simp [namedB, h0, h1, h2, h3, h4, g0, g1, g2]
    generalize namedB m f (23, a, b) = nb at *
    clear h0 h1 h2 h3 h4 g0 g1 g2 hR
    go_enter Try.func54, Try.ntmps54
    go_wp2_with fail
    go_ret
    exact ⟨by rw [HN.out, ← dge]; rfl, HBel.out⟩
  by_cases e24 : o = 24
  · subst e24
    have HN : Hid (namedB m f (24, a, b) = decide (a < (u2 : Int))) := by show namedB _ _ _ = _; simp [namedB, h0, h1, h2, h3, h4, g0, g1, g2]
    generalize namedB m f (24, a, b) = nb at *
    clear h0 h1 h2 h3 h4 g0 g1 g2 hR
    go_enter Try.func54, Try.ntmps54
    go_wp2_with fail
    go_ret
    exact ⟨by rw [HN.out, ← dge]; rfl, HBel.out⟩
  by_cases e25 : o = 25
  · subst e25
    have HN : Hid (namedB m f (25, a, b) = decide (a < (n1 : Int))) := by show namedB _ _ _ = _; simp [namedB, h0, h1, h2, h3, h4, g0, g1, g2]
    generalize namedB m f (25, a, b) = nb at *
    clear h0 h1 h2 h3 h4 g0 g1 g2 hR
    go_enter Try.func54, Try.ntmps54
    go_wp2_with fail
    go_ret
    exact ⟨by rw [HN.out, ← dge]; rfl, HBel.out⟩
  by_cases e27 : o = 27
  · subst e27
    have HN : Hid (namedB m f (27, a, b) = decide (a < (n2 : Int))) := by show namedB _ _ _ = _; simp [namedB, h0, h1, h2, h3, h4, g0, g1, g2]
    generalize namedB m f (27, a, b) = nb at *
    clear h0 h1 h2 h3 h4 g0 g1 g2 hR
    go_enter Try.func54, Try.ntmps54
    go_wp2_with fail
    go_ret
    exact ⟨by rw [HN.out, ← dge]; rfl, HBel.out⟩
  by_cases e28 : o = 28
  · subst e28
    have HN : Hid (namedB m f (28, a, b) = decide (a < (n0 : Int))) := by show namedB _ _ _ = _; simp [namedB, h0, h1, h2, h3, h4, g0, g1, g2]
    generalize namedB m f (28, a, b) = nb at *
    clear h0 h1 h2 h3 h4 g0 g1 g2 hR
    go_enter Try.func54, Try.ntmps54
    go_wp2_with fail
    go_ret
    exact ⟨by rw [HN.out, ← dge]; rfl, HBel.out⟩
  by_cases e29 : o = 29
  · subst e29
    by_cases hlt : a < (n0 : Int)
    · obtain ⟨k, rfl⟩ : ∃ k : Nat, a = (k : Int) := ⟨a.toNat, by omega⟩
      have hk : k < n0 := by omega
      obtain ⟨r, hr⟩ : ∃ r, m.recs[k]? = some r := ⟨m.recs[k]'(by rw [h0]; exact hk), List.getElem?_eq_getElem _⟩
      have HN : Hid (namedB m f (29, (k : Int), b) = decide (b < (r.length : Int))) := by show namedB _ _ _ = _; simp [namedB, hr]
      obtain ⟨a0, cs, ea, hab, hc, hRr⟩ := hR.at hr
      subst ea
      obtain ⟨Q0, q0, rfl, -, -, -⟩ := hRr
      have cr := one_cell (K := tysL.k) rfl (hc 0 _ rfl)
      have cr2 : ∀ o : Obj, (w.alloc o).cell? (a0.add k) = _ := fun o => (((Below.refl _ w).alloc (Nat.le_refl _) o).cell (p := a0.add k) (by rw [addBlock]; exact hab)).trans cr
      generalize namedB m f (29, (k : Int), b) = nb at *
      generalize r.length = rl at *
      have hk0 : 0 ≤ (k : Int) := by omega
      clear h0 h1 h2 h3 h4 g0 g1 g2 hR hr hc
      go_enter Try.func54, Try.ntmps54
      go_wp2_with fail
      go_quiet (fail)
      go_wp2_with fail
      go_ret
      exact ⟨by show Ending.returned (Value.bool (decide (n0 ≤ k) || decide ((rl : Int) ≤ b))) = _; rw [HN.out, ← dge, decide_eq_false (show ¬ n0 ≤ k by omega)]; rfl, below_drews' HBel.out _ HBel.out.size⟩
    · have HN : Hid (namedB m f (29, a, b) = false) := by
        show namedB _ _ _ = _
        have hz : m.recs[a.toNat]? = none := List.getElem?_eq_none (by rw [h0]; omega)
        simp [namedB, hz]
      generalize namedB m f (29, a, b) = nb at *
      have hge : (n0 : Int) ≤ a := by omega
      have hd : decide (a < (n0 : Int)) = false := by simp; omega
      clear h0 h1 h2 h3 h4 g0 g1 g2 hR
      go_enter Try.func54, Try.ntmps54
      go_wp2_with fail
      go_quiet (fail)
      go_wp2_with fail
      go_ret
      exact ⟨by rw [HN.out]; rfl, below_drews' HBel.out _ HBel.out.size⟩
  by_cases e30 : o = 30
  · subst e30
    by_cases hlt : a < (n0 : Int)
    · obtain ⟨k, rfl⟩ : ∃ k : Nat, a = (k : Int) := ⟨a.toNat, by omega⟩
      have hk : k < n0 := by omega
      obtain ⟨r, hr⟩ : ∃ r, m.recs[k]? = some r := ⟨m.recs[k]'(by rw [h0]; exact hk), List.getElem?_eq_getElem _⟩
      have HN : Hid (namedB m f (30, (k : Int), b) = decide (b < (r.length : Int))) := by show namedB _ _ _ = _; simp [namedB, hr]
      obtain ⟨a0, cs, ea, hab, hc, hRr⟩ := hR.at hr
      subst ea
      obtain ⟨Q0, q0, rfl, -, -, -⟩ := hRr
      have cr := one_cell (K := tysL.k) rfl (hc 0 _ rfl)
      have cr2 : ∀ o : Obj, (w.alloc o).cell? (a0.add k) = _ := fun o => (((Below.refl _ w).alloc (Nat.le_refl _) o).cell (p := a0.add k) (by rw [addBlock]; exact hab)).trans cr
      generalize namedB m f (30, (k : Int), b) = nb at *
      generalize r.length = rl at *
      have hk0 : 0 ≤ (k : Int) := by omega
      clear h0 h1 h2 h3 h4 g0 g1 g2 hR hr hc
      go_enter Try.func54, Try.ntmps54
      go_wp2_with fail
      go_quiet (fail)
      go_wp2_with fail
      go_ret
      exact ⟨by show Ending.returned (Value.bool (decide (n0 ≤ k) || decide ((rl : Int) ≤ b))) = _; rw [HN.out, ← dge, decide_eq_false (show ¬ n0 ≤ k by omega)]; rfl, below_drews' HBel.out _ HBel.out.size⟩
    · have HN : Hid (namedB m f (30, a, b) = false) := by
        show namedB _ _ _ = _
        have hz : m.recs[a.toNat]? = none := List.getElem?_eq_none (by rw [h0]; omega)
        simp [namedB, hz]
      generalize namedB m f (30, a, b) = nb at *
      have hge : (n0 : Int) ≤ a := by omega
      have hd : decide (a < (n0 : Int)) = false := by simp; omega
      clear h0 h1 h2 h3 h4 g0 g1 g2 hR
      go_enter Try.func54, Try.ntmps54
      go_wp2_with fail
      go_quiet (fail)
      go_wp2_with fail
      go_ret
      exact ⟨by rw [HN.out]; rfl, below_drews' HBel.out _ HBel.out.size⟩
  have HN : Hid (namedB m f (o, a, b) = true) := by show namedB _ _ _ = _; simp [namedB, e0, e1, e3, e4, e23, e24, e25, e27, e28, e29, e30]
  have b0 : (o == 0) = false := by simpa using e0
  have b1 : (o == 1) = false := by simpa using e1
  have b3 : (o == 3) = false := by simpa using e3
  have b4 : (o == 4) = false := by simpa using e4
  have b23 : (o == 23) = false := by simpa using e23
  have b24 : (o == 24) = false := by simpa using e24
  have b25 : (o == 25) = false := by simpa using e25
  have b27 : (o == 27) = false := by simpa using e27
  have b28 : (o == 28) = false := by simpa using e28
  have b29 : (o == 29) = false := by simpa using e29
  have b30 : (o == 30) = false := by simpa using e30
  generalize namedB m f (o, a, b) = nb at *
  clear h0 h1 h2 h3 h4 g0 g1 g2 hR e0 e1 e3 e4 e23 e24 e25 e27 e28 e29 e30
  go_enter Try.func54, Try.ntmps54
  go_wp2_with fail
  go_ret
  exact ⟨by rw [HN.out]; rfl, HBel.out⟩
end Go.Proofs.Ytikhhcmfjncabaa
