/-
  Jin Fon1 Fon2 Fon3 Fon4 Fon Ixhan Ixwrg Sc1
-/
import Derived.Test.YtikhhcmfjncabaaGreatQ02
import Derived.Test.YtikhhcmfjncabaaGreatQ09
set_option linter.unusedSimpArgs false
set_option linter.unusedVariables false
namespace Go.Proofs.YtikhhcmfjncabaaGreat
open Go.RowKit

set_option maxRecDepth 100000 in
set_option maxHeartbeats 1000000 in
theorem index_rfs (A : Option Addr) (n c : Nat) (xs : List Int) (g : Int → Bool) (p7 p8 : Addr) (w : World) (hl : xs.length = n) (h : ∀ j x, xs[j]? = some x → ∃ a, A = some a ∧ a.block < w.heap.size ∧ w.cell? (a.add j) = some (.int .i64 x)) (hn2 : n ≤ 9223372036854775807)
    (hG : ∀ (w1 : World) (x : Int), Below w.heap.size w w1 → x ∈ xs → Calls Tryz.prog 24 #[.int .i64 x, .pointer (some p7), .pointer (some p8)] w1 (Tells (g x) w1)) :
    Calls Tryz.prog 50 #[.slice A n c, .func (.func 24) #[] #[.pointer (some p7), .pointer (some p8)]] w fun e w' => ∃ k : Int, e = .returned (.int .i64 k) ∧ decide (0 ≤ k) = xs.any g ∧ Below w.heap.size w w' := by
  have HL := Lib.hid hl
  have HS := Lib.hid h
  have HP0 := Lib.hid hG
  clear hl h hG
  go_enter Tryz.func50, Tryz.ntmps50
  go_wp2_with fail
  go_loopw [8] (fun i wr => ∃ k : Nat, k ≤ n ∧ i = .int .i64 (k : Nat) ∧ (xs.take k).any g = false ∧ Below w.heap.size w wr) (fun i _ => n - (intOf i).toNat)
  case atStart => exact ⟨0, Nat.zero_le _, rfl, by simp, Below.refl _ _⟩
  case round =>
    obtain ⟨k, hk, rfl, hall, hbel⟩ := hrel
    have HA := Lib.hid hall
    have HB := Lib.hid hbel
    have hs := hbel.size
    clear hall hbel
    by_cases hlt : k < n
    · skip
      obtain ⟨x, hx⟩ : ∃ x, xs[k]? = some x := ⟨xs[k]'(by rw [HL.out]; exact hlt), List.getElem?_eq_getElem _⟩
      have hmem : x ∈ xs := List.mem_of_getElem? hx
      obtain ⟨a, rfl, hab, hc⟩ := HS.out k x hx
      have HX := Lib.hid hx
      clear hx
      have c0 := (HB.out.cell (p := a.add k) (by rw [addBlock]; exact hab)).trans hc
      have HP : Hid (∀ w1, Below w.heap.size w w1 → Calls Tryz.prog 24 #[.int .i64 x, .pointer (some p7), .pointer (some p8)] w1 (Tells (g x) w1)) := fun w1 hb => HP0.out w1 x hb hmem
      clear hc
      have hk0 : 0 ≤ (k : Int) := by omega
      cases hg : g x
      · rw [hg] at HP
        have HG := Lib.hid hg
        clear hg
        go_wp2_with (first
          | (go_at_call 24
             refine (HP.out _ HB.out).mono ?_
             rintro e w2 ⟨rfl, hb2⟩
             have Hb2 := Lib.hid (HB.out.trans (hb2.mono hs))
             clear hb2))
        refine ⟨⟨k + 1, by omega, by simp, any_take HA.out HX.out HG.out, Hb2.out⟩, by simp [intOf]; omega⟩
      · rw [hg] at HP
        have e : xs.any g = true := any_here hmem hg
        have E := Lib.hid e
        clear e hg
        go_wp2_with (first
          | (go_at_call 24
             refine (HP.out _ HB.out).mono ?_
             rintro e w2 ⟨rfl, hb2⟩
             have Hb2 := Lib.hid (HB.out.trans (hb2.mono hs))
             clear hb2))
        go_ret
        exact ⟨_, rfl, by rw [E.out]; simp, Hb2.out⟩
    · obtain rfl : k = n := by omega
      go_wp2_with fail
      go_ret
      exact ⟨_, rfl, by rw [any_full HA.out HL.out]; rfl, HB.out⟩

set_option maxRecDepth 100000 in
theorem contains_rfs (A : Option Addr) (n c : Nat) (xs : List Int) (g : Int → Bool) (p7 p8 : Addr) (w : World) (hl : xs.length = n) (h : ∀ j x, xs[j]? = some x → ∃ a, A = some a ∧ a.block < w.heap.size ∧ w.cell? (a.add j) = some (.int .i64 x)) (hn2 : n ≤ 9223372036854775807)
    (hG : ∀ (w1 : World) (x : Int), Below w.heap.size w w1 → x ∈ xs → Calls Tryz.prog 24 #[.int .i64 x, .pointer (some p7), .pointer (some p8)] w1 (Tells (g x) w1)) :
    Calls Tryz.prog 26 #[.slice A n c, .func (.func 24) #[] #[.pointer (some p7), .pointer (some p8)]] w (Tells (xs.any g) w) := by
  have HC := Lib.hid (index_rfs A n c xs g p7 p8 w hl h hn2 hG)
  clear hl h hG
  generalize xs.any g = ab at *
  go_enter Tryz.func26, Tryz.ntmps26
  go_wp2_with (first | (go_at_call 50; refine HC.out.mono ?_; rintro e w1 ⟨k, rfl, hk, hb⟩; have HB := Lib.hid hb; have HK := Lib.hid hk; clear hb hk))
  go_ret
  exact ⟨by rw [← HK.out]; rfl, HB.out⟩
end Go.Proofs.YtikhhcmfjncabaaGreat
namespace Go.Proofs.YtikhhcmfjncabaaGreat
open Go.RowKit

set_option maxRecDepth 100000 in
set_option maxHeartbeats 4000000 in
theorem on_few (A B D : Option Addr) (n m k c d g : Nat) (ins outs ts : List Typ) (w : World) (hn : ins.length = n) (hm : outs.length = m) (hk : ts.length = k) (sn : Sq typL (· < w.heap.size) w A ins) (sm : Sq typL (· < w.heap.size) w B outs) (sk : Sq typL (· < w.heap.size) w D ts)
    (hlt : k < n) (bn : n ≤ 1000) (bm : m ≤ 1000) (bk : k ≤ 1000) (bg : k ≤ g) (bg2 : g ≤ 9223372036854775807) (bd : m ≤ d) (bd2 : d ≤ 9223372036854775807) : Calls Tryz.prog 45 #[.agg #[.slice A n c, .slice B m d], .slice D k g] w (Moved (movB ts ins outs) w) := by
  have HN := Lib.hid hn
  have HM := Lib.hid hm
  have HK := Lib.hid hk
  have SN := Lib.hid sn
  have SM := Lib.hid sm
  have SK := Lib.hid sk
  have HB0 : Hid (∀ o : Obj, Below w.heap.size w (w.alloc o)) := fun o => below_new w o
  clear hn hm hk sn sm sk
  have e1 : (k : Int) - (n : Int) < 0 := by omega
  have HV := Lib.hid (movB_few (outs := outs) (show ts.length < ins.length by rw [HK.out, HN.out]; exact hlt))
  clear hlt
  go_enter Tryz.func45, Tryz.ntmps45
  go_wp2_with fail
  refine wp_world fun U hU => ?_
  have HBU : Hid (Below w.heap.size w U) := by show Below _ _ _; rw [hU]; exact HB0.out _
  clear hU
  have HBR : Hid (∀ dq osq, Below w.heap.size w (Go.Sort.grow (redrawn U dq) osq)) := fun dq osq => HBU.out.trans ((below_regrown U dq osq).mono HBU.out.size)
  refine wp_region_quiet_below (by kernel_rfl) (by kernel_rfl) ?_
  repeat (quiet_step (fail))
  refine wpQuiet_nil ?_
  intro _ hw'
  obtain ⟨⟨dq, osq⟩, hw''⟩ := hw'
  subst hw''
  go_wp2_with fail
  go_ret2
  exact ⟨HBR.out dq osq, .inl ⟨HV.out, rfl⟩⟩
end Go.Proofs.YtikhhcmfjncabaaGreat
namespace Go.Proofs.YtikhhcmfjncabaaGreat
open Go.RowKit

set_option maxRecDepth 100000 in
set_option maxHeartbeats 4000000 in
theorem on_far (A B : Option Addr) (a : Addr) (n m k c d g : Nat) (ins outs ts : List Typ) (w : World) (hn : ins.length = n) (hm : outs.length = m) (hk : ts.length = k) (sn : Sq typL (· < w.heap.size) w A ins) (sm : Sq typL (· < w.heap.size) w B outs) (sk : Sq typL (· < w.heap.size) w (some a) ts)
    (hlt : ¬ k < n) (hg : ¬ g = k - n) (bn : n ≤ 1000) (bm : m ≤ 1000) (bk : k ≤ 1000) (bg : k ≤ g) (bg2 : g ≤ 9223372036854775807) (bd : m ≤ d) (bd2 : d ≤ 9223372036854775807) : Calls Tryz.prog 45 #[.agg #[.slice A n c, .slice B m d], .slice (some a) k g] w (Moved (movB ts ins outs) w) := by
  have HN := Lib.hid hn
  have HM := Lib.hid hm
  have HK := Lib.hid hk
  have SN := Lib.hid sn
  have SM := Lib.hid sm
  have SK := Lib.hid sk
  have HB0 : Hid (∀ o : Obj, Below w.heap.size w (w.alloc o)) := fun o => below_new w o
  clear hn hm hk sn sm sk
  obtain ⟨b, hb⟩ : ∃ b : Nat, k - n = b := ⟨_, rfl⟩
  have HBe : Hid (ts.length - ins.length = b) := by show _ = b; rw [HK.out, HN.out]; exact hb
  have HLe : Hid (ins.length ≤ ts.length) := by show _ ≤ _; rw [HK.out, HN.out]; omega
  have e1 : (k : Int) - (n : Int) = (b : Int) := by omega
  have e2 : b ≤ k := by omega
  have e3 : b ≤ g := by omega
  have e4 : (b : Int) ≤ (k : Int) := by omega
  have e5 : (b : Int) ≤ (g : Int) := by omega
  have e6 : k - b = n := by omega
  have e7 : (k : Int) ≤ (g : Int) := by omega
  have e8 : decide ((b : Int) < 0) = false := by simp
  have TE : Hid (∀ w1 D' c', Below w.heap.size w w1 → (b < k → D' = (some a).map (·.add (b * 2))) → Calls Tryz.prog 48 #[.slice D' n c', .slice A n c, .func (.func 49) #[] #[]] w1 fun e w' => e = .returned (.bool (belowT (ts.drop b) ins)) ∧ Below w1.heap.size w1 w') := fun w1 D' c' hb1 hd =>
    equalFunc_sub D' A n n c' c (ts.drop b) ins w1 (by rw [List.length_drop, HK.out]; exact e6) HN.out (sq_from ((SK.out.below hb1 (Nat.le_refl _)).wide fun i hi => Nat.lt_of_lt_of_le hi hb1.size) D' (by rw [HK.out]; exact hd)) ((SN.out.below hb1 (Nat.le_refl _)).wide fun i hi => Nat.lt_of_lt_of_le hi hb1.size) (by omega) (by omega)
  have TC : Hid (∀ w1 G, Below w.heap.size w w1 → Blk w1 G 36 #[.slice (some a) b g, .slice B m d] → Calls Tryz.prog 84 #[.slice (some ⟨G, 0, none⟩) 2 2] w1 fun e w' => ∃ v, e = .returned v ∧ w'.ownsRow w1.heap.size 41 2 v (ts.take b ++ outs).length (T2 (ts.take b ++ outs)) ∧ Below w1.heap.size w1 w') := fun w1 G hb1 hblk => by
    have lb : (ts.take b).length = b := by rw [List.length_take, HK.out]; omega
    have r0 : tysL.R (· < w1.heap.size) w1 [.slice (some a) b g] (ts.take b) := ⟨some a, g, by rw [lb], by omega, by unfold maxLen; omega, ((SK.out.below hb1 (Nat.le_refl _)).wide fun i hi => Nat.lt_of_lt_of_le hi hb1.size).take b⟩
    have r1 : tysL.R (· < w1.heap.size) w1 [.slice B m d] outs := ⟨B, d, by rw [HM.out], by rw [HM.out]; exact bd, by unfold maxLen; omega, (SM.out.below hb1 (Nat.le_refl _)).wide fun i hi => Nat.lt_of_lt_of_le hi hb1.size⟩
    obtain ⟨A9, c9, e9, -, -, hsq⟩ := two_sl (L := tysL) hblk hblk.lt rfl r0 r1
    simp only [List.cons.injEq, Value.slice.injEq, and_true] at e9
    obtain ⟨rfl, -, -⟩ := e9
    have := concat_tys (some ⟨G, 0, none⟩) 2 2 [ts.take b, outs] w1 rfl hsq (by simp only [List.flatten_cons, List.flatten_nil, List.append_nil, List.length_append, lb, HM.out]; omega) (by omega)
    simpa using this
  have HC : Hid (∀ w1, Below (w.heap.size + 1) (w.alloc (.cells #[.slice A n c, .slice B m d] 86)) w1 → w1.cell? ⟨w.heap.size, 0, none⟩ = some (.slice A n c) ∧ w1.cell? ⟨w.heap.size, 1, none⟩ = some (.slice B m d)) := fun w1 hb1 => ⟨(hb1.cell (p := ⟨w.heap.size, 0, none⟩) (by simp)).trans (by simp [go_sem]), (hb1.cell (p := ⟨w.heap.size, 1, none⟩) (by simp)).trans (by simp [go_sem])⟩
  have HV0 : Hid (belowT (ts.drop b) ins = false → movB ts ins outs = none) := fun h => movB_not HBe.out h
  have HV1 : Hid (8 < b + m → movB ts ins outs = none) := fun h => movB_many HBe.out (by rw [HM.out]; exact h)
  have HV2 : Hid (belowT (ts.drop b) ins = true → b + m ≤ 8 → movB ts ins outs = some (ts.take b ++ outs)) := fun h1 h2 => movB_yes HBe.out HLe.out h1 (by rw [HM.out]; exact h2)
  rw [hb] at hg
  clear hlt hb
  have TE2 : Hid (∀ w1 c', Below w.heap.size w w1 → Calls Tryz.prog 48 #[.slice (some (a.add (b * 2))) n c', .slice A n c, .func (.func 49) #[] #[]] w1 fun e w' => e = .returned (.bool (belowT (ts.drop b) ins)) ∧ Below w1.heap.size w1 w') := fun w1 c' hb1 => TE.out w1 _ c' hb1 (fun h => rfl)
  clear TE
  cases hbt : belowT (ts.drop b) ins
  case' true => by_cases h8 : 8 < b + m
  all_goals
    rw [hbt] at TE2
    have HBT := Lib.hid hbt
    clear hbt
    have hw1 : IntKind.i64.wrap ((b : Int) + (m : Int)) = (b : Int) + (m : Int) := by rw [IntKind.wrap_i64]; omega
    try (have h8i : decide ((8 : Int) < (b : Int) + (m : Int)) = decide (8 < b + m) := by rw [decide_eq_decide]; omega)
    try rw [decide_eq_true h8] at h8i
    try rw [decide_eq_false h8] at h8i
    go_enter Tryz.func45, Tryz.ntmps45
    go_wp2_with fail
    refine wp_world fun U hU => ?_
    have HBU : Hid (Below w.heap.size w U) := by show Below _ _ _; rw [hU]; exact HB0.out _
    have HCU : Hid (U.cell? ⟨w.heap.size, 0, none⟩ = some (.slice A n c) ∧ U.cell? ⟨w.heap.size, 1, none⟩ = some (.slice B m d)) := by show _ ∧ _; rw [hU]; exact HC.out _ (Below.refl _ _)
    have hsU : w.heap.size < U.heap.size := by rw [hU]; simp
    clear hU
    have HBR : Hid (∀ dq osq, Below w.heap.size w (Go.Sort.grow (redrawn U dq) osq)) := fun dq osq => HBU.out.trans ((below_regrown U dq osq).mono HBU.out.size)
    have x0 := cell_regrown HCU.out.1
    have x1 := cell_regrown HCU.out.2
    refine wp_region_quiet_below (by kernel_rfl) (by kernel_rfl) ?_
    repeat (quiet_step (first | with_reducible exact Calls.regrown_of (TE2.out _ _ (HBR.out _ _))))
    refine wpQuiet_nil ?_
    intro _ hw'
    obtain ⟨⟨dq, osq⟩, hw''⟩ := hw'
    subst hw''
    have HB1 := Lib.hid (HBR.out dq osq)
    have HS1 : Hid (w.heap.size < (Go.Sort.grow (redrawn U dq) osq).heap.size) := Nat.lt_of_lt_of_le hsU (below_regrown U dq osq).size
    go_wp2_with fail
    first
    | (go_ret2
       exact ⟨HB1.out, .inl ⟨by first | exact HV0.out HBT.out | exact HV1.out h8, rfl⟩⟩)
    | skip
  all_goals
    refine wp_world fun V hV => ?_
    have HBV : Hid (Below w.heap.size w V) := by show Below _ _ _; rw [hV]; exact HB1.out
    have HCV : Hid (V.cell? ⟨w.heap.size, 1, none⟩ = some (.slice B m d)) := by show _ = _; rw [hV]; exact x1 dq osq
    have hsV : w.heap.size < V.heap.size := by rw [hV]; exact HS1.out
    have HVX := Lib.hid (HV2.out HBT.out (by omega))
    clear hV x0 x1
    go_region_held3 (fun w' => w'.cell? ⟨w.heap.size, 1, none⟩ = some (.slice B m d))
      (first | exact HCV.out | exact SS4.out | exact (((below_new V _).cell (p := ⟨w.heap.size, 1, none⟩) hsV).trans HCV.out) | exact (((below_new V _).drew.cell (p := ⟨w.heap.size, 1, none⟩) hsV).trans HCV.out))
      (first
      | (go_at_call 84
         refine (TC.out _ V.heap.size ((HBV.out.alloc HBV.out.size _).drew) (blk_new V _ _)).mono ?_
         rintro e w4 ⟨v4, rfl, hown4, hb4⟩
         have HO4 := Lib.hid hown4
         have HB4 : Hid (Below V.heap.size V w4) := (by show Below _ _ _; first | exact (below_new V _).trans (hb4.mono (by simp)) | exact (below_new V _).drew.trans (hb4.mono (by simp)))
         have SS4 := Lib.hid ((HB4.out.cell (p := ⟨w.heap.size, 1, none⟩) hsV).trans HCV.out)
         clear hown4 hb4))
    go_wp2_with fail
    go_ret2
    refine ⟨HBV.out.trans (HB4.out.mono HBV.out.size), .inr ⟨_, v4, HVX.out, rfl, ?_⟩⟩
    refine ⟨HO4.out.1, ?_⟩
    rcases HO4.out.2 with h | ⟨g', cap, cur, e, hb2, rest⟩
    · exact .inl h
    · exact .inr ⟨g', cap, cur, e, by have := HBV.out.size; simp at hb2; omega, rest⟩
end Go.Proofs.YtikhhcmfjncabaaGreat
namespace Go.Proofs.YtikhhcmfjncabaaGreat
open Go.RowKit

set_option maxRecDepth 100000 in
set_option maxHeartbeats 4000000 in
theorem on_full (A B : Option Addr) (a : Addr) (n m k c d g : Nat) (ins outs ts : List Typ) (w : World) (hn : ins.length = n) (hm : outs.length = m) (hk : ts.length = k) (sn : Sq typL (· < w.heap.size) w A ins) (sm : Sq typL (· < w.heap.size) w B outs) (sk : Sq typL (· < w.heap.size) w (some a) ts)
    (hlt : ¬ k < n) (hg : g = k - n) (bn : n ≤ 1000) (bm : m ≤ 1000) (bk : k ≤ 1000) (bg : k ≤ g) (bg2 : g ≤ 9223372036854775807) (bd : m ≤ d) (bd2 : d ≤ 9223372036854775807) : Calls Tryz.prog 45 #[.agg #[.slice A n c, .slice B m d], .slice (some a) k g] w (Moved (movB ts ins outs) w) := by
  have HN := Lib.hid hn
  have HM := Lib.hid hm
  have HK := Lib.hid hk
  have SN := Lib.hid sn
  have SM := Lib.hid sm
  have SK := Lib.hid sk
  have HB0 : Hid (∀ o : Obj, Below w.heap.size w (w.alloc o)) := fun o => below_new w o
  clear hn hm hk sn sm sk
  obtain ⟨b, hb⟩ : ∃ b : Nat, k - n = b := ⟨_, rfl⟩
  have HBe : Hid (ts.length - ins.length = b) := by show _ = b; rw [HK.out, HN.out]; exact hb
  have HLe : Hid (ins.length ≤ ts.length) := by show _ ≤ _; rw [HK.out, HN.out]; omega
  have e1 : (k : Int) - (n : Int) = (b : Int) := by omega
  have e2 : b ≤ k := by omega
  have e3 : b ≤ g := by omega
  have e4 : (b : Int) ≤ (k : Int) := by omega
  have e5 : (b : Int) ≤ (g : Int) := by omega
  have e6 : k - b = n := by omega
  have e7 : (k : Int) ≤ (g : Int) := by omega
  have e8 : decide ((b : Int) < 0) = false := by simp
  have TE : Hid (∀ w1 D' c', Below w.heap.size w w1 → (b < k → D' = (some a).map (·.add (b * 2))) → Calls Tryz.prog 48 #[.slice D' n c', .slice A n c, .func (.func 49) #[] #[]] w1 fun e w' => e = .returned (.bool (belowT (ts.drop b) ins)) ∧ Below w1.heap.size w1 w') := fun w1 D' c' hb1 hd =>
    equalFunc_sub D' A n n c' c (ts.drop b) ins w1 (by rw [List.length_drop, HK.out]; exact e6) HN.out (sq_from ((SK.out.below hb1 (Nat.le_refl _)).wide fun i hi => Nat.lt_of_lt_of_le hi hb1.size) D' (by rw [HK.out]; exact hd)) ((SN.out.below hb1 (Nat.le_refl _)).wide fun i hi => Nat.lt_of_lt_of_le hi hb1.size) (by omega) (by omega)
  have TC : Hid (∀ w1 G, Below w.heap.size w w1 → Blk w1 G 36 #[.slice (some a) b g, .slice B m d] → Calls Tryz.prog 84 #[.slice (some ⟨G, 0, none⟩) 2 2] w1 fun e w' => ∃ v, e = .returned v ∧ w'.ownsRow w1.heap.size 41 2 v (ts.take b ++ outs).length (T2 (ts.take b ++ outs)) ∧ Below w1.heap.size w1 w') := fun w1 G hb1 hblk => by
    have lb : (ts.take b).length = b := by rw [List.length_take, HK.out]; omega
    have r0 : tysL.R (· < w1.heap.size) w1 [.slice (some a) b g] (ts.take b) := ⟨some a, g, by rw [lb], by omega, by unfold maxLen; omega, ((SK.out.below hb1 (Nat.le_refl _)).wide fun i hi => Nat.lt_of_lt_of_le hi hb1.size).take b⟩
    have r1 : tysL.R (· < w1.heap.size) w1 [.slice B m d] outs := ⟨B, d, by rw [HM.out], by rw [HM.out]; exact bd, by unfold maxLen; omega, (SM.out.below hb1 (Nat.le_refl _)).wide fun i hi => Nat.lt_of_lt_of_le hi hb1.size⟩
    obtain ⟨A9, c9, e9, -, -, hsq⟩ := two_sl (L := tysL) hblk hblk.lt rfl r0 r1
    simp only [List.cons.injEq, Value.slice.injEq, and_true] at e9
    obtain ⟨rfl, -, -⟩ := e9
    have := concat_tys (some ⟨G, 0, none⟩) 2 2 [ts.take b, outs] w1 rfl hsq (by simp only [List.flatten_cons, List.flatten_nil, List.append_nil, List.length_append, lb, HM.out]; omega) (by omega)
    simpa using this
  have HC : Hid (∀ w1, Below (w.heap.size + 1) (w.alloc (.cells #[.slice A n c, .slice B m d] 86)) w1 → w1.cell? ⟨w.heap.size, 0, none⟩ = some (.slice A n c) ∧ w1.cell? ⟨w.heap.size, 1, none⟩ = some (.slice B m d)) := fun w1 hb1 => ⟨(hb1.cell (p := ⟨w.heap.size, 0, none⟩) (by simp)).trans (by simp [go_sem]), (hb1.cell (p := ⟨w.heap.size, 1, none⟩) (by simp)).trans (by simp [go_sem])⟩
  have HV0 : Hid (belowT (ts.drop b) ins = false → movB ts ins outs = none) := fun h => movB_not HBe.out h
  have HV1 : Hid (8 < b + m → movB ts ins outs = none) := fun h => movB_many HBe.out (by rw [HM.out]; exact h)
  have HV2 : Hid (belowT (ts.drop b) ins = true → b + m ≤ 8 → movB ts ins outs = some (ts.take b ++ outs)) := fun h1 h2 => movB_yes HBe.out HLe.out h1 (by rw [HM.out]; exact h2)
  rw [hb] at hg
  clear hlt hb
  have hg2 := hg.symm
  clear hg
  subst hg2
  have TE2 : Hid (∀ w1 c', Below w.heap.size w w1 → Calls Tryz.prog 48 #[.slice (some a) n c', .slice A n c, .func (.func 49) #[] #[]] w1 fun e w' => e = .returned (.bool (belowT (ts.drop b) ins)) ∧ Below w1.heap.size w1 w') := fun w1 c' hb1 => TE.out w1 _ c' hb1 (fun h => by omega)
  clear TE
  cases hbt : belowT (ts.drop b) ins
  case' true => by_cases h8 : 8 < b + m
  all_goals
    rw [hbt] at TE2
    have HBT := Lib.hid hbt
    clear hbt
    have hw1 : IntKind.i64.wrap ((b : Int) + (m : Int)) = (b : Int) + (m : Int) := by rw [IntKind.wrap_i64]; omega
    try (have h8i : decide ((8 : Int) < (b : Int) + (m : Int)) = decide (8 < b + m) := by rw [decide_eq_decide]; omega)
    try rw [decide_eq_true h8] at h8i
    try rw [decide_eq_false h8] at h8i
    go_enter Tryz.func45, Tryz.ntmps45
    go_wp2_with fail
    refine wp_world fun U hU => ?_
    have HBU : Hid (Below w.heap.size w U) := by show Below _ _ _; rw [hU]; exact HB0.out _
    have HCU : Hid (U.cell? ⟨w.heap.size, 0, none⟩ = some (.slice A n c) ∧ U.cell? ⟨w.heap.size, 1, none⟩ = some (.slice B m d)) := by show _ ∧ _; rw [hU]; exact HC.out _ (Below.refl _ _)
    have hsU : w.heap.size < U.heap.size := by rw [hU]; simp
    clear hU
    have HBR : Hid (∀ dq osq, Below w.heap.size w (Go.Sort.grow (redrawn U dq) osq)) := fun dq osq => HBU.out.trans ((below_regrown U dq osq).mono HBU.out.size)
    have x0 := cell_regrown HCU.out.1
    have x1 := cell_regrown HCU.out.2
    refine wp_region_quiet_below (by kernel_rfl) (by kernel_rfl) ?_
    repeat (quiet_step (first | with_reducible exact Calls.regrown_of (TE2.out _ _ (HBR.out _ _))))
    refine wpQuiet_nil ?_
    intro _ hw'
    obtain ⟨⟨dq, osq⟩, hw''⟩ := hw'
    subst hw''
    have HB1 := Lib.hid (HBR.out dq osq)
    have HS1 : Hid (w.heap.size < (Go.Sort.grow (redrawn U dq) osq).heap.size) := Nat.lt_of_lt_of_le hsU (below_regrown U dq osq).size
    go_wp2_with fail
    first
    | (go_ret2
       exact ⟨HB1.out, .inl ⟨by first | exact HV0.out HBT.out | exact HV1.out h8, rfl⟩⟩)
    | skip
  all_goals
    refine wp_world fun V hV => ?_
    have HBV : Hid (Below w.heap.size w V) := by show Below _ _ _; rw [hV]; exact HB1.out
    have HCV : Hid (V.cell? ⟨w.heap.size, 1, none⟩ = some (.slice B m d)) := by show _ = _; rw [hV]; exact x1 dq osq
    have hsV : w.heap.size < V.heap.size := by rw [hV]; exact HS1.out
    have HVX := Lib.hid (HV2.out HBT.out (by omega))
    clear hV x0 x1
    go_region_held3 (fun w' => w'.cell? ⟨w.heap.size, 1, none⟩ = some (.slice B m d))
      (first | exact HCV.out | exact SS4.out | exact (((below_new V _).cell (p := ⟨w.heap.size, 1, none⟩) hsV).trans HCV.out) | exact (((below_new V _).drew.cell (p := ⟨w.heap.size, 1, none⟩) hsV).trans HCV.out))
      (first
      | (go_at_call 84
         refine (TC.out _ V.heap.size ((HBV.out.alloc HBV.out.size _).drew) (blk_new V _ _)).mono ?_
         rintro e w4 ⟨v4, rfl, hown4, hb4⟩
         have HO4 := Lib.hid hown4
         have HB4 : Hid (Below V.heap.size V w4) := (by show Below _ _ _; first | exact (below_new V _).trans (hb4.mono (by simp)) | exact (below_new V _).drew.trans (hb4.mono (by simp)))
         have SS4 := Lib.hid ((HB4.out.cell (p := ⟨w.heap.size, 1, none⟩) hsV).trans HCV.out)
         clear hown4 hb4))
    go_wp2_with fail
    go_ret2
    refine ⟨HBV.out.trans (HB4.out.mono HBV.out.size), .inr ⟨_, v4, HVX.out, rfl, ?_⟩⟩
    refine ⟨HO4.out.1, ?_⟩
    rcases HO4.out.2 with h | ⟨g', cap, cur, e, hb2, rest⟩
    · exact .inl h
    · exact .inr ⟨g', cap, cur, e, by have := HBV.out.size; simp at hb2; omega, rest⟩
end Go.Proofs.YtikhhcmfjncabaaGreat
namespace Go.Proofs.YtikhhcmfjncabaaGreat
open Go.RowKit

set_option maxRecDepth 100000 in
set_option maxHeartbeats 4000000 in
theorem on_none (A B : Option Addr) (m c d : Nat) (ins outs ts : List Typ) (w : World) (hn : ins.length = 0) (hm : outs.length = m) (hk : ts.length = 0) (sn : Sq typL (· < w.heap.size) w A ins) (sm : Sq typL (· < w.heap.size) w B outs) (sk : Sq typL (· < w.heap.size) w none ts)
    (bm : m ≤ 1000) (bd : m ≤ d) (bd2 : d ≤ 9223372036854775807) : Calls Tryz.prog 45 #[.agg #[.slice A 0 c, .slice B m d], .slice none 0 0] w (Moved (movB ts ins outs) w) := by
  obtain rfl : ins = [] := List.eq_nil_of_length_eq_zero hn
  obtain rfl : ts = [] := List.eq_nil_of_length_eq_zero hk
  have HM := Lib.hid hm
  have SM := Lib.hid sm
  have HB0 : Hid (∀ o : Obj, Below w.heap.size w (w.alloc o)) := fun o => below_new w o
  clear hn hm hk sn sm sk
  have TE2 : Hid (∀ w1 c', Below w.heap.size w w1 → Calls Tryz.prog 48 #[.slice none 0 c', .slice A 0 c, .func (.func 49) #[] #[]] w1 fun e w' => e = .returned (.bool true) ∧ Below w1.heap.size w1 w') := fun w1 c' hb1 =>
    equalFunc_sub none A 0 0 c' c [] [] w1 rfl rfl (Sq.nil _ _ _ _) (Sq.nil _ _ _ _) (by omega) (by omega)
  have TC : Hid (∀ w1 G, Below w.heap.size w w1 → Blk w1 G 36 #[.slice none 0 0, .slice B m d] → Calls Tryz.prog 84 #[.slice (some ⟨G, 0, none⟩) 2 2] w1 fun e w' => ∃ v, e = .returned v ∧ w'.ownsRow w1.heap.size 41 2 v outs.length (T2 outs) ∧ Below w1.heap.size w1 w') := fun w1 G hb1 hblk => by
    have r0 : tysL.R (· < w1.heap.size) w1 [.slice none 0 0] [] := nil_sl _ _ _
    have r1 : tysL.R (· < w1.heap.size) w1 [.slice B m d] outs := ⟨B, d, by rw [HM.out], by rw [HM.out]; exact bd, by unfold maxLen; omega, (SM.out.below hb1 (Nat.le_refl _)).wide fun i hi => Nat.lt_of_lt_of_le hi hb1.size⟩
    obtain ⟨A9, c9, e9, -, -, hsq⟩ := two_sl (L := tysL) hblk hblk.lt rfl r0 r1
    simp only [List.cons.injEq, Value.slice.injEq, and_true] at e9
    obtain ⟨rfl, -, -⟩ := e9
    have := concat_tys (some ⟨G, 0, none⟩) 2 2 [[], outs] w1 rfl hsq (by simp only [List.flatten_cons, List.flatten_nil, List.append_nil, List.nil_append, HM.out]; omega) (by omega)
    simpa using this
  have HC : Hid (∀ w1, Below (w.heap.size + 1) (w.alloc (.cells #[.slice A 0 c, .slice B m d] 86)) w1 → w1.cell? ⟨w.heap.size, 0, none⟩ = some (.slice A 0 c) ∧ w1.cell? ⟨w.heap.size, 1, none⟩ = some (.slice B m d)) := fun w1 hb1 => ⟨(hb1.cell (p := ⟨w.heap.size, 0, none⟩) (by simp)).trans (by simp [go_sem]), (hb1.cell (p := ⟨w.heap.size, 1, none⟩) (by simp)).trans (by simp [go_sem])⟩
  have HV1 : Hid (8 < m → movB [] [] outs = none) := fun h => movB_many (b := 0) rfl (by rw [HM.out]; omega)
  have HV2 : Hid (m ≤ 8 → movB [] [] outs = some outs) := fun h2 => movB_yes (s := []) (b := 0) rfl (Nat.le_refl _) rfl (by rw [HM.out]; omega)
  by_cases h8 : 8 < m
  all_goals
    have hw1 : IntKind.i64.wrap (m : Int) = (m : Int) := by rw [IntKind.wrap_i64]; omega
    have h8i : decide ((8 : Int) < (m : Int)) = decide (8 < m) := by rw [decide_eq_decide]; omega
    try rw [decide_eq_true h8] at h8i
    try rw [decide_eq_false h8] at h8i
    go_enter Tryz.func45, Tryz.ntmps45
    go_wp2_with fail
    refine wp_world fun U hU => ?_
    have HBU : Hid (Below w.heap.size w U) := by show Below _ _ _; rw [hU]; exact HB0.out _
    have HCU : Hid (U.cell? ⟨w.heap.size, 0, none⟩ = some (.slice A 0 c) ∧ U.cell? ⟨w.heap.size, 1, none⟩ = some (.slice B m d)) := by show _ ∧ _; rw [hU]; exact HC.out _ (Below.refl _ _)
    have hsU : w.heap.size < U.heap.size := by rw [hU]; simp
    clear hU
    have HBR : Hid (∀ dq osq, Below w.heap.size w (Go.Sort.grow (redrawn U dq) osq)) := fun dq osq => HBU.out.trans ((below_regrown U dq osq).mono HBU.out.size)
    have x0 := cell_regrown HCU.out.1
    have x1 := cell_regrown HCU.out.2
    refine wp_region_quiet_below (by kernel_rfl) (by kernel_rfl) ?_
    repeat (quiet_step (first | with_reducible exact Calls.regrown_of (TE2.out _ _ (HBR.out _ _))))
    refine wpQuiet_nil ?_
    intro _ hw'
    obtain ⟨⟨dq, osq⟩, hw''⟩ := hw'
    subst hw''
    have HB1 := Lib.hid (HBR.out dq osq)
    have HS1 : Hid (w.heap.size < (Go.Sort.grow (redrawn U dq) osq).heap.size) := Nat.lt_of_lt_of_le hsU (below_regrown U dq osq).size
    go_wp2_with fail
    first
    | (go_ret2
       exact ⟨HB1.out, .inl ⟨by first | exact HV1.out h8, rfl⟩⟩)
    | skip
  all_goals
    refine wp_world fun V hV => ?_
    have HBV : Hid (Below w.heap.size w V) := by show Below _ _ _; rw [hV]; exact HB1.out
    have HCV : Hid (V.cell? ⟨w.heap.size, 1, none⟩ = some (.slice B m d)) := by show _ = _; rw [hV]; exact x1 dq osq
    have hsV : w.heap.size < V.heap.size := by rw [hV]; exact HS1.out
    have HVX := Lib.hid (HV2.out (by omega))
    clear hV x0 x1
    go_region_held3 (fun w' => w'.cell? ⟨w.heap.size, 1, none⟩ = some (.slice B m d))
      (first | exact HCV.out | exact SS4.out | exact (((below_new V _).cell (p := ⟨w.heap.size, 1, none⟩) hsV).trans HCV.out) | exact (((below_new V _).drew.cell (p := ⟨w.heap.size, 1, none⟩) hsV).trans HCV.out))
      (first
      | (go_at_call 84
         refine (TC.out _ V.heap.size ((HBV.out.alloc HBV.out.size _).drew) (blk_new V _ _)).mono ?_
         rintro e w4 ⟨v4, rfl, hown4, hb4⟩
         have HO4 := Lib.hid hown4
         have HB4 : Hid (Below V.heap.size V w4) := (by show Below _ _ _; first | exact (below_new V _).trans (hb4.mono (by simp)) | exact (below_new V _).drew.trans (hb4.mono (by simp)))
         have SS4 := Lib.hid ((HB4.out.cell (p := ⟨w.heap.size, 1, none⟩) hsV).trans HCV.out)
         clear hown4 hb4))
    go_wp2_with fail
    go_ret2
    refine ⟨HBV.out.trans (HB4.out.mono HBV.out.size), .inr ⟨_, v4, HVX.out, rfl, ?_⟩⟩
    refine ⟨HO4.out.1, ?_⟩
    rcases HO4.out.2 with h | ⟨g', cap, cur, e, hb2, rest⟩
    · exact .inl h
    · exact .inr ⟨g', cap, cur, e, by have := HBV.out.size; simp at hb2; omega, rest⟩
end Go.Proofs.YtikhhcmfjncabaaGreat
namespace Go.Proofs.YtikhhcmfjncabaaGreat
open Go.RowKit

theorem on_any (A B D : Option Addr) (n m k c d g : Nat) (ins outs ts : List Typ) (w : World) (hn : ins.length = n) (hm : outs.length = m) (hk : ts.length = k) (sn : Sq typL (· < w.heap.size) w A ins) (sm : Sq typL (· < w.heap.size) w B outs) (sk : Sq typL (· < w.heap.size) w D ts)
    (bn : n ≤ 1000) (bm : m ≤ 1000) (bk : k ≤ 1000) (bg : k ≤ g) (bg2 : g ≤ 9223372036854775807) (bd : m ≤ d) (bd2 : d ≤ 9223372036854775807) (hnil : D = none → g = 0) : Calls Tryz.prog 45 #[.agg #[.slice A n c, .slice B m d], .slice D k g] w (Moved (movB ts ins outs) w) := by
  by_cases hlt : k < n
  · exact on_few A B D n m k c d g ins outs ts w hn hm hk sn sm sk hlt bn bm bk bg bg2 bd bd2
  · cases D with
    | none =>
      obtain rfl := hnil rfl
      obtain rfl : k = 0 := by omega
      obtain rfl : n = 0 := by omega
      exact on_none A B m c d ins outs ts w hn hm hk sn sm sk bm bd bd2
    | some a =>
      by_cases hg : g = k - n
      · exact on_full A B a n m k c d g ins outs ts w hn hm hk sn sm sk hlt hg bn bm bk bg bg2 bd bd2
      · exact on_far A B a n m k c d g ins outs ts w hn hm hk sn sm sk hlt hg bn bm bk bg bg2 bd bd2
end Go.Proofs.YtikhhcmfjncabaaGreat
namespace Go.Proofs.YtikhhcmfjncabaaGreat
open Go.RowKit

set_option maxRecDepth 100000 in
set_option maxHeartbeats 1000000 in
theorem index_han (A : Option Addr) (n c : Nat) (xs : List Typ) (g : Typ → Bool) (w : World) (hl : xs.length = n) (h : Sq typL (· < w.heap.size) w A xs) (hn2 : n ≤ 9223372036854775807)
    (hG : ∀ (w1 : World) (cs : List Value) (x : Typ), Below w.heap.size w w1 → x ∈ xs → typL.R (· < w1.heap.size) w1 cs x → Calls Tryz.prog 36 #[vAgg cs] w1 (Tells (g x) w1)) :
    Calls Tryz.prog 71 #[.slice A n c, .func (.func 36) #[] #[]] w fun e w' => ∃ k : Int, e = .returned (.int .i64 k) ∧ decide (0 ≤ k) = xs.any g ∧ Below w.heap.size w w' := by
  have HL := Lib.hid hl
  have HS := Lib.hid h
  have HP0 := Lib.hid hG
  clear hl h hG
  go_enter Tryz.func71, Tryz.ntmps71
  go_wp2_with fail
  go_loopw [8] (fun i wr => ∃ k : Nat, k ≤ n ∧ i = .int .i64 (k : Nat) ∧ (xs.take k).any g = false ∧ Below w.heap.size w wr) (fun i _ => n - (intOf i).toNat)
  case atStart => exact ⟨0, Nat.zero_le _, rfl, by simp, Below.refl _ _⟩
  case round =>
    obtain ⟨k, hk, rfl, hall, hbel⟩ := hrel
    have HA := Lib.hid hall
    have HB := Lib.hid hbel
    have hs := hbel.size
    clear hall hbel
    by_cases hlt : k < n
    · skip
      obtain ⟨x, hx⟩ : ∃ x, xs[k]? = some x := ⟨xs[k]'(by rw [HL.out]; exact hlt), List.getElem?_eq_getElem _⟩
      have hmem : x ∈ xs := List.mem_of_getElem? hx
      obtain ⟨a, cs, rfl, hab, hc, hr⟩ := HS.out.at hx
      have HX := Lib.hid hx
      clear hx
      have HR := Lib.hid hr
      obtain ⟨rfl, -, -⟩ := hr
      have c0 := (HB.out.cell (p := a.add (k * 2)) (by rw [addBlock]; exact hab)).trans (hc 0 _ rfl)
      have c1 := (HB.out.cell (p := a.add (k * 2 + 1)) (by rw [addBlock]; exact hab)).trans (hc 1 _ rfl)
      rw [next_cell a (k * 2) 1 (by omega)] at c1
      have HP : Hid (∀ w1, Below w.heap.size w w1 → Calls Tryz.prog 36 #[.agg #[.int .i64 x.1, .int .i64 x.2]] w1 (Tells (g x) w1)) := fun w1 hb => HP0.out w1 [.int .i64 x.1, .int .i64 x.2] x hb hmem (typL.wide (typL.keep HR.out fun b hb1 => hb.block b hb1) fun b hb1 => Nat.lt_of_lt_of_le hb1 hb.size)
      clear hc
      have hk0 : 0 ≤ (k : Int) := by omega
      cases hg : g x
      · rw [hg] at HP
        have HG := Lib.hid hg
        clear hg
        go_wp2_with (first
          | (go_at_call 36
             refine (HP.out _ HB.out).mono ?_
             rintro e w2 ⟨rfl, hb2⟩
             have Hb2 := Lib.hid (HB.out.trans (hb2.mono hs))
             clear hb2))
        refine ⟨⟨k + 1, by omega, by simp, any_take HA.out HX.out HG.out, Hb2.out⟩, by simp [intOf]; omega⟩
      · rw [hg] at HP
        have e : xs.any g = true := any_here hmem hg
        have E := Lib.hid e
        clear e hg
        go_wp2_with (first
          | (go_at_call 36
             refine (HP.out _ HB.out).mono ?_
             rintro e w2 ⟨rfl, hb2⟩
             have Hb2 := Lib.hid (HB.out.trans (hb2.mono hs))
             clear hb2))
        go_ret
        exact ⟨_, rfl, by rw [E.out]; simp, Hb2.out⟩
    · obtain rfl : k = n := by omega
      go_wp2_with fail
      go_ret
      exact ⟨_, rfl, by rw [any_full HA.out HL.out]; rfl, HB.out⟩

set_option maxRecDepth 100000 in
theorem contains_han (A : Option Addr) (n c : Nat) (xs : List Typ) (g : Typ → Bool) (w : World) (hl : xs.length = n) (h : Sq typL (· < w.heap.size) w A xs) (hn2 : n ≤ 9223372036854775807)
    (hG : ∀ (w1 : World) (cs : List Value) (x : Typ), Below w.heap.size w w1 → x ∈ xs → typL.R (· < w1.heap.size) w1 cs x → Calls Tryz.prog 36 #[vAgg cs] w1 (Tells (g x) w1)) :
    Calls Tryz.prog 35 #[.slice A n c, .func (.func 36) #[] #[]] w (Tells (xs.any g) w) := by
  have HC := Lib.hid (index_han A n c xs g w hl h hn2 hG)
  clear hl h hG
  generalize xs.any g = ab at *
  go_enter Tryz.func35, Tryz.ntmps35
  go_wp2_with (first | (go_at_call 71; refine HC.out.mono ?_; rintro e w1 ⟨k, rfl, hk, hb⟩; have HB := Lib.hid hb; have HK := Lib.hid hk; clear hb hk))
  go_ret
  exact ⟨by rw [← HK.out]; rfl, HB.out⟩
end Go.Proofs.YtikhhcmfjncabaaGreat
namespace Go.Proofs.YtikhhcmfjncabaaGreat
open Go.RowKit

set_option maxRecDepth 100000 in
set_option maxHeartbeats 1000000 in
theorem index_wrg (A : Option Addr) (n c : Nat) (xs : List Typ) (g : Typ → Bool) (w : World) (hl : xs.length = n) (h : Sq typL (· < w.heap.size) w A xs) (hn2 : n ≤ 9223372036854775807)
    (hG : ∀ (w1 : World) (cs : List Value) (x : Typ), Below w.heap.size w w1 → x ∈ xs → typL.R (· < w1.heap.size) w1 cs x → Calls Tryz.prog 76 #[vAgg cs] w1 (Tells (g x) w1)) :
    Calls Tryz.prog 71 #[.slice A n c, .func (.func 76) #[] #[]] w fun e w' => ∃ k : Int, e = .returned (.int .i64 k) ∧ decide (0 ≤ k) = xs.any g ∧ Below w.heap.size w w' := by
  have HL := Lib.hid hl
  have HS := Lib.hid h
  have HP0 := Lib.hid hG
  clear hl h hG
  go_enter Tryz.func71, Tryz.ntmps71
  go_wp2_with fail
  go_loopw [8] (fun i wr => ∃ k : Nat, k ≤ n ∧ i = .int .i64 (k : Nat) ∧ (xs.take k).any g = false ∧ Below w.heap.size w wr) (fun i _ => n - (intOf i).toNat)
  case atStart => exact ⟨0, Nat.zero_le _, rfl, by simp, Below.refl _ _⟩
  case round =>
    obtain ⟨k, hk, rfl, hall, hbel⟩ := hrel
    have HA := Lib.hid hall
    have HB := Lib.hid hbel
    have hs := hbel.size
    clear hall hbel
    by_cases hlt : k < n
    · skip
      obtain ⟨x, hx⟩ : ∃ x, xs[k]? = some x := ⟨xs[k]'(by rw [HL.out]; exact hlt), List.getElem?_eq_getElem _⟩
      have hmem : x ∈ xs := List.mem_of_getElem? hx
      obtain ⟨a, cs, rfl, hab, hc, hr⟩ := HS.out.at hx
      have HX := Lib.hid hx
      clear hx
      have HR := Lib.hid hr
      obtain ⟨rfl, -, -⟩ := hr
      have c0 := (HB.out.cell (p := a.add (k * 2)) (by rw [addBlock]; exact hab)).trans (hc 0 _ rfl)
      have c1 := (HB.out.cell (p := a.add (k * 2 + 1)) (by rw [addBlock]; exact hab)).trans (hc 1 _ rfl)
      rw [next_cell a (k * 2) 1 (by omega)] at c1
      have HP : Hid (∀ w1, Below w.heap.size w w1 → Calls Tryz.prog 76 #[.agg #[.int .i64 x.1, .int .i64 x.2]] w1 (Tells (g x) w1)) := fun w1 hb => HP0.out w1 [.int .i64 x.1, .int .i64 x.2] x hb hmem (typL.wide (typL.keep HR.out fun b hb1 => hb.block b hb1) fun b hb1 => Nat.lt_of_lt_of_le hb1 hb.size)
      clear hc
      have hk0 : 0 ≤ (k : Int) := by omega
      cases hg : g x
      · rw [hg] at HP
        have HG := Lib.hid hg
        clear hg
        go_wp2_with (first
          | (go_at_call 76
             refine (HP.out _ HB.out).mono ?_
             rintro e w2 ⟨rfl, hb2⟩
             have Hb2 := Lib.hid (HB.out.trans (hb2.mono hs))
             clear hb2))
        refine ⟨⟨k + 1, by omega, by simp, any_take HA.out HX.out HG.out, Hb2.out⟩, by simp [intOf]; omega⟩
      · rw [hg] at HP
        have e : xs.any g = true := any_here hmem hg
        have E := Lib.hid e
        clear e hg
        go_wp2_with (first
          | (go_at_call 76
             refine (HP.out _ HB.out).mono ?_
             rintro e w2 ⟨rfl, hb2⟩
             have Hb2 := Lib.hid (HB.out.trans (hb2.mono hs))
             clear hb2))
        go_ret
        exact ⟨_, rfl, by rw [E.out]; simp, Hb2.out⟩
    · obtain rfl : k = n := by omega
      go_wp2_with fail
      go_ret
      exact ⟨_, rfl, by rw [any_full HA.out HL.out]; rfl, HB.out⟩

set_option maxRecDepth 100000 in
theorem contains_wrg (A : Option Addr) (n c : Nat) (xs : List Typ) (g : Typ → Bool) (w : World) (hl : xs.length = n) (h : Sq typL (· < w.heap.size) w A xs) (hn2 : n ≤ 9223372036854775807)
    (hG : ∀ (w1 : World) (cs : List Value) (x : Typ), Below w.heap.size w w1 → x ∈ xs → typL.R (· < w1.heap.size) w1 cs x → Calls Tryz.prog 76 #[vAgg cs] w1 (Tells (g x) w1)) :
    Calls Tryz.prog 35 #[.slice A n c, .func (.func 76) #[] #[]] w (Tells (xs.any g) w) := by
  have HC := Lib.hid (index_wrg A n c xs g w hl h hn2 hG)
  clear hl h hG
  generalize xs.any g = ab at *
  go_enter Tryz.func35, Tryz.ntmps35
  go_wp2_with (first | (go_at_call 71; refine HC.out.mono ?_; rintro e w1 ⟨k, rfl, hk, hb⟩; have HB := Lib.hid hb; have HK := Lib.hid hk; clear hb hk))
  go_ret
  exact ⟨by rw [← HK.out]; rfl, HB.out⟩
end Go.Proofs.YtikhhcmfjncabaaGreat
namespace Go.Proofs.YtikhhcmfjncabaaGreat
open Go.RowKit

theorem isHan_any (x : Typ) (w : World) (cs : List Value) (hr : typL.R (· < w.heap.size) w cs x) : Calls Tryz.prog 36 #[vAgg cs] w (Tells (hanB x) w) := by
  obtain ⟨rfl, -, -⟩ := hr
  show Calls Tryz.prog 36 #[.agg #[.int .i64 x.1, .int .i64 x.2]] w (Tells (hanB x) w)
  have HD : Hid (hanB x = (x.1 == 5)) := by show hanB x = _; rw [Bool.eq_iff_iff]; simp [hanB]
  generalize hanB x = gd at *
  generalize x.1 = q1 at *
  generalize x.2 = q2 at *
  go_enter Tryz.func36, Tryz.ntmps36
  go_wp2_with fail
  go_ret
  exact ⟨by rw [HD.out]; rfl, (Below.refl _ _).alloc (Nat.le_refl _) _⟩

theorem wrong_any (x : Typ) (w : World) (cs : List Value) (hr : typL.R (· < w.heap.size) w cs x) : Calls Tryz.prog 76 #[vAgg cs] w (Tells (!hostB x) w) := by
  have HC : Hid (∀ w1, Calls Tryz.prog 36 #[.agg #[.int .i64 x.1, .int .i64 x.2]] w1 (Tells (hanB x) w1)) := fun w1 => isHan_any x w1 _ ⟨rfl, hr.2⟩
  obtain ⟨rfl, -, -⟩ := hr
  show Calls Tryz.prog 76 #[.agg #[.int .i64 x.1, .int .i64 x.2]] w (Tells (!hostB x) w)
  have HB0 : Hid (∀ o : Obj, Below w.heap.size w (w.alloc o)) := fun o => (Below.refl _ _).alloc (Nat.le_refl _) _
  by_cases h : x.1 = 1
  · have HD : Hid (hostB x = true) := by show hostB x = _; simp [hostB, h]
    have b : (x.1 != 1) = false := by simpa using h
    clear h
    generalize hostB x = gd at *
    generalize x.1 = q1 at *
    generalize x.2 = q2 at *
    go_enter Tryz.func76, Tryz.ntmps76
    go_wp2_with fail
    go_ret
    exact ⟨by rw [HD.out]; rfl, HB0.out _⟩
  · have HD : Hid (hostB x = hanB x) := by show hostB x = _; simp [hostB, hanB, h]
    have b : (x.1 != 1) = true := by simpa using h
    clear h
    generalize hostB x = gd at *
    generalize hanB x = ge at *
    generalize x.1 = q1 at *
    generalize x.2 = q2 at *
    go_enter Tryz.func76, Tryz.ntmps76
    go_wp2_with (first | (go_at_call 36; refine (HC.out _).mono ?_; rintro e w1 ⟨rfl, hb⟩; have HB := Lib.hid ((HB0.out _).trans (hb.mono (by simp))); clear hb))
    go_ret
    exact ⟨by rw [HD.out]; rfl, HB.out⟩

set_option maxRecDepth 100000 in
theorem wrongImport_any (x : Imp) (w : World) (cs : List Value) (hr : impL.R (· < w.heap.size) w cs x) : Calls Tryz.prog 41 #[vAgg cs] w (Tells (badImp x) w) := by
  obtain ⟨p0, rfl, i1, i2, ⟨A4, d4, e4, l4, m4, s4⟩⟩ := hr
  simp only [List.cons.injEq, and_true] at e4
  subst e4
  show Calls Tryz.prog 41 #[.agg #[.slice A4 x.args.length d4, .int .i64 x.ret.1, .int .i64 x.ret.2]] w (Tells (badImp x) w)
  obtain ⟨n, hn⟩ : ∃ n, x.args.length = n := ⟨_, rfl⟩
  have hn2 : n ≤ 9223372036854775807 := by unfold maxLen at m4; omega
  have T0 : Hid (∀ w1, Below w.heap.size w w1 → Calls Tryz.prog 35 #[.slice A4 n d4, .func (.func 76) #[] #[]] w1 (Tells (x.args.any fun t => !hostB t) w1)) := fun w1 hb =>
    contains_wrg A4 n d4 x.args (fun t => !hostB t) w1 hn ((s4.keep fun b hb1 => hb.block b hb1).wide fun b hb1 => Nat.lt_of_lt_of_le hb1 hb.size) hn2 fun w2 cs y _ _ hr => wrong_any y w2 cs hr
  have T1 : Hid (∀ w1, Calls Tryz.prog 76 #[.agg #[.int .i64 x.ret.1, .int .i64 x.ret.2]] w1 (Tells (!hostB x.ret) w1)) := fun w1 => wrong_any x.ret w1 _ ⟨rfl, i1, i2⟩
  have HO : Hid (badImp x = ((x.args.any fun t => !hostB t) || !hostB x.ret)) := rfl
  rw [hn]
  clear hn l4 m4 s4 i1 i2
  generalize badImp x = gd at *
  generalize (x.args.any fun t => !hostB t) = b1 at *
  generalize (!hostB x.ret) = b2 at *
  generalize x.ret.1 = k1 at *
  generalize x.ret.2 = k2 at *
  have HB0 : Hid (Below w.heap.size w (w.alloc (.cells #[.slice A4 n d4, .int .i64 k1, .int .i64 k2] 46))) := (Below.refl _ _).alloc (Nat.le_refl _) _
  have HX1 : Hid (∀ w1, Below (w.alloc (.cells #[.slice A4 n d4, .int .i64 k1, .int .i64 k2] 46)).heap.size (w.alloc (.cells #[.slice A4 n d4, .int .i64 k1, .int .i64 k2] 46)) w1 → w1.cell? ⟨w.heap.size, 1, none⟩ = some (.int .i64 k1) ∧ w1.cell? ⟨w.heap.size, 2, none⟩ = some (.int .i64 k2)) := fun w1 h1 =>
    ⟨(h1.cell (p := ⟨w.heap.size, 1, none⟩) (by simp)).trans (by simp [go_sem]), (h1.cell (p := ⟨w.heap.size, 2, none⟩) (by simp)).trans (by simp [go_sem])⟩
  cases b1
  all_goals
    go_enter Tryz.func41, Tryz.ntmps41
    go_wp2_with (first
      | (go_at_call 35
         refine (T0.out _ HB0.out).mono ?_
         rintro e w1 ⟨rfl, hb1⟩
         have HB1 := Lib.hid (HB0.out.trans (hb1.mono HB0.out.size))
         obtain ⟨y1, y2⟩ := HX1.out w1 hb1
         clear hb1)
      | (go_at_call 76
         refine (T1.out _).mono ?_
         rintro e w2 ⟨rfl, hb2⟩
         have HB2 := Lib.hid (HB1.out.trans (hb2.mono HB1.out.size))
         clear hb2))
    go_ret
  · exact ⟨by rw [HO.out]; rfl, HB2.out⟩
  · exact ⟨by rw [HO.out]; rfl, HB1.out⟩
end Go.Proofs.YtikhhcmfjncabaaGreat
