/-
  The law FlowSteps, where the stack is long, or there is no such instruction. Conditions: as each theorem says.
-/
import Derived.Test.YtlfcglolehmmiaaQ38
import Derived.OwnWalk
namespace Go.Proofs.Ytlfcglolehmmiaa
open Go.RowKit
set_option linter.unusedSimpArgs false
set_option linter.unusedVariables false

set_option maxRecDepth 100000 in
set_option maxHeartbeats 4000000 in
theorem steps_out (cs : List Value) (x : Mod) (fi pc : Int) (D : Option Addr) (k g : Nat) (ts : List Typ) (w : World) (h : modL.R (· < w.heap.size) w cs x) (hz : Zm x) (hfi : I64 fi) (hpc : I64 pc) (hk : ts.length = k) (sk : Sq typL (· < w.heap.size) w D ts) (bg : k ≤ g) (bg2 : g ≤ 9223372036854775807) (hnil : D = none → g = 0) (hno : 20 < k) : Calls Try.prog 3 #[vAgg cs, .int .i64 fi, .int .i64 pc, .slice D k g] w fun e w' => e = .returned (.bool true) ∧ Below w.heap.size w w' := by
  have AN := Lib.hid (fun w => answers8 w)
  have L0 : Hid (∀ w1, Below w.heap.size w w1 → Calls Try.prog 8 #[vAgg cs] w1 fun e w' => ∃ b : Bool, e = .returned (.bool b) ∧ Below w1.heap.size w1 w' ∧ (b = true → Small x)) := fun w1 hb => light_any cs x w1 (mod_at h hb) hz
  obtain ⟨A0, A1, A2, A3, A4, n0, n1, n2, n3, n4, d0, d1, d2, d3, d4, rfl⟩ := mod_shape h
  clear h hz hfi hpc hk sk
  simp only [vAgg] at L0 ⊢
  have h20i : (20 : Int) < (k : Int) := by omega
  go_enter Try.func3, Try.ntmps3
  go_wp2_with fail
  refine calls_world fun W hW => ?_
  have HB0 : Hid (Below w.heap.size w W) := by show Below _ _ _; rw [hW]; exact (Below.refl _ _).alloc (Nat.le_refl _) _
  have HC0 : Hid (C5 w.heap.size (.slice A0 n0 d0) (.slice A1 n1 d1) (.slice A2 n2 d2) (.slice A3 n3 d3) (.slice A4 n4 d4) W) := by show C5 _ _ _ _ _ _ _; rw [hW]; simp [C5, go_sem]
  have hzW : w.heap.size < W.heap.size := by rw [hW]; simp
  clear hW
  refine (L0.out W HB0.out).mono ?_
  rintro e V ⟨lb, rfl, hb1, -⟩
  have HB1 := Lib.hid (HB0.out.trans (hb1.mono HB0.out.size))
  have HC1 := Lib.hid (HC0.out.below hb1 hzW)
  have hzV : w.heap.size < V.heap.size := Nat.lt_of_lt_of_le hzW hb1.size
  clear hb1
  cases lb
  · go_wp2_with (first | (go_at_call 9; refine (AN.out _).mono ?_; rintro e w2 ⟨rfl, hb2⟩; have HW2 := Lib.hid (HB1.out.trans (hb2.mono HB1.out.size)); clear hb2))
    go_ret
    exact ⟨rfl, HW2.out⟩
  go_wp2_with (first | (go_at_call 9; refine (AN.out _).mono ?_; rintro e w2 ⟨rfl, hb2⟩; have HW2 := Lib.hid (HB1.out.trans (hb2.mono HB1.out.size)); clear hb2))
  go_ret
  exact ⟨rfl, HW2.out⟩
set_option maxRecDepth 100000 in
set_option maxHeartbeats 8000000 in
theorem steps_bad (cs : List Value) (x : Mod) (fi pc : Int) (D : Option Addr) (k g : Nat) (ts : List Typ) (w : World) (h : modL.R (· < w.heap.size) w cs x) (hz : Zm x) (hfi : I64 fi) (hpc : I64 pc) (hk : ts.length = k) (sk : Sq typL (· < w.heap.size) w D ts) (bg : k ≤ g) (bg2 : g ≤ 9223372036854775807) (hnil : D = none → g = 0) (h20 : k ≤ 20) (hc : checkN x ≠ 0) : Calls Try.prog 3 #[vAgg cs, .int .i64 fi, .int .i64 pc, .slice D k g] w fun e w' => e = .returned (.bool true) ∧ Below w.heap.size w w' := by
  have bk : k ≤ 1000 := by omega
  have AN := Lib.hid (fun w => answers8 w)
  have L0 : Hid (∀ w1, Below w.heap.size w w1 → Calls Try.prog 8 #[vAgg cs] w1 fun e w' => ∃ b : Bool, e = .returned (.bool b) ∧ Below w1.heap.size w1 w' ∧ (b = true → Small x)) := fun w1 hb => light_any cs x w1 (mod_at h hb) hz
  have FA : Hid (k ≤ 1000 → ∀ v, Below w.heap.size w v → Calls Try.prog 10 #[vAgg cs, .int .i64 fi, .int .i64 pc, .slice D k g] v (Flows (flowB x fi pc ts) v)) := fun bk v hb => flow_any cs x fi pc D k g ts v (mod_at h hb) hfi hpc hk ((sk.below hb (Nat.le_refl _)).wide fun i hi => Nat.lt_of_lt_of_le hi hb.size) bk bg bg2 hnil
  have CK0 : Hid (Small x → ∀ v, Below w.heap.size w v → Calls Try.prog 12 #[vAgg cs] v fun e w' => e = .returned (.int .i64 (checkN x)) ∧ Below v.heap.size v w') := fun hsm v hb => rcheck_any cs x v (mod_at h hb) hsm
  have HK := Lib.hid hk
  have HA64 := Lib.hid sk.a64
  have SKv : Hid (∀ v, Below w.heap.size w v → Sq typL (· < v.heap.size) v D ts) := fun v hb => (sk.below hb (Nat.le_refl _)).wide fun i hi => Nat.lt_of_lt_of_le hi hb.size
  rw [flowB_bad hc] at FA
  have FA2 := Lib.hid (FA.out bk)
  obtain ⟨A0, A1, A2, A3, A4, n0, n1, n2, n3, n4, d0, d1, d2, d3, d4, rfl⟩ := mod_shape h
  have b1 : (checkN x != 0) = true := by simpa using hc
  clear h hz hfi hpc hk sk FA hc
  simp only [vAgg] at L0 FA2 CK0 ⊢
  generalize checkN x = cn at *
  have h20i : ¬ (20 : Int) < (k : Int) := by omega
  go_enter Try.func3, Try.ntmps3
  go_wp2_with fail
  refine calls_world fun W hW => ?_
  have HB0 : Hid (Below w.heap.size w W) := by show Below _ _ _; rw [hW]; exact (Below.refl _ _).alloc (Nat.le_refl _) _
  have HC0 : Hid (C5 w.heap.size (.slice A0 n0 d0) (.slice A1 n1 d1) (.slice A2 n2 d2) (.slice A3 n3 d3) (.slice A4 n4 d4) W) := by show C5 _ _ _ _ _ _ _; rw [hW]; simp [C5, go_sem]
  have hzW : w.heap.size < W.heap.size := by rw [hW]; simp
  clear hW
  refine (L0.out W HB0.out).mono ?_
  rintro e V ⟨lb, rfl, hb1, hsm⟩
  have HB1 := Lib.hid (HB0.out.trans (hb1.mono HB0.out.size))
  have HC1 := Lib.hid (HC0.out.below hb1 hzW)
  have hzV : w.heap.size < V.heap.size := Nat.lt_of_lt_of_le hzW hb1.size
  clear hb1
  cases lb
  · go_wp2_with (first | (go_at_call 9; refine (AN.out _).mono ?_; rintro e w2 ⟨rfl, hb2⟩; have HW2 := Lib.hid (HB1.out.trans (hb2.mono HB1.out.size)); clear hb2))
    go_ret
    exact ⟨rfl, HW2.out⟩
  have CK2 := Lib.hid (CK0.out (hsm rfl))
  clear CK0 hsm
  have HOE := Lib.hid (own_tys_empty V)
  go_upto_region 7 with (first
    | (at_builtin
       refine walk_append_tys _ rfl (.tmp 26) (.tmp 27) rfl V.heap.size (.slice (some ⟨V.heap.size, 0, none⟩) 0 0) 0 [] rfl HOE.out D k g ts rfl HK.out _ (SKv.out _ (HB1.out.alloc HB1.out.size _)) (by omega) (by simp) ?_
       intro v3 w3 hown3 hg3 _
       have HB3 := Lib.hid ((below_new V _).grown hg3 (by simp) (fun i hi => (HOE.out.lt i hi).1))
       have HO3 : Hid (w3.ownsRow V.heap.size 39 2 v3 k (T2 ts)) := (by show World.ownsRow _ _ _ _ _ _ _; simpa using hown3)
       have HW3 := Lib.hid (HB1.out.trans (HB3.out.mono HB1.out.size))
       obtain ⟨x0, x1, x2, x3, x4⟩ := HC1.out.below HB3.out hzV
       have HC3 := Lib.hid (HC1.out.below HB3.out hzV)
       have hz3 : w.heap.size < w3.heap.size := Nat.lt_of_lt_of_le hzV HB3.out.size
       obtain ⟨Q3, b3, rfl, -, -, -, -⟩ := own_sq HO3.out HA64.out
       clear hown3 hg3)
    | (go_at_call 10
       refine (FA2.out _ HW3.out).mono ?_
       intro e w4 hq4
       obtain ⟨hb4, v4, u4, rfl, ho4, hu4, -, h64⟩ := flows_at hq4
       clear hq4
       have HO4 := Lib.hid ho4
       have HU4 := Lib.hid hu4
       have H64 := Lib.hid h64
       have HB4 := Lib.hid hb4
       have HW4 := Lib.hid (HW3.out.trans (hb4.mono HW3.out.size))
       have HC4 := Lib.hid (HC3.out.below hb4 hz3)
       have hz4 : w.heap.size < w4.heap.size := Nat.lt_of_lt_of_le hz3 hb4.size
       obtain ⟨V4, e4', rfl, -, -, -, -⟩ := own_sq ho4 h64
       obtain ⟨U4, f4', rfl, -, -, -⟩ := own_ints hu4
       have TY4 := Lib.hid (own_types HO3.out HA64.out hb4 HW4.out SKv.out HK.out bk g)
       clear hb4 ho4 hu4 h64 x0 x1 x2 x3 x4)
    | (go_at_call 11
       refine TY4.out.mono ?_
       rintro e w5 ⟨rfl, hb5⟩
       have HB5 := Lib.hid hb5
       have HW5 := Lib.hid (HW4.out.trans (hb5.mono HW4.out.size))
       have HC5 := Lib.hid (HC4.out.below hb5 hz4)
       have hz5 : w.heap.size < w5.heap.size := Nat.lt_of_lt_of_le hz4 hb5.size
       obtain ⟨x0, x1, x2, x3, x4⟩ := HC4.out.below hb5 hz4
       clear hb5))
  try simp only [List.length_nil]
  go_wp2_with (first
    | (go_at_call 12
       refine (CK2.out _ HW5.out).mono ?_
       rintro e w6 ⟨rfl, hb6⟩
       have HB6 := Lib.hid hb6
       have HW6 := Lib.hid (HW5.out.trans (hb6.mono HW5.out.size))
       have HC6 := Lib.hid (HC5.out.below hb6 hz5)
       have hz6 : w.heap.size < w6.heap.size := Nat.lt_of_lt_of_le hz5 hb6.size
       clear x0 x1 x2 x3 x4
       obtain ⟨x0, x1, x2, x3, x4⟩ := HC6.out
       skip
       clear hb6)
    | (go_at_call 9; refine (AN.out _).mono ?_; rintro e w8 ⟨rfl, hb8⟩; have HW8 := Lib.hid (HW6.out.trans (hb8.mono HW6.out.size)); clear hb8))
  go_ret
  exact ⟨rfl, HW8.out⟩
set_option maxRecDepth 100000 in
set_option maxHeartbeats 8000000 in
theorem steps_nofn_neg (cs : List Value) (x : Mod) (fi pc : Int) (D : Option Addr) (k g : Nat) (ts : List Typ) (w : World) (h : modL.R (· < w.heap.size) w cs x) (hz : Zm x) (hfi : I64 fi) (hpc : I64 pc) (hk : ts.length = k) (sk : Sq typL (· < w.heap.size) w D ts) (bg : k ≤ g) (bg2 : g ≤ 9223372036854775807) (hnil : D = none → g = 0) (h20 : k ≤ 20) (hc : checkN x = 0) (hf : hasB x.funcs.length fi = false) (hq : fi < 0) : Calls Try.prog 3 #[vAgg cs, .int .i64 fi, .int .i64 pc, .slice D k g] w fun e w' => e = .returned (.bool true) ∧ Below w.heap.size w w' := by
  have bk : k ≤ 1000 := by omega
  have AN := Lib.hid (fun w => answers8 w)
  have L0 : Hid (∀ w1, Below w.heap.size w w1 → Calls Try.prog 8 #[vAgg cs] w1 fun e w' => ∃ b : Bool, e = .returned (.bool b) ∧ Below w1.heap.size w1 w' ∧ (b = true → Small x)) := fun w1 hb => light_any cs x w1 (mod_at h hb) hz
  have FA : Hid (k ≤ 1000 → ∀ v, Below w.heap.size w v → Calls Try.prog 10 #[vAgg cs, .int .i64 fi, .int .i64 pc, .slice D k g] v (Flows (flowB x fi pc ts) v)) := fun bk v hb => flow_any cs x fi pc D k g ts v (mod_at h hb) hfi hpc hk ((sk.below hb (Nat.le_refl _)).wide fun i hi => Nat.lt_of_lt_of_le hi hb.size) bk bg bg2 hnil
  have CK0 : Hid (Small x → ∀ v, Below w.heap.size w v → Calls Try.prog 12 #[vAgg cs] v fun e w' => e = .returned (.int .i64 (checkN x)) ∧ Below v.heap.size v w') := fun hsm v hb => rcheck_any cs x v (mod_at h hb) hsm
  have HK := Lib.hid hk
  have HA64 := Lib.hid sk.a64
  have SKv : Hid (∀ v, Below w.heap.size w v → Sq typL (· < v.heap.size) v D ts) := fun v hb => (sk.below hb (Nat.le_refl _)).wide fun i hi => Nat.lt_of_lt_of_le hi hb.size
  rw [flowB_nofn hf] at FA
  have FA2 := Lib.hid (FA.out bk)
  rw [hc] at CK0
  obtain ⟨_, _, _, _, _, rfl, ⟨A0, d0, e0, -⟩, ⟨A1, d1, e1, -⟩, ⟨A2, d2, e2, -⟩, ⟨A3, d3, e3, -⟩, ⟨A4, d4, e4, -⟩⟩ := h
  simp only [List.cons.injEq, and_true] at e0 e1 e2 e3 e4
  subst e0 e1 e2 e3 e4
  generalize x.recs.length = n0 at *
  generalize x.funcs.length = n1 at *
  generalize x.imps.length = n2 at *
  generalize x.ints.length = n3 at *
  generalize x.texts.length = n4 at *
  have b1 : decide (fi < 0) = true := by simpa using hq
  clear hz hfi hpc hk sk FA hc hf
  simp only [vAgg] at L0 FA2 CK0 ⊢
  have h20i : ¬ (20 : Int) < (k : Int) := by omega
  go_enter Try.func3, Try.ntmps3
  go_wp2_with fail
  refine calls_world fun W hW => ?_
  have HB0 : Hid (Below w.heap.size w W) := by show Below _ _ _; rw [hW]; exact (Below.refl _ _).alloc (Nat.le_refl _) _
  have HC0 : Hid (C5 w.heap.size (.slice A0 n0 d0) (.slice A1 n1 d1) (.slice A2 n2 d2) (.slice A3 n3 d3) (.slice A4 n4 d4) W) := by show C5 _ _ _ _ _ _ _; rw [hW]; simp [C5, go_sem]
  have hzW : w.heap.size < W.heap.size := by rw [hW]; simp
  clear hW
  refine (L0.out W HB0.out).mono ?_
  rintro e V ⟨lb, rfl, hb1, hsm⟩
  have HB1 := Lib.hid (HB0.out.trans (hb1.mono HB0.out.size))
  have HC1 := Lib.hid (HC0.out.below hb1 hzW)
  have hzV : w.heap.size < V.heap.size := Nat.lt_of_lt_of_le hzW hb1.size
  clear hb1
  cases lb
  · go_wp2_with (first | (go_at_call 9; refine (AN.out _).mono ?_; rintro e w2 ⟨rfl, hb2⟩; have HW2 := Lib.hid (HB1.out.trans (hb2.mono HB1.out.size)); clear hb2))
    go_ret
    exact ⟨rfl, HW2.out⟩
  have CK2 := Lib.hid (CK0.out (hsm rfl))
  clear CK0 hsm
  have HOE := Lib.hid (own_tys_empty V)
  go_upto_region 7 with (first
    | (at_builtin
       refine walk_append_tys _ rfl (.tmp 26) (.tmp 27) rfl V.heap.size (.slice (some ⟨V.heap.size, 0, none⟩) 0 0) 0 [] rfl HOE.out D k g ts rfl HK.out _ (SKv.out _ (HB1.out.alloc HB1.out.size _)) (by omega) (by simp) ?_
       intro v3 w3 hown3 hg3 _
       have HB3 := Lib.hid ((below_new V _).grown hg3 (by simp) (fun i hi => (HOE.out.lt i hi).1))
       have HO3 : Hid (w3.ownsRow V.heap.size 39 2 v3 k (T2 ts)) := (by show World.ownsRow _ _ _ _ _ _ _; simpa using hown3)
       have HW3 := Lib.hid (HB1.out.trans (HB3.out.mono HB1.out.size))
       obtain ⟨x0, x1, x2, x3, x4⟩ := HC1.out.below HB3.out hzV
       have HC3 := Lib.hid (HC1.out.below HB3.out hzV)
       have hz3 : w.heap.size < w3.heap.size := Nat.lt_of_lt_of_le hzV HB3.out.size
       obtain ⟨Q3, b3, rfl, -, -, -, -⟩ := own_sq HO3.out HA64.out
       clear hown3 hg3)
    | (go_at_call 10
       refine (FA2.out _ HW3.out).mono ?_
       intro e w4 hq4
       obtain ⟨hb4, v4, u4, rfl, ho4, hu4, -, h64⟩ := flows_at hq4
       clear hq4
       have HO4 := Lib.hid ho4
       have HU4 := Lib.hid hu4
       have H64 := Lib.hid h64
       have HB4 := Lib.hid hb4
       have HW4 := Lib.hid (HW3.out.trans (hb4.mono HW3.out.size))
       have HC4 := Lib.hid (HC3.out.below hb4 hz3)
       have hz4 : w.heap.size < w4.heap.size := Nat.lt_of_lt_of_le hz3 hb4.size
       obtain ⟨V4, e4', rfl, -, -, -, -⟩ := own_sq ho4 h64
       obtain ⟨U4, f4', rfl, -, -, -⟩ := own_ints hu4
       have TY4 := Lib.hid (own_types HO3.out HA64.out hb4 HW4.out SKv.out HK.out bk g)
       clear hb4 ho4 hu4 h64 x0 x1 x2 x3 x4)
    | (go_at_call 11
       refine TY4.out.mono ?_
       rintro e w5 ⟨rfl, hb5⟩
       have HB5 := Lib.hid hb5
       have HW5 := Lib.hid (HW4.out.trans (hb5.mono HW4.out.size))
       have HC5 := Lib.hid (HC4.out.below hb5 hz4)
       have hz5 : w.heap.size < w5.heap.size := Nat.lt_of_lt_of_le hz4 hb5.size
       obtain ⟨x0, x1, x2, x3, x4⟩ := HC4.out.below hb5 hz4
       clear hb5))
  try simp only [List.length_nil]
  go_wp2_with (first
    | (go_at_call 12
       refine (CK2.out _ HW5.out).mono ?_
       rintro e w6 ⟨rfl, hb6⟩
       have HB6 := Lib.hid hb6
       have HW6 := Lib.hid (HW5.out.trans (hb6.mono HW5.out.size))
       have HC6 := Lib.hid (HC5.out.below hb6 hz5)
       have hz6 : w.heap.size < w6.heap.size := Nat.lt_of_lt_of_le hz5 hb6.size
       clear x0 x1 x2 x3 x4
       obtain ⟨x0, x1, x2, x3, x4⟩ := HC6.out
       skip
       clear hb6)
    | (go_at_call 9; refine (AN.out _).mono ?_; rintro e w8 ⟨rfl, hb8⟩; have HW8 := Lib.hid (HW6.out.trans (hb8.mono HW6.out.size)); clear hb8))
  go_ret
  exact ⟨rfl, HW8.out⟩
set_option maxRecDepth 100000 in
set_option maxHeartbeats 8000000 in
theorem steps_nofn_far (cs : List Value) (x : Mod) (fi pc : Int) (D : Option Addr) (k g : Nat) (ts : List Typ) (w : World) (h : modL.R (· < w.heap.size) w cs x) (hz : Zm x) (hfi : I64 fi) (hpc : I64 pc) (hk : ts.length = k) (sk : Sq typL (· < w.heap.size) w D ts) (bg : k ≤ g) (bg2 : g ≤ 9223372036854775807) (hnil : D = none → g = 0) (h20 : k ≤ 20) (hc : checkN x = 0) (hf : hasB x.funcs.length fi = false) (hq : ¬ fi < 0) : Calls Try.prog 3 #[vAgg cs, .int .i64 fi, .int .i64 pc, .slice D k g] w fun e w' => e = .returned (.bool true) ∧ Below w.heap.size w w' := by
  have bk : k ≤ 1000 := by omega
  have AN := Lib.hid (fun w => answers8 w)
  have L0 : Hid (∀ w1, Below w.heap.size w w1 → Calls Try.prog 8 #[vAgg cs] w1 fun e w' => ∃ b : Bool, e = .returned (.bool b) ∧ Below w1.heap.size w1 w' ∧ (b = true → Small x)) := fun w1 hb => light_any cs x w1 (mod_at h hb) hz
  have FA : Hid (k ≤ 1000 → ∀ v, Below w.heap.size w v → Calls Try.prog 10 #[vAgg cs, .int .i64 fi, .int .i64 pc, .slice D k g] v (Flows (flowB x fi pc ts) v)) := fun bk v hb => flow_any cs x fi pc D k g ts v (mod_at h hb) hfi hpc hk ((sk.below hb (Nat.le_refl _)).wide fun i hi => Nat.lt_of_lt_of_le hi hb.size) bk bg bg2 hnil
  have CK0 : Hid (Small x → ∀ v, Below w.heap.size w v → Calls Try.prog 12 #[vAgg cs] v fun e w' => e = .returned (.int .i64 (checkN x)) ∧ Below v.heap.size v w') := fun hsm v hb => rcheck_any cs x v (mod_at h hb) hsm
  have HK := Lib.hid hk
  have HA64 := Lib.hid sk.a64
  have SKv : Hid (∀ v, Below w.heap.size w v → Sq typL (· < v.heap.size) v D ts) := fun v hb => (sk.below hb (Nat.le_refl _)).wide fun i hi => Nat.lt_of_lt_of_le hi hb.size
  rw [flowB_nofn hf] at FA
  have FA2 := Lib.hid (FA.out bk)
  rw [hc] at CK0
  obtain ⟨_, _, _, _, _, rfl, ⟨A0, d0, e0, -⟩, ⟨A1, d1, e1, -⟩, ⟨A2, d2, e2, -⟩, ⟨A3, d3, e3, -⟩, ⟨A4, d4, e4, -⟩⟩ := h
  simp only [List.cons.injEq, and_true] at e0 e1 e2 e3 e4
  subst e0 e1 e2 e3 e4
  generalize x.recs.length = n0 at *
  generalize x.funcs.length = n1 at *
  generalize x.imps.length = n2 at *
  generalize x.ints.length = n3 at *
  generalize x.texts.length = n4 at *
  have b1 : decide (fi < 0) = false := by simpa using hq
  have b2 : (n1 : Int) ≤ fi := by simp [hasB] at hf; omega
  have b3 : decide ((n1 : Int) ≤ fi) = true := by simpa using b2
  clear hz hfi hpc hk sk FA hc hf
  simp only [vAgg] at L0 FA2 CK0 ⊢
  have h20i : ¬ (20 : Int) < (k : Int) := by omega
  go_enter Try.func3, Try.ntmps3
  go_wp2_with fail
  refine calls_world fun W hW => ?_
  have HB0 : Hid (Below w.heap.size w W) := by show Below _ _ _; rw [hW]; exact (Below.refl _ _).alloc (Nat.le_refl _) _
  have HC0 : Hid (C5 w.heap.size (.slice A0 n0 d0) (.slice A1 n1 d1) (.slice A2 n2 d2) (.slice A3 n3 d3) (.slice A4 n4 d4) W) := by show C5 _ _ _ _ _ _ _; rw [hW]; simp [C5, go_sem]
  have hzW : w.heap.size < W.heap.size := by rw [hW]; simp
  clear hW
  refine (L0.out W HB0.out).mono ?_
  rintro e V ⟨lb, rfl, hb1, hsm⟩
  have HB1 := Lib.hid (HB0.out.trans (hb1.mono HB0.out.size))
  have HC1 := Lib.hid (HC0.out.below hb1 hzW)
  have hzV : w.heap.size < V.heap.size := Nat.lt_of_lt_of_le hzW hb1.size
  clear hb1
  cases lb
  · go_wp2_with (first | (go_at_call 9; refine (AN.out _).mono ?_; rintro e w2 ⟨rfl, hb2⟩; have HW2 := Lib.hid (HB1.out.trans (hb2.mono HB1.out.size)); clear hb2))
    go_ret
    exact ⟨rfl, HW2.out⟩
  have CK2 := Lib.hid (CK0.out (hsm rfl))
  clear CK0 hsm
  have HOE := Lib.hid (own_tys_empty V)
  go_upto_region 7 with (first
    | (at_builtin
       refine walk_append_tys _ rfl (.tmp 26) (.tmp 27) rfl V.heap.size (.slice (some ⟨V.heap.size, 0, none⟩) 0 0) 0 [] rfl HOE.out D k g ts rfl HK.out _ (SKv.out _ (HB1.out.alloc HB1.out.size _)) (by omega) (by simp) ?_
       intro v3 w3 hown3 hg3 _
       have HB3 := Lib.hid ((below_new V _).grown hg3 (by simp) (fun i hi => (HOE.out.lt i hi).1))
       have HO3 : Hid (w3.ownsRow V.heap.size 39 2 v3 k (T2 ts)) := (by show World.ownsRow _ _ _ _ _ _ _; simpa using hown3)
       have HW3 := Lib.hid (HB1.out.trans (HB3.out.mono HB1.out.size))
       obtain ⟨x0, x1, x2, x3, x4⟩ := HC1.out.below HB3.out hzV
       have HC3 := Lib.hid (HC1.out.below HB3.out hzV)
       have hz3 : w.heap.size < w3.heap.size := Nat.lt_of_lt_of_le hzV HB3.out.size
       obtain ⟨Q3, b3, rfl, -, -, -, -⟩ := own_sq HO3.out HA64.out
       clear hown3 hg3)
    | (go_at_call 10
       refine (FA2.out _ HW3.out).mono ?_
       intro e w4 hq4
       obtain ⟨hb4, v4, u4, rfl, ho4, hu4, -, h64⟩ := flows_at hq4
       clear hq4
       have HO4 := Lib.hid ho4
       have HU4 := Lib.hid hu4
       have H64 := Lib.hid h64
       have HB4 := Lib.hid hb4
       have HW4 := Lib.hid (HW3.out.trans (hb4.mono HW3.out.size))
       have HC4 := Lib.hid (HC3.out.below hb4 hz3)
       have hz4 : w.heap.size < w4.heap.size := Nat.lt_of_lt_of_le hz3 hb4.size
       obtain ⟨V4, e4', rfl, -, -, -, -⟩ := own_sq ho4 h64
       obtain ⟨U4, f4', rfl, -, -, -⟩ := own_ints hu4
       have TY4 := Lib.hid (own_types HO3.out HA64.out hb4 HW4.out SKv.out HK.out bk g)
       clear hb4 ho4 hu4 h64 x0 x1 x2 x3 x4)
    | (go_at_call 11
       refine TY4.out.mono ?_
       rintro e w5 ⟨rfl, hb5⟩
       have HB5 := Lib.hid hb5
       have HW5 := Lib.hid (HW4.out.trans (hb5.mono HW4.out.size))
       have HC5 := Lib.hid (HC4.out.below hb5 hz4)
       have hz5 : w.heap.size < w5.heap.size := Nat.lt_of_lt_of_le hz4 hb5.size
       obtain ⟨x0, x1, x2, x3, x4⟩ := HC4.out.below hb5 hz4
       clear hb5))
  try simp only [List.length_nil]
  go_wp2_with (first
    | (go_at_call 12
       refine (CK2.out _ HW5.out).mono ?_
       rintro e w6 ⟨rfl, hb6⟩
       have HB6 := Lib.hid hb6
       have HW6 := Lib.hid (HW5.out.trans (hb6.mono HW5.out.size))
       have HC6 := Lib.hid (HC5.out.below hb6 hz5)
       have hz6 : w.heap.size < w6.heap.size := Nat.lt_of_lt_of_le hz5 hb6.size
       clear x0 x1 x2 x3 x4
       obtain ⟨x0, x1, x2, x3, x4⟩ := HC6.out
       skip
       clear hb6)
    | (go_at_call 9; refine (AN.out _).mono ?_; rintro e w8 ⟨rfl, hb8⟩; have HW8 := Lib.hid (HW6.out.trans (hb8.mono HW6.out.size)); clear hb8))
  go_ret
  exact ⟨rfl, HW8.out⟩
set_option maxRecDepth 100000 in
set_option maxHeartbeats 8000000 in
theorem steps_nopc_neg (cs : List Value) (x : Mod) (j : Nat) (pc : Int) (D : Option Addr) (k g : Nat) (ts : List Typ) (w : World) (h : modL.R (· < w.heap.size) w cs x) (hz : Zm x) (hfi : I64 (j : Int)) (hpc : I64 pc) (hk : ts.length = k) (sk : Sq typL (· < w.heap.size) w D ts) (bg : k ≤ g) (bg2 : g ≤ 9223372036854775807) (hnil : D = none → g = 0) (h20 : k ≤ 20) (fn : Fn) (hc : checkN x = 0) (hfn : x.funcs[j]? = some fn) (hp : hasB fn.code.length pc = false) (hq : pc < 0) : Calls Try.prog 3 #[vAgg cs, .int .i64 (j : Int), .int .i64 pc, .slice D k g] w fun e w' => e = .returned (.bool true) ∧ Below w.heap.size w w' := by
  have bk : k ≤ 1000 := by omega
  have AN := Lib.hid (fun w => answers8 w)
  have L0 : Hid (∀ w1, Below w.heap.size w w1 → Calls Try.prog 8 #[vAgg cs] w1 fun e w' => ∃ b : Bool, e = .returned (.bool b) ∧ Below w1.heap.size w1 w' ∧ (b = true → Small x)) := fun w1 hb => light_any cs x w1 (mod_at h hb) hz
  have FA : Hid (k ≤ 1000 → ∀ v, Below w.heap.size w v → Calls Try.prog 10 #[vAgg cs, .int .i64 (j : Int), .int .i64 pc, .slice D k g] v (Flows (flowB x (j : Int) pc ts) v)) := fun bk v hb => flow_any cs x (j : Int) pc D k g ts v (mod_at h hb) hfi hpc hk ((sk.below hb (Nat.le_refl _)).wide fun i hi => Nat.lt_of_lt_of_le hi hb.size) bk bg bg2 hnil
  have CK0 : Hid (Small x → ∀ v, Below w.heap.size w v → Calls Try.prog 12 #[vAgg cs] v fun e w' => e = .returned (.int .i64 (checkN x)) ∧ Below v.heap.size v w') := fun hsm v hb => rcheck_any cs x v (mod_at h hb) hsm
  have HK := Lib.hid hk
  have HA64 := Lib.hid sk.a64
  have SKv : Hid (∀ v, Below w.heap.size w v → Sq typL (· < v.heap.size) v D ts) := fun v hb => (sk.below hb (Nat.le_refl _)).wide fun i hi => Nat.lt_of_lt_of_le hi hb.size
  rw [flowB_nopc hfn hp] at FA
  have FA2 := Lib.hid (FA.out bk)
  rw [hc] at CK0
  obtain ⟨_, _, _, _, _, rfl, ⟨A0, d0, e0, -⟩, ⟨A1, d1, e1, -, -, s1⟩, ⟨A2, d2, e2, -⟩, ⟨A3, d3, e3, -⟩, ⟨A4, d4, e4, -⟩⟩ := h
  simp only [List.cons.injEq, and_true] at e0 e1 e2 e3 e4
  subst e0 e1 e2 e3 e4
  have hjl := (List.getElem?_eq_some_iff.1 hfn).1
  have hn8 : x.funcs.length ≤ 8 := (fitB_iff.1 (checkN_fit hc)).f8
  generalize x.recs.length = n0 at *
  generalize x.funcs.length = n1 at *
  generalize x.imps.length = n2 at *
  generalize x.ints.length = n3 at *
  generalize x.texts.length = n4 at *
  obtain ⟨a, ccs, ea, hab, hcl, hR⟩ := s1.at hfn
  subst ea
  obtain ⟨p0, p1, p2, rfl, -, -, ⟨P0, c0, e4, -⟩, ⟨P1, c1, e5, -⟩, ⟨P2, c2, e6, -⟩⟩ := hR
  simp only [List.cons.injEq, and_true] at e4 e5 e6
  subst e4 e5 e6
  obtain ⟨uc, g2⟩ : ∃ n, fn.code.length = n := ⟨_, rfl⟩
  rw [g2] at hcl hp
  have HCL : Hid (∀ v, Below w.heap.size w v → v.cell? ⟨(a.add (j * 5)).block, (a.add (j * 5)).off + 4, none⟩ = some (.slice P2 uc c2)) := fun v hb => by
    have k4 := (hb.cell (p := a.add (j * 5 + 4)) (by rw [addBlock]; exact hab)).trans (hcl 4 _ rfl)
    rw [next_cell a (j * 5) 4 (by omega)] at k4
    exact k4
  have hjn : (j : Int) < (n1 : Int) := by omega
  have b5 : decide ((j : Int) < 0) = false := by simp
  have b6 : decide ((n1 : Int) ≤ (j : Int)) = false := by simp; omega
  have b7 : (0 : Int) ≤ (j : Int) := by omega
  have b1 : decide (pc < 0) = true := by simpa using hq
  clear hz hfi hpc hk sk FA hc hp hfn s1 hcl g2
  simp only [vAgg] at L0 FA2 CK0 ⊢
  have h20i : ¬ (20 : Int) < (k : Int) := by omega
  go_enter Try.func3, Try.ntmps3
  go_wp2_with fail
  refine calls_world fun W hW => ?_
  have HB0 : Hid (Below w.heap.size w W) := by show Below _ _ _; rw [hW]; exact (Below.refl _ _).alloc (Nat.le_refl _) _
  have HC0 : Hid (C5 w.heap.size (.slice A0 n0 d0) (.slice (some a) n1 d1) (.slice A2 n2 d2) (.slice A3 n3 d3) (.slice A4 n4 d4) W) := by show C5 _ _ _ _ _ _ _; rw [hW]; simp [C5, go_sem]
  have hzW : w.heap.size < W.heap.size := by rw [hW]; simp
  clear hW
  refine (L0.out W HB0.out).mono ?_
  rintro e V ⟨lb, rfl, hb1, hsm⟩
  have HB1 := Lib.hid (HB0.out.trans (hb1.mono HB0.out.size))
  have HC1 := Lib.hid (HC0.out.below hb1 hzW)
  have hzV : w.heap.size < V.heap.size := Nat.lt_of_lt_of_le hzW hb1.size
  clear hb1
  cases lb
  · go_wp2_with (first | (go_at_call 9; refine (AN.out _).mono ?_; rintro e w2 ⟨rfl, hb2⟩; have HW2 := Lib.hid (HB1.out.trans (hb2.mono HB1.out.size)); clear hb2))
    go_ret
    exact ⟨rfl, HW2.out⟩
  have CK2 := Lib.hid (CK0.out (hsm rfl))
  clear CK0 hsm
  have HOE := Lib.hid (own_tys_empty V)
  go_upto_region 7 with (first
    | (at_builtin
       refine walk_append_tys _ rfl (.tmp 26) (.tmp 27) rfl V.heap.size (.slice (some ⟨V.heap.size, 0, none⟩) 0 0) 0 [] rfl HOE.out D k g ts rfl HK.out _ (SKv.out _ (HB1.out.alloc HB1.out.size _)) (by omega) (by simp) ?_
       intro v3 w3 hown3 hg3 _
       have HB3 := Lib.hid ((below_new V _).grown hg3 (by simp) (fun i hi => (HOE.out.lt i hi).1))
       have HO3 : Hid (w3.ownsRow V.heap.size 39 2 v3 k (T2 ts)) := (by show World.ownsRow _ _ _ _ _ _ _; simpa using hown3)
       have HW3 := Lib.hid (HB1.out.trans (HB3.out.mono HB1.out.size))
       obtain ⟨x0, x1, x2, x3, x4⟩ := HC1.out.below HB3.out hzV
       have HC3 := Lib.hid (HC1.out.below HB3.out hzV)
       have hz3 : w.heap.size < w3.heap.size := Nat.lt_of_lt_of_le hzV HB3.out.size
       obtain ⟨Q3, b3, rfl, -, -, -, -⟩ := own_sq HO3.out HA64.out
       clear hown3 hg3)
    | (go_at_call 10
       refine (FA2.out _ HW3.out).mono ?_
       intro e w4 hq4
       obtain ⟨hb4, v4, u4, rfl, ho4, hu4, -, h64⟩ := flows_at hq4
       clear hq4
       have HO4 := Lib.hid ho4
       have HU4 := Lib.hid hu4
       have H64 := Lib.hid h64
       have HB4 := Lib.hid hb4
       have HW4 := Lib.hid (HW3.out.trans (hb4.mono HW3.out.size))
       have HC4 := Lib.hid (HC3.out.below hb4 hz3)
       have hz4 : w.heap.size < w4.heap.size := Nat.lt_of_lt_of_le hz3 hb4.size
       obtain ⟨V4, e4', rfl, -, -, -, -⟩ := own_sq ho4 h64
       obtain ⟨U4, f4', rfl, -, -, -⟩ := own_ints hu4
       have TY4 := Lib.hid (own_types HO3.out HA64.out hb4 HW4.out SKv.out HK.out bk g)
       clear hb4 ho4 hu4 h64 x0 x1 x2 x3 x4)
    | (go_at_call 11
       refine TY4.out.mono ?_
       rintro e w5 ⟨rfl, hb5⟩
       have HB5 := Lib.hid hb5
       have HW5 := Lib.hid (HW4.out.trans (hb5.mono HW4.out.size))
       have HC5 := Lib.hid (HC4.out.below hb5 hz4)
       have hz5 : w.heap.size < w5.heap.size := Nat.lt_of_lt_of_le hz4 hb5.size
       obtain ⟨x0, x1, x2, x3, x4⟩ := HC4.out.below hb5 hz4
       clear hb5))
  try simp only [List.length_nil]
  go_wp2_with (first
    | (go_at_call 12
       refine (CK2.out _ HW5.out).mono ?_
       rintro e w6 ⟨rfl, hb6⟩
       have HB6 := Lib.hid hb6
       have HW6 := Lib.hid (HW5.out.trans (hb6.mono HW5.out.size))
       have HC6 := Lib.hid (HC5.out.below hb6 hz5)
       have hz6 : w.heap.size < w6.heap.size := Nat.lt_of_lt_of_le hz5 hb6.size
       clear x0 x1 x2 x3 x4
       obtain ⟨x0, x1, x2, x3, x4⟩ := HC6.out
       have y4 := HCL.out _ HW6.out
       clear hb6)
    | (go_at_call 9; refine (AN.out _).mono ?_; rintro e w8 ⟨rfl, hb8⟩; have HW8 := Lib.hid (HW6.out.trans (hb8.mono HW6.out.size)); clear hb8))
  go_ret
  exact ⟨rfl, HW8.out⟩
set_option maxRecDepth 100000 in
set_option maxHeartbeats 8000000 in
theorem steps_nopc_far (cs : List Value) (x : Mod) (j : Nat) (pc : Int) (D : Option Addr) (k g : Nat) (ts : List Typ) (w : World) (h : modL.R (· < w.heap.size) w cs x) (hz : Zm x) (hfi : I64 (j : Int)) (hpc : I64 pc) (hk : ts.length = k) (sk : Sq typL (· < w.heap.size) w D ts) (bg : k ≤ g) (bg2 : g ≤ 9223372036854775807) (hnil : D = none → g = 0) (h20 : k ≤ 20) (fn : Fn) (hc : checkN x = 0) (hfn : x.funcs[j]? = some fn) (hp : hasB fn.code.length pc = false) (hq : ¬ pc < 0) : Calls Try.prog 3 #[vAgg cs, .int .i64 (j : Int), .int .i64 pc, .slice D k g] w fun e w' => e = .returned (.bool true) ∧ Below w.heap.size w w' := by
  have bk : k ≤ 1000 := by omega
  have AN := Lib.hid (fun w => answers8 w)
  have L0 : Hid (∀ w1, Below w.heap.size w w1 → Calls Try.prog 8 #[vAgg cs] w1 fun e w' => ∃ b : Bool, e = .returned (.bool b) ∧ Below w1.heap.size w1 w' ∧ (b = true → Small x)) := fun w1 hb => light_any cs x w1 (mod_at h hb) hz
  have FA : Hid (k ≤ 1000 → ∀ v, Below w.heap.size w v → Calls Try.prog 10 #[vAgg cs, .int .i64 (j : Int), .int .i64 pc, .slice D k g] v (Flows (flowB x (j : Int) pc ts) v)) := fun bk v hb => flow_any cs x (j : Int) pc D k g ts v (mod_at h hb) hfi hpc hk ((sk.below hb (Nat.le_refl _)).wide fun i hi => Nat.lt_of_lt_of_le hi hb.size) bk bg bg2 hnil
  have CK0 : Hid (Small x → ∀ v, Below w.heap.size w v → Calls Try.prog 12 #[vAgg cs] v fun e w' => e = .returned (.int .i64 (checkN x)) ∧ Below v.heap.size v w') := fun hsm v hb => rcheck_any cs x v (mod_at h hb) hsm
  have HK := Lib.hid hk
  have HA64 := Lib.hid sk.a64
  have SKv : Hid (∀ v, Below w.heap.size w v → Sq typL (· < v.heap.size) v D ts) := fun v hb => (sk.below hb (Nat.le_refl _)).wide fun i hi => Nat.lt_of_lt_of_le hi hb.size
  rw [flowB_nopc hfn hp] at FA
  have FA2 := Lib.hid (FA.out bk)
  rw [hc] at CK0
  obtain ⟨_, _, _, _, _, rfl, ⟨A0, d0, e0, -⟩, ⟨A1, d1, e1, -, -, s1⟩, ⟨A2, d2, e2, -⟩, ⟨A3, d3, e3, -⟩, ⟨A4, d4, e4, -⟩⟩ := h
  simp only [List.cons.injEq, and_true] at e0 e1 e2 e3 e4
  subst e0 e1 e2 e3 e4
  have hjl := (List.getElem?_eq_some_iff.1 hfn).1
  have hn8 : x.funcs.length ≤ 8 := (fitB_iff.1 (checkN_fit hc)).f8
  generalize x.recs.length = n0 at *
  generalize x.funcs.length = n1 at *
  generalize x.imps.length = n2 at *
  generalize x.ints.length = n3 at *
  generalize x.texts.length = n4 at *
  obtain ⟨a, ccs, ea, hab, hcl, hR⟩ := s1.at hfn
  subst ea
  obtain ⟨p0, p1, p2, rfl, -, -, ⟨P0, c0, e4, -⟩, ⟨P1, c1, e5, -⟩, ⟨P2, c2, e6, -⟩⟩ := hR
  simp only [List.cons.injEq, and_true] at e4 e5 e6
  subst e4 e5 e6
  obtain ⟨uc, g2⟩ : ∃ n, fn.code.length = n := ⟨_, rfl⟩
  rw [g2] at hcl hp
  have HCL : Hid (∀ v, Below w.heap.size w v → v.cell? ⟨(a.add (j * 5)).block, (a.add (j * 5)).off + 4, none⟩ = some (.slice P2 uc c2)) := fun v hb => by
    have k4 := (hb.cell (p := a.add (j * 5 + 4)) (by rw [addBlock]; exact hab)).trans (hcl 4 _ rfl)
    rw [next_cell a (j * 5) 4 (by omega)] at k4
    exact k4
  have hjn : (j : Int) < (n1 : Int) := by omega
  have b5 : decide ((j : Int) < 0) = false := by simp
  have b6 : decide ((n1 : Int) ≤ (j : Int)) = false := by simp; omega
  have b7 : (0 : Int) ≤ (j : Int) := by omega
  have b1 : decide (pc < 0) = false := by simpa using hq
  have b2 : (uc : Int) ≤ pc := by simp [hasB] at hp; omega
  have b3 : decide ((uc : Int) ≤ pc) = true := by simpa using b2
  clear hz hfi hpc hk sk FA hc hp hfn s1 hcl g2
  simp only [vAgg] at L0 FA2 CK0 ⊢
  have h20i : ¬ (20 : Int) < (k : Int) := by omega
  go_enter Try.func3, Try.ntmps3
  go_wp2_with fail
  refine calls_world fun W hW => ?_
  have HB0 : Hid (Below w.heap.size w W) := by show Below _ _ _; rw [hW]; exact (Below.refl _ _).alloc (Nat.le_refl _) _
  have HC0 : Hid (C5 w.heap.size (.slice A0 n0 d0) (.slice (some a) n1 d1) (.slice A2 n2 d2) (.slice A3 n3 d3) (.slice A4 n4 d4) W) := by show C5 _ _ _ _ _ _ _; rw [hW]; simp [C5, go_sem]
  have hzW : w.heap.size < W.heap.size := by rw [hW]; simp
  clear hW
  refine (L0.out W HB0.out).mono ?_
  rintro e V ⟨lb, rfl, hb1, hsm⟩
  have HB1 := Lib.hid (HB0.out.trans (hb1.mono HB0.out.size))
  have HC1 := Lib.hid (HC0.out.below hb1 hzW)
  have hzV : w.heap.size < V.heap.size := Nat.lt_of_lt_of_le hzW hb1.size
  clear hb1
  cases lb
  · go_wp2_with (first | (go_at_call 9; refine (AN.out _).mono ?_; rintro e w2 ⟨rfl, hb2⟩; have HW2 := Lib.hid (HB1.out.trans (hb2.mono HB1.out.size)); clear hb2))
    go_ret
    exact ⟨rfl, HW2.out⟩
  have CK2 := Lib.hid (CK0.out (hsm rfl))
  clear CK0 hsm
  have HOE := Lib.hid (own_tys_empty V)
  go_upto_region 7 with (first
    | (at_builtin
       refine walk_append_tys _ rfl (.tmp 26) (.tmp 27) rfl V.heap.size (.slice (some ⟨V.heap.size, 0, none⟩) 0 0) 0 [] rfl HOE.out D k g ts rfl HK.out _ (SKv.out _ (HB1.out.alloc HB1.out.size _)) (by omega) (by simp) ?_
       intro v3 w3 hown3 hg3 _
       have HB3 := Lib.hid ((below_new V _).grown hg3 (by simp) (fun i hi => (HOE.out.lt i hi).1))
       have HO3 : Hid (w3.ownsRow V.heap.size 39 2 v3 k (T2 ts)) := (by show World.ownsRow _ _ _ _ _ _ _; simpa using hown3)
       have HW3 := Lib.hid (HB1.out.trans (HB3.out.mono HB1.out.size))
       obtain ⟨x0, x1, x2, x3, x4⟩ := HC1.out.below HB3.out hzV
       have HC3 := Lib.hid (HC1.out.below HB3.out hzV)
       have hz3 : w.heap.size < w3.heap.size := Nat.lt_of_lt_of_le hzV HB3.out.size
       obtain ⟨Q3, b3, rfl, -, -, -, -⟩ := own_sq HO3.out HA64.out
       clear hown3 hg3)
    | (go_at_call 10
       refine (FA2.out _ HW3.out).mono ?_
       intro e w4 hq4
       obtain ⟨hb4, v4, u4, rfl, ho4, hu4, -, h64⟩ := flows_at hq4
       clear hq4
       have HO4 := Lib.hid ho4
       have HU4 := Lib.hid hu4
       have H64 := Lib.hid h64
       have HB4 := Lib.hid hb4
       have HW4 := Lib.hid (HW3.out.trans (hb4.mono HW3.out.size))
       have HC4 := Lib.hid (HC3.out.below hb4 hz3)
       have hz4 : w.heap.size < w4.heap.size := Nat.lt_of_lt_of_le hz3 hb4.size
       obtain ⟨V4, e4', rfl, -, -, -, -⟩ := own_sq ho4 h64
       obtain ⟨U4, f4', rfl, -, -, -⟩ := own_ints hu4
       have TY4 := Lib.hid (own_types HO3.out HA64.out hb4 HW4.out SKv.out HK.out bk g)
       clear hb4 ho4 hu4 h64 x0 x1 x2 x3 x4)
    | (go_at_call 11
       refine TY4.out.mono ?_
       rintro e w5 ⟨rfl, hb5⟩
       have HB5 := Lib.hid hb5
       have HW5 := Lib.hid (HW4.out.trans (hb5.mono HW4.out.size))
       have HC5 := Lib.hid (HC4.out.below hb5 hz4)
       have hz5 : w.heap.size < w5.heap.size := Nat.lt_of_lt_of_le hz4 hb5.size
       obtain ⟨x0, x1, x2, x3, x4⟩ := HC4.out.below hb5 hz4
       clear hb5))
  try simp only [List.length_nil]
  go_wp2_with (first
    | (go_at_call 12
       refine (CK2.out _ HW5.out).mono ?_
       rintro e w6 ⟨rfl, hb6⟩
       have HB6 := Lib.hid hb6
       have HW6 := Lib.hid (HW5.out.trans (hb6.mono HW5.out.size))
       have HC6 := Lib.hid (HC5.out.below hb6 hz5)
       have hz6 : w.heap.size < w6.heap.size := Nat.lt_of_lt_of_le hz5 hb6.size
       clear x0 x1 x2 x3 x4
       obtain ⟨x0, x1, x2, x3, x4⟩ := HC6.out
       have y4 := HCL.out _ HW6.out
       clear hb6)
    | (go_at_call 9; refine (AN.out _).mono ?_; rintro e w8 ⟨rfl, hb8⟩; have HW8 := Lib.hid (HW6.out.trans (hb8.mono HW6.out.size)); clear hb8))
  go_ret
  exact ⟨rfl, HW8.out⟩
end Go.Proofs.Ytlfcglolehmmiaa
