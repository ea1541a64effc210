/-
  The law FlowSteps, of an instruction that there is. Conditions: as each theorem says.
  The law FlowHeights, where the stack is long, or flow's Flow answers an error. Conditions: as each theorem says.
  The law FlowHeights, where flow's Flow comes to a stack. Conditions: as each theorem says.
-/
import Derived.Test.YtlfcglolehmmiaaQ38
import Derived.Test.YtlfcglolehmmiaaQ41
import Derived.OwnWalk
import Derived.Deep.RegionHeld3
import Derived.BigQuiet
import Derived.Lib.QuietBelow
namespace Go.Proofs.Ytlfcglolehmmiaa
open Go.RowKit
set_option linter.unusedSimpArgs false
set_option linter.unusedVariables false

set_option maxRecDepth 100000 in
set_option maxHeartbeats 8000000 in
theorem steps_at (RU : RuleAny) (cs : List Value) (x : Mod) (j p : Nat) (D : Option Addr) (k g : Nat) (ts : List Typ) (w : World) (h : modL.R (· < w.heap.size) w cs x) (fn : Fn) (o ia ib : Int) (hc : checkN x = 0) (hfn : x.funcs[j]? = some fn) (hin : fn.code[p]? = some (o, ia, ib)) (hk : ts.length = k) (sk : Sq typL (· < w.heap.size) w D ts) (h20 : k ≤ 20) (bg : k ≤ g) (bg2 : g ≤ 9223372036854775807) (hz : Zm x) (hfi : I64 (j : Int)) (hpc : I64 (p : Int)) (hnil : D = none → g = 0) (er : Int) (t : List Typ) (l : List Int) (hfl : insB8 x fn (o, ia, ib) p ts = (er, t, l)) : Calls Try.prog 3 #[vAgg cs, .int .i64 (j : Int), .int .i64 (p : Int), .slice D k g] w fun e w' => e = .returned (.bool true) ∧ Below w.heap.size w w' := by
  have bk : k ≤ 1000 := by omega
  have AN := Lib.hid (fun w => answers8 w)
  have L0 : Hid (∀ w1, Below w.heap.size w w1 → Calls Try.prog 8 #[vAgg cs] w1 fun e w' => ∃ b : Bool, e = .returned (.bool b) ∧ Below w1.heap.size w1 w' ∧ (b = true → Small x)) := fun w1 hb => light_any cs x w1 (mod_at h hb) hz
  have CK0 : Hid (Small x → ∀ v, Below w.heap.size w v → Calls Try.prog 12 #[vAgg cs] v fun e w' => e = .returned (.int .i64 (checkN x)) ∧ Below v.heap.size v w') := fun hsm v hb => rcheck_any cs x v (mod_at h hb) hsm
  have FA : Hid (∀ v, Below w.heap.size w v → Calls Try.prog 10 #[vAgg cs, .int .i64 (j : Int), .int .i64 (p : Int), .slice D k g] v (Flows (er, t, l) v)) := fun v hb => by
    rw [← hfl, ← flowB_at hc hfn hin]
    exact flow_any cs x (j : Int) (p : Int) D k g ts v (mod_at h hb) hfi hpc hk ((sk.below hb (Nat.le_refl _)).wide fun i hi => Nat.lt_of_lt_of_le hi hb.size) bk bg bg2 hnil
  have RA : Hid (∀ v, Below w.heap.size w v → Calls Try.prog 13 #[vAgg cs, .int .i64 (j : Int), .int .i64 (p : Int), .slice D k g] v (RFlows (er, t, l) v)) := fun v hb => by
    rw [← hfl]
    exact rflow_at RU cs x j p D k g ts v (mod_at h hb) fn o ia ib hc hfn hin hk ((sk.below hb (Nat.le_refl _)).wide fun i hi => Nat.lt_of_lt_of_le hi hb.size) bk bg bg2 hnil
  clear hfl
  obtain ⟨q1, q2, q3, q4⟩ := sane_fn hc (List.mem_of_getElem? hfn)
  obtain ⟨hgood, hnam⟩ := q4 _ (List.mem_of_getElem? hin)
  have hpl := (List.getElem?_eq_some_iff.1 hin).1
  have HFit := Lib.hid (fitB_iff.1 (checkN_fit hc))
  obtain ⟨_, _, _, _, _, rfl, ⟨A0, d0, e0, l0, m0, s0⟩, ⟨A1, d1, e1, l1, m1, s1⟩, ⟨A2, d2, e2, l2, m2, s2⟩, ⟨A3, d3, e3, -⟩, ⟨A4, d4, e4, -⟩⟩ := h
  simp only [List.cons.injEq, and_true] at e0 e1 e2 e3 e4
  subst e0 e1 e2 e3 e4
  obtain ⟨n0, h0⟩ : ∃ n, x.recs.length = n := ⟨_, rfl⟩
  obtain ⟨n1, h1⟩ : ∃ n, x.funcs.length = n := ⟨_, rfl⟩
  obtain ⟨n2, h2⟩ : ∃ n, x.imps.length = n := ⟨_, rfl⟩
  rw [h0, h1, h2] at L0 FA RA CK0 ⊢
  generalize x.ints.length = n3 at *
  generalize x.texts.length = n4 at *
  obtain ⟨a, ccs, ea, hab, hcl, hR⟩ := s1.at hfn
  subst ea
  obtain ⟨p0, p1, p2, rfl, hr1, hr2, ⟨P0, c0, e4, f0, f1, t0⟩, ⟨P1, c1, e5, f2, f3, t1⟩, ⟨P2, c2, e6, f4, f5, t2⟩⟩ := hR
  simp only [List.cons.injEq, and_true] at e4 e5 e6
  subst e4 e5 e6
  obtain ⟨b, ics, eb, hbb, hil, hiR⟩ := t2.at hin
  subst eb
  obtain ⟨rfl, -, -, -⟩ := hiR
  obtain ⟨ua, g0⟩ : ∃ n, fn.args.length = n := ⟨_, rfl⟩
  obtain ⟨ul, g1⟩ : ∃ n, fn.locs.length = n := ⟨_, rfl⟩
  obtain ⟨uc, g2⟩ : ∃ n, fn.code.length = n := ⟨_, rfl⟩
  rw [g0, g1, g2] at hcl
  rw [g0] at q1
  rw [g1] at q2
  rw [g2] at q3 hpl
  have HUC := Lib.hid g2
  have hpn : (p : Int) < (uc : Int) := by omega
  have hjn : (j : Int) < (n1 : Int) := by have := (List.getElem?_eq_some_iff.1 hfn).1; omega
  have hn8 : n1 ≤ 8 := by have := HFit.out.f8; omega
  have huc : uc ≤ 64 := by omega
  have SKv : Hid (∀ v, Below w.heap.size w v → Sq typL (· < v.heap.size) v D ts) := fun v hb => (sk.below hb (Nat.le_refl _)).wide fun i hi => Nat.lt_of_lt_of_le hi hb.size
  have RUc : Hid (∀ v, Below w.heap.size w v → Calls Try.prog 17 #[.agg #[.slice A0 n0 d0, .slice (some a) n1 d1, .slice A2 n2 d2, .slice A3 n3 d3, .slice A4 n4 d4], .agg #[.slice P0 ua c0, .int .i64 fn.ret.1, .int .i64 fn.ret.2, .slice P1 ul c1, .slice (some b) uc c2], .agg #[.int .i64 o, .int .i64 ia, .int .i64 ib], .slice D k g] v (Ruled (ruleB x fn (o, ia, ib) ts) v)) := fun v hb =>
    RU A0 (some a) A2 A3 A4 P0 P1 (some b) D n0 n1 n2 n3 n4 d0 d1 d2 d3 d4 ua ul uc c0 c1 c2 k g x fn ts o ia ib v
      ⟨h0, h1, h2, (s0.below hb (Nat.le_refl _)).wide fun i hi => Nat.lt_of_lt_of_le hi hb.size, (s1.below hb (Nat.le_refl _)).wide fun i hi => Nat.lt_of_lt_of_le hi hb.size, (s2.below hb (Nat.le_refl _)).wide fun i hi => Nat.lt_of_lt_of_le hi hb.size, g0, g1, (t0.below hb (Nat.le_refl _)).wide fun i hi => Nat.lt_of_lt_of_le hi hb.size, (t1.below hb (Nat.le_refl _)).wide fun i hi => Nat.lt_of_lt_of_le hi hb.size, ⟨hr1, hr2⟩, hk, SKv.out v hb, by have := HFit.out.r8; omega, by omega, by have := HFit.out.i8; omega, by omega, by omega, bk⟩ hgood hnam bg bg2
  have HAts := Lib.hid sk.a64
  have HK := Lib.hid hk
  have HCL : Hid (∀ v, Below w.heap.size w v → v.cell? (a.add (j * 5)) = some (.slice P0 ua c0) ∧ v.cell? ⟨(a.add (j * 5)).block, (a.add (j * 5)).off + 1, none⟩ = some (.int .i64 fn.ret.1) ∧ v.cell? ⟨(a.add (j * 5)).block, (a.add (j * 5)).off + 2, none⟩ = some (.int .i64 fn.ret.2) ∧ v.cell? ⟨(a.add (j * 5)).block, (a.add (j * 5)).off + 3, none⟩ = some (.slice P1 ul c1) ∧ v.cell? ⟨(a.add (j * 5)).block, (a.add (j * 5)).off + 4, none⟩ = some (.slice (some b) uc c2) ∧ v.cell? (b.add (p * 3)) = some (.int .i64 o) ∧ v.cell? ⟨(b.add (p * 3)).block, (b.add (p * 3)).off + 1, none⟩ = some (.int .i64 ia) ∧ v.cell? ⟨(b.add (p * 3)).block, (b.add (p * 3)).off + 2, none⟩ = some (.int .i64 ib)) := fun v hb => by
    have k0 := (hb.cell (p := a.add (j * 5)) (by rw [addBlock]; exact hab)).trans (hcl 0 _ rfl)
    have k1 := (hb.cell (p := a.add (j * 5 + 1)) (by rw [addBlock]; exact hab)).trans (hcl 1 _ rfl)
    have k2 := (hb.cell (p := a.add (j * 5 + 2)) (by rw [addBlock]; exact hab)).trans (hcl 2 _ rfl)
    have k3 := (hb.cell (p := a.add (j * 5 + 3)) (by rw [addBlock]; exact hab)).trans (hcl 3 _ rfl)
    have k4 := (hb.cell (p := a.add (j * 5 + 4)) (by rw [addBlock]; exact hab)).trans (hcl 4 _ rfl)
    have i0 := (hb.cell (p := b.add (p * 3)) (by rw [addBlock]; exact hbb)).trans (hil 0 _ rfl)
    have i1 := (hb.cell (p := b.add (p * 3 + 1)) (by rw [addBlock]; exact hbb)).trans (hil 1 _ rfl)
    have i2 := (hb.cell (p := b.add (p * 3 + 2)) (by rw [addBlock]; exact hbb)).trans (hil 2 _ rfl)
    rw [next_cell a (j * 5) 1 (by omega)] at k1
    rw [next_cell a (j * 5) 2 (by omega)] at k2
    rw [next_cell a (j * 5) 3 (by omega)] at k3
    rw [next_cell a (j * 5) 4 (by omega)] at k4
    rw [next_cell b (p * 3) 1 (by omega)] at i1
    rw [next_cell b (p * 3) 2 (by omega)] at i2
    exact ⟨k0, k1, k2, k3, k4, i0, i1, i2⟩
  have HA64 := Lib.hid sk.a64
  have h20i : ¬ (20 : Int) < (k : Int) := by omega
  rw [hc] at CK0
  have b5 : decide ((j : Int) < 0) = false := by simp
  have b6 : decide ((n1 : Int) ≤ (j : Int)) = false := by simp; omega
  have b7 : (0 : Int) ≤ (j : Int) := by omega
  have b8 : decide ((p : Int) < 0) = false := by simp
  have b9 : decide ((uc : Int) ≤ (p : Int)) = false := by simp; omega
  have b10 : ¬ (n1 : Int) ≤ (j : Int) := by omega
  have b11 : ¬ (uc : Int) ≤ (p : Int) := by omega
  have L1 : Hid (∀ w1, Below w.heap.size w w1 → Calls Try.prog 8 #[.agg #[.slice A0 n0 d0, .slice (some a) n1 d1, .slice A2 n2 d2, .slice A3 n3 d3, .slice A4 n4 d4]] w1 fun e w' => ∃ b : Bool, e = .returned (.bool b) ∧ Below w1.heap.size w1 w' ∧ (b = true → Small x)) := L0.out
  have CK1 : Hid (Small x → ∀ v, Below w.heap.size w v → Calls Try.prog 12 #[.agg #[.slice A0 n0 d0, .slice (some a) n1 d1, .slice A2 n2 d2, .slice A3 n3 d3, .slice A4 n4 d4]] v fun e w' => e = .returned (.int .i64 0) ∧ Below v.heap.size v w') := CK0.out
  have FA2 : Hid (∀ v, Below w.heap.size w v → Calls Try.prog 10 #[.agg #[.slice A0 n0 d0, .slice (some a) n1 d1, .slice A2 n2 d2, .slice A3 n3 d3, .slice A4 n4 d4], .int .i64 (j : Int), .int .i64 (p : Int), .slice D k g] v (Flows (er, t, l) v)) := FA.out
  have RA2 : Hid (∀ v, Below w.heap.size w v → Calls Try.prog 13 #[.agg #[.slice A0 n0 d0, .slice (some a) n1 d1, .slice A2 n2 d2, .slice A3 n3 d3, .slice A4 n4 d4], .int .i64 (j : Int), .int .i64 (p : Int), .slice D k g] v (RFlows (er, t, l) v)) := RA.out
  clear L0 FA RA CK0 RUc
  have L0 := L1
  have CK0 := CK1
  clear L1 CK1
  show Calls Try.prog 3 #[.agg #[.slice A0 n0 d0, .slice (some a) n1 d1, .slice A2 n2 d2, .slice A3 n3 d3, .slice A4 n4 d4], .int .i64 (j : Int), .int .i64 (p : Int), .slice D k g] w (fun e w' => e = .returned (.bool true) ∧ Below w.heap.size w w')
  clear hc hnam hgood hcl hil sk s0 s1 s2 h0 h1 h2 l0 l1 l2 m0 m1 m2 t0 t1 t2 f0 f1 f2 f3 f4 f5 g0 g1 g2 hfn hin hk q1 q2 q3 HFit hr1 hr2 hnil h20 hz hfi hpc
  go_enter Try.func3, Try.ntmps3
  go_wp2_with fail
  refine calls_world fun W hW => ?_
  have HB0 : Hid (Below w.heap.size w W) := by show Below _ _ _; rw [hW]; exact (Below.refl _ _).alloc (Nat.le_refl _) _
  have HC0 : Hid (C5 w.heap.size (.slice A0 n0 d0) (.slice (some a) n1 d1) (.slice A2 n2 d2) (.slice A3 n3 d3) (.slice A4 n4 d4) W) := by show C5 _ _ _ _ _ _ _; rw [hW]; simp [C5, go_sem]
  have hzW : w.heap.size < W.heap.size := by rw [hW]; simp
  clear hW
  refine (L0.out W HB0.out).mono ?_
  rintro e V ⟨lb, rfl, hb1, hsm⟩
  have HB1 := Lib.hid (HB0.out.trans (hb1.mono HB0.out.size))
  have HC1 := Lib.hid (HC0.out.below hb1 hzW)
  have hzV : w.heap.size < V.heap.size := Nat.lt_of_lt_of_le hzW hb1.size
  clear hb1
  cases lb
  · go_wp2_with (first | (go_at_call 9; refine (AN.out _).mono ?_; rintro e w2 ⟨rfl, hb2⟩; have HW2 := Lib.hid (HB1.out.trans (hb2.mono HB1.out.size)); clear hb2))
    go_ret
    exact ⟨rfl, HW2.out⟩
  have CK2 := Lib.hid (CK0.out (hsm rfl))
  clear CK0 hsm
  have HOE := Lib.hid (own_tys_empty V)
  go_upto_region 7 with (first
    | (at_builtin
       refine walk_append_tys _ rfl (.tmp 26) (.tmp 27) rfl V.heap.size (.slice (some ⟨V.heap.size, 0, none⟩) 0 0) 0 [] rfl HOE.out D k g ts rfl HK.out _ (SKv.out _ (HB1.out.alloc HB1.out.size _)) (by omega) (by simp) ?_
       intro v3 w3 hown3 hg3 _
       have HB3 := Lib.hid ((below_new V _).grown hg3 (by simp) (fun i hi => (HOE.out.lt i hi).1))
       have HO3 : Hid (w3.ownsRow V.heap.size 39 2 v3 k (T2 ts)) := (by show World.ownsRow _ _ _ _ _ _ _; simpa using hown3)
       have HW3 := Lib.hid (HB1.out.trans (HB3.out.mono HB1.out.size))
       obtain ⟨x0, x1, x2, x3, x4⟩ := HC1.out.below HB3.out hzV
       have HC3 := Lib.hid (HC1.out.below HB3.out hzV)
       have hz3 : w.heap.size < w3.heap.size := Nat.lt_of_lt_of_le hzV HB3.out.size
       obtain ⟨Q3, b3, rfl, -, -, -, -⟩ := own_sq HO3.out HA64.out
       clear hown3 hg3)
    | (go_at_call 10
       refine (FA2.out _ HW3.out).mono ?_
       intro e w4 hq4
       obtain ⟨hb4, v4, u4, rfl, ho4, hu4, -, h64⟩ := flows_at hq4
       clear hq4
       have HO4 := Lib.hid ho4
       have HU4 := Lib.hid hu4
       have H64 := Lib.hid h64
       have HB4 := Lib.hid hb4
       have HW4 := Lib.hid (HW3.out.trans (hb4.mono HW3.out.size))
       have HC4 := Lib.hid (HC3.out.below hb4 hz3)
       have hz4 : w.heap.size < w4.heap.size := Nat.lt_of_lt_of_le hz3 hb4.size
       obtain ⟨V4, e4', rfl, -, -, -, -⟩ := own_sq ho4 h64
       obtain ⟨U4, f4', rfl, -, -, -⟩ := own_ints hu4
       have TY4 := Lib.hid (own_types HO3.out HA64.out hb4 HW4.out SKv.out HK.out bk g)
       clear hb4 ho4 hu4 h64 x0 x1 x2 x3 x4)
    | (go_at_call 11
       refine TY4.out.mono ?_
       rintro e w5 ⟨rfl, hb5⟩
       have HB5 := Lib.hid hb5
       have HW5 := Lib.hid (HW4.out.trans (hb5.mono HW4.out.size))
       have HC5 := Lib.hid (HC4.out.below hb5 hz4)
       have hz5 : w.heap.size < w5.heap.size := Nat.lt_of_lt_of_le hz4 hb5.size
       obtain ⟨x0, x1, x2, x3, x4⟩ := HC4.out.below hb5 hz4
       clear hb5))
  have hnt : t.length ≤ 9223372036854775807 := row_len HO4.out
  have hnl : l.length ≤ 9223372036854775807 := row_len HU4.out
  go_upto_region 13 with (first
    | (go_at_call 12
       refine (CK2.out _ HW5.out).mono ?_
       rintro e w6 ⟨rfl, hb6⟩
       have HB6 := Lib.hid hb6
       have HW6 := Lib.hid (HW5.out.trans (hb6.mono HW5.out.size))
       have HC6 := Lib.hid (HC5.out.below hb6 hz5)
       have hz6 : w.heap.size < w6.heap.size := Nat.lt_of_lt_of_le hz5 hb6.size
       clear x0 x1 x2 x3 x4
       obtain ⟨x0, x1, x2, x3, x4⟩ := HC6.out
       obtain ⟨-, -, -, -, y4, -, -, -⟩ := HCL.out _ HW6.out
       clear hb6)
    | (go_at_call 13
       with_reducible refine (RA2.out _ HW6.out).mono ?_
       rintro e w7 ⟨hb7, A9, c9, B9, d9, rfl, ht9, hl9⟩
       have HB7 := Lib.hid hb7
       have HW7 := Lib.hid (HW6.out.trans (hb7.mono HW6.out.size))
       have HL9 := Lib.hid hl9
       have HS7 := Lib.hid (same_types HO4.out H64.out (HB5.out.trans ((HB6.out.trans (hb7.mono HB6.out.size)).mono HB5.out.size)) ht9)
       clear hb7 ht9 hl9 x0 x1 x2 x3 x4 y4)
    | (go_at_call 11
       with_reducible refine HS7.out.mono ?_
       rintro e w8 ⟨rfl, hb8⟩
       have HB8 := Lib.hid hb8
       have HW8 := Lib.hid (HW7.out.trans (hb8.mono HW7.out.size))
       clear hb8))
  have HB48 := Lib.hid (HB5.out.trans ((HB6.out.trans ((HB7.out.trans (HB8.out.mono HB7.out.size)).mono HB6.out.size)).mono HB5.out.size))
  go_loopw [16] (fun i wq => ∃ s q : Nat, s ≤ l.length ∧ i = .int .i64 (s : Nat) ∧ wq = w8.drewN q) (fun i _ => l.length - (intOf i).toNat)
  case atStart => exact ⟨0, 0, Nat.zero_le _, rfl, rfl⟩
  case round =>
    obtain ⟨s, q, hs, rfl, rfl⟩ := hrel
    by_cases hlt : s < l.length
    · obtain ⟨z, hzz⟩ : ∃ z, l[s]? = some z := ⟨l[s], List.getElem?_eq_getElem hlt⟩
      obtain ⟨UA, cU, eU, -, -, hcU⟩ := own_ints (raw_below HU4.out HB48.out (Nat.le_refl _))
      simp only [Value.slice.injEq] at eU
      obtain ⟨rfl, -, rfl⟩ := eU
      obtain ⟨a8, rfl, -, -, hc8⟩ := hcU s z hzz
      obtain ⟨a9, rfl, hlt9, hc9⟩ := HL9.out s z hzz
      have hc10 : w8.cell? (a9.add s) = some (.int .i64 z) := (HB8.out.cell (p := a9.add s) (by rw [addBlock]; exact hlt9)).trans hc9
      have i1 : (s : Int) < (l.length : Int) := by omega
      clear hcU hc9 hzz
      go_wp2_with fail
      go_quiet (fail)
      go_wp2_with fail
      exact ⟨⟨s + 1, _, by omega, by simp, rfl⟩, by simp [intOf]; omega⟩
    · obtain rfl : s = l.length := by omega
      clear hlt
      go_wp2_with (first
        | (go_at_call 9
           refine (AN.out _).mono ?_
           rintro e w9 ⟨rfl, hb9⟩
           have HA9 := Lib.hid ((below_drews' HW8.out q HW8.out.size).trans (hb9.mono HW8.out.size))
           clear hb9))
      go_ret
      exact ⟨rfl, HA9.out⟩
end Go.Proofs.Ytlfcglolehmmiaa
namespace Go.Proofs.Ytlfcglolehmmiaa
open Go.RowKit
set_option linter.unusedSimpArgs false
set_option linter.unusedVariables false

set_option maxRecDepth 100000 in
set_option maxHeartbeats 4000000 in
theorem heights_out (cs : List Value) (x : Mod) (fi pc : Int) (D : Option Addr) (k g : Nat) (ts : List Typ) (w : World) (h : modL.R (· < w.heap.size) w cs x) (hz : Zm x) (hfi : I64 fi) (hpc : I64 pc) (hk : ts.length = k) (sk : Sq typL (· < w.heap.size) w D ts) (bg : k ≤ g) (bg2 : g ≤ 9223372036854775807) (hnil : D = none → g = 0) (hno : 20 < k ∨ (flowB x fi pc ts).1 ≠ 0) : Calls Try.prog 6 #[vAgg cs, .int .i64 fi, .int .i64 pc, .slice D k g] w fun e w' => e = .returned (.bool true) ∧ Below w.heap.size w w' := by
  have AN := Lib.hid (fun w => answers8 w)
  have L0 : Hid (∀ w1, Below w.heap.size w w1 → Calls Try.prog 8 #[vAgg cs] w1 fun e w' => ∃ b : Bool, e = .returned (.bool b) ∧ Below w1.heap.size w1 w' ∧ (b = true → Small x)) := fun w1 hb => light_any cs x w1 (mod_at h hb) hz
  have FA : Hid (k ≤ 1000 → ∀ v, Below w.heap.size w v → Calls Try.prog 10 #[vAgg cs, .int .i64 fi, .int .i64 pc, .slice D k g] v (Flows (flowB x fi pc ts) v)) := fun bk v hb => flow_any cs x fi pc D k g ts v (mod_at h hb) hfi hpc hk ((sk.below hb (Nat.le_refl _)).wide fun i hi => Nat.lt_of_lt_of_le hi hb.size) bk bg bg2 hnil
  obtain ⟨A0, A1, A2, A3, A4, n0, n1, n2, n3, n4, d0, d1, d2, d3, d4, rfl⟩ := mod_shape h
  clear h hz hfi hpc hk sk
  simp only [vAgg] at L0 FA ⊢
  generalize flowB x fi pc ts = ra at *
  go_enter Try.func6, Try.ntmps6
  go_wp2_with fail
  refine calls_world fun W hW => ?_
  have HB0 : Hid (Below w.heap.size w W) := by show Below _ _ _; rw [hW]; exact (Below.refl _ _).alloc (Nat.le_refl _) _
  have HC0 : Hid (C5 w.heap.size (.slice A0 n0 d0) (.slice A1 n1 d1) (.slice A2 n2 d2) (.slice A3 n3 d3) (.slice A4 n4 d4) W) := by show C5 _ _ _ _ _ _ _; rw [hW]; simp [C5, go_sem]
  have hzW : w.heap.size < W.heap.size := by rw [hW]; simp
  clear hW
  refine (L0.out W HB0.out).mono ?_
  rintro e V ⟨lb, rfl, hb1, -⟩
  have HB1 := Lib.hid (HB0.out.trans (hb1.mono HB0.out.size))
  have HC1 := Lib.hid (HC0.out.below hb1 hzW)
  have hzV : w.heap.size < V.heap.size := Nat.lt_of_lt_of_le hzW hb1.size
  clear hb1
  cases lb
  · go_wp2_with (first | (go_at_call 9; refine (AN.out _).mono ?_; rintro e w2 ⟨rfl, hb2⟩; have HW2 := Lib.hid (HB1.out.trans (hb2.mono HB1.out.size)); clear hb2))
    go_ret
    exact ⟨rfl, HW2.out⟩
  by_cases h20 : 20 < k
  · have h20i : (20 : Int) < (k : Int) := by omega
    go_wp2_with (first | (go_at_call 9; refine (AN.out _).mono ?_; rintro e w2 ⟨rfl, hb2⟩; have HW2 := Lib.hid (HB1.out.trans (hb2.mono HB1.out.size)); clear hb2))
    go_ret
    exact ⟨rfl, HW2.out⟩
  have h20i : ¬ (20 : Int) < (k : Int) := by omega
  have FA2 := Lib.hid (FA.out (by omega))
  clear FA
  obtain ⟨er, t, l⟩ := ra
  have hre : er ≠ 0 := hno.resolve_left h20
  have e1 : (er != 0) = true := by simpa using hre
  clear hno hre
  obtain ⟨x0, x1, x2, x3, x4⟩ := HC1.out
  go_wp2_with (first
    | (go_at_call 10
       with_reducible refine (FA2.out _ HB1.out).mono ?_
       intro e w5 hq5
       obtain ⟨hb5, v5, u5, rfl, -, -, -, -⟩ := flows_at hq5
       clear hq5
       have HB5 := Lib.hid (HB1.out.trans (hb5.mono HB1.out.size))
       clear hb5)
    | (go_at_call 9; refine (AN.out _).mono ?_; rintro e w6 ⟨rfl, hb6⟩; have HW6 := Lib.hid (HB5.out.trans (hb6.mono HB5.out.size)); clear hb6))
  go_ret
  exact ⟨rfl, HW6.out⟩
end Go.Proofs.Ytlfcglolehmmiaa
namespace Go.Proofs.Ytlfcglolehmmiaa
open Go.RowKit
set_option linter.unusedSimpArgs false
set_option linter.unusedVariables false

set_option maxRecDepth 100000 in
set_option maxHeartbeats 8000000 in
theorem heights_in (RU : RuleAny) (cs : List Value) (x : Mod) (j p : Nat) (D : Option Addr) (k g : Nat) (ts : List Typ) (w : World) (h : modL.R (· < w.heap.size) w cs x) (fn : Fn) (o ia ib : Int) (hc : checkN x = 0) (hfn : x.funcs[j]? = some fn) (hin : fn.code[p]? = some (o, ia, ib)) (hk : ts.length = k) (sk : Sq typL (· < w.heap.size) w D ts) (bk20 : k ≤ 20) (bg : k ≤ g) (bg2 : g ≤ 9223372036854775807) (hz : Zm x) (hfi : I64 (j : Int)) (hpc : I64 (p : Int)) (hnil : D = none → g = 0) (ins outs t : List Typ) (l : List Int) (hrb : ruleB x fn (o, ia, ib) ts = some (ins, outs)) (hle : ins.length ≤ k) (h8 : k - ins.length + outs.length ≤ 8) (ht : t = ts.take (k - ins.length) ++ outs) (hfl : flowB x (j : Int) (p : Int) ts = (0, t, l)) : Calls Try.prog 6 #[vAgg cs, .int .i64 (j : Int), .int .i64 (p : Int), .slice D k g] w fun e w' => e = .returned (.bool true) ∧ Below w.heap.size w w' := by
  have bk : k ≤ 1000 := by omega
  have AN := Lib.hid (fun w => answers8 w)
  have L0 : Hid (∀ w1, Below w.heap.size w w1 → Calls Try.prog 8 #[vAgg cs] w1 fun e w' => ∃ b : Bool, e = .returned (.bool b) ∧ Below w1.heap.size w1 w' ∧ (b = true → Small x)) := fun w1 hb => light_any cs x w1 (mod_at h hb) hz
  have FA : Hid (∀ v, Below w.heap.size w v → Calls Try.prog 10 #[vAgg cs, .int .i64 (j : Int), .int .i64 (p : Int), .slice D k g] v (Flows (0, t, l) v)) := fun v hb => by
    rw [← hfl]
    exact flow_any cs x (j : Int) (p : Int) D k g ts v (mod_at h hb) hfi hpc hk ((sk.below hb (Nat.le_refl _)).wide fun i hi => Nat.lt_of_lt_of_le hi hb.size) bk bg bg2 hnil
  clear hfl
  obtain ⟨q1, q2, q3, q4⟩ := sane_fn hc (List.mem_of_getElem? hfn)
  obtain ⟨hgood, hnam⟩ := q4 _ (List.mem_of_getElem? hin)
  have hpl := (List.getElem?_eq_some_iff.1 hin).1
  have HFit := Lib.hid (fitB_iff.1 (checkN_fit hc))
  obtain ⟨_, _, _, _, _, rfl, ⟨A0, d0, e0, l0, m0, s0⟩, ⟨A1, d1, e1, l1, m1, s1⟩, ⟨A2, d2, e2, l2, m2, s2⟩, ⟨A3, d3, e3, -⟩, ⟨A4, d4, e4, -⟩⟩ := h
  simp only [List.cons.injEq, and_true] at e0 e1 e2 e3 e4
  subst e0 e1 e2 e3 e4
  obtain ⟨n0, h0⟩ : ∃ n, x.recs.length = n := ⟨_, rfl⟩
  obtain ⟨n1, h1⟩ : ∃ n, x.funcs.length = n := ⟨_, rfl⟩
  obtain ⟨n2, h2⟩ : ∃ n, x.imps.length = n := ⟨_, rfl⟩
  rw [h0, h1, h2] at L0 FA ⊢
  generalize x.ints.length = n3 at *
  generalize x.texts.length = n4 at *
  obtain ⟨a, ccs, ea, hab, hcl, hR⟩ := s1.at hfn
  subst ea
  obtain ⟨p0, p1, p2, rfl, hr1, hr2, ⟨P0, c0, e4, f0, f1, t0⟩, ⟨P1, c1, e5, f2, f3, t1⟩, ⟨P2, c2, e6, f4, f5, t2⟩⟩ := hR
  simp only [List.cons.injEq, and_true] at e4 e5 e6
  subst e4 e5 e6
  obtain ⟨b, ics, eb, hbb, hil, hiR⟩ := t2.at hin
  subst eb
  obtain ⟨rfl, -, -, -⟩ := hiR
  obtain ⟨ua, g0⟩ : ∃ n, fn.args.length = n := ⟨_, rfl⟩
  obtain ⟨ul, g1⟩ : ∃ n, fn.locs.length = n := ⟨_, rfl⟩
  obtain ⟨uc, g2⟩ : ∃ n, fn.code.length = n := ⟨_, rfl⟩
  rw [g0, g1, g2] at hcl
  rw [g0] at q1
  rw [g1] at q2
  rw [g2] at q3 hpl
  have HUC := Lib.hid g2
  have hpn : (p : Int) < (uc : Int) := by omega
  have hjn : (j : Int) < (n1 : Int) := by have := (List.getElem?_eq_some_iff.1 hfn).1; omega
  have hn8 : n1 ≤ 8 := by have := HFit.out.f8; omega
  have huc : uc ≤ 64 := by omega
  have SKv : Hid (∀ v, Below w.heap.size w v → Sq typL (· < v.heap.size) v D ts) := fun v hb => (sk.below hb (Nat.le_refl _)).wide fun i hi => Nat.lt_of_lt_of_le hi hb.size
  have RUc : Hid (∀ v, Below w.heap.size w v → Calls Try.prog 17 #[.agg #[.slice A0 n0 d0, .slice (some a) n1 d1, .slice A2 n2 d2, .slice A3 n3 d3, .slice A4 n4 d4], .agg #[.slice P0 ua c0, .int .i64 fn.ret.1, .int .i64 fn.ret.2, .slice P1 ul c1, .slice (some b) uc c2], .agg #[.int .i64 o, .int .i64 ia, .int .i64 ib], .slice D k g] v (Ruled (ruleB x fn (o, ia, ib) ts) v)) := fun v hb =>
    RU A0 (some a) A2 A3 A4 P0 P1 (some b) D n0 n1 n2 n3 n4 d0 d1 d2 d3 d4 ua ul uc c0 c1 c2 k g x fn ts o ia ib v
      ⟨h0, h1, h2, (s0.below hb (Nat.le_refl _)).wide fun i hi => Nat.lt_of_lt_of_le hi hb.size, (s1.below hb (Nat.le_refl _)).wide fun i hi => Nat.lt_of_lt_of_le hi hb.size, (s2.below hb (Nat.le_refl _)).wide fun i hi => Nat.lt_of_lt_of_le hi hb.size, g0, g1, (t0.below hb (Nat.le_refl _)).wide fun i hi => Nat.lt_of_lt_of_le hi hb.size, (t1.below hb (Nat.le_refl _)).wide fun i hi => Nat.lt_of_lt_of_le hi hb.size, ⟨hr1, hr2⟩, hk, SKv.out v hb, by have := HFit.out.r8; omega, by omega, by have := HFit.out.i8; omega, by omega, by omega, bk⟩ hgood hnam bg bg2
  have HAts := Lib.hid sk.a64
  have HK := Lib.hid hk
  have HCL : Hid (∀ v, Below w.heap.size w v → v.cell? (a.add (j * 5)) = some (.slice P0 ua c0) ∧ v.cell? ⟨(a.add (j * 5)).block, (a.add (j * 5)).off + 1, none⟩ = some (.int .i64 fn.ret.1) ∧ v.cell? ⟨(a.add (j * 5)).block, (a.add (j * 5)).off + 2, none⟩ = some (.int .i64 fn.ret.2) ∧ v.cell? ⟨(a.add (j * 5)).block, (a.add (j * 5)).off + 3, none⟩ = some (.slice P1 ul c1) ∧ v.cell? ⟨(a.add (j * 5)).block, (a.add (j * 5)).off + 4, none⟩ = some (.slice (some b) uc c2) ∧ v.cell? (b.add (p * 3)) = some (.int .i64 o) ∧ v.cell? ⟨(b.add (p * 3)).block, (b.add (p * 3)).off + 1, none⟩ = some (.int .i64 ia) ∧ v.cell? ⟨(b.add (p * 3)).block, (b.add (p * 3)).off + 2, none⟩ = some (.int .i64 ib)) := fun v hb => by
    have k0 := (hb.cell (p := a.add (j * 5)) (by rw [addBlock]; exact hab)).trans (hcl 0 _ rfl)
    have k1 := (hb.cell (p := a.add (j * 5 + 1)) (by rw [addBlock]; exact hab)).trans (hcl 1 _ rfl)
    have k2 := (hb.cell (p := a.add (j * 5 + 2)) (by rw [addBlock]; exact hab)).trans (hcl 2 _ rfl)
    have k3 := (hb.cell (p := a.add (j * 5 + 3)) (by rw [addBlock]; exact hab)).trans (hcl 3 _ rfl)
    have k4 := (hb.cell (p := a.add (j * 5 + 4)) (by rw [addBlock]; exact hab)).trans (hcl 4 _ rfl)
    have i0 := (hb.cell (p := b.add (p * 3)) (by rw [addBlock]; exact hbb)).trans (hil 0 _ rfl)
    have i1 := (hb.cell (p := b.add (p * 3 + 1)) (by rw [addBlock]; exact hbb)).trans (hil 1 _ rfl)
    have i2 := (hb.cell (p := b.add (p * 3 + 2)) (by rw [addBlock]; exact hbb)).trans (hil 2 _ rfl)
    rw [next_cell a (j * 5) 1 (by omega)] at k1
    rw [next_cell a (j * 5) 2 (by omega)] at k2
    rw [next_cell a (j * 5) 3 (by omega)] at k3
    rw [next_cell a (j * 5) 4 (by omega)] at k4
    rw [next_cell b (p * 3) 1 (by omega)] at i1
    rw [next_cell b (p * 3) 2 (by omega)] at i2
    exact ⟨k0, k1, k2, k3, k4, i0, i1, i2⟩
  obtain ⟨n, hn⟩ : ∃ n, ins.length = n := ⟨_, rfl⟩
  obtain ⟨m, hm⟩ : ∃ m, outs.length = m := ⟨_, rfl⟩
  have hnm := rule_len hc hrb
  rw [hn, hm] at hnm
  obtain ⟨hn8', hm8⟩ := hnm
  rw [hrb] at RUc
  have HN := Lib.hid hn
  have HM := Lib.hid hm
  have HTE := Lib.hid ht
  rw [hn] at hle h8 HTE
  rw [hm] at h8
  obtain ⟨q, hq⟩ : ∃ q : Nat, k - n = q := ⟨_, rfl⟩
  rw [hq] at h8 HTE
  have htl : t.length = q + m := by rw [HTE.out, List.length_append, List.length_take, hk, hm]; omega
  have HTT : Hid (t.take q = ts.take q) := by show _ = _; rw [HTE.out, List.take_append_of_le_length (by rw [List.length_take, hk]; omega), List.take_take, Nat.min_self]
  have HTQ : Hid ((ts.take q).length = q) := by show _ = q; rw [List.length_take, hk]; omega
  have e1 : (k : Int) - (n : Int) = (q : Int) := by omega
  have e1w : IntKind.i64.wrap ((k : Int) - (n : Int)) = (q : Int) := by rw [IntKind.wrap_i64]; omega
  have e2 : (0 : Int) ≤ (q : Int) := by omega
  have e2d : decide ((0 : Int) ≤ (q : Int)) = true := by simp
  have e3 : IntKind.i64.wrap ((q : Int) + (m : Int)) = (q : Int) + (m : Int) := by rw [IntKind.wrap_i64]; omega
  have e4 : (q : Int) + (m : Int) ≤ (8 : Int) := by omega
  have e4d : decide ((q : Int) + (m : Int) ≤ (8 : Int)) = true := by simp; omega
  have e6 : (q : Int) ≤ (g : Int) := by omega
  have e7 : q ≤ g := by omega
  have e9 : decide ((q : Int) < 0) = false := by simp
  have hq8 : q ≤ 8 := by omega
  have hm8' : m ≤ 8 := by omega
  have h20i : ¬ (20 : Int) < (k : Int) := by omega
  have HNIL := Lib.hid hnil
  have HSK := Lib.hid sk
  have L1 : Hid (∀ w1, Below w.heap.size w w1 → Calls Try.prog 8 #[.agg #[.slice A0 n0 d0, .slice (some a) n1 d1, .slice A2 n2 d2, .slice A3 n3 d3, .slice A4 n4 d4]] w1 fun e w' => ∃ b : Bool, e = .returned (.bool b) ∧ Below w1.heap.size w1 w' ∧ (b = true → Small x)) := L0.out
  have FA2 : Hid (∀ v, Below w.heap.size w v → Calls Try.prog 10 #[.agg #[.slice A0 n0 d0, .slice (some a) n1 d1, .slice A2 n2 d2, .slice A3 n3 d3, .slice A4 n4 d4], .int .i64 (j : Int), .int .i64 (p : Int), .slice D k g] v (Flows (0, t, l) v)) := FA.out
  clear L0 FA
  have L0 := L1
  clear L1
  show Calls Try.prog 6 #[.agg #[.slice A0 n0 d0, .slice (some a) n1 d1, .slice A2 n2 d2, .slice A3 n3 d3, .slice A4 n4 d4], .int .i64 (j : Int), .int .i64 (p : Int), .slice D k g] w (fun e w' => e = .returned (.bool true) ∧ Below w.heap.size w w')
  clear hc hnam hgood hcl hil sk s0 s1 s2 h0 h1 h2 l0 l1 l2 m0 m1 m2 t0 t1 t2 f0 f1 f2 f3 f4 f5 g0 g1 g2 hfn hin hk q1 q2 q3 HFit hr1 hr2 hrb hn hm hle hq hnil ht bk20 hz hfi hpc
  go_enter Try.func6, Try.ntmps6
  go_wp2_with fail
  refine calls_world fun W hW => ?_
  have HB0 : Hid (Below w.heap.size w W) := by show Below _ _ _; rw [hW]; exact (Below.refl _ _).alloc (Nat.le_refl _) _
  have HC0 : Hid (C5 w.heap.size (.slice A0 n0 d0) (.slice (some a) n1 d1) (.slice A2 n2 d2) (.slice A3 n3 d3) (.slice A4 n4 d4) W) := by show C5 _ _ _ _ _ _ _; rw [hW]; simp [C5, go_sem]
  have hzW : w.heap.size < W.heap.size := by rw [hW]; simp
  clear hW
  refine (L0.out W HB0.out).mono ?_
  rintro e V ⟨lb, rfl, hb1, -⟩
  have HB1 := Lib.hid (HB0.out.trans (hb1.mono HB0.out.size))
  have HC1 := Lib.hid (HC0.out.below hb1 hzW)
  have hzV : w.heap.size < V.heap.size := Nat.lt_of_lt_of_le hzW hb1.size
  clear hb1
  cases lb
  · go_wp2_with (first | (go_at_call 9; refine (AN.out _).mono ?_; rintro e w2 ⟨rfl, hb2⟩; have HW2 := Lib.hid (HB1.out.trans (hb2.mono HB1.out.size)); clear hb2))
    go_ret
    exact ⟨rfl, HW2.out⟩
  obtain ⟨x0, x1, x2, x3, x4⟩ := HC1.out
  go_upto_region 6 with (first
    | (go_at_call 10
       with_reducible refine (FA2.out _ HB1.out).mono ?_
       intro e w4 hq4
       obtain ⟨hb4, v4, u4, rfl, ho4, -, -, h64⟩ := flows_at hq4
       clear hq4
       obtain ⟨V4, e4', rfl, -, hle4, hmx4, hsq4⟩ := own_sq ho4 h64
       rw [htl] at ho4 hle4
       have HO4 := Lib.hid ho4
       have HV4 := Lib.hid hsq4
       have HB4 := Lib.hid hb4
       have HW4 := Lib.hid (HB1.out.trans (hb4.mono HB1.out.size))
       have HC4 := Lib.hid (HC1.out.below hb4 hzV)
       have hs4 := hb4.size
       unfold maxLen at hmx4
       clear hb4 ho4 hsq4 h64))
  try rw [htl]
  clear htl x0 x1 x2 x3 x4
  have hz4 : w.heap.size < w4.heap.size := Nat.lt_of_lt_of_le hzV hs4
  have HC : Hid (∀ v, Below w4.heap.size w4 v → v.cell? ⟨w.heap.size, 0, none⟩ = some (.slice A0 n0 d0) ∧ v.cell? ⟨w.heap.size, 1, none⟩ = some (.slice (some a) n1 d1) ∧ v.cell? ⟨w.heap.size, 2, none⟩ = some (.slice A2 n2 d2) ∧ v.cell? ⟨w.heap.size, 3, none⟩ = some (.slice A3 n3 d3) ∧ v.cell? ⟨w.heap.size, 4, none⟩ = some (.slice A4 n4 d4) ∧ v.cell? (a.add (j * 5)) = some (.slice P0 ua c0) ∧ v.cell? ⟨(a.add (j * 5)).block, (a.add (j * 5)).off + 1, none⟩ = some (.int .i64 fn.ret.1) ∧ v.cell? ⟨(a.add (j * 5)).block, (a.add (j * 5)).off + 2, none⟩ = some (.int .i64 fn.ret.2) ∧ v.cell? ⟨(a.add (j * 5)).block, (a.add (j * 5)).off + 3, none⟩ = some (.slice P1 ul c1) ∧ v.cell? ⟨(a.add (j * 5)).block, (a.add (j * 5)).off + 4, none⟩ = some (.slice (some b) uc c2) ∧ v.cell? (b.add (p * 3)) = some (.int .i64 o) ∧ v.cell? ⟨(b.add (p * 3)).block, (b.add (p * 3)).off + 1, none⟩ = some (.int .i64 ia) ∧ v.cell? ⟨(b.add (p * 3)).block, (b.add (p * 3)).off + 2, none⟩ = some (.int .i64 ib)) := fun v hb => by
    have hm := HC4.out.below hb hz4
    have hi := HCL.out v (HW4.out.trans (hb.mono HW4.out.size))
    exact ⟨hm.1, hm.2.1, hm.2.2.1, hm.2.2.2.1, hm.2.2.2.2, hi⟩
  have SW := Lib.hid (HC.out w4 (Below.refl _ _))
  go_region_held3 (fun v => v.cell? ⟨w.heap.size, 0, none⟩ = some (.slice A0 n0 d0) ∧ v.cell? ⟨w.heap.size, 1, none⟩ = some (.slice (some a) n1 d1) ∧ v.cell? ⟨w.heap.size, 2, none⟩ = some (.slice A2 n2 d2) ∧ v.cell? ⟨w.heap.size, 3, none⟩ = some (.slice A3 n3 d3) ∧ v.cell? ⟨w.heap.size, 4, none⟩ = some (.slice A4 n4 d4) ∧ v.cell? (a.add (j * 5)) = some (.slice P0 ua c0) ∧ v.cell? ⟨(a.add (j * 5)).block, (a.add (j * 5)).off + 1, none⟩ = some (.int .i64 fn.ret.1) ∧ v.cell? ⟨(a.add (j * 5)).block, (a.add (j * 5)).off + 2, none⟩ = some (.int .i64 fn.ret.2) ∧ v.cell? ⟨(a.add (j * 5)).block, (a.add (j * 5)).off + 3, none⟩ = some (.slice P1 ul c1) ∧ v.cell? ⟨(a.add (j * 5)).block, (a.add (j * 5)).off + 4, none⟩ = some (.slice (some b) uc c2) ∧ v.cell? (b.add (p * 3)) = some (.int .i64 o) ∧ v.cell? ⟨(b.add (p * 3)).block, (b.add (p * 3)).off + 1, none⟩ = some (.int .i64 ia) ∧ v.cell? ⟨(b.add (p * 3)).block, (b.add (p * 3)).off + 2, none⟩ = some (.int .i64 ib))
    (first | exact SS5.out | exact SW.out | exact HC.out _ (Below.refl _ w4).drew)
    (first
    | (go_at_call 17
       refine (RUc.out _ HW4.out.drew).mono ?_
       intro e w5 h5
       obtain ⟨hb5, A9, c9, B9, d9, he5, -, -⟩ := ruled_some h5
       rw [HN.out, HM.out] at he5
       subst he5
       have HB5 : Hid (Below w4.heap.size w4 w5) := (by show Below _ _ _; exact (Below.refl _ w4).drew.trans (hb5.mono (by simp)))
       have SS5 := Lib.hid (HC.out _ HB5.out)
       clear h5 hb5))
  have HW5 := Lib.hid (HW4.out.trans (HB5.out.mono HW4.out.size))
  have HBR : Hid (∀ dq osq, Below w5.heap.size w5 (Go.Sort.grow (redrawn w5 dq) osq)) := fun dq osq => below_regrown w5 dq osq
  have TY : Hid (∀ w1 c1 d1, Below w5.heap.size w5 w1 → Calls Try.prog 11 #[.slice V4 q c1, .slice D q d1] w1 fun e w' => e = .returned (.bool true) ∧ Below w1.heap.size w1 w') := fun w1 c1 d1 hb => by
    have s1 := (((HV4.out.wide (T := (· < w4.heap.size)) fun i hi => hi.2).below (HB5.out.trans (hb.mono HB5.out.size)) (Nat.le_refl _)).take q)
    have s2 := ((HSK.out.below (HW5.out.trans (hb.mono HW5.out.size)) (Nat.le_refl _)).take q)
    rw [HTT.out] at s1
    have := types_below V4 D q q c1 d1 (ts.take q) (ts.take q) w1 _ _ HTQ.out HTQ.out s1 s2 (by omega) (by omega)
    rwa [eqB_self] at this
  clear SS5 SW
  have e8 : (q : Int) ≤ (e4' : Int) := by omega
  go_upto_region 8 with (fail)
  refine wp_region_quiet_below (by kernel_rfl) (by kernel_rfl) ?_
  repeat (quiet_step (first | with_reducible exact Calls.regrown_of (AN.out _) | with_reducible exact Calls.regrown_of (TY.out _ _ _ (HBR.out _ _))))
  refine wpQuiet_nil ?_
  intro _ hw'
  obtain ⟨⟨dq, osq⟩, hw''⟩ := hw'
  subst hw''
  have HX2 := Lib.hid (HBR.out dq osq)
  go_wp2_with fail
  go_ret
  exact ⟨rfl, HW5.out.trans (HX2.out.mono HW5.out.size)⟩
end Go.Proofs.Ytlfcglolehmmiaa
