/-
  The law VerifyMaps holds: the types at each instruction of any module, or that there are none; the law's function returns true and turns nothing that was there.
  Conditions: none.
-/
import Derived.Test.YtpjanfkliaaflaaGreatQ01
import Derived.Test.YtpjanfkliaaflaaGreatQ02
import Derived.Test.YtpjanfkliaaflaaGreatQ07
import Derived.Test.YtpjanfkliaaflaaGreatQ13
import Derived.Test.YtpjanfkliaaflaaGreatQ30
import Derived.Test.YtpjanfkliaaflaaGreatQ46
import Derived.Test.YtpjanfkliaaflaaGreatQ50
import Derived.Test.YtpjanfkliaaflaaGreatQ51
import Derived.BigQuiet
namespace Go.Proofs.YtpjanfkliaaflaaGreat.verifyMaps
open Go.ChangeShapes Go.WideShapes Go.ChangeAt Go.RowKit
set_option linter.unusedVariables false
set_option linter.unusedSimpArgs false

set_option maxRecDepth 100000 in
set_option maxHeartbeats 8000000 in
theorem walk (cs : List Value) (m : Mod) (w : World) (h : modL.R (· < w.heap.size) w cs m) (hz : Zm m) :
    Calls Tryz.prog 3 #[vAgg cs] w fun e w' => e = .returned (.bool true) ∧ Below w.heap.size w w' := by
  have AN := Lib.hid (fun w => answers9 w)
  have L0 : Hid (∀ w1, Below w.heap.size w w1 → Calls Tryz.prog 6 #[vAgg cs] w1 fun e w' => ∃ b : Bool, e = .returned (.bool b) ∧ Below w1.heap.size w1 w' ∧ (b = true → Small m)) := fun w1 hb => light_any cs m w1 (mod_at h hb) hz
  have CK : Hid (∀ w1, Below w.heap.size w w1 → Calls Tryz.prog 8 #[vAgg cs] w1 (Checked m w1)) := fun w1 hb => vcheck_any cs m w1 (mod_at h hb)
  have RC : Hid (Small m → ∀ w1, Below w.heap.size w w1 → Calls Tryz.prog 9 #[vAgg cs] w1 fun e w' => e = .returned (.int .i64 (checkN m)) ∧ Below w1.heap.size w1 w') := fun hs w1 hb => rcheck_any cs m w1 (mod_at h hb) hs
  have RM : Hid (Small m → ∀ w1, Below w.heap.size w w1 → Calls Tryz.prog 10 #[vAgg cs] w1 fun e w' => e = .returned (.bool (mainB m)) ∧ Below w1.heap.size w1 w') := fun hs w1 hb => rmain_any cs m w1 (mod_at h hb) hs
  have MA : Hid (checkN m = 0 → ∀ w1, Below w.heap.size w w1 → Calls Tryz.prog 11 #[vAgg cs] w1 (RMaps m w1)) := fun hc w1 hb => rmaps_any rrule_any cs m w1 (mod_at h hb) hc
  have SM := Lib.hid rsame_same
  have HFn : Hid (∀ (k : Nat) (fn : Fn), m.funcs[k]? = some fn → ∃ a n d P2 c2 v0 v2 v3 v4, cs = [v0, .slice (some a) n d, v2, v3, v4] ∧ k < n ∧ ∀ v, Below w.heap.size w v → v.cell? ⟨(a.add (k * 5)).block, (a.add (k * 5)).off + 4, none⟩ = some (.slice P2 fn.code.length c2)) := fun k fn hf => by
    obtain ⟨v0, v1, v2, v3, v4, rfl, -, ⟨A1, d1, e1, l1, m1, s1⟩, -⟩ := h
    simp only [List.cons.injEq, and_true] at e1
    subst e1
    obtain ⟨a, ccs, ea, hab, hcl, hR⟩ := s1.at hf
    subst ea
    obtain ⟨p0, p1, p2, rfl, -, -, ⟨P0, c0, e4, -⟩, ⟨P1, c1, e5, -⟩, ⟨P2, c2, e6, -⟩⟩ := hR
    simp only [List.cons.injEq, and_true] at e4 e5 e6
    subst e4 e5 e6
    refine ⟨a, _, d1, P2, c2, v0, v2, v3, v4, rfl, (List.getElem?_eq_some_iff.1 hf).1, fun v hb => ?_⟩
    have k4 := (hb.cell (p := a.add (k * 5 + 4)) (by rw [addBlock]; exact hab)).trans (hcl 4 _ rfl)
    rw [next_cell a (k * 5) 4 (by omega)] at k4
    exact k4
  obtain ⟨A0, A1, A2, A3, A4, n0, n1, n2, n3, n4, c0, c1, c2, c3, c4, rfl⟩ := mod_shape h
  clear h hz
  simp only [vAgg] at L0 CK RC RM MA ⊢
  go_enter Tryz.func3, Tryz.ntmps3
  go_wp2_with fail
  refine calls_world fun W hW => ?_
  have HB0 : Hid (Below w.heap.size w W) := by show Below _ _ _; rw [hW]; exact below_new w _
  have HC0 : Hid (C5 w.heap.size (.slice A0 n0 c0) (.slice A1 n1 c1) (.slice A2 n2 c2) (.slice A3 n3 c3) (.slice A4 n4 c4) W) := by show C5 _ _ _ _ _ _ _; rw [hW]; simp [C5, go_sem]
  have hzW : w.heap.size < W.heap.size := by rw [hW]; simp
  clear hW
  have HCV : Hid (∀ v, Below W.heap.size W v → C5 w.heap.size (.slice A0 n0 c0) (.slice A1 n1 c1) (.slice A2 n2 c2) (.slice A3 n3 c3) (.slice A4 n4 c4) v) := fun v hb => HC0.out.below hb hzW
  have HBB : Hid (∀ v, Below W.heap.size W v → Below w.heap.size w v) := fun v hb => HB0.out.trans (hb.mono HB0.out.size)
  refine (L0.out W HB0.out).mono ?_
  rintro e V ⟨b, rfl, hb1, hsm⟩
  have HB1 := Lib.hid hb1
  obtain ⟨x0, x1, x2, x3, x4⟩ := HCV.out V hb1
  clear hb1
  cases b
  · go_wp2_with (first | (go_at_call 7; refine (AN.out _).mono ?_; rintro e w2 ⟨rfl, hb2⟩; have HB2 := Lib.hid (HB1.out.trans (hb2.mono HB1.out.size)); clear hb2))
    go_ret
    exact ⟨rfl, HBB.out _ HB2.out⟩
  have RC1 := Lib.hid (RC.out (hsm rfl))
  have RM1 := Lib.hid (RM.out (hsm rfl))
  clear hsm RC RM
  go_wp2_with fail
  refine (CK.out V (HBB.out _ HB1.out)).mono ?_
  rintro e w2 ⟨hb2, ⟨hc, rfl⟩ | ⟨hc, hm, rfl⟩ | ⟨hc, hm, hN, f, pc, fn, hf, hpc, rfl⟩ | ⟨hc, hm, U, L, A, c, hL, rfl, hsl, -, -⟩⟩
  · have HB2 := Lib.hid (HB1.out.trans (hb2.mono HB1.out.size))
    have hne : (checkN m != 0) = true := by simpa using hc
    generalize checkN m = cn at *
    obtain ⟨y0, y1, y2, y3, y4⟩ := HCV.out w2 HB2.out
    clear hb2 hc x0 x1 x2 x3 x4
    go_wp2_with (first
      | (go_at_call 9
         refine (RC1.out _ (HBB.out _ HB2.out)).mono ?_
         rintro e w3 ⟨rfl, hb3⟩
         have HB3 := Lib.hid (HB2.out.trans (hb3.mono HB2.out.size))
         clear hb3)
      | (go_at_call 7
         refine (AN.out _).mono ?_
         rintro e w4 ⟨rfl, hb4⟩
         have HB4 := Lib.hid (HB3.out.trans (hb4.mono HB3.out.size))
         clear hb4))
    go_ret
    exact ⟨by simp, HBB.out _ HB4.out⟩
  · have HB2 := Lib.hid (HB1.out.trans (hb2.mono HB1.out.size))
    rw [hc] at RC1
    rw [hm] at RM1
    obtain ⟨y0, y1, y2, y3, y4⟩ := HCV.out w2 HB2.out
    clear hb2 hc hm x0 x1 x2 x3 x4
    go_wp2_with (first
      | (go_at_call 9
         refine (RC1.out _ (HBB.out _ HB2.out)).mono ?_
         rintro e w3 ⟨rfl, hb3⟩
         have HB3 := Lib.hid (HB2.out.trans (hb3.mono HB2.out.size))
         obtain ⟨x0, x1, x2, x3, x4⟩ := HCV.out w3 HB3.out
         clear hb3 y0 y1 y2 y3 y4)
      | (go_at_call 10
         refine (RM1.out _ (HBB.out _ HB3.out)).mono ?_
         rintro e w4 ⟨rfl, hb4⟩
         have HB4 := Lib.hid (HB3.out.trans (hb4.mono HB3.out.size))
         clear hb4)
      | (go_at_call 7
         refine (AN.out _).mono ?_
         rintro e w5 ⟨rfl, hb5⟩
         have HB5 := Lib.hid (HB4.out.trans (hb5.mono HB4.out.size))
         clear hb5))
    go_ret
    exact ⟨by simp, HBB.out _ HB5.out⟩
  · have HB2 := Lib.hid (HB1.out.trans (hb2.mono HB1.out.size))
    rw [hc] at RC1
    rw [hm] at RM1
    have MA1 := Lib.hid (MA.out hc)
    have HNv := Lib.hid hN
    obtain ⟨a, n, d, P2, c2', v0, v2, v3, v4, ecs, hfn, hcl⟩ := HFn.out f fn hf
    simp only [List.cons.injEq, Value.slice.injEq, and_true] at ecs
    obtain ⟨rfl, ⟨rfl, rfl, rfl⟩, rfl, rfl, rfl⟩ := ecs
    have HCL := Lib.hid hcl
    obtain ⟨uc, huc⟩ : ∃ uc, fn.code.length = uc := ⟨_, rfl⟩
    rw [huc] at hpc HCL
    have f0 : (0 : Int) ≤ (f : Int) := by omega
    have f1 : (f : Int) < (n1 : Int) := by omega
    have p0 : (0 : Int) ≤ (pc : Int) := by omega
    have p1 : (pc : Int) < (uc : Int) := by omega
    obtain ⟨y0, y1, y2, y3, y4⟩ := HCV.out w2 HB2.out
    clear hb2 hc hm hN hcl huc x0 x1 x2 x3 x4
    go_wp2_with (first
      | (go_at_call 9
         refine (RC1.out _ (HBB.out _ HB2.out)).mono ?_
         rintro e w3 ⟨rfl, hb3⟩
         have HB3 := Lib.hid (HB2.out.trans (hb3.mono HB2.out.size))
         obtain ⟨x0, x1, x2, x3, x4⟩ := HCV.out w3 HB3.out
         clear hb3 y0 y1 y2 y3 y4)
      | (go_at_call 10
         refine (RM1.out _ (HBB.out _ HB3.out)).mono ?_
         rintro e w4 ⟨rfl, hb4⟩
         have HB4 := Lib.hid (HB3.out.trans (hb4.mono HB3.out.size))
         obtain ⟨y0, y1, y2, y3, y4⟩ := HCV.out w4 HB4.out
         clear hb4 x0 x1 x2 x3 x4)
      | (go_at_call 11
         refine (MA1.out _ (HBB.out _ HB4.out)).mono ?_
         rintro e w5 ⟨hb5, ⟨-, rfl⟩ | ⟨L, A, c, hL, -⟩⟩
         rotate_left
         · exact absurd HNv.out hL.never
         have HB5 := Lib.hid (HB4.out.trans (hb5.mono HB4.out.size))
         clear hb5)
      | (go_at_call 7
         refine (AN.out _).mono ?_
         rintro e w6 ⟨rfl, hb6⟩
         have HB6 := Lib.hid (HB5.out.trans (hb6.mono HB5.out.size))
         obtain ⟨x0, x1, x2, x3, x4⟩ := HCV.out w6 HB6.out
         have x5 := HCL.out w6 (HBB.out _ HB6.out)
         clear hb6 y0 y1 y2 y3 y4))
    go_ret
    exact ⟨by simp [f0, f1, p0, p1], HBB.out _ HB6.out⟩
  · have HB2 := Lib.hid (HB1.out.trans (hb2.mono HB1.out.size))
    rw [hc] at RC1
    rw [hm] at RM1
    have MA1 := Lib.hid (MA.out hc)
    have HLe := Lib.hid hL
    have hn8 : L.length ≤ 1000 := by
      have := (fitB_iff.1 (checkN_fit hc)).f8
      rw [hL.len]
      omega
    obtain ⟨A', c', e1, -, -, hsq⟩ := hsl
    simp only [List.cons.injEq, Value.slice.injEq, and_true, true_and] at e1
    obtain ⟨rfl, rfl⟩ := e1
    have HSq : Hid (Sq rowL (fun b => V.heap.size ≤ b ∧ b < w2.heap.size) w2 A L) := hsq.turn rfl (fun _ _ h => h) fun cs x _ h => rowU_plain h
    obtain ⟨y0, y1, y2, y3, y4⟩ := HCV.out w2 HB2.out
    clear hb2 hc hm hL hsq x0 x1 x2 x3 x4
    go_wp2_with (first
      | (go_at_call 9
         refine (RC1.out _ (HBB.out _ HB2.out)).mono ?_
         rintro e w3 ⟨rfl, hb3⟩
         have HK3 := Lib.hid hb3
         have HB3 := Lib.hid (HB2.out.trans (hb3.mono HB2.out.size))
         obtain ⟨x0, x1, x2, x3, x4⟩ := HCV.out w3 HB3.out
         clear hb3 y0 y1 y2 y3 y4)
      | (go_at_call 10
         refine (RM1.out _ (HBB.out _ HB3.out)).mono ?_
         rintro e w4 ⟨rfl, hb4⟩
         have HK4 := Lib.hid (HK3.out.trans (hb4.mono HK3.out.size))
         have HB4 := Lib.hid (HB3.out.trans (hb4.mono HB3.out.size))
         obtain ⟨y0, y1, y2, y3, y4⟩ := HCV.out w4 HB4.out
         clear hb4 x0 x1 x2 x3 x4)
      | (go_at_call 11
         refine (MA1.out _ (HBB.out _ HB4.out)).mono ?_
         rintro e w5 ⟨hb5, ⟨hN, -⟩ | ⟨L2, A2, c2, hL2, rfl, hsl2⟩⟩
         · exact absurd hN HLe.out.never
         obtain rfl := HLe.out.same hL2
         obtain ⟨A2', c2', e2, -, -, hsq2⟩ := hsl2
         simp only [List.cons.injEq, Value.slice.injEq, and_true, true_and] at e2
         obtain ⟨rfl, rfl⟩ := e2
         have HSq2 := Lib.hid hsq2
         have HK5 := Lib.hid (HK4.out.trans (hb5.mono HK4.out.size))
         have HB5 := Lib.hid (HB4.out.trans (hb5.mono HB4.out.size))
         clear hb5 hL2 hsq2)
      | (go_at_call 7
         refine (AN.out _).mono ?_
         rintro e w6 ⟨rfl, hb6⟩
         have HK6 := Lib.hid (HK5.out.trans (hb6.mono HK5.out.size))
         have HB6 := Lib.hid (HB5.out.trans (hb6.mono HB5.out.size))
         have HSq3 := Lib.hid (HSq2.out.keep (w' := w6) fun b hb => hb6.block b hb)
         have HSq1 := Lib.hid (HSq.out.keep (w' := w6) fun b hb => HK6.out.block b hb.2)
         clear hb6)
      | (go_at_call 12
         refine (SM.out A A2 L.length c c2 L w6 _ _ rfl HSq1.out HSq3.out hn8).mono ?_
         rintro e w7 ⟨rfl, q, rfl⟩))
    go_ret
    exact ⟨by simp, HBB.out _ (HB6.out.trans ((below_drewN w6 q).mono HB6.out.size))⟩

set_option maxRecDepth 100000 in
theorem lifted (os : Os) (started : os.Started) (H : Type) (enc : TypeId × Value → H) :
    ReturnsInHanded {} Tryz.checked os 3 .any (Rows.verifyMapsSpec.pre6 enc Tryz.prog Tryz.f3 Rows.verifyMapsRow.domain false) (Rows.verifyMapsSpec.post enc Tryz.prog Tryz.f3 false true false false) := by
  refine returnsInHanded_of_change_sized (C := Tryz.checked) own started (by kernel_rfl) Tryz.func3
    (ChangeSpec.witness6 (enc := enc) (C := Tryz.checked) false ⟨#[], #[.agg #[.slice none 0 0, .slice none 0 0, .slice none 0 0, .slice none 0 0, .slice none 0 0]], []⟩ 8 (by kernel_rfl) (by kernel_rfl) (by kernel_rfl) (by kernel_rfl)) ?_
  intro W base args ds gs before hval0 hW hcnd hwz _
  have hval : ∀ (j : Nat) t v, Tryz.f3.params[j]? = some t → args[j]? = some v → Value.okWide Tryz.prog W .any base t v := hval0
  have hW' := hW
  obtain ⟨p, q, hA0, hV, rfl, hfz, hnd⟩ := hW
  have hA : DataW.TrodAll enc Tryz.prog W 0 (fun _ => true) true Tryz.f3.params.toList args.toList ds p := hA0
  rw [Tryz.params3] at hA hval
  obtain ⟨v0, vs0, d0, ds0, p0, q0, hargs, rfl, rfl, h0, r0⟩ := trodAll_cons hA
  obtain ⟨rfl, rfl, rfl⟩ := trodAll_nil r0
  obtain rfl : args = #[v0] := by cases args; simp_all
  obtain ⟨rfl, rfl⟩ := trodVars_none hV
  have lt0 : ∀ x ∈ p0, x.block < W.heap.size := by obtain ⟨m, hm⟩ := h0; exact DataW.trod_lt m _ _ _ hm
  have hwz0 : ∀ n ∈ d0.weights Tryz.prog 28, n ≤ reachBytes := fun n hn => by simpa using List.all_eq_true.1 hwz n (DataW.weights_mem_each (j := 0) (t := 28) (d := d0) (by first | rfl | kernel_rfl) rfl n hn)
  obtain ⟨cs0, m0, rfl, hm0, hz0⟩ := open_modZ h0 hwz0
  clear hA0 hval0
  refine (walk cs0 m0 W hm0 hz0).mono fun e W' ⟨he, bel⟩ => ?_
  subst he
  exact ⟨_, rfl, _, _, _, [], _, [], hW', trodAll_mk1 (shut_bool Tryz.underlying4 _), (trodAll_cons_mk (Below.trod laidOut (by kernel_rfl) (of_decide_eq_true (by kernel_rfl)) h0 bel lt0) trodAll_mk0), rfl, bel.frame _, fun h => by cases h⟩

theorem over : Rows.verifyMapsRow.holds Tryz.pinned (OpenSpec.ofChange Rows.verifyMapsSpec) :=
  OpenClaim.holds_of_wide 3 Tryz.f3 rfl rfl rfl rfl rfl rfl rfl ⟨rfl, rfl, rfl, rfl, rfl⟩ rfl rfl rfl rfl rfl (by kernel_rfl) Tryz.func3 (by kernel_rfl)
    (of_decide_eq_true (by kernel_rfl)) (by unfold Func.isWrapper; first | (rw [if_pos (by decide +kernel)]; kernel_rfl) | (rw [if_neg (by decide +kernel)]; exact ⟨rfl, rfl⟩))
    (fun os started H enc _ => lifted os started H enc)

/-- The statement. -/
theorem proved : Rows.VerifyMapsSaid := over
end Go.Proofs.YtpjanfkliaaflaaGreat.verifyMaps
