/-
  The law VerifyRight holds: what is answered is right, and is below whatever is right; the law's function returns true and turns nothing that was there.
  Conditions: none.
-/
import Derived.Test.YtpjanfkliaaflaaGreatQ01
import Derived.Test.YtpjanfkliaaflaaGreatQ02
import Derived.Test.YtpjanfkliaaflaaGreatQ07
import Derived.Test.YtpjanfkliaaflaaGreatQ30
import Derived.Test.YtpjanfkliaaflaaGreatQ46
import Derived.Test.YtpjanfkliaaflaaGreatQ47
import Derived.Test.YtpjanfkliaaflaaGreatQ48
import Derived.Lib.QuietBelow
import Derived.BigQuiet
import Derived.Deep.RegionWith
namespace Go.Proofs.YtpjanfkliaaflaaGreat.verifyRight
open Go.ChangeShapes Go.WideShapes Go.ChangeAt Go.RowKit
set_option linter.unusedVariables false
set_option linter.unusedSimpArgs false

set_option maxRecDepth 100000 in
set_option maxHeartbeats 8000000 in
theorem walk (cs : List Value) (m : Mod) (A : Option Addr) (n c : Nat) (L : List (List Shape)) (w : World) (h : modL.R (· < w.heap.size) w cs m) (hz : Zm m) (hl : L.length = n) (hL : mapsL.R (· < w.heap.size) w [.slice A n c] L) :
    Calls Tryz.prog 4 #[vAgg cs, .slice A n c] w fun e w' => e = .returned (.bool true) ∧ Below w.heap.size w w' := by
  have AN := Lib.hid (fun w => answers9 w)
  obtain ⟨A', c', e1, hle, hcm, hsq⟩ := hL
  simp only [List.cons.injEq, Value.slice.injEq, and_true] at e1
  obtain ⟨rfl, -, rfl⟩ := e1
  have hn63 : n ≤ 9223372036854775807 := by unfold maxLen at hcm; omega
  have L0 : Hid (∀ w1, Below w.heap.size w w1 → Calls Tryz.prog 6 #[vAgg cs] w1 fun e w' => ∃ b : Bool, e = .returned (.bool b) ∧ Below w1.heap.size w1 w' ∧ (b = true → Small m)) := fun w1 hb => light_any cs m w1 (mod_at h hb) hz
  have CK : Hid (∀ w1, Below w.heap.size w w1 → Calls Tryz.prog 8 #[vAgg cs] w1 (Checked m w1)) := fun w1 hb => vcheck_any cs m w1 (mod_at h hb)
  have RR : Hid (Small m → ∀ w1, Below w.heap.size w w1 → Calls Tryz.prog 13 #[vAgg cs, .slice A n c] w1 (RRight m L w1)) := fun hs w1 hb => rright_any rrule_any cs m A n c L w1 (mod_at h hb) hs hl (sq_low hsq hb) hn63
  have RM : Hid (Small m → ∀ w1, Below w.heap.size w w1 → Calls Tryz.prog 10 #[vAgg cs] w1 fun e w' => e = .returned (.bool (mainB m)) ∧ Below w1.heap.size w1 w') := fun hs w1 hb => rmain_any cs m w1 (mod_at h hb) hs
  have RQ : Hid (Small m → ∀ (w1 : World) (A9 : Option Addr) (c9 : Nat) (L9 : List (List Shape)), Below w.heap.size w w1 → Sq rowL (· < w1.heap.size) w1 A9 L9 → L9.length ≤ 1000 → Calls Tryz.prog 13 #[vAgg cs, .slice A9 L9.length c9] w1 (RRight m L9 w1)) := fun hs w1 A9 c9 L9 hb h9 hn9 => rright_any rrule_any cs m A9 L9.length c9 L9 w1 (mod_at h hb) hs rfl h9 (by omega)
  have HS0 : Hid (∀ v, Below w.heap.size w v → Sq rowL (· < v.heap.size) v A L) := fun v hb => sq_low hsq hb
  have HLn := Lib.hid hl
  obtain ⟨A0, A1, A2, A3, A4, n0, n1, n2, n3, n4, c0, c1, c2, c3, c4, rfl⟩ := mod_shape h
  clear h hz hl hsq hle hcm
  simp only [vAgg] at L0 CK RR RM RQ ⊢
  go_enter Tryz.func4, Tryz.ntmps4
  go_wp2_with fail
  refine calls_world fun W hW => ?_
  have HB0 : Hid (Below w.heap.size w W) := by show Below _ _ _; rw [hW]; exact below_new w _
  have HC0 : Hid (C5 w.heap.size (.slice A0 n0 c0) (.slice A1 n1 c1) (.slice A2 n2 c2) (.slice A3 n3 c3) (.slice A4 n4 c4) W) := by show C5 _ _ _ _ _ _ _; rw [hW]; simp [C5, go_sem]
  have hzW : w.heap.size < W.heap.size := by rw [hW]; simp
  clear hW
  have HCV : Hid (∀ v, Below W.heap.size W v → C5 w.heap.size (.slice A0 n0 c0) (.slice A1 n1 c1) (.slice A2 n2 c2) (.slice A3 n3 c3) (.slice A4 n4 c4) v) := fun v hb => HC0.out.below hb hzW
  have HBB : Hid (∀ v, Below W.heap.size W v → Below w.heap.size w v) := fun v hb => HB0.out.trans (hb.mono HB0.out.size)
  refine (L0.out W HB0.out).mono ?_
  rintro e V ⟨b, rfl, hb1, hsm⟩
  have HB1 := Lib.hid hb1
  obtain ⟨x0, x1, x2, x3, x4⟩ := HCV.out V hb1
  clear hb1
  cases b
  · go_wp2_with (first | (go_at_call 7; refine (AN.out _).mono ?_; rintro e w2 ⟨rfl, hb2⟩; have HB2 := Lib.hid (HB1.out.trans (hb2.mono HB1.out.size)); clear hb2))
    go_ret
    exact ⟨rfl, HBB.out _ HB2.out⟩
  by_cases h10 : 10 < n
  · have h10i : (10 : Int) < (n : Int) := by omega
    go_wp2_with (first | (go_at_call 7; refine (AN.out _).mono ?_; rintro e w2 ⟨rfl, hb2⟩; have HB2 := Lib.hid (HB1.out.trans (hb2.mono HB1.out.size)); clear hb2))
    go_ret
    exact ⟨rfl, HBB.out _ HB2.out⟩
  have h10i : ¬ (10 : Int) < (n : Int) := by omega
  have RR1 := Lib.hid (RR.out (hsm rfl))
  have RM1 := Lib.hid (RM.out (hsm rfl))
  have RQ1 := Lib.hid (RQ.out (hsm rfl))
  clear hsm RR RM RQ h10
  go_wp2_with fail
  refine (CK.out V (HBB.out _ HB1.out)).mono ?_
  intro e w2 hch
  have hcases : (∃ er : Int, er ≠ 0 ∧ ∃ f pc : Int, e = .returned (.tuple #[.slice none 0 0, .int .i64 f, .int .i64 pc, .int .i64 er])) ∨ (checkN m = 0 ∧ mainB m = true ∧ ∃ U L2 A2 c2, LeastM m L2 ∧ e = .returned (.tuple #[.slice A2 L2.length c2, .int .i64 0, .int .i64 0, .int .i64 0]) ∧ (slL (rowU U)).R (fun b => V.heap.size ≤ b ∧ b < w2.heap.size) w2 [.slice A2 L2.length c2] L2) := by
    obtain ⟨-, ⟨hc, rfl⟩ | ⟨hc, hm, rfl⟩ | ⟨hc, hm, hN, f, pc, fn, hf, hpc, rfl⟩ | ⟨hc, hm, U, L2, A2, c2, hL2, rfl, hs, -, -⟩⟩ := hch
    · exact .inl ⟨_, hc, 0, 0, rfl⟩
    · exact .inl ⟨1, by decide, 0, 0, rfl⟩
    · exact .inl ⟨4, by decide, f, pc, rfl⟩
    · exact .inr ⟨hc, hm, U, L2, A2, c2, hL2, rfl, hs⟩
  have HB2 := Lib.hid (HB1.out.trans (hch.1.mono HB1.out.size))
  obtain ⟨y0, y1, y2, y3, y4⟩ := HCV.out w2 HB2.out
  clear hch x0 x1 x2 x3 x4
  rcases hcases with ⟨er, hne, f, pc, rfl⟩ | ⟨hc, hm, U, L2, A2', c2, hL2, rfl, hsl⟩
  · have hne' : (er != 0) = true := by simpa using hne
    clear hne
    cases hmb : mainB m
    · rw [hmb] at RM1
      have HMb := Lib.hid hmb
      clear hmb
      go_wp2_with (first
        | (go_at_call 7
           refine (AN.out _).mono ?_
           rintro e w3 ⟨rfl, hb3⟩
           have HB3 := Lib.hid (HB2.out.trans (hb3.mono HB2.out.size))
           obtain ⟨x0, x1, x2, x3, x4⟩ := HCV.out w3 HB3.out
           clear hb3 y0 y1 y2 y3 y4)
        | (go_at_call 10
           refine (RM1.out _ (HBB.out _ HB3.out)).mono ?_
           rintro e w4 ⟨rfl, hb4⟩
           have HB4 := Lib.hid (HB3.out.trans (hb4.mono HB3.out.size))
           obtain ⟨y0, y1, y2, y3, y4⟩ := HCV.out w4 HB4.out
           clear hb4 x0 x1 x2 x3 x4)
        | (go_at_call 13
           refine (RR1.out _ (HBB.out _ HB4.out)).mono ?_
           rintro e w5 ⟨hb5, b5, rfl, hbi⟩
           obtain rfl : b5 = false := by
             cases b5
             · rfl
             · have := (hbi.1 rfl).1
               rw [HMb.out] at this
               cases this
           have HB5 := Lib.hid (HB4.out.trans (hb5.mono HB4.out.size))
           clear hb5 hbi))
      go_ret
      exact ⟨by simp, HBB.out _ HB5.out⟩
    · rw [hmb] at RM1
      clear hmb
      go_wp2_with (first
        | (go_at_call 7
           refine (AN.out _).mono ?_
           rintro e w3 ⟨rfl, hb3⟩
           have HB3 := Lib.hid (HB2.out.trans (hb3.mono HB2.out.size))
           obtain ⟨x0, x1, x2, x3, x4⟩ := HCV.out w3 HB3.out
           clear hb3 y0 y1 y2 y3 y4)
        | (go_at_call 10
           refine (RM1.out _ (HBB.out _ HB3.out)).mono ?_
           rintro e w4 ⟨rfl, hb4⟩
           have HB4 := Lib.hid (HB3.out.trans (hb4.mono HB3.out.size))
           clear hb4))
      go_ret
      exact ⟨by simp, HBB.out _ HB4.out⟩
  · have hn8 : L2.length ≤ 1000 := by
      have := (fitB_iff.1 (checkN_fit hc)).f8
      rw [hL2.len]
      omega
    obtain ⟨A', c', e1, -, -, hsq2⟩ := hsl
    simp only [List.cons.injEq, Value.slice.injEq, and_true, true_and] at e1
    obtain ⟨rfl, rfl⟩ := e1
    have HSq : Hid (∀ v, Below w2.heap.size w2 v → Sq rowL (· < v.heap.size) v A2' L2) := fun v hb => sq_low ((hsq2.turn (L' := rowL) rfl (fun _ _ h => h) fun cs x _ h => rowU_plain h).wide fun b hb => hb.2) hb
    have HLe := Lib.hid hL2
    have HMt := Lib.hid hm
    clear hc hm hL2 hsq2
    go_wp2_with fail
    refine (RQ1.out w2 A2' c2 L2 (HBB.out _ HB2.out) (HSq.out w2 (Below.refl _ _)) hn8).mono ?_
    rintro e w3 ⟨hb3, b3, rfl, hbi⟩
    obtain rfl : b3 = true := hbi.2 ⟨HMt.out, HLe.out.right⟩
    have HK3 := Lib.hid hb3
    have HB3 := Lib.hid (HB2.out.trans (hb3.mono HB2.out.size))
    obtain ⟨x0, x1, x2, x3, x4⟩ := HCV.out w3 HB3.out
    clear hb3 hbi y0 y1 y2 y3 y4
    go_wp2_with fail
    refine (RR1.out w3 (HBB.out _ HB3.out)).mono ?_
    rintro e w4 ⟨hb4, b4, rfl, hbi⟩
    have HK4 := Lib.hid (HK3.out.trans (hb4.mono HK3.out.size))
    have HB4 := Lib.hid (HB3.out.trans (hb4.mono HB3.out.size))
    clear hb4 x0 x1 x2 x3 x4
    cases b4
    · go_wp2_with (first | (go_at_call 7; refine (AN.out _).mono ?_; rintro e w5 ⟨rfl, hb5⟩; have HB5 := Lib.hid (HB4.out.trans (hb5.mono HB4.out.size)); clear hb5))
      go_ret
      exact ⟨rfl, HBB.out _ HB5.out⟩
    have HRo := Lib.hid (hbi.1 rfl).2
    clear hbi
    obtain ⟨nL, hnL⟩ : ∃ nL, L2.length = nL := ⟨_, rfl⟩
    have HNL := Lib.hid hnL
    have HLL : Hid (n = nL) := by show _ = _; rw [← HLn.out, HRo.out.len, ← HLe.out.len, hnL]
    rw [hnL] at hn8 ⊢
    clear hnL
    go_wp2_with fail
    go_loopw [9] (fun i wr => ∃ k : Nat, k ≤ nL ∧ i = .int .i64 (k : Nat) ∧ Below w4.heap.size w4 wr) (fun i _ => nL - (intOf i).toNat)
    case atStart => exact ⟨0, Nat.zero_le _, rfl, Below.refl _ _⟩
    case round =>
      obtain ⟨wf, eW⟩ : ∃ wf, wf = wr := ⟨_, rfl⟩
      subst eW
      obtain ⟨k, hk, rfl, hbf⟩ := hrel
      have HBf := Lib.hid hbf
      have hsf := hbf.size
      clear hbf
      by_cases hlt : k < nL
      · obtain ⟨l, hx⟩ : ∃ l, L2[k]? = some l := ⟨L2[k]'(by rw [HNL.out]; exact hlt), List.getElem?_eq_getElem _⟩
        have HX := Lib.hid hx
        have HK5 : Hid (∀ v, Below w4.heap.size w4 v → Below w2.heap.size w2 v) := fun v hb => HK4.out.trans (hb.mono HK4.out.size)
        obtain ⟨aL, D, dl, rfl, hrb, hr0, hrle, hrcm, -⟩ := row_at (HSq.out w4 HK4.out) hx
        obtain ⟨ul, hul⟩ : ∃ ul, l.length = ul := ⟨_, rfl⟩
        have HUL := Lib.hid hul
        rw [hul] at hr0 hrle
        have HR0 : Hid (∀ v, Below w4.heap.size w4 v → v.cell? (aL.add k) = some (.slice D ul dl)) := fun v hb => (hb.cell (p := aL.add k) (by rw [addBlock]; exact hrb)).trans hr0
        have HSl : Hid (∀ v, Below w4.heap.size w4 v → Sq shpL (· < v.heap.size) v D l) := fun v hb => by
          obtain ⟨aL', D', dl', e, -, hr1, -, -, hs⟩ := row_at (HSq.out v (HK5.out v hb)) HX.out
          injection e with e
          subst e
          rw [HR0.out v hb] at hr1
          simp only [Option.some.injEq, Value.slice.injEq] at hr1
          rw [hr1.1]
          exact hs
        have z0 := HR0.out _ HBf.out
        have k0 : (0 : Int) ≤ (k : Int) := by omega
        have k1 : (k : Int) < (nL : Int) := by omega
        have hrcm' : dl ≤ 9223372036854775807 := by unfold maxLen at hrcm; omega
        clear hx hul hr0 hrcm
        go_wp2_with fail
        clear z0
        go_loopw [10] (fun i wr => ∃ q : Nat, q ≤ ul ∧ i = .int .i64 (q : Nat) ∧ Below w4.heap.size w4 wr) (fun i _ => ul - (intOf i).toNat)
        case atStart => exact ⟨0, Nat.zero_le _, rfl, HBf.out⟩
        case round =>
          obtain ⟨wp, eW⟩ : ∃ wp, wp = wr := ⟨_, rfl⟩
          subst eW
          obtain ⟨q, hq, rfl, hbp⟩ := hrel
          have HBp := Lib.hid hbp
          have hsp := hbp.size
          clear hbp
          have z0 := HR0.out _ HBp.out
          by_cases hltq : q < ul
          · obtain ⟨⟨sb, s⟩, hxq⟩ : ∃ y, l[q]? = some y := ⟨l[q]'(by rw [HUL.out]; exact hltq), List.getElem?_eq_getElem _⟩
            obtain ⟨aD, G, g, rfl, -, q0, q1, hle1, hcm1, -, hsq1⟩ := shp_at (HSl.out _ HBp.out) hxq
            simp only at q0 q1 hle1 hsq1
            have k2 : (0 : Int) ≤ (q : Int) := by omega
            have k3 : (q : Int) < (ul : Int) := by omega
            cases sb
            · clear hsq1
              go_wp2_with fail
              go_region
              go_wp2_with fail
              exact ⟨⟨q + 1, by omega, by simp, HBp.out.drew⟩, by simp [intOf]; omega⟩
            · obtain ⟨ro, t, hro, hrt, hbel⟩ := HLe.out.least HRo.out HX.out hxq
              have HBpw := HBB.out _ (HB4.out.trans (HBp.out.mono HB4.out.size))
              obtain ⟨aO, DO, dO, rfl, -, o0, hleo, hcmo, hsqo⟩ := row_at (HS0.out wp HBpw) hro
              obtain ⟨aT, Gt, gt, rfl, -, t0, t1, hle2, hcm2, -, hsq2⟩ := shp_at hsqo hrt
              simp only at t0 t1 hle2 hsq2
              obtain ⟨ns, hns⟩ : ∃ ns, s.length = ns := ⟨_, rfl⟩
              obtain ⟨nt, hnt⟩ : ∃ nt, t.length = nt := ⟨_, rfl⟩
              have hro2 : ro.length = ul := by
                have h1 := (List.getElem?_eq_some_iff.1 hro).1
                have hf : m.funcs[k]? = some (m.funcs[k]'(by rw [← HRo.out.len]; exact h1)) := List.getElem?_eq_getElem _
                rw [(HRo.out.at_ k _ ro hf hro).1, ← (HLe.out.at_ k _ l hf HX.out).len, HUL.out]
              have hkn : (k : Int) < (n : Int) := by have := HLL.out; omega
              rw [hro2] at o0 hleo
              rw [hns] at q1 hle1
              rw [hnt] at t1 hle2
              have hdO : dO ≤ 9223372036854775807 := by unfold maxLen at hcmo; omega
              have BLc : Hid (∀ w1, Below wp.heap.size wp w1 → Calls Tryz.prog 14 #[.slice G ns g, .slice Gt nt gt] w1 fun e w' => e = .returned (.bool true) ∧ Below w1.heap.size w1 w') := fun w1 hb => by
                have := rbelow_any G Gt ns nt g gt s t w1 hns hnt (sq_low hsq1 hb) (sq_low hsq2 hb) (by unfold maxLen at hcm1; omega) (by unfold maxLen at hcm2; omega)
                rw [hbel] at this
                exact this
              have HBR : Hid (∀ dq osq, Below wp.heap.size wp (Go.Sort.grow (redrawn wp dq) osq)) := fun dq osq => below_regrown wp dq osq
              have r0 := cell_regrown z0
              have r1 := cell_regrown q0
              have r2 := cell_regrown q1
              have r3 := cell_regrown o0
              have r4 := cell_regrown t0
              have r5 := cell_regrown t1
              clear hxq hro hrt hbel hsqo hsq1 hsq2 hns hnt
              go_wp2_with fail
              refine wp_region_quiet_below (by kernel_rfl) (by kernel_rfl) ?_
              repeat (quiet_step (first | with_reducible exact Calls.regrown_of (BLc.out _ (HBR.out _ _))))
              refine wpQuiet_nil ?_
              intro _ hw'
              obtain ⟨⟨dq, osq⟩, hw''⟩ := hw'
              subst hw''
              have HX2 := Lib.hid (HBR.out dq osq)
              go_wp2_with fail
              exact ⟨⟨q + 1, by omega, by simp, HBp.out.trans (HX2.out.mono hsp)⟩, by simp [intOf]; omega⟩
          · obtain rfl : q = ul := by omega
            go_wp2_with fail
            exact ⟨⟨k + 1, by omega, by simp, HBp.out⟩, by simp [intOf]; omega⟩
      · obtain rfl : k = nL := by omega
        go_wp2_with (first | (go_at_call 7; refine (AN.out _).mono ?_; rintro e w5 ⟨rfl, hb5⟩; have HB5 := Lib.hid (HB4.out.trans ((HBf.out.trans (hb5.mono hsf)).mono HB4.out.size)); clear hb5))
        go_ret
        exact ⟨rfl, HBB.out _ HB5.out⟩

set_option maxRecDepth 100000 in
theorem lifted (os : Os) (started : os.Started) (H : Type) (enc : TypeId × Value → H) :
    ReturnsInHanded {} Tryz.checked os 4 .any (Rows.verifyRightSpec.pre6 enc Tryz.prog Tryz.f4 Rows.verifyRightRow.domain false) (Rows.verifyRightSpec.post enc Tryz.prog Tryz.f4 false true false false) := by
  refine returnsInHanded_of_change_sized (C := Tryz.checked) own started (by kernel_rfl) Tryz.func4
    (ChangeSpec.witness6 (enc := enc) (C := Tryz.checked) false ⟨#[], #[.agg #[.slice none 0 0, .slice none 0 0, .slice none 0 0, .slice none 0 0, .slice none 0 0], .slice none 0 0], []⟩ 8 (by kernel_rfl) (by kernel_rfl) (by kernel_rfl) (by kernel_rfl)) ?_
  intro W base args ds gs before hval0 hW hcnd hwz _
  have hval : ∀ (j : Nat) t v, Tryz.f4.params[j]? = some t → args[j]? = some v → Value.okWide Tryz.prog W .any base t v := hval0
  have hW' := hW
  obtain ⟨p, q, hA0, hV, rfl, hfz, hnd⟩ := hW
  have hA : DataW.TrodAll enc Tryz.prog W 0 (fun _ => true) true Tryz.f4.params.toList args.toList ds p := hA0
  rw [Tryz.params4] at hA hval
  obtain ⟨v0, vs0, d0, ds0, p0, q0, hargs, rfl, rfl, h0, r0⟩ := trodAll_cons hA
  obtain ⟨v1, vs1, d1, ds1, p1, q1, rfl, rfl, rfl, h1, r1⟩ := trodAll_cons r0
  obtain ⟨rfl, rfl, rfl⟩ := trodAll_nil r1
  obtain rfl : args = #[v0, v1] := by cases args; simp_all
  obtain ⟨rfl, rfl⟩ := trodVars_none hV
  have lt0 : ∀ x ∈ p0, x.block < W.heap.size := by obtain ⟨m, hm⟩ := h0; exact DataW.trod_lt m _ _ _ hm
  have hwz0 : ∀ n ∈ d0.weights Tryz.prog 28, n ≤ reachBytes := fun n hn => by simpa using List.all_eq_true.1 hwz n (DataW.weights_mem_each (j := 0) (t := 28) (d := d0) (by first | rfl | kernel_rfl) rfl n hn)
  obtain ⟨cs0, m0, rfl, hm0, hz0⟩ := open_modZ h0 hwz0
  obtain ⟨a1, len1, cap1, rfl⟩ := okWide_slice Tryz.underlying31 (hval 1 31 v1 rfl rfl)
  have lt1 : ∀ x ∈ p1, x.block < W.heap.size := by obtain ⟨m, hm⟩ := h1; exact DataW.trod_lt m _ _ _ hm
  obtain ⟨L1, hx1, hM1⟩ := open_maps h1
  clear hA0 hval0
  refine (walk cs0 m0 a1 len1 cap1 L1 W hm0 hz0 hx1 hM1).mono fun e W' ⟨he, bel⟩ => ?_
  subst he
  exact ⟨_, rfl, _, _, _, [], _, [], hW', trodAll_mk1 (shut_bool Tryz.underlying4 _), (trodAll_cons_mk (Below.trod laidOut (by kernel_rfl) (of_decide_eq_true (by kernel_rfl)) h0 bel lt0) (trodAll_cons_mk (Below.trod laidOut (by kernel_rfl) (of_decide_eq_true (by kernel_rfl)) h1 bel lt1) trodAll_mk0)), rfl, bel.frame _, fun h => by cases h⟩

theorem over : Rows.verifyRightRow.holds Tryz.pinned (OpenSpec.ofChange Rows.verifyRightSpec) :=
  OpenClaim.holds_of_wide 4 Tryz.f4 rfl rfl rfl rfl rfl rfl rfl ⟨rfl, rfl, rfl, rfl, rfl⟩ rfl rfl rfl rfl rfl (by kernel_rfl) Tryz.func4 (by kernel_rfl)
    (of_decide_eq_true (by kernel_rfl)) (by unfold Func.isWrapper; first | (rw [if_pos (by decide +kernel)]; kernel_rfl) | (rw [if_neg (by decide +kernel)]; exact ⟨rfl, rfl⟩))
    (fun os started H enc _ => lifted os started H enc)

/-- The statement. -/
theorem proved : Rows.VerifyRightSaid := over
end Go.Proofs.YtpjanfkliaaflaaGreat.verifyRight
