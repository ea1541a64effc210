/-
  The law VerifyOwn holds: the same module has the same types again, whatever became of the first ones; the law's function returns true and turns nothing that was there.
  Conditions: none.
-/
import Derived.Test.YtpjanfkliaaflaaQ01
import Derived.Test.YtpjanfkliaaflaaQ02
import Derived.Test.YtpjanfkliaaflaaQ07
import Derived.Test.YtpjanfkliaaflaaQ26
import Derived.Test.YtpjanfkliaaflaaQ27
import Derived.Test.YtpjanfkliaaflaaQ34
import Derived.Test.YtpjanfkliaaflaaQ35
import Derived.Test.YtpjanfkliaaflaaQ44
import Derived.BigQuiet
namespace Go.Proofs.Ytpjanfkliaaflaa.verifyOwn
open Go.ChangeShapes Go.WideShapes Go.ChangeAt Go.RowKit
set_option linter.unusedVariables false
set_option linter.unusedSimpArgs false

set_option maxRecDepth 100000 in
set_option maxHeartbeats 8000000 in
theorem walk (cs : List Value) (m : Mod) (w : World) (h : modL.R (· < w.heap.size) w cs m) (hz : Zm m) :
    Calls Try.prog 5 #[vAgg cs] w fun e w' => e = .returned (.bool true) ∧ Below w.heap.size w w' := by
  have AN := Lib.hid (fun w => answers9 w)
  have L0 : Hid (∀ w1, Below w.heap.size w w1 → Calls Try.prog 9 #[vAgg cs] w1 fun e w' => ∃ b : Bool, e = .returned (.bool b) ∧ Below w1.heap.size w1 w' ∧ (b = true → Small m)) := fun w1 hb => light_any cs m w1 (mod_at h hb) hz
  have CK : Hid (∀ w1, Below w.heap.size w w1 → Calls Try.prog 6 #[vAgg cs] w1 (Checked m w1)) := fun w1 hb => vcheck_any cs m w1 (mod_at h hb)
  have MA : Hid (checkN m = 0 → ∀ w1, Below w.heap.size w w1 → Calls Try.prog 10 #[vAgg cs] w1 (RMaps m w1)) := fun hc w1 hb => rmaps_any rrule_any cs m w1 (mod_at h hb) hc
  have SM := Lib.hid rsame_same
  obtain ⟨A0, A1, A2, A3, A4, n0, n1, n2, n3, n4, c0, c1, c2, c3, c4, rfl⟩ := mod_shape h
  clear h hz
  simp only [vAgg] at L0 CK MA ⊢
  go_enter Try.func5, Try.ntmps5
  go_wp2_with fail
  refine calls_world fun W hW => ?_
  have HB0 : Hid (Below w.heap.size w W) := by show Below _ _ _; rw [hW]; exact below_new w _
  have HC0 : Hid (C5 w.heap.size (.slice A0 n0 c0) (.slice A1 n1 c1) (.slice A2 n2 c2) (.slice A3 n3 c3) (.slice A4 n4 c4) W) := by show C5 _ _ _ _ _ _ _; rw [hW]; simp [C5, go_sem]
  have hzW : w.heap.size < W.heap.size := by rw [hW]; simp
  clear hW
  have HCV : Hid (∀ v, Below W.heap.size W v → C5 w.heap.size (.slice A0 n0 c0) (.slice A1 n1 c1) (.slice A2 n2 c2) (.slice A3 n3 c3) (.slice A4 n4 c4) v) := fun v hb => HC0.out.below hb hzW
  have HBB : Hid (∀ v, Below W.heap.size W v → Below w.heap.size w v) := fun v hb => HB0.out.trans (hb.mono HB0.out.size)
  refine (L0.out W HB0.out).mono ?_
  rintro e V ⟨b, rfl, hb1, -⟩
  have HB1 := Lib.hid hb1
  have hsV := hb1.size
  obtain ⟨x0, x1, x2, x3, x4⟩ := HCV.out V hb1
  clear hb1
  cases b
  · go_wp2_with (first | (go_at_call 7; refine (AN.out _).mono ?_; rintro e w2 ⟨rfl, hb2⟩; have HB2 := Lib.hid (HB1.out.trans (hb2.mono HB1.out.size)); clear hb2))
    go_ret
    exact ⟨rfl, HBB.out _ HB2.out⟩
  go_wp2_with fail
  refine (CK.out V (HBB.out _ HB1.out)).mono ?_
  intro e w2 hch
  have hcases : (∃ er : Int, er ≠ 0 ∧ ∃ f pc : Int, e = .returned (.tuple #[.slice none 0 0, .int .i64 f, .int .i64 pc, .int .i64 er])) ∨ (checkN m = 0 ∧ mainB m = true ∧ ∃ U L2 A2 c2, LeastM m L2 ∧ e = .returned (.tuple #[.slice A2 L2.length c2, .int .i64 0, .int .i64 0, .int .i64 0]) ∧ (slL (rowU U)).R (fun b => V.heap.size ≤ b ∧ b < w2.heap.size) w2 [.slice A2 L2.length c2] L2 ∧ (∀ a, A2 = some a → ¬ U a.block) ∧ ∀ b, U b → V.heap.size ≤ b) := by
    obtain ⟨-, ⟨hc, rfl⟩ | ⟨hc, hm, rfl⟩ | ⟨hc, hm, hN, f, pc, fn, hf, hpc, rfl⟩ | ⟨hc, hm, U, L2, A2, c2, hL2, rfl, hs, hu1, hu2⟩⟩ := hch
    · exact .inl ⟨_, hc, 0, 0, rfl⟩
    · exact .inl ⟨1, by decide, 0, 0, rfl⟩
    · exact .inl ⟨4, by decide, f, pc, rfl⟩
    · exact .inr ⟨hc, hm, U, L2, A2, c2, hL2, rfl, hs, hu1, hu2⟩
  have HB2 := Lib.hid (HB1.out.trans (hch.1.mono HB1.out.size))
  have hs2 := hch.1.size
  clear hch x0 x1 x2 x3 x4
  rcases hcases with ⟨er, hne, f, pc, rfl⟩ | ⟨hc, hm, U, L2, A2', c2', hL2, rfl, hsl, hu1, hu2⟩
  · have hne' : (er != 0) = true := by simpa using hne
    clear hne
    go_wp2_with (first | (go_at_call 7; refine (AN.out _).mono ?_; rintro e w3 ⟨rfl, hb3⟩; have HB3 := Lib.hid (HB2.out.trans (hb3.mono HB2.out.size)); clear hb3))
    go_ret
    exact ⟨rfl, HBB.out _ HB3.out⟩
  have hn8 : L2.length ≤ 1000 := by
    have := (fitB_iff.1 (checkN_fit hc)).f8
    rw [hL2.len]
    omega
  have MA1 := Lib.hid (MA.out hc)
  obtain ⟨A', c', e1, -, -, hsq2⟩ := hsl
  simp only [List.cons.injEq, Value.slice.injEq, and_true, true_and] at e1
  obtain ⟨rfl, rfl⟩ := e1
  have HSq := Lib.hid hsq2
  have HU1 := Lib.hid hu1
  have HU2 := Lib.hid hu2
  have HLe := Lib.hid hL2
  have HMt := Lib.hid hm
  have HCk := Lib.hid hc
  have HZB : Hid (∀ v, Zd U w2 v → Below W.heap.size W v) := fun v hv => HB2.out.trans (hv.below (Nat.le_trans hsV hs2) fun b hb => Nat.le_trans hsV (HU2.out b hb))
  obtain ⟨nL, hnL⟩ : ∃ nL, L2.length = nL := ⟨_, rfl⟩
  have HNL := Lib.hid hnL
  rw [hnL] at hn8 ⊢
  clear hc hm hL2 hsq2 hu1 hu2 hnL MA
  go_wp2_with fail
  go_loopw [7] (fun i wr => ∃ k : Nat, k ≤ nL ∧ i = .int .i64 (k : Nat) ∧ Zd U w2 wr) (fun i _ => nL - (intOf i).toNat)
  case atStart => exact ⟨0, Nat.zero_le _, rfl, Zd.refl _ _⟩
  case round =>
    obtain ⟨wf, eW⟩ : ∃ wf, wf = wr := ⟨_, rfl⟩
    subst eW
    obtain ⟨k, hk, rfl, hzf⟩ := hrel
    have HZf := Lib.hid hzf
    clear hzf
    by_cases hlt : k < nL
    · obtain ⟨l, hx⟩ : ∃ l, L2[k]? = some l := ⟨L2[k]'(by rw [HNL.out]; exact hlt), List.getElem?_eq_getElem _⟩
      obtain ⟨aL, D, dl, rfl, hrb, hr0, hrle, hrcm, hsl2, hud⟩ := rowU_at HSq.out hx
      obtain ⟨ul, hul⟩ : ∃ ul, l.length = ul := ⟨_, rfl⟩
      have HUL := Lib.hid hul
      rw [hul] at hr0 hrle
      have HR0 : Hid (∀ v, Zd U w2 v → v.cell? (aL.add k) = some (.slice D ul dl)) := fun v hv => (hv.cell (p := aL.add k) (by rw [addBlock]; exact hrb.2) (by rw [addBlock]; exact HU1.out aL rfl)).trans hr0
      have HSl2 := Lib.hid hsl2
      have HUd := Lib.hid hud
      have z0 := HR0.out _ HZf.out
      have k0 : (0 : Int) ≤ (k : Int) := by omega
      have k1 : (k : Int) < (nL : Int) := by omega
      have hrcm' : dl ≤ 9223372036854775807 := by unfold maxLen at hrcm; omega
      clear hx hul hr0 hrcm hsl2 hud
      go_wp2_with fail
      clear z0
      go_loopw [8] (fun i wr => ∃ q : Nat, q ≤ ul ∧ i = .int .i64 (q : Nat) ∧ Zd U w2 wr) (fun i _ => ul - (intOf i).toNat)
      case atStart => exact ⟨0, Nat.zero_le _, rfl, HZf.out⟩
      case round =>
        obtain ⟨wp, eW⟩ : ∃ wp, wp = wr := ⟨_, rfl⟩
        subst eW
        obtain ⟨q, hq, rfl, hzp⟩ := hrel
        have HZp := Lib.hid hzp
        clear hzp
        have z0 := HR0.out _ HZp.out
        by_cases hltq : q < ul
        · obtain ⟨y, hy⟩ : ∃ y, l[q]? = some y := ⟨l[q]'(by rw [HUL.out]; exact hltq), List.getElem?_eq_getElem _⟩
          obtain ⟨aD, G, g, rfl, hdb, hq1, hqle, hqcm, hqU⟩ := shpU_at HSl2.out hy
          obtain ⟨ns, hns⟩ : ∃ ns, y.2.length = ns := ⟨_, rfl⟩
          rw [hns] at hq1 hqle hqU
          have HQ1 : Hid (∀ v, Zd U w2 v → v.cell? ⟨(aD.add (q * 2)).block, (aD.add (q * 2)).off + 1, none⟩ = some (.slice G ns g)) := fun v hv => (hv.cell (p := ⟨(aD.add (q * 2)).block, (aD.add (q * 2)).off + 1, none⟩) (by show (aD.add (q * 2)).block < _; rw [addBlock]; exact hdb.2) (by show ¬ U (aD.add (q * 2)).block; rw [addBlock]; exact HUd.out aD rfl)).trans hq1
          have HQU := Lib.hid hqU
          have k2 : (0 : Int) ≤ (q : Int) := by omega
          have k3 : (q : Int) < (ul : Int) := by omega
          have hqcm' : g ≤ 9223372036854775807 := by unfold maxLen at hqcm; omega
          clear hy hns hq1 hqU hqcm
          go_wp2_with fail
          clear z0
          go_loopw [9] (fun i wr => ∃ j : Nat, j ≤ ns ∧ i = .int .i64 (j : Nat) ∧ Zd U w2 wr) (fun i _ => ns - (intOf i).toNat)
          case atStart => exact ⟨0, Nat.zero_le _, rfl, HZp.out⟩
          case round =>
            obtain ⟨wj, eW⟩ : ∃ wj, wj = wr := ⟨_, rfl⟩
            subst eW
            obtain ⟨j, hj, rfl, hzj⟩ := hrel
            have HZj := Lib.hid hzj
            clear hzj
            have z0 := HR0.out _ HZj.out
            have z1 := HQ1.out _ HZj.out
            by_cases hltj : j < ns
            · obtain ⟨b, cur, rfl, -, hub, hbk, hcs⟩ := HQU.out (by omega)
              obtain ⟨cur', hbk', hcs'⟩ := HZj.out.kept b cur hub hbk
              have z2 := hbk'.cell (j * 2)
              have z3 := hbk'.cell (j * 2 + 1)
              obtain ⟨u2, hu2⟩ : ∃ u2, cur'[j * 2]? = some u2 := ⟨_, Array.getElem?_eq_getElem (by omega)⟩
              obtain ⟨u3, hu3⟩ : ∃ u3, cur'[j * 2 + 1]? = some u3 := ⟨_, Array.getElem?_eq_getElem (by omega)⟩
              rw [hu2] at z2
              rw [hu3] at z3
              have z4 := hbk'.frozen (j * 2)
              have z5 := hbk'.frozen (j * 2 + 1)
              have j0 : (0 : Int) ≤ (j : Int) := by omega
              have j1 : (j : Int) < (ns : Int) := by omega
              have HUb := Lib.hid hub
              clear hub hbk hcs hbk' hcs' hu2 hu3
              go_wp2_with fail
              exact ⟨⟨j + 1, by omega, by simp, (HZj.out.set HUb.out _).set HUb.out _⟩, by simp [intOf]; omega⟩
            · obtain rfl : j = ns := by omega
              go_wp2_with fail
              exact ⟨⟨q + 1, by omega, by simp, HZj.out⟩, by simp [intOf]; omega⟩
        · obtain rfl : q = ul := by omega
          go_wp2_with fail
          exact ⟨⟨k + 1, by omega, by simp, HZp.out⟩, by simp [intOf]; omega⟩
    · obtain rfl : k = nL := by omega
      have HBz := Lib.hid (HZB.out _ HZf.out)
      obtain ⟨x0, x1, x2, x3, x4⟩ := HCV.out _ HBz.out
      go_wp2_with fail
      refine (CK.out _ (HBB.out _ HBz.out)).mono ?_
      intro e w5 hch
      obtain ⟨hb5, U5, A5, c5, rfl, hsl5, -, -⟩ := checked_least hch HCk.out HMt.out HLe.out
      obtain ⟨A', c', e1, -, -, hsq5⟩ := hsl5
      simp only [List.cons.injEq, Value.slice.injEq, and_true, true_and] at e1
      obtain ⟨rfl, rfl⟩ := e1
      have HS5 : Hid (Sq rowL (· < w5.heap.size) w5 A5 L2) := (hsq5.turn (L' := rowL) rfl (fun _ _ h => h) fun cs x _ h => rowU_plain h).wide fun b hb => hb.2
      have HB5 := Lib.hid (HBz.out.trans (hb5.mono HBz.out.size))
      obtain ⟨y0, y1, y2, y3, y4⟩ := HCV.out w5 HB5.out
      clear hch hb5 hsq5 x0 x1 x2 x3 x4
      go_wp2_with fail
      refine (MA1.out w5 (HBB.out _ HB5.out)).mono ?_
      rintro e w6 ⟨hb6, ⟨hN, -⟩ | ⟨L6, A6, c6, hL6, rfl, hsl6⟩⟩
      · exact absurd hN HLe.out.never
      obtain rfl := HLe.out.same hL6
      obtain ⟨A', c', e2, -, -, hsq6⟩ := hsl6
      simp only [List.cons.injEq, Value.slice.injEq, and_true, true_and] at e2
      obtain ⟨rfl, rfl⟩ := e2
      have HS6 := Lib.hid hsq6
      have HK6 := Lib.hid hb6
      have HB6 := Lib.hid (HB5.out.trans (hb6.mono HB5.out.size))
      clear hb6 hL6 hsq6 y0 y1 y2 y3 y4
      go_wp2_with (first
        | (go_at_call 7
           refine (AN.out _).mono ?_
           rintro e w7 ⟨rfl, hb7⟩
           have HB7 := Lib.hid (HB6.out.trans (hb7.mono HB6.out.size))
           have HS7 := Lib.hid (HS6.out.keep (w' := w7) fun b hb => hb7.block b hb)
           have HS8 := Lib.hid ((HS5.out.keep (w' := w6) fun b hb => HK6.out.block b hb).keep (w' := w7) fun b hb => hb7.block b (Nat.lt_of_lt_of_le hb HK6.out.size))
           clear hb7)
        | (go_at_call 11
           refine (SM.out A5 A6 L2.length c5 c6 L2 w7 _ _ rfl HS8.out HS7.out (by rw [HNL.out]; exact hn8)).mono ?_
           rintro e w8 ⟨rfl, q, rfl⟩))
      go_ret
      exact ⟨by simp, HBB.out _ (HB7.out.trans ((below_drewN w7 q).mono HB7.out.size))⟩

set_option maxRecDepth 100000 in
theorem lifted (os : Os) (started : os.Started) (H : Type) (enc : TypeId × Value → H) :
    ReturnsInHanded {} Try.checked os 5 .any (Rows.verifyOwnSpec.pre6 enc Try.prog Try.f5 Rows.verifyOwnRow.domain false) (Rows.verifyOwnSpec.post enc Try.prog Try.f5 false true false false) := by
  refine returnsInHanded_of_change_sized (C := Try.checked) own started (by kernel_rfl) Try.func5
    (ChangeSpec.witness6 (enc := enc) (C := Try.checked) false ⟨#[], #[.agg #[.slice none 0 0, .slice none 0 0, .slice none 0 0, .slice none 0 0, .slice none 0 0]], []⟩ 8 (by kernel_rfl) (by kernel_rfl) (by kernel_rfl) (by kernel_rfl)) ?_
  intro W base args ds gs before hval0 hW hcnd hwz _
  have hval : ∀ (j : Nat) t v, Try.f5.params[j]? = some t → args[j]? = some v → Value.okWide Try.prog W .any base t v := hval0
  have hW' := hW
  obtain ⟨p, q, hA0, hV, rfl, hfz, hnd⟩ := hW
  have hA : DataW.TrodAll enc Try.prog W 0 (fun _ => true) true Try.f5.params.toList args.toList ds p := hA0
  rw [Try.params5] at hA hval
  obtain ⟨v0, vs0, d0, ds0, p0, q0, hargs, rfl, rfl, h0, r0⟩ := trodAll_cons hA
  obtain ⟨rfl, rfl, rfl⟩ := trodAll_nil r0
  obtain rfl : args = #[v0] := by cases args; simp_all
  obtain ⟨rfl, rfl⟩ := trodVars_none hV
  have lt0 : ∀ x ∈ p0, x.block < W.heap.size := by obtain ⟨m, hm⟩ := h0; exact DataW.trod_lt m _ _ _ hm
  have hwz0 : ∀ n ∈ d0.weights Try.prog 37, n ≤ reachBytes := fun n hn => by simpa using List.all_eq_true.1 hwz n (DataW.weights_mem_each (j := 0) (t := 37) (d := d0) (by first | rfl | kernel_rfl) rfl n hn)
  obtain ⟨cs0, m0, rfl, hm0, hz0⟩ := open_modZ h0 hwz0
  clear hA0 hval0
  refine (walk cs0 m0 W hm0 hz0).mono fun e W' ⟨he, bel⟩ => ?_
  subst he
  exact ⟨_, rfl, _, _, _, [], _, [], hW', trodAll_mk1 (shut_bool Try.underlying4 _), (trodAll_cons_mk (Below.trod laidOut (by kernel_rfl) (of_decide_eq_true (by kernel_rfl)) h0 bel lt0) trodAll_mk0), rfl, bel.frame _, fun h => by cases h⟩

theorem over : Rows.verifyOwnRow.holds Try.pinned (OpenSpec.ofChange Rows.verifyOwnSpec) :=
  OpenClaim.holds_of_wide 5 Try.f5 rfl rfl rfl rfl rfl rfl rfl ⟨rfl, rfl, rfl, rfl, rfl⟩ rfl rfl rfl rfl rfl (by kernel_rfl) Try.func5 (by kernel_rfl)
    (of_decide_eq_true (by kernel_rfl)) (by unfold Func.isWrapper; first | (rw [if_pos (by decide +kernel)]; kernel_rfl) | (rw [if_neg (by decide +kernel)]; exact ⟨rfl, rfl⟩))
    (fun os started H enc _ => lifted os started H enc)

/-- The statement. -/
theorem proved : Rows.VerifyOwnSaid := over
end Go.Proofs.Ytpjanfkliaaflaa.verifyOwn
