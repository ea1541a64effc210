/-
  The law ModuleBack holds: the bytes of any module, or that it does not fit, that they are read again, and their sum; the law's function returns true and turns nothing that was there.
  Conditions: none.
-/
import Derived.Test.YtngjnkkdhjholaaGreatQ01
import Derived.Test.YtngjnkkdhjholaaGreatQ25
import Derived.Test.YtngjnkkdhjholaaGreatQ26
namespace Go.Proofs.YtngjnkkdhjholaaGreat.moduleBack
open Go.ChangeShapes Go.WideShapes Go.ChangeAt Go.RowKit
set_option linter.unusedVariables false
set_option linter.unusedSimpArgs false

theorem bytes_of {x : Mod} {S : Nat → Prop} {w : World} {cs : List Value} (h : modL.R S w cs x) : (∀ n ∈ x.ints, n < B64) ∧ ∀ s ∈ x.texts, ∀ z ∈ s, z < 256 := by
  obtain ⟨_, _, _, _, _, rfl, -, -, -, ⟨A3, d3, e3, -, -, s3⟩, ⟨A4, d4, e4, -, -, s4⟩⟩ := h
  refine ⟨fun n hn => ?_, fun s hs => ?_⟩
  · obtain ⟨j, hj⟩ := List.mem_iff_getElem?.1 hn
    obtain ⟨a, cs, _, _, _, _, hr⟩ := s3.at hj
    exact hr
  · obtain ⟨j, hj⟩ := List.mem_iff_getElem?.1 hs
    obtain ⟨a, cs, _, _, _, st, _, rfl⟩ := s4.at hj
    exact strB_bytes st

set_option maxRecDepth 100000 in
set_option maxHeartbeats 8000000 in
theorem walk (cs : List Value) (x : Mod) (w : World) (h : modL.R (· < w.heap.size) w cs x) (hz : Zm x) :
    Calls Tryz.prog 3 #[vAgg cs] w fun e w' => e = .returned (.bool true) ∧ Below w.heap.size w w' := by
  have AN := Lib.hid (fun w => answers6 w)
  have HBT := Lib.hid (bytes_of h)
  have L0 : Hid (∀ w1, Below w.heap.size w w1 → Calls Tryz.prog 6 #[vAgg cs] w1 fun e w' => ∃ b : Bool, e = .returned (.bool b) ∧ Below w1.heap.size w1 w' ∧ (b = true → Small x)) := fun w1 hb => light_any cs x w1 (mod_at h hb) hz
  have E0 : Hid (∀ w1, Below w.heap.size w w1 → Calls Tryz.prog 8 #[vAgg cs] w1 (Encodes x w1)) := fun w1 hb => encode_any cs x w1 (mod_at h hb)
  have M0 : Hid (Small x → ∀ w1, Below w.heap.size w w1 → Calls Tryz.prog 9 #[vAgg cs] w1 (RMod x w1)) := fun hs w1 hb => rmod_any cs x w1 (mod_at h hb) hs
  have P0 : Hid (∀ w1, Below w.heap.size w w1 → Calls Tryz.prog 10 #[vAgg cs] w1 fun e w' => e = .returned (.int .u32 ((printN x : Nat) : Int)) ∧ Below w1.heap.size w1 w') := fun w1 hb => print_any cs x w1 (mod_at h hb) HBT.out.2
  have S0 : Hid (∀ w1 cs2, Below w.heap.size w w1 → modL.R (· < w1.heap.size) w1 cs2 x → Calls Tryz.prog 13 #[vAgg cs2, vAgg cs] w1 fun e w' => e = .returned (.bool true) ∧ Below w1.heap.size w1 w') := fun w1 cs2 hb h2 => by
    have := refSame_any cs2 cs x x w1 h2 (mod_at h hb)
    rw [eqB_self] at this
    exact this
  obtain ⟨A0, A1, A2, A3, A4, n0, n1, n2, n3, n4, c0, c1, c2, c3, c4, rfl⟩ := mod_shape h
  clear h hz
  simp only [vAgg] at L0 E0 M0 P0 S0 ⊢
  go_enter Tryz.func3, Tryz.ntmps3
  go_wp2_with fail
  refine calls_world fun W hW => ?_
  have HB0 : Hid (Below w.heap.size w W) := by show Below _ _ _; rw [hW]; exact (Below.refl _ _).alloc (Nat.le_refl _) _
  have HC0 : Hid (C5 w.heap.size (.slice A0 n0 c0) (.slice A1 n1 c1) (.slice A2 n2 c2) (.slice A3 n3 c3) (.slice A4 n4 c4) W) := by show C5 _ _ _ _ _ _ _; rw [hW]; simp [C5, go_sem]
  have hz : w.heap.size < W.heap.size := by rw [hW]; simp
  have HZ : Hid (∀ wr, Below W.heap.size W wr → C5 w.heap.size (.slice A0 n0 c0) (.slice A1 n1 c1) (.slice A2 n2 c2) (.slice A3 n3 c3) (.slice A4 n4 c4) wr) := fun wr hb => HC0.out.below hb hz
  have HF : Hid (∀ wr, Below W.heap.size W wr → Below w.heap.size w wr) := fun wr hb => HB0.out.trans (hb.mono HB0.out.size)
  clear hW
  refine (L0.out W HB0.out).mono ?_
  rintro e w1 ⟨b, rfl, hb1, hsm⟩
  have HB1 := Lib.hid hb1
  have HSM := Lib.hid hsm
  obtain ⟨x0, x1, x2, x3, x4⟩ := HZ.out w1 HB1.out
  clear hb1 hsm
  cases b
  · go_wp2_with (first | (go_at_call 7; refine (AN.out _).mono ?_; rintro e w2 ⟨rfl, hb2⟩; have HB2 := Lib.hid (HB1.out.trans (hb2.mono HB1.out.size)); clear hb2))
    go_ret
    exact ⟨rfl, HF.out _ HB2.out⟩
  have M1 := Lib.hid (M0.out (HSM.out (by simp)))
  clear M0 HSM
  go_wp2_with fail
  refine (E0.out w1 (HF.out _ HB1.out)).mono ?_
  rintro e w2 ⟨hb2, ⟨hf, rfl⟩ | ⟨hf, u, rfl, hown⟩⟩
  · have HB2 := Lib.hid (HB1.out.trans (hb2.mono HB1.out.size))
    have HFB := Lib.hid hf
    clear hb2 hf x0 x1 x2 x3 x4
    obtain ⟨x0, x1, x2, x3, x4⟩ := HZ.out w2 HB2.out
    go_wp2_with fail
    refine (M1.out w2 (HF.out _ HB2.out)).mono ?_
    rintro e w3 ⟨hb3, ⟨hf3, -⟩ | ⟨-, A3', n3', c3', rfl⟩⟩
    · rw [HFB.out] at hf3
      cases hf3
    have HB3 := Lib.hid (HB2.out.trans (hb3.mono HB2.out.size))
    clear hb3 x0 x1 x2 x3 x4
    obtain ⟨x0, x1, x2, x3, x4⟩ := HZ.out w3 HB3.out
    go_wp2_with fail
    refine (AN.out w3).mono ?_
    rintro e w4 ⟨rfl, hb4⟩
    have HB4 := Lib.hid (HB3.out.trans (hb4.mono HB3.out.size))
    clear hb4 x0 x1 x2 x3 x4
    obtain ⟨x0, x1, x2, x3, x4⟩ := HZ.out w4 HB4.out
    go_wp2_with fail
    have hP := P0.out w4 (HF.out _ HB4.out)
    have hpn : printN x = 0 := by rw [printN, HFB.out]; rfl
    rw [hpn] at hP
    refine hP.mono ?_
    rintro e w5 ⟨rfl, hb5⟩
    have HB5 := Lib.hid (HB4.out.trans (hb5.mono HB4.out.size))
    clear hb5 hP
    go_wp2_with fail
    go_ret
    exact ⟨by simp, HF.out _ HB5.out⟩
  have HB2 := Lib.hid (HB1.out.trans (hb2.mono HB1.out.size))
  have hFit := fitB_iff.1 hf
  have HFB := Lib.hid hf
  obtain ⟨A5, c5, rfl, -, -, -, hY5⟩ := own_slice hown
  have HY5 := Lib.hid (hY5.wide (T := (· < w2.heap.size)) fun b hb => hb.2)
  have hlen := hFit.len
  have HMB : Hid (∀ z ∈ modB x, z < 256) := modB_bytes x HBT.out.2
  have HIM : Hid (IsMod (modB x) x) := ⟨hFit, HBT.out.1, rfl⟩
  have HPN : Hid (printN x = crc (modB x)) := by show printN x = _; rw [printN, if_pos HFB.out]
  have HUN : Hid (∀ m, IsMod (modB x) m → m = x) := fun m hm => mod_unique hm.1 hFit hm.2.1 HBT.out.1 hm.2.2.symm
  clear hb2 hf hown hY5 x0 x1 x2 x3 x4 hFit
  obtain ⟨x0, x1, x2, x3, x4⟩ := HZ.out w2 HB2.out
  obtain ⟨ys, hys⟩ : ∃ y, modB x = y := ⟨_, rfl⟩
  obtain ⟨ny, hny⟩ : ∃ n, (modB x).length = n := ⟨_, rfl⟩
  have HNY : Hid (ys.length = ny) := by show ys.length = ny; rw [← hys, hny]
  rw [hny]
  rw [hny] at hlen
  simp only [hys] at HY5 HMB HIM HPN HUN
  have HYE := Lib.hid hys
  clear hny hys
  go_wp2_with fail
  refine (M1.out w2 (HF.out _ HB2.out)).mono ?_
  rintro e w3 ⟨hb3, ⟨-, u3, rfl, hown3⟩ | ⟨hf3, -⟩⟩
  rotate_left
  · rw [HFB.out] at hf3
    cases hf3
  have HB3 := Lib.hid (HB2.out.trans (hb3.mono HB2.out.size))
  rw [HYE.out, HNY.out] at hown3
  obtain ⟨A6, c6, rfl, -, -, -, hY6⟩ := own_slice hown3
  have HY6 := Lib.hid (hY6.wide (T := (· < w3.heap.size)) fun b hb => hb.2)
  have HY5b := Lib.hid ((HY5.out.keep (w' := w3) fun b h => hb3.block b h).wide (T := (· < w3.heap.size)) fun b h => Nat.lt_of_lt_of_le h hb3.size)
  clear hb3 hown3 hY6 x0 x1 x2 x3 x4
  obtain ⟨x0, x1, x2, x3, x4⟩ := HZ.out w3 HB3.out
  go_wp2_with fail
  refine (decode_any A5 ny c5 ys w3 HNY.out HMB.out HY5b.out (by omega)).mono ?_
  rintro e w4 ⟨hb4, ⟨m, cs, hm, rfl, hR⟩ | ⟨hno, -⟩⟩
  rotate_left
  · exact absurd ⟨x, HIM.out⟩ hno
  obtain rfl : m = x := HUN.out m hm
  have HB4 := Lib.hid (HB3.out.trans (hb4.mono HB3.out.size))
  have HL4 := Lib.hid (modL.wide hR (T := (· < w4.heap.size)) fun b hb => hb.2)
  have HY5c := Lib.hid ((HY5b.out.keep (w' := w4) fun b h => hb4.block b h).wide (T := (· < w4.heap.size)) fun b h => Nat.lt_of_lt_of_le h hb4.size)
  have HY6c := Lib.hid ((HY6.out.keep (w' := w4) fun b h => hb4.block b h).wide (T := (· < w4.heap.size)) fun b h => Nat.lt_of_lt_of_le h hb4.size)
  obtain ⟨B0, B1, B2, B3, B4, k0, k1, k2, k3, k4, d0, d1, d2, d3, d4, rfl⟩ := mod_shape hR
  clear hb4 hR hm x0 x1 x2 x3 x4
  obtain ⟨x0, x1, x2, x3, x4⟩ := HZ.out w4 HB4.out
  go_wp2_with fail
  refine calls_world fun V hV => ?_
  have HAV : Hid (Below w4.heap.size w4 V) := by show Below _ _ _; rw [hV]; exact (Below.refl _ _).alloc (Nat.le_refl _) _
  have HCV : Hid (C5 w4.heap.size (.slice B0 k0 d0) (.slice B1 k1 d1) (.slice B2 k2 d2) (.slice B3 k3 d3) (.slice B4 k4 d4) V) := by show C5 _ _ _ _ _ _ _; rw [hV]; simp [C5, go_sem]
  have hzV : w4.heap.size < V.heap.size := by rw [hV]; simp
  have HBV := Lib.hid (HB4.out.trans (HAV.out.mono HB4.out.size))
  have HKV : Hid (∀ wr, Below V.heap.size V wr → Below w4.heap.size w4 wr) := fun wr hb => HAV.out.trans (hb.mono HAV.out.size)
  have HTV : Hid (∀ wr, Below V.heap.size V wr → Below W.heap.size W wr) := fun wr hb => HB4.out.trans ((HKV.out wr hb).mono HB4.out.size)
  clear hV x0 x1 x2 x3 x4
  refine (AN.out V).mono ?_
  rintro e w5 ⟨rfl, hb5⟩
  have HB5 := Lib.hid hb5
  have hs5 := hb5.size
  obtain ⟨x0, x1, x2, x3, x4⟩ := HZ.out w5 (HTV.out _ HB5.out)
  obtain ⟨y0, y1, y2, y3, y4⟩ := HCV.out.below HB5.out hzV
  clear hb5
  go_wp2_with fail
  refine (same_yes A5 A6 ny ny c5 c6 ys ys w5 _ _ HNY.out HNY.out rfl (HY5c.out.keep fun b h => (HKV.out _ HB5.out).block b h) (HY6c.out.keep fun b h => (HKV.out _ HB5.out).block b h) (by omega)).mono ?_
  rintro e w6 ⟨rfl, q6, rfl⟩
  have HB6 := Lib.hid (below_drews HB5.out q6 hs5)
  clear x0 x1 x2 x3 x4 y0 y1 y2 y3 y4
  obtain ⟨x0, x1, x2, x3, x4⟩ := HZ.out _ (HTV.out _ HB6.out)
  obtain ⟨y0, y1, y2, y3, y4⟩ := HCV.out.below HB6.out hzV
  go_wp2_with fail
  refine (S0.out _ [.slice B0 k0 d0, .slice B1 k1 d1, .slice B2 k2 d2, .slice B3 k3 d3, .slice B4 k4 d4] (HF.out _ (HTV.out _ HB6.out)) (mod_at HL4.out (HKV.out _ HB6.out))).mono ?_
  rintro e w7 ⟨rfl, hb7⟩
  have HB7 := Lib.hid (HB6.out.trans (hb7.mono HB6.out.size))
  clear hb7 x0 x1 x2 x3 x4 y0 y1 y2 y3 y4
  obtain ⟨x0, x1, x2, x3, x4⟩ := HZ.out _ (HTV.out _ HB7.out)
  go_wp2_with fail
  have hP := P0.out w7 (HF.out _ (HTV.out _ HB7.out))
  rw [HPN.out] at hP
  refine hP.mono ?_
  rintro e w8 ⟨rfl, hb8⟩
  have HB8 := Lib.hid (HB7.out.trans (hb8.mono HB7.out.size))
  clear hb8 hP
  go_wp2_with fail
  refine (refSum_any A6 ny c6 ys w8 _ HNY.out HMB.out (HY6c.out.keep fun b h => (HKV.out _ HB8.out).block b h) (by omega)).mono ?_
  rintro e w9 ⟨rfl, rfl⟩
  go_wp2_with fail
  go_ret
  exact ⟨by simp, HF.out _ (HTV.out _ HB8.out)⟩

set_option maxRecDepth 100000 in
theorem lifted (os : Os) (started : os.Started) (H : Type) (enc : TypeId × Value → H) :
    ReturnsInHanded {} Tryz.checked os 3 .any (Rows.moduleBackSpec.pre6 enc Tryz.prog Tryz.f3 Rows.moduleBackRow.domain false) (Rows.moduleBackSpec.post enc Tryz.prog Tryz.f3 false true false false) := by
  refine returnsInHanded_of_change_sized (C := Tryz.checked) own started (by kernel_rfl) Tryz.func3
    (ChangeSpec.witness6 (enc := enc) (C := Tryz.checked) false ⟨#[], #[.agg #[.slice none 0 0, .slice none 0 0, .slice none 0 0, .slice none 0 0, .slice none 0 0]], []⟩ 8 (by kernel_rfl) (by kernel_rfl) (by kernel_rfl) (by kernel_rfl)) ?_
  intro W base args ds gs before hval0 hW hcnd hwz _
  have hval : ∀ (j : Nat) t v, Tryz.f3.params[j]? = some t → args[j]? = some v → Value.okWide Tryz.prog W .any base t v := hval0
  have hW' := hW
  obtain ⟨p, q, hA0, hV, rfl, hfz, hnd⟩ := hW
  have hA : DataW.TrodAll enc Tryz.prog W 0 (fun _ => true) true Tryz.f3.params.toList args.toList ds p := hA0
  rw [Tryz.params3] at hA hval
  obtain ⟨v0, vs0, d0, ds0, p0, q0, hargs, rfl, rfl, h0, r0⟩ := trodAll_cons hA
  obtain ⟨rfl, rfl, rfl⟩ := trodAll_nil r0
  obtain rfl : args = #[v0] := by cases args; simp_all
  obtain ⟨rfl, rfl⟩ := trodVars_none hV
  have lt0 : ∀ x ∈ p0, x.block < W.heap.size := by obtain ⟨m, hm⟩ := h0; exact DataW.trod_lt m _ _ _ hm
  have hwz0 : ∀ n ∈ d0.weights Tryz.prog 28, n ≤ reachBytes := fun n hn => by simpa using List.all_eq_true.1 hwz n (DataW.weights_mem_each (j := 0) (t := 28) (d := d0) (by first | rfl | kernel_rfl) rfl n hn)
  obtain ⟨cs0, m0, rfl, hm0, hz0⟩ := open_modZ h0 hwz0
  clear hA0 hval0
  refine (walk cs0 m0 W hm0 hz0).mono fun e W' ⟨he, bel⟩ => ?_
  subst he
  exact ⟨_, rfl, _, _, _, [], _, [], hW', trodAll_mk1 (shut_bool Tryz.underlying4 _), (trodAll_cons_mk (Below.trod laidOut (by kernel_rfl) (of_decide_eq_true (by kernel_rfl)) h0 bel lt0) trodAll_mk0), rfl, bel.frame _, fun h => by cases h⟩

theorem over : Rows.moduleBackRow.holds Tryz.pinned (OpenSpec.ofChange Rows.moduleBackSpec) :=
  OpenClaim.holds_of_wide 3 Tryz.f3 rfl rfl rfl rfl rfl rfl rfl ⟨rfl, rfl, rfl, rfl, rfl⟩ rfl rfl rfl rfl rfl (by kernel_rfl) Tryz.func3 (by kernel_rfl)
    (of_decide_eq_true (by kernel_rfl)) (by unfold Func.isWrapper; first | (rw [if_pos (by decide +kernel)]; kernel_rfl) | (rw [if_neg (by decide +kernel)]; exact ⟨rfl, rfl⟩))
    (fun os started H enc _ => lifted os started H enc)

/-- The statement. -/
theorem proved : Rows.ModuleBackSaid := over
end Go.Proofs.YtngjnkkdhjholaaGreat.moduleBack
