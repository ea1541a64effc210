/-
  The law ModuleReads holds: what any bytes are, nothing, or a module whose bytes they are; the law's function returns true and turns nothing that was there.
  Conditions: none.
-/
import Derived.Test.YtngjnkkdhjholaaGreatQ01
import Derived.Test.YtngjnkkdhjholaaGreatQ25
namespace Go.Proofs.YtngjnkkdhjholaaGreat.moduleReads
open Go.ChangeShapes Go.WideShapes Go.ChangeAt Go.RowKit
set_option linter.unusedVariables false
set_option linter.unusedSimpArgs false

set_option maxRecDepth 100000 in
set_option maxHeartbeats 4000000 in
theorem walk (A : Option Addr) (n c : Nat) (xs : List Nat) (w : World) (hx : xs.length = n) (hb : ∀ x ∈ xs, x < 256) (hB : Byt (· < w.heap.size) w A xs) :
    Calls Tryz.prog 4 #[.slice A n c] w fun e w' => e = .returned (.bool true) ∧ Below w.heap.size w w' := by
  have AN := Lib.hid (fun w => answers6 w)
  by_cases h5 : n ≤ 5000
  rotate_left
  · have h5' : (5000 : Int) < (n : Int) := by omega
    clear hx hb hB
    go_enter Tryz.func4, Tryz.ntmps4
    go_wp2_with (first | (go_at_call 7; refine (AN.out _).mono ?_; rintro e w2 ⟨rfl, hb2⟩; have HB2 := Lib.hid hb2; clear hb2))
    go_ret
    exact ⟨rfl, HB2.out⟩
  have h5' : ¬ (5000 : Int) < (n : Int) := by omega
  have HD := Lib.hid (decode_any A n c xs w hx hb hB (by omega))
  have HX := Lib.hid hx
  have HY := Lib.hid hB
  clear hx hb hB
  go_enter Tryz.func4, Tryz.ntmps4
  go_wp2_with fail
  refine HD.out.mono ?_
  rintro e w1 ⟨hb1, ⟨m, cs, hm, rfl, hR⟩ | ⟨hno, rfl⟩⟩
  rotate_left
  · have HB1 := Lib.hid hb1
    clear hb1 hno HD
    go_wp2_with fail
    refine calls_world fun W hW => ?_
    have HBW : Hid (Below w.heap.size w W) := by show Below _ _ _; rw [hW]; exact HB1.out.alloc HB1.out.size _
    have HCW : Hid (C5 w1.heap.size (.slice none 0 0) (.slice none 0 0) (.slice none 0 0) (.slice none 0 0) (.slice none 0 0) W) := by show C5 _ _ _ _ _ _ _; rw [hW]; simp [C5, go_sem]
    have hz : w1.heap.size < W.heap.size := by rw [hW]; simp
    clear hW
    refine (AN.out W).mono ?_
    rintro e w2 ⟨rfl, hb2⟩
    have HB2 := Lib.hid (HBW.out.trans (hb2.mono HBW.out.size))
    obtain ⟨z0, z1, z2, z3, z4⟩ := HCW.out.below hb2 hz
    clear hb2
    go_wp2_with fail
    refine (same_none w2).mono ?_
    rintro e w3 ⟨rfl, hb3⟩
    have HB3 := Lib.hid (HB2.out.trans (hb3.mono HB2.out.size))
    clear hb3
    go_wp2_with fail
    go_ret
    exact ⟨rfl, HB3.out⟩
  have HB1 := Lib.hid hb1
  have HM := Lib.hid hm
  have HL := Lib.hid (modL.wide hR (T := (· < w1.heap.size)) fun b hb => hb.2)
  obtain ⟨A0, A1, A2, A3, A4, n0, n1, n2, n3, n4, c0, c1, c2, c3, c4, rfl⟩ := mod_shape hR
  clear hb1 hm hR HD
  go_wp2_with fail
  refine calls_world fun W hW => ?_
  have HAW : Hid (Below w1.heap.size w1 W) := by show Below _ _ _; rw [hW]; exact (Below.refl _ _).alloc (Nat.le_refl _) _
  have HBW := Lib.hid (HB1.out.trans (HAW.out.mono HB1.out.size))
  clear hW
  refine (rmod_any _ m W (mod_at HL.out HAW.out) HM.out.1.small).mono ?_
  rintro e w2 ⟨hb2, ⟨-, u, rfl, hown⟩ | ⟨hf, -⟩⟩
  rotate_left
  · rw [fitB_iff.2 HM.out.1] at hf
    cases hf
  obtain ⟨A5, c5, rfl, hl5, -, -, hY5⟩ := own_slice hown
  have HB2 := Lib.hid (HBW.out.trans (hb2.mono HBW.out.size))
  have HY5 := Lib.hid (hY5.wide (T := (· < w2.heap.size)) fun b hb => hb.2)
  have HE : Hid (modB m = xs) := HM.out.2.2.symm
  clear hb2 hown hY5
  obtain ⟨nm, hnm⟩ : ∃ k, (modB m).length = k := ⟨_, rfl⟩
  rw [hnm]
  have HN := Lib.hid hnm
  clear hnm hl5
  go_wp2_with fail
  refine (AN.out w2).mono ?_
  rintro e w3 ⟨rfl, hb3⟩
  have HB3 := Lib.hid (HB2.out.trans (hb3.mono HB2.out.size))
  have HY6 := Lib.hid (HY5.out.keep (w' := w3) fun b h => hb3.block b h)
  have HY7 := Lib.hid (HY.out.below HB3.out (Nat.le_refl _))
  clear hb3
  go_wp2_with fail
  refine (same_yes A5 A nm n c5 c (modB m) xs w3 _ _ HN.out HX.out HE.out HY6.out HY7.out (by have := HM.out.1.len; have := HN.out; omega)).mono ?_
  rintro e w4 ⟨rfl, q, rfl⟩
  go_wp2_with fail
  go_ret
  exact ⟨rfl, below_drews HB3.out q HB3.out.size⟩

set_option maxRecDepth 100000 in
theorem lifted (os : Os) (started : os.Started) (H : Type) (enc : TypeId × Value → H) :
    ReturnsInHanded {} Tryz.checked os 4 .any (Rows.moduleReadsSpec.pre6 enc Tryz.prog Tryz.f4 Rows.moduleReadsRow.domain false) (Rows.moduleReadsSpec.post enc Tryz.prog Tryz.f4 false true false false) := by
  refine returnsInHanded_of_change (C := Tryz.checked) own started (by kernel_rfl) Tryz.func4
    (ChangeSpec.witness6 (enc := enc) (C := Tryz.checked) false ⟨#[], #[.slice none 0 0], []⟩ 8 (by kernel_rfl) (by kernel_rfl) (by kernel_rfl) (by kernel_rfl)) ?_
  intro W base args ds gs before hval0 hW hcnd _
  have hval : ∀ (j : Nat) t v, Tryz.f4.params[j]? = some t → args[j]? = some v → Value.okWide Tryz.prog W .any base t v := hval0
  have hW' := hW
  obtain ⟨p, q, hA0, hV, rfl, hfz, hnd⟩ := hW
  have hA : DataW.TrodAll enc Tryz.prog W 0 (fun _ => true) true Tryz.f4.params.toList args.toList ds p := hA0
  rw [Tryz.params4] at hA hval
  obtain ⟨v0, vs0, d0, ds0, p0, q0, hargs, rfl, rfl, h0, r0⟩ := trodAll_cons hA
  obtain ⟨rfl, rfl, rfl⟩ := trodAll_nil r0
  obtain rfl : args = #[v0] := by cases args; simp_all
  obtain ⟨rfl, rfl⟩ := trodVars_none hV
  obtain ⟨a0, len0, cap0, rfl⟩ := okWide_slice Tryz.underlying31 (hval 0 31 v0 rfl rfl)
  have lt0 : ∀ x ∈ p0, x.block < W.heap.size := by obtain ⟨m, hm⟩ := h0; exact DataW.trod_lt m _ _ _ hm
  obtain ⟨xs0, hx0, hb0, hB0, hlc0, hcm0⟩ := open_byt h0
  clear hA0 hval0
  refine (walk a0 len0 cap0 xs0 W hx0 hb0 hB0).mono fun e W' ⟨he, bel⟩ => ?_
  subst he
  exact ⟨_, rfl, _, _, _, [], _, [], hW', trodAll_mk1 (shut_bool Tryz.underlying4 _), (trodAll_cons_mk (Below.trod laidOut (by kernel_rfl) (of_decide_eq_true (by kernel_rfl)) h0 bel lt0) trodAll_mk0), rfl, bel.frame _, fun h => by cases h⟩

theorem over : Rows.moduleReadsRow.holds Tryz.pinned (OpenSpec.ofChange Rows.moduleReadsSpec) :=
  OpenClaim.holds_of_wide 4 Tryz.f4 rfl rfl rfl rfl rfl rfl rfl ⟨rfl, rfl, rfl, rfl, rfl⟩ rfl rfl rfl rfl rfl (by kernel_rfl) Tryz.func4 (by kernel_rfl)
    (of_decide_eq_true (by kernel_rfl)) (by unfold Func.isWrapper; first | (rw [if_pos (by decide +kernel)]; kernel_rfl) | (rw [if_neg (by decide +kernel)]; exact ⟨rfl, rfl⟩))
    (fun os started H enc _ => lifted os started H enc)

/-- The statement. -/
theorem proved : Rows.ModuleReadsSaid := over
end Go.Proofs.YtngjnkkdhjholaaGreat.moduleReads
