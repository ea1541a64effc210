/-
  The law ModuleCuts holds: a module's bytes that are cut off, or have one more, are none; the law's function returns true and turns nothing that was there.
  Conditions: none.
-/
import Derived.Test.YtngjnkkdhjholaaGreatQ01
import Derived.Test.YtngjnkkdhjholaaGreatQ25
import Derived.Test.YtngjnkkdhjholaaGreatQ26
namespace Go.Proofs.YtngjnkkdhjholaaGreat.moduleCuts
open Go.ChangeShapes Go.WideShapes Go.ChangeAt Go.RowKit
set_option linter.unusedVariables false
set_option linter.unusedSimpArgs false

theorem no_take {x : Mod} (hF : Fit x) {k : Nat} (hk : k < (modB x).length) : ¬ ∃ m, IsMod ((modB x).take k) m := by
  rintro ⟨m, hm⟩
  have e : joinB (partsB x) = joinB (partsB m) ++ (modB x).drop k := by
    rw [show joinB (partsB m) = (modB x).take k from hm.2.2.symm, List.take_append_drop]
    rfl
  have h1 := join_cut (by have := hF.len; unfold B64; show (modB x).length < _; omega) e
  have h2 := congrArg List.length h1
  simp at h2
  omega
theorem no_more {x : Mod} {b : Nat} : ¬ ∃ m, IsMod (modB x ++ [b]) m := by
  rintro ⟨m, hm⟩
  have e : joinB (partsB m) = joinB (partsB x) ++ [b] := hm.2.2.symm
  have h1 := join_cut (by have := hm.1.len; unfold B64; show (modB m).length < _; omega) e
  simp at h1
theorem bytes_of {x : Mod} {S : Nat → Prop} {w : World} {cs : List Value} (h : modL.R S w cs x) : ∀ s ∈ x.texts, ∀ z ∈ s, z < 256 := by
  obtain ⟨_, _, _, _, _, rfl, -, -, -, -, ⟨A4, d4, e4, -, -, s4⟩⟩ := h
  intro s hs
  obtain ⟨j, hj⟩ := List.mem_iff_getElem?.1 hs
  obtain ⟨a, cs, _, _, _, st, _, rfl⟩ := s4.at hj
  exact strB_bytes st

set_option maxRecDepth 100000 in
set_option maxHeartbeats 8000000 in
theorem walk (cs : List Value) (x : Mod) (at0 more0 : Int) (w : World) (h : modL.R (· < w.heap.size) w cs x) (hz : Zm x) (hat : 0 ≤ at0 ∧ at0 ≤ 65535) (hmo : 0 ≤ more0 ∧ more0 ≤ 255) :
    Calls Tryz.prog 5 #[vAgg cs, .int .u16 at0, .int .u8 more0] w fun e w' => e = .returned (.bool true) ∧ Below w.heap.size w w' := by
  obtain ⟨a1, rfl⟩ : ∃ a1 : Nat, at0 = (a1 : Int) := ⟨at0.toNat, by omega⟩
  obtain ⟨m1, rfl⟩ : ∃ m1 : Nat, more0 = (m1 : Int) := ⟨more0.toNat, by omega⟩
  have ha1 : a1 ≤ 65535 := by omega
  have hm1 : m1 ≤ 255 := by omega
  have AN := Lib.hid (fun w => answers6 w)
  have HBT := Lib.hid (bytes_of h)
  have L0 : Hid (∀ w1, Below w.heap.size w w1 → Calls Tryz.prog 6 #[vAgg cs] w1 fun e w' => ∃ b : Bool, e = .returned (.bool b) ∧ Below w1.heap.size w1 w' ∧ (b = true → Small x)) := fun w1 hb => light_any cs x w1 (mod_at h hb) hz
  have M0 : Hid (Small x → ∀ w1, Below w.heap.size w w1 → Calls Tryz.prog 9 #[vAgg cs] w1 (RMod x w1)) := fun hs w1 hb => rmod_any cs x w1 (mod_at h hb) hs
  obtain ⟨A0, A1, A2, A3, A4, n0, n1, n2, n3, n4, c0, c1, c2, c3, c4, rfl⟩ := mod_shape h
  clear h hz hat hmo
  simp only [vAgg] at L0 M0 ⊢
  go_enter Tryz.func5, Tryz.ntmps5
  go_wp2_with fail
  refine calls_world fun W hW => ?_
  have HB0 : Hid (Below w.heap.size w W) := by show Below _ _ _; rw [hW]; exact (Below.refl _ _).alloc (Nat.le_refl _) _
  have HC0 : Hid (C5 w.heap.size (.slice A0 n0 c0) (.slice A1 n1 c1) (.slice A2 n2 c2) (.slice A3 n3 c3) (.slice A4 n4 c4) W) := by show C5 _ _ _ _ _ _ _; rw [hW]; simp [C5, go_sem]
  have hz : w.heap.size < W.heap.size := by rw [hW]; simp
  clear hW
  refine (L0.out W HB0.out).mono ?_
  rintro e w1 ⟨b, rfl, hb1, hsm⟩
  have HB1 := Lib.hid (HB0.out.trans (hb1.mono HB0.out.size))
  have HSM := Lib.hid hsm
  obtain ⟨x0, x1, x2, x3, x4⟩ := HC0.out.below hb1 hz
  clear hb1 hsm
  cases b
  · go_wp2_with (first | (go_at_call 7; refine (AN.out _).mono ?_; rintro e w2 ⟨rfl, hb2⟩; have HB2 := Lib.hid (HB1.out.trans (hb2.mono HB1.out.size)); clear hb2))
    go_ret
    exact ⟨rfl, HB2.out⟩
  go_wp2_with fail
  refine (M0.out (HSM.out (by simp)) w1 HB1.out).mono ?_
  rintro e w2 ⟨hb2, ⟨hf, u, rfl, hown⟩ | ⟨-, A2', n2', c2', rfl⟩⟩
  rotate_left
  · have HB2 := Lib.hid (HB1.out.trans (hb2.mono HB1.out.size))
    clear hb2
    go_wp2_with (first | (go_at_call 7; refine (AN.out _).mono ?_; rintro e w3 ⟨rfl, hb3⟩; have HB3 := Lib.hid (HB2.out.trans (hb3.mono HB2.out.size)); clear hb3))
    go_ret
    exact ⟨rfl, HB3.out⟩
  have HB2 := Lib.hid (HB1.out.trans (hb2.mono HB1.out.size))
  have hFit := fitB_iff.1 hf
  have hlen := hFit.len
  have hpos : 0 < (modB x).length := joinB_pos (partsB x)
  have HNT : Hid (∀ k, k < (modB x).length → ¬ ∃ m, IsMod ((modB x).take k) m) := fun k hk => no_take hFit hk
  have HNM : Hid (∀ b, ¬ ∃ m, IsMod (modB x ++ [b]) m) := fun b => no_more
  have HMB : Hid (∀ z ∈ modB x, z < 256) := modB_bytes x HBT.out
  have hs2 := HB2.out.size
  obtain ⟨ys, hys⟩ : ∃ y, modB x = y := ⟨_, rfl⟩
  rw [hys] at hown hlen hpos HNT HNM HMB
  obtain ⟨J, hJ⟩ : ∃ J, ys.length = J := ⟨_, rfl⟩
  rw [hJ] at hown hlen hpos HNT
  have HJl := Lib.hid hJ
  obtain ⟨A1', c1', rfl, -, hc1, hc1m, hY⟩ := own_slice hown
  have HY := Lib.hid (hY.wide (T := (· < w2.heap.size)) fun b hb => hb.2)
  clear hb2 hf hown hY hFit hys hJ x0 x1 x2 x3 x4
  unfold maxLen at hc1m
  obtain ⟨ad, rfl, -, -⟩ := HY.out.at (k := 0) (by rw [HJl.out]; omega)
  have e0 : ((J : Int) == 0) = false := by simp; omega
  have e1 : (a1 : Int) % (J : Int) = ((a1 % J : Nat) : Int) := by omega
  obtain ⟨r, hr⟩ : ∃ r, a1 % J = r := ⟨_, rfl⟩
  have hrJ : r < J := by rw [← hr]; exact Nat.mod_lt _ hpos
  rw [hr] at e1
  have e2 : r ≤ c1' := by omega
  have e3 : (r : Int) ≤ (c1' : Int) := by omega
  have HTl : Hid ((ys.take r).length = r) := by show (ys.take r).length = r; rw [List.length_take, HJl.out]; omega
  clear hr
  go_wp2_with fail
  refine (decode_any (some ad) r c1' (ys.take r) w2 HTl.out (fun x hx => HMB.out x (List.mem_of_mem_take hx)) (HY.out.take r) (by omega)).mono ?_
  rintro e w3 ⟨hb3, ⟨m, cs, hm, -⟩ | ⟨-, rfl⟩⟩
  · exact absurd ⟨m, hm⟩ (HNT.out r hrJ)
  have Hb3 := Lib.hid hb3
  have HB3 := Lib.hid (HB2.out.trans (hb3.mono hs2))
  have hs3 := HB3.out.size
  have hl23 := hb3.size
  have HY3 := Lib.hid (HY.out.below hb3 (Nat.le_refl _))
  clear hb3
  go_upto_region 7 with (fail)
  refine wp_world fun W3 hW3 => ?_
  have HA3 : Hid (Below w3.heap.size w3 W3) := by show Below _ _ _; rw [hW3]; exact (Below.refl _ _).alloc (Nat.le_refl _) _
  have HC3 : Hid (C5 w3.heap.size (.slice none 0 0) (.slice none 0 0) (.slice none 0 0) (.slice none 0 0) (.slice none 0 0) W3) := by show C5 _ _ _ _ _ _ _; rw [hW3]; simp [C5, go_sem]
  have hz3 : w3.heap.size < W3.heap.size := by rw [hW3]; simp
  have HBW3 := Lib.hid (HB3.out.trans (HA3.out.mono hs3))
  have HYW3 := Lib.hid (HY3.out.below HA3.out hl23)
  have hsW3 := HBW3.out.size
  clear hW3
  have HE0 : Hid (Below W3.heap.size W3 (W3.alloc (.cells #[] 5))) := (Below.refl _ W3).alloc (Nat.le_refl _) _
  go_wp2_with (first
    | (at_builtin
       refine walk_append _ rfl (.tmp 37) (.tmp 38) rfl W3.heap.size (.slice (some ⟨W3.heap.size, 0, none⟩) 0 0) 0 [] rfl (own_empty W3) (some ad) J c1' ys rfl HJl.out (· < w2.heap.size)
         (HYW3.out.keep fun b hb => Below.heap_alloc W3 _ b (by omega)) (by omega) (by simp) ?_
       intro v4 w4 hown4 hg4 _
       rw [Nat.zero_add, List.nil_append] at hown4
       have HO4 := Lib.hid hown4
       have HB4 : Hid (Below W3.heap.size W3 w4) := HE0.out.grown hg4 (by simp) (fun k hk => by simp [Value.ownBlock] at hk; omega)
       have hs4 := HB4.out.size
       clear hown4 hg4)
    | (at_builtin
       refine walk_append _ rfl (.tmp 39) (.tmp 41) rfl W3.heap.size v4 J ys rfl (HO4.out.alloc _) (some ⟨w4.heap.size, 0, none⟩) 1 1 [m1] rfl rfl (· = w4.heap.size) (byt_one w4 _ m1 rfl) (by omega) (by simp; omega) ?_
       intro v5 w5 hown5 hg5 _
       have HO5 := Lib.hid hown5
       have HB5 : Hid (Below W3.heap.size W3 w5) := (HB4.out.alloc hs4 _).grown hg5 (by simp; omega) (fun k hk => (HO4.out.lt k hk).1)
       clear hown5 hg5))
  obtain ⟨A5, c5, rfl, -, hc5, -, hY5⟩ := own_slice HO5.out
  have HY5 := Lib.hid (hY5.wide (T := (· < w5.heap.size)) fun b hb => hb.2)
  have hs5 := HB5.out.size
  have HMB5 : Hid (∀ z ∈ ys ++ [m1], z < 256) := fun z hz => by
    rcases List.mem_append.1 hz with h | h
    · exact HMB.out z h
    · simp at h
      omega
  clear hY5 HO5
  refine (decode_any A5 (J + 1) c5 (ys ++ [m1]) w5 (by rw [List.length_append, HJl.out]; rfl) HMB5.out HY5.out (by omega)).mono ?_
  rintro e w6 ⟨hb6, ⟨m, cs, hm, -⟩ | ⟨-, rfl⟩⟩
  · exact absurd ⟨m, hm⟩ (HNM.out m1)
  have HB6 := Lib.hid (HB5.out.trans (hb6.mono hs5))
  have hs6 := HB6.out.size
  clear hb6
  go_wp2_with fail
  refine calls_world fun W7 hW7 => ?_
  have HA7 : Hid (Below w6.heap.size w6 W7) := by show Below _ _ _; rw [hW7]; exact (Below.refl _ _).alloc (Nat.le_refl _) _
  have HC7 : Hid (C5 w6.heap.size (.slice none 0 0) (.slice none 0 0) (.slice none 0 0) (.slice none 0 0) (.slice none 0 0) W7) := by show C5 _ _ _ _ _ _ _; rw [hW7]; simp [C5, go_sem]
  have hz7 : w6.heap.size < W7.heap.size := by rw [hW7]; simp
  have HBW7 := Lib.hid (HB6.out.trans (HA7.out.mono hs6))
  have HD7 := Lib.hid (HC3.out.below HBW7.out hz3)
  have hsW7 := HBW7.out.size
  clear hW7
  refine (AN.out W7).mono ?_
  rintro e w8 ⟨rfl, hb8⟩
  have HB8 := Lib.hid hb8
  have hs8 := hb8.size
  obtain ⟨x0, x1, x2, x3, x4⟩ := HD7.out.below hb8 (by omega)
  obtain ⟨y0, y1, y2, y3, y4⟩ := HC7.out.below hb8 hz7
  clear hb8
  go_wp2_with fail
  refine (same_none w8).mono ?_
  rintro e w9 ⟨rfl, hb9⟩
  have HB9 := Lib.hid (HB8.out.trans (hb9.mono hs8))
  clear hb9 x0 x1 x2 x3 x4 y0 y1 y2 y3 y4
  obtain ⟨y0, y1, y2, y3, y4⟩ := HC7.out.below HB9.out hz7
  go_wp2_with fail
  refine (same_none w9).mono ?_
  rintro e wa ⟨rfl, hba⟩
  have HBa := Lib.hid (HB9.out.trans (hba.mono HB9.out.size))
  clear hba
  go_wp2_with fail
  go_ret
  have hsz : w.heap.size ≤ W7.heap.size := by omega
  exact ⟨rfl, (HBW3.out.trans (HBW7.out.mono hsW3)).trans (HBa.out.mono (by omega))⟩

set_option maxRecDepth 100000 in
theorem lifted (os : Os) (started : os.Started) (H : Type) (enc : TypeId × Value → H) :
    ReturnsInHanded {} Tryz.checked os 5 .any (Rows.moduleCutsSpec.pre6 enc Tryz.prog Tryz.f5 Rows.moduleCutsRow.domain false) (Rows.moduleCutsSpec.post enc Tryz.prog Tryz.f5 false true false false) := by
  refine returnsInHanded_of_change_sized (C := Tryz.checked) own started (by kernel_rfl) Tryz.func5
    (ChangeSpec.witness6 (enc := enc) (C := Tryz.checked) false ⟨#[], #[.agg #[.slice none 0 0, .slice none 0 0, .slice none 0 0, .slice none 0 0, .slice none 0 0], .int .u16 0, .int .u8 0], []⟩ 8 (by kernel_rfl) (by kernel_rfl) (by kernel_rfl) (by kernel_rfl)) ?_
  intro W base args ds gs before hval0 hW hcnd hwz _
  have hval : ∀ (j : Nat) t v, Tryz.f5.params[j]? = some t → args[j]? = some v → Value.okWide Tryz.prog W .any base t v := hval0
  have hW' := hW
  obtain ⟨p, q, hA0, hV, rfl, hfz, hnd⟩ := hW
  have hA : DataW.TrodAll enc Tryz.prog W 0 (fun _ => true) true Tryz.f5.params.toList args.toList ds p := hA0
  rw [Tryz.params5] at hA hval
  obtain ⟨v0, vs0, d0, ds0, p0, q0, hargs, rfl, rfl, h0, r0⟩ := trodAll_cons hA
  obtain ⟨v1, vs1, d1, ds1, p1, q1, rfl, rfl, rfl, h1, r1⟩ := trodAll_cons r0
  obtain ⟨v2, vs2, d2, ds2, p2, q2, rfl, rfl, rfl, h2, r2⟩ := trodAll_cons r1
  obtain ⟨rfl, rfl, rfl⟩ := trodAll_nil r2
  obtain rfl : args = #[v0, v1, v2] := by cases args; simp_all
  obtain ⟨rfl, rfl⟩ := trodVars_none hV
  have lt0 : ∀ x ∈ p0, x.block < W.heap.size := by obtain ⟨m, hm⟩ := h0; exact DataW.trod_lt m _ _ _ hm
  have hwz0 : ∀ n ∈ d0.weights Tryz.prog 28, n ≤ reachBytes := fun n hn => by simpa using List.all_eq_true.1 hwz n (DataW.weights_mem_each (j := 0) (t := 28) (d := d0) (by first | rfl | kernel_rfl) rfl n hn)
  obtain ⟨cs0, m0, rfl, hm0, hz0⟩ := open_modZ h0 hwz0
  obtain ⟨a1, rfl, rfl, rfl, w1⟩ := open_int Tryz.underlying45 (hval 1 45 v1 rfl rfl) h1
  obtain ⟨a2, rfl, rfl, rfl, w2⟩ := open_int Tryz.underlying5 (hval 2 5 v2 rfl rfl) h2
  clear hA0 hval0
  refine (walk cs0 m0 a1 a2 W hm0 hz0 (bounds_u16 w1) (bounds_u8 w2)).mono fun e W' ⟨he, bel⟩ => ?_
  subst he
  exact ⟨_, rfl, _, _, _, [], _, [], hW', trodAll_mk1 (shut_bool Tryz.underlying4 _), (trodAll_cons_mk (Below.trod laidOut (by kernel_rfl) (of_decide_eq_true (by kernel_rfl)) h0 bel lt0) (trodAll_cons_mk (shut_int Tryz.underlying45 w1) (trodAll_cons_mk (shut_int Tryz.underlying5 w2) trodAll_mk0))), rfl, bel.frame _, fun h => by cases h⟩

theorem over : Rows.moduleCutsRow.holds Tryz.pinned (OpenSpec.ofChange Rows.moduleCutsSpec) :=
  OpenClaim.holds_of_wide 5 Tryz.f5 rfl rfl rfl rfl rfl rfl rfl ⟨rfl, rfl, rfl, rfl, rfl⟩ rfl rfl rfl rfl rfl (by kernel_rfl) Tryz.func5 (by kernel_rfl)
    (of_decide_eq_true (by kernel_rfl)) (by unfold Func.isWrapper; first | (rw [if_pos (by decide +kernel)]; kernel_rfl) | (rw [if_neg (by decide +kernel)]; exact ⟨rfl, rfl⟩))
    (fun os started H enc _ => lifted os started H enc)

/-- The statement. -/
theorem proved : Rows.ModuleCutsSaid := over
end Go.Proofs.YtngjnkkdhjholaaGreat.moduleCuts
