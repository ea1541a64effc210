/-
  The law JudgeFirst holds: where the first instruction of a function is not Seen, or a shape is missing, nothing is right; the law's function returns true and turns nothing that was there.
  Conditions: none.
-/
import Derived.Test.YtikhhcmfjncabaaGreatQ01
import Derived.Test.YtikhhcmfjncabaaGreatQ02
import Derived.Test.YtikhhcmfjncabaaGreatQ10
import Derived.Test.YtikhhcmfjncabaaGreatQ23
import Derived.Test.YtikhhcmfjncabaaGreatQ33
import Derived.Test.YtikhhcmfjncabaaGreatQ42
import Derived.Test.YtikhhcmfjncabaaGreatQ43
import Derived.Test.YtikhhcmfjncabaaGreatQ45
import Derived.Lib.QuietBelow
import Derived.BigQuiet
import Derived.Deep.RegionWith
namespace Go.Proofs.YtikhhcmfjncabaaGreat.judgeFirst
open Go.ChangeShapes Go.WideShapes Go.ChangeAt Go.RowKit
set_option linter.unusedVariables false
set_option linter.unusedSimpArgs false

set_option maxRecDepth 100000 in
set_option maxHeartbeats 8000000 in
theorem walk (cs : List Value) (m : Mod) (f n : Int) (w : World) (h : modL.R (· < w.heap.size) w cs m) (hz : Zm m) (hf : 0 ≤ f ∧ f ≤ 255) (hn : 0 ≤ n ∧ n ≤ 255) :
    Calls Tryz.prog 4 #[vAgg cs, .int .u8 f, .int .u8 n] w fun e w' => e = .returned (.bool true) ∧ Below w.heap.size w w' := by
  have AN := Lib.hid (fun w => answers10 w)
  have L0 : Hid (∀ w1, Below w.heap.size w w1 → Calls Tryz.prog 5 #[vAgg cs] w1 fun e w' => ∃ b : Bool, e = .returned (.bool b) ∧ Below w1.heap.size w1 w' ∧ (b = true → Small m)) := fun w1 hb => light_any cs m w1 (mod_at h hb) hz
  have RM : Hid (Small m → ∀ w1, Below w.heap.size w w1 → Calls Tryz.prog 9 #[vAgg cs] w1 fun e w' => e = .returned (.bool (mainB m)) ∧ Below w1.heap.size w1 w') := fun hs w1 hb => rmain_any cs m w1 (mod_at h hb) hs
  have MA : Hid (checkN m = 0 → ∀ w1, Below w.heap.size w w1 → Calls Tryz.prog 10 #[vAgg cs] w1 (RMaps m w1)) := fun hc w1 hb => rmaps_any rrule_any cs m w1 (mod_at h hb) hc
  have JR : Hid (∀ (w1 : World) (A9 : Option Addr) (n9 c9 : Nat) (L9 : List (List Shape)) (b : Bool), Below w.heap.size w w1 → Sq rowL (· < w1.heap.size) w1 A9 L9 → L9.length = n9 → n9 ≤ 1000 → (b = true ↔ mainB m = true ∧ RightM m L9) → Calls Tryz.prog 7 #[vAgg cs, .slice A9 n9 c9] w1 fun e w' => e = .returned (.bool b) ∧ Below w1.heap.size w1 w') := fun w1 A9 n9 c9 L9 b hb h9 hl9 hn9 hi => rright_tells (jright_any cs m A9 n9 c9 L9 w1 (mod_at h hb) hl9 h9 (by omega)) hi
  obtain ⟨A0, A1, A2, A3, A4, n0, n1, n2, n3, n4, c0, c1, c2, c3, cm, rfl⟩ := mod_shape h
  clear h hz
  simp only [vAgg] at L0 RM MA JR ⊢
  go_enter Tryz.func4, Tryz.ntmps4
  go_wp2_with fail
  refine calls_world fun W hW => ?_
  have HB0 : Hid (Below w.heap.size w W) := by show Below _ _ _; rw [hW]; exact below_new w _
  have HC0 : Hid (C5 w.heap.size (.slice A0 n0 c0) (.slice A1 n1 c1) (.slice A2 n2 c2) (.slice A3 n3 c3) (.slice A4 n4 cm) W) := by show C5 _ _ _ _ _ _ _; rw [hW]; simp [C5, go_sem]
  have hzW : w.heap.size < W.heap.size := by rw [hW]; simp
  clear hW
  have HCV : Hid (∀ v, Below W.heap.size W v → C5 w.heap.size (.slice A0 n0 c0) (.slice A1 n1 c1) (.slice A2 n2 c2) (.slice A3 n3 c3) (.slice A4 n4 cm) v) := fun v hb => HC0.out.below hb hzW
  have HBB : Hid (∀ v, Below W.heap.size W v → Below w.heap.size w v) := fun v hb => HB0.out.trans (hb.mono HB0.out.size)
  refine (L0.out W HB0.out).mono ?_
  rintro e V ⟨b, rfl, hb1, hsm⟩
  have HB1 := Lib.hid hb1
  obtain ⟨x0, x1, x2, x3, x4⟩ := HCV.out V hb1
  clear hb1
  cases b
  · go_wp2_with (first | (go_at_call 6; refine (AN.out _).mono ?_; rintro e w2 ⟨rfl, hb2⟩; have HB2 := Lib.hid (HB1.out.trans (hb2.mono HB1.out.size)); clear hb2))
    go_ret
    exact ⟨rfl, HBB.out _ HB2.out⟩
  have RM1 := Lib.hid (RM.out (hsm rfl))
  clear hsm RM
  cases hmb : mainB m
  · rw [hmb] at RM1
    clear hmb
    go_wp2_with (first
      | (go_at_call 9
         refine (RM1.out _ (HBB.out _ HB1.out)).mono ?_
         rintro e w2 ⟨rfl, hb2⟩
         have HB2 := Lib.hid (HB1.out.trans (hb2.mono HB1.out.size))
         clear hb2)
      | (go_at_call 6
         refine (AN.out _).mono ?_
         rintro e w3 ⟨rfl, hb3⟩
         have HB3 := Lib.hid (HB2.out.trans (hb3.mono HB2.out.size))
         clear hb3))
    go_ret
    exact ⟨rfl, HBB.out _ HB3.out⟩
  have HMb := Lib.hid hmb
  have hc : checkN m = 0 := by
    rcases Decidable.em (checkN m = 0) with h | h
    · exact h
    · rw [mainB_not h] at hmb; cases hmb
  have HCk := Lib.hid hc
  have MA1 := Lib.hid (MA.out hc)
  rw [hmb] at RM1
  clear hmb hc MA
  go_wp2_with (first
    | (go_at_call 9
       refine (RM1.out _ (HBB.out _ HB1.out)).mono ?_
       rintro e w2 ⟨rfl, hb2⟩
       have HB2 := Lib.hid (HB1.out.trans (hb2.mono HB1.out.size))
       obtain ⟨y0, y1, y2, y3, y4⟩ := HCV.out w2 HB2.out
       clear hb2 x0 x1 x2 x3 x4))
  refine (MA1.out w2 (HBB.out _ HB2.out)).mono ?_
  rintro e w3 ⟨hb3, ⟨hN, rfl⟩ | ⟨L, A, c, hL, rfl, hml⟩⟩
  · have HB3 := Lib.hid (HB2.out.trans (hb3.mono HB2.out.size))
    clear hb3 hN
    go_wp2_with (first
      | (go_at_call 6
         refine (AN.out _).mono ?_
         rintro e w4 ⟨rfl, hb4⟩
         have HB4 := Lib.hid (HB3.out.trans (hb4.mono HB3.out.size))
         clear hb4))
    go_ret
    exact ⟨rfl, HBB.out _ HB4.out⟩
  have HB3 := Lib.hid (HB2.out.trans (hb3.mono HB2.out.size))
  have HLe := Lib.hid hL
  obtain ⟨A', c', e1, hle, hcm, hsq⟩ := hml
  simp only [List.cons.injEq, Value.slice.injEq, and_true, true_and] at e1
  obtain ⟨rfl, rfl⟩ := e1
  obtain ⟨nL, hnL⟩ : ∃ nL, L.length = nL := ⟨_, rfl⟩
  have hn8 : nL ≤ 8 := by
    have := (fitB_iff.1 (checkN_fit HCk.out)).f8
    rw [← hnL, hL.len]
    omega
  have hn1 : 0 < nL := by
    rw [← hnL, hL.len]
    have h := HMb.out
    rcases Nat.eq_zero_or_pos m.funcs.length with h0 | h0
    · rw [mainB, List.eq_nil_of_length_eq_zero h0] at h
      simp at h
    · exact h0
  obtain ⟨aL, rfl, haL, -⟩ := hsq (by omega)
  have HSq := Lib.hid hsq
  have HNL := Lib.hid hnL
  rw [hnL] at hle ⊢
  have hcm' : c ≤ 9223372036854775807 := by unfold maxLen at hcm; omega
  obtain ⟨k, ek, hk⟩ : ∃ k : Nat, f % (nL : Int) = (k : Int) ∧ k < nL := ⟨(f % (nL : Int)).toNat, by have := Int.emod_nonneg f (show (nL : Int) ≠ 0 by omega); omega, by have := Int.emod_nonneg f (show (nL : Int) ≠ 0 by omega); have := Int.emod_lt_of_pos f (show (0 : Int) < (nL : Int) by omega); omega⟩
  have ek2 : Int.tmod f (nL : Int) = (k : Int) := by rw [Int.tmod_eq_emod_of_nonneg hf.1]; exact ek
  have hnz : ¬ (nL : Int) = 0 := by omega
  clear hb3 hL hsq hnL hcm y0 y1 y2 y3 y4
  go_upto_region 7 with (fail)
  have hs3 := HB3.out.size
  -- the row of function k
  have hfk : m.funcs[k]? = some (m.funcs[k]'(by rw [← HLe.out.len, HNL.out]; exact hk)) := List.getElem?_eq_getElem _
  obtain ⟨fn, hfn⟩ : ∃ fn, m.funcs[k]? = some fn := ⟨_, hfk⟩
  obtain ⟨l, hl⟩ : ∃ l, L[k]? = some l := ⟨L[k]'(by rw [HNL.out]; exact hk), List.getElem?_eq_getElem _⟩
  have hLk := HLe.out.at_ k fn l hfn hl
  have hcode0 : 0 < fn.code.length := by
    have := (fitB_iff.1 (checkN_fit HCk.out)).funcs fn (List.mem_of_getElem? hfn)
    simp only [fnOk, Bool.and_eq_true, witB_iff] at this
    omega
  obtain ⟨-, -, hcode, -⟩ := sane_fn HCk.out (List.mem_of_getElem? hfn)
  obtain ⟨aL', D, dl, eaL, -, hr0, hrle, hrcm, hrsq⟩ := row_at HSq.out hl
  injection eaL with eaL
  subst eaL
  obtain ⟨ul, hul⟩ : ∃ ul, l.length = ul := ⟨_, rfl⟩
  have hu0 : 0 < ul := by rw [← hul, hLk.len]; exact hcode0
  have hu64 : ul ≤ 64 := by rw [← hul, hLk.len]; exact hcode
  obtain ⟨aD, rfl, haD, -⟩ := hrsq (by omega)
  rw [hul] at hr0 hrle
  have hrcm' : dl ≤ 9223372036854775807 := by unfold maxLen at hrcm; omega
  have HRow : Hid (∀ v, Below w3.heap.size w3 v → v.cell? (aL.add k) = some (.slice (some aD) ul dl)) := fun v hb => (hb.cell (p := aL.add k) (by rw [addBlock]; exact haL)).trans hr0
  have HRsq := Lib.hid hrsq
  have HLk := Lib.hid hLk
  have HFn := Lib.hid hfn
  have HLl := Lib.hid hl
  have HUl := Lib.hid hul
  have k0 : (0 : Int) ≤ (k : Int) := by omega
  have k1 : (k : Int) < (nL : Int) := by omega
  have u0 : (0 : Int) < (ul : Int) := by omega
  clear hfk hfn hl hLk hcode0 hcode hr0 hrsq hrcm hul ek ek2
  go_upto_region 8 with (first
    | (at_builtin
       refine walk_append_all rowL _ rfl (.tmp 34) (.tmp 35) 29 32 rfl (.slice none 0 0) 24 Tryz.underlying29 rowG_info rfl (by decide) (by omega) w3.heap.size (.slice (some ⟨w3.heap.size, 0, none⟩) 0 0) rfl (ownr_empty w3 _ _) aL nL c L rfl HNL.out _ (HSq.out.keep fun b h1 => Below.heap_alloc w3 _ b h1) (by omega) (by simp) ?_
       intro v4 w4 css4 hl4 hown4 hR4 hg4
       have HO4 := Lib.hid hown4
       have HL4 := Lib.hid hl4
       have hb4 : Below w3.heap.size w3 w4 := (below_new w3 _).grown hg4 (by simp) (fun i hi => by simp [Value.ownBlock] at hi; omega)
       have HK4 := Lib.hid hb4
       have HR4 : Hid (∀ (j : Nat) (x : List Shape) (cs : List Value), L[j]? = some x → css4[j]? = some cs → ∀ v, Below w3.heap.size w3 v → rowL.R (· < w3.heap.size) v cs x) := fun j x cs h1 h2 v hb => rowL.keep (hR4 j x cs h1 h2) fun b h3 => (hb.block b h3).trans (Below.heap_alloc w3 _ b h3).symm
       have hs4 := hb4.size
       clear hl4 hown4 hR4 hg4 hb4))
  obtain ⟨g4, c4, rfl, hg4a, hg4b⟩ := ownr_some HO4.out hn1
  have r0 := fun ob => HRow.out (w4.alloc ob) (HK4.out.alloc (by omega) ob)
  obtain ⟨cs4, hcs4⟩ : ∃ cs, css4[k]? = some cs := ⟨css4[k]'(by rw [HL4.out]; exact hk), List.getElem?_eq_getElem _⟩
  obtain ⟨_, _, rfl, -⟩ := HR4.out k l cs4 HLl.out hcs4 w3 (Below.refl _ _)
  have HCs4 := Lib.hid hcs4
  have HH4 : Hid (∀ cs ∈ css4, cs.length = 1) := fun cs hcs => by
    obtain ⟨i, hi⟩ := List.mem_iff_getElem?.1 hcs
    have hil : i < L.length := by rw [HNL.out, ← HL4.out]; exact (List.getElem?_eq_some_iff.1 hi).1
    exact rowL.len (HR4.out i _ cs (List.getElem?_eq_getElem hil) hi w3 (Below.refl _ _))
  clear hcs4
  go_upto_region 9 with (first
    | (at_builtin
       refine walk_append_all shpL _ rfl (.tmp 39) (.tmp 43) 32 38 rfl (.agg #[.bool false, .slice none 0 0]) 32 Tryz.underlying32 shp_info rfl (by decide) (by omega) w4.heap.size (.slice (some ⟨w4.heap.size, 0, none⟩) 0 0) rfl (ownr_empty w4 _ _) aD ul dl l rfl HUl.out _ (HRsq.out.keep fun b h1 => (HK4.out.alloc (by omega) _).block b h1) (by omega) (by simp) ?_
       intro v5 w5 css5 hl5 hown5 hR5 hg5
       obtain ⟨g5, c5, rfl, hg5a, hg5b⟩ := ownr_some hown5 hu0
       have HO5 := Lib.hid hown5
       have HL5 := Lib.hid hl5
       have hb5 : Below w4.heap.size w4 w5 := (below_new w4 _).grown hg5 (by simp) (fun i hi => by simp [Value.ownBlock] at hi; omega)
       have HK5 := Lib.hid (HK4.out.trans (hb5.mono hs4))
       have HR5 : Hid (∀ (j : Nat) (x : Shape) (cs : List Value), l[j]? = some x → css5[j]? = some cs → ∀ v, Below w3.heap.size w3 v → shpL.R (· < w3.heap.size) v cs x) := (fun j x cs h1 h2 v hb => shpL.keep (hR5 j x cs h1 h2) fun b h3 => (hb.block b h3).trans ((HK4.out.alloc (by omega) _).block b h3).symm)
       have HO45 : Hid (w5.ownsRow w3.heap.size 32 1 (.slice (some ⟨g4, 0, none⟩) nL c4) nL css4.flatten) := ownr_keep HO4.out (fun b hb => by
         have e : b = g4 := by simp [Value.ownBlock] at hb; omega
         rw [e]
         exact hb5.block g4 hg4b)
       have f0 := (HO45.out.cellAt (k * 1 + 0) (by show _ < nL * 1; omega)).trans (flat_get HH4.out HCs4.out 0 (by omega))
       have z0 := HO45.out.frozenAt k
       simp only [Nat.add_zero, Nat.mul_one, List.getElem?_cons_zero] at f0
       have hs5 := hb5.size
       clear hl5 hown5 hR5 hg5 hb5))
  refine wp_world fun W6 hW6 => ?_
  have hs6 : W6.heap.size ≤ w5.heap.size ∧ w5.heap.size ≤ W6.heap.size := by rw [hW6]; simp [World.setCell]
  have hk6 : ∀ b, b ≠ g4 → W6.heap[b]? = w5.heap[b]? := fun b hb => by rw [hW6]; exact Below.heap_setCell _ ⟨g4, k, none⟩ _ b hb
  have ho6 : W6.os = w5.os ∧ W6.tape = w5.tape ∧ W6.output = w5.output := by rw [hW6]; exact ⟨rfl, rfl, rfl⟩
  have HK6 : Hid (Below w3.heap.size w3 W6) := ⟨ho6.1.trans HK5.out.os, ho6.2.1.trans HK5.out.tape, ho6.2.2.trans HK5.out.output, by omega, fun b hb => (hk6 b (by omega)).trans (HK5.out.block b hb)⟩
  have HO46 : Hid (W6.ownsRow w3.heap.size 32 1 (.slice (some ⟨g4, 0, none⟩) nL c4) nL (css4.set k [.slice (some ⟨g5, 0, none⟩) ul c5]).flatten) := by
    show World.ownsRow _ _ _ _ _ _ _
    have o := (HO45.out.stored k (.slice (some ⟨g5, 0, none⟩) ul c5)).1
    have e := flat_set HH4.out HCs4.out (i := 0) (by omega) (.slice (some ⟨g5, 0, none⟩) ul c5)
    rw [Nat.add_zero, Nat.mul_one] at e
    rw [e] at o
    rw [hW6]
    exact o
  have HO56 : Hid (W6.ownsRow w4.heap.size 38 2 (.slice (some ⟨g5, 0, none⟩) ul c5) ul css5.flatten) := ownr_keep HO5.out fun b hb => hk6 b (by simp [Value.ownBlock] at hb; omega)
  have f1 : W6.cell? ⟨g4, k, none⟩ = some (.slice (some ⟨g5, 0, none⟩) ul c5) := by rw [hW6]; exact World.cell?_setCell_same _ _ _ f0
  obtain ⟨cs5, hcs5⟩ : ∃ cs, css5[0]? = some cs := ⟨css5[0]'(by rw [HL5.out]; exact hu0), List.getElem?_eq_getElem _⟩
  obtain ⟨⟨b0, s0⟩, hx0⟩ : ∃ y, l[0]? = some y := ⟨l[0]'(by rw [HUl.out]; exact hu0), List.getElem?_eq_getElem _⟩
  obtain ⟨v5, rfl, hv5⟩ := HR5.out 0 _ cs5 hx0 hcs5 w3 (Below.refl _ _)
  have HCs5 := Lib.hid hcs5
  have HX0 := Lib.hid hx0
  have HH5 : Hid (∀ cs ∈ css5, cs.length = 2) := fun cs hcs => by
    obtain ⟨i, hi⟩ := List.mem_iff_getElem?.1 hcs
    have hil : i < l.length := by rw [HUl.out, ← HL5.out]; exact (List.getElem?_eq_some_iff.1 hi).1
    exact shpL.len (HR5.out i _ cs (List.getElem?_eq_getElem hil) hi w3 (Below.refl _ _))
  have f2 := (HO56.out.cellAt (0 * 2 + 0) (by omega)).trans (flat_get HH5.out HCs5.out 0 (by omega))
  have z2 := HO56.out.frozenAt 0
  simp only [Nat.zero_mul, Nat.add_zero, List.getElem?_cons_zero] at f2
  clear hW6 ho6 r0 f0 z0 hcs5 hx0 hv5
  go_upto_region 10 with (fail)
  refine wp_world fun W7 hW7 => ?_
  have hs7 : W7.heap.size ≤ W6.heap.size ∧ W6.heap.size ≤ W7.heap.size := by rw [hW7]; simp [World.setCell]
  have hk7 : ∀ b, b ≠ g5 → W7.heap[b]? = W6.heap[b]? := fun b hb => by rw [hW7]; exact Below.heap_setCell _ ⟨g5, 0, none⟩ _ b hb
  have ho7 : W7.os = W6.os ∧ W7.tape = W6.tape ∧ W7.output = W6.output := by rw [hW7]; exact ⟨rfl, rfl, rfl⟩
  have HK7 : Hid (Below w3.heap.size w3 W7) := ⟨ho7.1.trans HK6.out.os, ho7.2.1.trans HK6.out.tape, ho7.2.2.trans HK6.out.output, by omega, fun b hb => (hk7 b (by omega)).trans (HK6.out.block b hb)⟩
  have HO57 : Hid (W7.ownsRow w4.heap.size 38 2 (.slice (some ⟨g5, 0, none⟩) ul c5) ul (css5.set 0 [.bool false, v5]).flatten) := by
    show World.ownsRow _ _ _ _ _ _ _
    have o := (HO56.out.stored 0 (.bool false)).1
    have e := flat_set HH5.out HCs5.out (i := 0) (by omega) (.bool false)
    rw [Nat.add_zero, Nat.zero_mul] at e
    rw [e] at o
    rw [hW7]
    exact o
  have HO47 : Hid (W7.ownsRow w3.heap.size 32 1 (.slice (some ⟨g4, 0, none⟩) nL c4) nL (css4.set k [.slice (some ⟨g5, 0, none⟩) ul c5]).flatten) := ownr_keep HO46.out fun b hb => hk7 b (by simp [Value.ownBlock] at hb; omega)
  clear hW7 ho7 f1 f2 z2
  go_upto_region 11 with (first
    | (at_builtin
       refine walk_append_all rowL _ rfl (.tmp 52) (.tmp 53) 29 32 rfl (.slice none 0 0) 24 Tryz.underlying29 rowG_info rfl (by decide) (by omega) W7.heap.size (.slice (some ⟨W7.heap.size, 0, none⟩) 0 0) rfl (ownr_empty W7 _ _) aL nL c L rfl HNL.out _ (HSq.out.keep fun b h1 => (HK7.out.alloc HK7.out.size _).block b h1) (by omega) (by simp) ?_
       intro v8 w8 css8 hl8 hown8 hR8 hg8
       have HO8 := Lib.hid hown8
       have HL8 := Lib.hid hl8
       have hb8 : Below W7.heap.size W7 w8 := (below_new W7 _).grown hg8 (by simp) (fun i hi => by simp [Value.ownBlock] at hi; omega)
       have HB8 := Lib.hid hb8
       have HK8 := Lib.hid (HK7.out.trans (hb8.mono HK7.out.size))
       have HR8 : Hid (∀ (j : Nat) (x : List Shape) (cs : List Value), L[j]? = some x → css8[j]? = some cs → ∀ v, Below w3.heap.size w3 v → rowL.R (· < w3.heap.size) v cs x) := fun j x cs h1 h2 v hb => rowL.keep (hR8 j x cs h1 h2) fun b h3 => (hb.block b h3).trans ((HK7.out.alloc HK7.out.size _).block b h3).symm
       have hs8 := hb8.size
       clear hl8 hown8 hR8 hg8 hb8))
  obtain ⟨g8, c8, rfl, hg8a, hg8b⟩ := ownr_some HO8.out hn1
  obtain ⟨cs8, hcs8⟩ : ∃ cs, css8[k]? = some cs := ⟨css8[k]'(by rw [HL8.out]; exact hk), List.getElem?_eq_getElem _⟩
  obtain ⟨_, _, rfl, -⟩ := HR8.out k l cs8 HLl.out hcs8 w3 (Below.refl _ _)
  have HCs8 := Lib.hid hcs8
  have HH8 : Hid (∀ cs ∈ css8, cs.length = 1) := fun cs hcs => by
    obtain ⟨i, hi⟩ := List.mem_iff_getElem?.1 hcs
    have hil : i < L.length := by rw [HNL.out, ← HL8.out]; exact (List.getElem?_eq_some_iff.1 hi).1
    exact rowL.len (HR8.out i _ cs (List.getElem?_eq_getElem hil) hi w3 (Below.refl _ _))
  have f3 := (HO8.out.cellAt (k * 1 + 0) (by show _ < nL * 1; omega)).trans (flat_get HH8.out HCs8.out 0 (by omega))
  have z3 := HO8.out.frozenAt k
  simp only [Nat.add_zero, Nat.mul_one, List.getElem?_cons_zero] at f3
  have r8 := HRow.out w8 HK8.out
  obtain ⟨q, eq1, hq⟩ : ∃ q : Nat, n % (ul : Int) = (q : Int) ∧ q < ul := ⟨(n % (ul : Int)).toNat, by have := Int.emod_nonneg n (show (ul : Int) ≠ 0 by omega); omega, by have := Int.emod_nonneg n (show (ul : Int) ≠ 0 by omega); have := Int.emod_lt_of_pos n (show (0 : Int) < (ul : Int) by omega); omega⟩
  have eq2 : Int.tmod n (ul : Int) = (q : Int) := by rw [Int.tmod_eq_emod_of_nonneg hn.1]; exact eq1
  have unz : ¬ (ul : Int) = 0 := by omega
  have q0 : (0 : Int) ≤ (q : Int) := by omega
  have q1 : (q : Int) ≤ (dl : Int) := by omega
  clear hcs8
  go_wp2_with fail
  go_region
  go_wp2_with fail
  refine wp_world fun W9 hW9 => ?_
  have hs9 : W9.heap.size ≤ w8.heap.size ∧ w8.heap.size ≤ W9.heap.size := by rw [hW9]; simp [World.setCell, World.drew]
  have hk9 : ∀ b, b ≠ g8 → W9.heap[b]? = w8.heap[b]? := fun b hb => by rw [hW9]; exact Below.heap_setCell _ ⟨g8, k, none⟩ _ b hb
  have ho9 : W9.os = w8.os ∧ W9.tape = w8.tape ∧ W9.output = w8.output := by rw [hW9]; exact ⟨rfl, rfl, rfl⟩
  have hs78 := HB8.out.size
  have HK9 : Hid (Below w3.heap.size w3 W9) := ⟨ho9.1.trans HK8.out.os, ho9.2.1.trans HK8.out.tape, ho9.2.2.trans HK8.out.output, by omega, fun b hb => (hk9 b (by omega)).trans (HK8.out.block b hb)⟩
  have ho89 : W9.ownsRow W7.heap.size 32 1 (.slice (some ⟨g8, 0, none⟩) nL c8) nL (css8.set k [.slice (some aD) q dl]).flatten := by
    have o := (HO8.out.stored k (.slice (some aD) q dl)).1
    have e := flat_set HH8.out HCs8.out (i := 0) (by omega) (.slice (some aD) q dl)
    rw [Nat.add_zero, Nat.mul_one] at e
    rw [show rowL.k = 1 from rfl] at o
    rw [e] at o
    rw [hW9]
    exact o
  have hk79 : ∀ b, b < W7.heap.size → W9.heap[b]? = W7.heap[b]? := fun b hb => (hk9 b (by omega)).trans (HB8.out.block b hb)
  have ho49 : W9.ownsRow w3.heap.size 32 1 (.slice (some ⟨g4, 0, none⟩) nL c4) nL (css4.set k [.slice (some ⟨g5, 0, none⟩) ul c5]).flatten := ownr_keep HO47.out fun b hb => hk79 b (by simp [Value.ownBlock] at hb; omega)
  have ho59 : W9.ownsRow w4.heap.size 38 2 (.slice (some ⟨g5, 0, none⟩) ul c5) ul (css5.set 0 [.bool false, v5]).flatten := ownr_keep HO57.out fun b hb => hk79 b (by simp [Value.ownBlock] at hb; omega)
  have hwide : ∀ b, b < w3.heap.size → b < W9.heap.size := fun b hb => by omega
  have hlA : (l.set 0 (false, s0)).length = ul := by rw [List.length_set]; exact HUl.out
  have hRA : rowL.R (· < W9.heap.size) W9 [.slice (some ⟨g5, 0, none⟩) ul c5] (l.set 0 (false, s0)) := by
    refine raw_sl (base := w4.heap.size) (ty := 38) (css := css5.set 0 [.bool false, v5]) (by rw [List.length_set, HL5.out, hlA]) (by rw [hlA]; exact ho59) (fun i x cs h1 h2 => ?_) (fun b _ hb => hb)
    by_cases e : i = 0
    · subst e
      rw [List.getElem?_set_self (by rw [HUl.out]; exact hu0)] at h1
      rw [List.getElem?_set_self (by rw [HL5.out]; exact hu0)] at h2
      injection h1 with h1
      injection h2 with h2
      subst h1 h2
      obtain ⟨v, e2, hst⟩ := HR5.out 0 _ _ HX0.out HCs5.out W9 HK9.out
      simp only [List.cons.injEq, and_true, true_and] at e2
      subst e2
      exact ⟨_, rfl, stkL.wide hst hwide⟩
    · rw [List.getElem?_set_ne (fun h => e h.symm)] at h1 h2
      exact shpL.wide (HR5.out i x cs h1 h2 W9 HK9.out) hwide
  have hlL : (L.set k (l.set 0 (false, s0))).length = nL := by rw [List.length_set]; exact HNL.out
  have SA : Hid (Sq rowL (· < W9.heap.size) W9 (some ⟨g4, 0, none⟩) (L.set k (l.set 0 (false, s0)))) := by
    refine sq_of_sl (n := nL) (c := c4) (raw_sl (base := w3.heap.size) (ty := 32) (css := css4.set k [.slice (some ⟨g5, 0, none⟩) ul c5]) (by rw [List.length_set, HL4.out, hlL]) (by rw [hlL]; exact ho49) (fun i x cs h1 h2 => ?_) (fun b _ hb => hb))
    by_cases e : i = k
    · subst e
      rw [List.getElem?_set_self (by rw [HNL.out]; exact hk)] at h1
      rw [List.getElem?_set_self (by rw [HL4.out]; exact hk)] at h2
      injection h1 with h1
      injection h2 with h2
      subst h1 h2
      exact hRA
    · rw [List.getElem?_set_ne (fun h => e h.symm)] at h1 h2
      exact rowL.wide (HR4.out i x cs h1 h2 W9 HK9.out) hwide
  have hlq : (l.take q).length = q := by rw [List.length_take, HUl.out]; omega
  have hRB : rowL.R (· < W9.heap.size) W9 [.slice (some aD) q dl] (l.take q) :=
    ⟨some aD, dl, by rw [hlq], by omega, by unfold maxLen; omega, (sq_low HRsq.out HK9.out).take q⟩
  have hlL2 : (L.set k (l.take q)).length = nL := by rw [List.length_set]; exact HNL.out
  have SB : Hid (Sq rowL (· < W9.heap.size) W9 (some ⟨g8, 0, none⟩) (L.set k (l.take q))) := by
    refine sq_of_sl (n := nL) (c := c8) (raw_sl (base := W7.heap.size) (ty := 32) (css := css8.set k [.slice (some aD) q dl]) (by rw [List.length_set, HL8.out, hlL2]) (by rw [hlL2]; exact ho89) (fun i x cs h1 h2 => ?_) (fun b _ hb => hb))
    by_cases e : i = k
    · subst e
      rw [List.getElem?_set_self (by rw [HNL.out]; exact hk)] at h1
      rw [List.getElem?_set_self (by rw [HL8.out]; exact hk)] at h2
      injection h1 with h1
      injection h2 with h2
      subst h1 h2
      exact hRB
    · rw [List.getElem?_set_ne (fun h => e h.symm)] at h1 h2
      exact rowL.wide (HR8.out i x cs h1 h2 W9 HK9.out) hwide
  have hkm : k < m.funcs.length := by rw [← HLe.out.len, HNL.out]; exact hk
  have N1 : ¬ RightM m (L.set k (l.set 0 (false, s0))) := fun h => by
    have h1 := (h.at_ k fn _ HFn.out (List.getElem?_set_self (by rw [HNL.out]; exact hk))).2.2.zero
    rw [toS_no (List.getElem?_set_self (by rw [HUl.out]; exact hu0))] at h1
    cases h1
  have N2 : ¬ RightM m (L.set k (l.take q)) := fun h => by
    have h1 := (h.at_ k fn _ HFn.out (List.getElem?_set_self (by rw [HNL.out]; exact hk))).1
    rw [hlq, ← HLk.out.len, HUl.out] at h1
    omega
  have N3 : ¬ RightM m (L.take k) := fun h => by
    have h1 := h.len
    rw [List.length_take, HNL.out] at h1
    omega
  have HB9 : Hid (Below W.heap.size W W9) := HB3.out.trans (HK9.out.mono hs3)
  have hB9 : ∀ v, Below W9.heap.size W9 v → Below w.heap.size w v := fun v hb => HBB.out _ (HB9.out.trans (hb.mono HB9.out.size))
  have J0 : Hid (∀ v, Below W9.heap.size W9 v → Calls Tryz.prog 7 #[.agg #[.slice A0 n0 c0, .slice A1 n1 c1, .slice A2 n2 c2, .slice A3 n3 c3, .slice A4 n4 cm], .slice (some aL) nL c] v fun e w' => e = .returned (.bool true) ∧ Below v.heap.size v w') := fun v hb => JR.out v (some aL) nL c L true (hB9 v hb) (sq_low HSq.out (HK9.out.trans (hb.mono HK9.out.size))) HNL.out (by omega) ⟨fun _ => ⟨HMb.out, HLe.out.right⟩, fun _ => rfl⟩
  have J1 : Hid (∀ v, Below W9.heap.size W9 v → Calls Tryz.prog 7 #[.agg #[.slice A0 n0 c0, .slice A1 n1 c1, .slice A2 n2 c2, .slice A3 n3 c3, .slice A4 n4 cm], .slice (some ⟨g4, 0, none⟩) nL c4] v fun e w' => e = .returned (.bool false) ∧ Below v.heap.size v w') := fun v hb => JR.out v (some ⟨g4, 0, none⟩) nL c4 _ false (hB9 v hb) (sq_low SA.out hb) hlL (by omega) ⟨fun h => (by cases h), fun h => absurd h.2 N1⟩
  have J2 : Hid (∀ v, Below W9.heap.size W9 v → Calls Tryz.prog 7 #[.agg #[.slice A0 n0 c0, .slice A1 n1 c1, .slice A2 n2 c2, .slice A3 n3 c3, .slice A4 n4 cm], .slice (some ⟨g8, 0, none⟩) nL c8] v fun e w' => e = .returned (.bool false) ∧ Below v.heap.size v w') := fun v hb => JR.out v (some ⟨g8, 0, none⟩) nL c8 _ false (hB9 v hb) (sq_low SB.out hb) hlL2 (by omega) ⟨fun h => (by cases h), fun h => absurd h.2 N2⟩
  have J3 : Hid (∀ v, Below W9.heap.size W9 v → Calls Tryz.prog 7 #[.agg #[.slice A0 n0 c0, .slice A1 n1 c1, .slice A2 n2 c2, .slice A3 n3 c3, .slice A4 n4 cm], .slice (some aL) k c] v fun e w' => e = .returned (.bool false) ∧ Below v.heap.size v w') := fun v hb => JR.out v (some aL) k c _ false (hB9 v hb) ((sq_low HSq.out (HK9.out.trans (hb.mono HK9.out.size))).take k) (by rw [List.length_take, HNL.out]; omega) (by omega) ⟨fun h => (by cases h), fun h => absurd h.2 N3⟩
  have kc : (k : Int) ≤ (c : Int) := by omega
  have HBR : Hid (∀ dq osq, Below W9.heap.size W9 (Go.Sort.grow (redrawn W9 dq) osq)) := fun dq osq => below_regrown W9 dq osq
  have HFin : Hid (∀ v, Below W9.heap.size W9 v → Below w.heap.size w v) := hB9
  obtain ⟨y0, y1, y2, y3, y4⟩ := HCV.out W9 HB9.out
  have r0 := cell_regrown y0
  have r1 := cell_regrown y1
  have r2 := cell_regrown y2
  have r3 := cell_regrown y3
  have r4 := cell_regrown y4
  clear hW9 hs9 hk9 ho9 ho89 hk79 ho49 ho59 hwide hlA hRA hlL hlq hRB hlL2 hkm N1 N2 N3 hB9 y0 y1 y2 y3 y4 f3 z3 r8 eq1 eq2
  refine wp_region_quiet_below (by kernel_rfl) (by kernel_rfl) ?_
  repeat (quiet_step (first | with_reducible exact Calls.regrown_of (AN.out _) | with_reducible exact Calls.regrown_of (J0.out _ (HBR.out _ _)) | with_reducible exact Calls.regrown_of (J1.out _ (HBR.out _ _)) | with_reducible exact Calls.regrown_of (J2.out _ (HBR.out _ _)) | with_reducible exact Calls.regrown_of (J3.out _ (HBR.out _ _))))
  refine wpQuiet_nil ?_
  intro _ hw'
  obtain ⟨⟨dq, osq⟩, hw''⟩ := hw'
  subst hw''
  have HX2 := Lib.hid (HFin.out _ (HBR.out dq osq))
  go_wp2_with fail
  go_ret
  exact ⟨by simp, HX2.out⟩

set_option maxRecDepth 100000 in
theorem lifted (os : Os) (started : os.Started) (H : Type) (enc : TypeId × Value → H) :
    ReturnsInHanded {} Tryz.checked os 4 .any (Rows.judgeFirstSpec.pre6 enc Tryz.prog Tryz.f4 Rows.judgeFirstRow.domain false) (Rows.judgeFirstSpec.post enc Tryz.prog Tryz.f4 false true false false) := by
  refine returnsInHanded_of_change_sized (C := Tryz.checked) own started (by kernel_rfl) Tryz.func4
    (ChangeSpec.witness6 (enc := enc) (C := Tryz.checked) false ⟨#[], #[.agg #[.slice none 0 0, .slice none 0 0, .slice none 0 0, .slice none 0 0, .slice none 0 0], .int .u8 0, .int .u8 0], []⟩ 8 (by kernel_rfl) (by kernel_rfl) (by kernel_rfl) (by kernel_rfl)) ?_
  intro W base args ds gs before hval0 hW hcnd hwz _
  have hval : ∀ (j : Nat) t v, Tryz.f4.params[j]? = some t → args[j]? = some v → Value.okWide Tryz.prog W .any base t v := hval0
  have hW' := hW
  obtain ⟨p, q, hA0, hV, rfl, hfz, hnd⟩ := hW
  have hA : DataW.TrodAll enc Tryz.prog W 0 (fun _ => true) true Tryz.f4.params.toList args.toList ds p := hA0
  rw [Tryz.params4] at hA hval
  obtain ⟨v0, vs0, d0, ds0, p0, q0, hargs, rfl, rfl, h0, r0⟩ := trodAll_cons hA
  obtain ⟨v1, vs1, d1, ds1, p1, q1, rfl, rfl, rfl, h1, r1⟩ := trodAll_cons r0
  obtain ⟨v2, vs2, d2, ds2, p2, q2, rfl, rfl, rfl, h2, r2⟩ := trodAll_cons r1
  obtain ⟨rfl, rfl, rfl⟩ := trodAll_nil r2
  obtain rfl : args = #[v0, v1, v2] := by cases args; simp_all
  obtain ⟨rfl, rfl⟩ := trodVars_none hV
  have lt0 : ∀ x ∈ p0, x.block < W.heap.size := by obtain ⟨m, hm⟩ := h0; exact DataW.trod_lt m _ _ _ hm
  have hwz0 : ∀ n ∈ d0.weights Tryz.prog 28, n ≤ reachBytes := fun n hn => by simpa using List.all_eq_true.1 hwz n (DataW.weights_mem_each (j := 0) (t := 28) (d := d0) (by first | rfl | kernel_rfl) rfl n hn)
  obtain ⟨cs0, m0, rfl, hm0, hz0⟩ := open_modZ h0 hwz0
  obtain ⟨a1, rfl, rfl, rfl, w1⟩ := open_int Tryz.underlying5 (hval 1 5 v1 rfl rfl) h1
  obtain ⟨a2, rfl, rfl, rfl, w2⟩ := open_int Tryz.underlying5 (hval 2 5 v2 rfl rfl) h2
  clear hA0 hval0
  refine (walk cs0 m0 a1 a2 W hm0 hz0 (bounds_u8 w1) (bounds_u8 w2)).mono fun e W' ⟨he, bel⟩ => ?_
  subst he
  exact ⟨_, rfl, _, _, _, [], _, [], hW', trodAll_mk1 (shut_bool Tryz.underlying4 _), (trodAll_cons_mk (Below.trod laidOut (by kernel_rfl) (of_decide_eq_true (by kernel_rfl)) h0 bel lt0) (trodAll_cons_mk (shut_int Tryz.underlying5 w1) (trodAll_cons_mk (shut_int Tryz.underlying5 w2) trodAll_mk0))), rfl, bel.frame _, fun h => by cases h⟩

theorem over : Rows.judgeFirstRow.holds Tryz.pinned (OpenSpec.ofChange Rows.judgeFirstSpec) :=
  OpenClaim.holds_of_wide 4 Tryz.f4 rfl rfl rfl rfl rfl rfl rfl ⟨rfl, rfl, rfl, rfl, rfl⟩ rfl rfl rfl rfl rfl (by kernel_rfl) Tryz.func4 (by kernel_rfl)
    (of_decide_eq_true (by kernel_rfl)) (by unfold Func.isWrapper; first | (rw [if_pos (by decide +kernel)]; kernel_rfl) | (rw [if_neg (by decide +kernel)]; exact ⟨rfl, rfl⟩))
    (fun os started H enc _ => lifted os started H enc)

/-- The statement. -/
theorem proved : Rows.JudgeFirstSaid := over
end Go.Proofs.YtikhhcmfjncabaaGreat.judgeFirst
