/-
  What the document's own SameModules does: whether two modules are the same. Conditions: none but that there are such.
-/
import Derived.Test.YtngjnkkdhjholaaGreatQ18
import Derived.Test.YtngjnkkdhjholaaGreatQ19
import Derived.Deep.RegionHeld3
import Derived.Deep.DeepCutAuto
import Derived.BigQuiet
namespace Go.Proofs.YtngjnkkdhjholaaGreat
open Go.RowKit
set_option linter.unusedSimpArgs false
set_option linter.unusedVariables false

theorem bc {W W' : World} {p : Addr} {v : Value} (c : W.cell? p = some v) (h : Below W.heap.size W W') : W'.cell? p = some v := by
  rw [h.cell (World.block_lt_of_cell? W p c)]
  exact c
theorem keep12 {W W' : World} (hb : Below W.heap.size W W') {p0 p1 p2 p3 p4 p5 p6 p7 p8 p9 p10 p11 : Addr} {v0 v1 v2 v3 v4 v5 v6 v7 v8 v9 v10 v11 : Value} (h : W.cell? p0 = some v0 ∧ W.cell? p1 = some v1 ∧ W.cell? p2 = some v2 ∧ W.cell? p3 = some v3 ∧ W.cell? p4 = some v4 ∧ W.cell? p5 = some v5 ∧ W.cell? p6 = some v6 ∧ W.cell? p7 = some v7 ∧ W.cell? p8 = some v8 ∧ W.cell? p9 = some v9 ∧ W.cell? p10 = some v10 ∧ W.cell? p11 = some v11) : W'.cell? p0 = some v0 ∧ W'.cell? p1 = some v1 ∧ W'.cell? p2 = some v2 ∧ W'.cell? p3 = some v3 ∧ W'.cell? p4 = some v4 ∧ W'.cell? p5 = some v5 ∧ W'.cell? p6 = some v6 ∧ W'.cell? p7 = some v7 ∧ W'.cell? p8 = some v8 ∧ W'.cell? p9 = some v9 ∧ W'.cell? p10 = some v10 ∧ W'.cell? p11 = some v11 := by
  obtain ⟨h0, h1, h2, h3, h4, h5, h6, h7, h8, h9, h10, h11⟩ := h
  exact ⟨bc h0 hb, bc h1 hb, bc h2 hb, bc h3 hb, bc h4 hb, bc h5 hb, bc h6 hb, bc h7 hb, bc h8 hb, bc h9 hb, bc h10 hb, bc h11 hb⟩
theorem quiet_at {P : Program} {f : FuncId} {args : Array Value} {w : World} {r : Nat} {v : Value}
    (h : Calls P f args (w.drewN r) fun e w' => e = .returned v ∧ ∃ m, w' = (w.drewN r).drewN m) : Calls P f args (w.drewN r) fun e w'' => e = .returned v ∧ ∃ m, w'' = w.drewN m :=
  h.mono fun _ _ ⟨he, m, hm⟩ => ⟨he, r + m, by rw [hm, World.drewN_drewN]⟩
theorem below_drews {B : Nat} {w w1 : World} (h : Below B w w1) (q : Nat) (hB : B ≤ w1.heap.size) : Below B w (w1.drewN q) := h.trans ((below_drewN w1 q).mono hB)
theorem sq_drew {α : Type} {L : Lay α} {S : Nat → Prop} {w : World} {A : Option Addr} {xs : List α} (h : Sq L S w A xs) (q : Nat) : Sq L S (w.drewN q) A xs := h.keep fun _ _ => rfl

set_option maxRecDepth 100000 in
set_option maxHeartbeats 8000000 in
theorem refSame_any (cs cs2 : List Value) (x y : Mod) (w : World) (h : modL.R (· < w.heap.size) w cs x) (h' : modL.R (· < w.heap.size) w cs2 y) : Calls Tryz.prog 13 #[vAgg cs, vAgg cs2] w (Tells (eqB x y) w) := by
  obtain ⟨_, _, _, _, _, rfl, ⟨A0, d0, e0, l0, m0, s0⟩, ⟨A1, d1, e1, l1, m1, s1⟩, ⟨A2, d2, e2, l2, m2, s2⟩, ⟨A3, d3, e3, l3, m3, s3⟩, ⟨A4, d4, e4, l4, m4, s4⟩⟩ := h
  obtain ⟨_, _, _, _, _, rfl, ⟨B0, g0, f0, k0, j0, t0⟩, ⟨B1, g1, f1, k1, j1, t1⟩, ⟨B2, g2, f2, k2, j2, t2⟩, ⟨B3, g3, f3, k3, j3, t3⟩, ⟨B4, g4, f4, k4, j4, t4⟩⟩ := h'
  simp only [List.cons.injEq, and_true] at e0 e1 e2 e3 e4 f0 f1 f2 f3 f4
  subst e0 e1 e2 e3 e4 f0 f1 f2 f3 f4
  unfold maxLen at m0 m1 m2 m3 m4 j0 j1 j2 j3 j4
  show Calls Tryz.prog 13 #[.agg #[.slice A0 x.recs.length d0, .slice A1 x.funcs.length d1, .slice A2 x.imps.length d2, .slice A3 x.ints.length d3, .slice A4 x.texts.length d4], .agg #[.slice B0 y.recs.length g0, .slice B1 y.funcs.length g1, .slice B2 y.imps.length g2, .slice B3 y.ints.length g3, .slice B4 y.texts.length g4]] w (Tells (eqB x y) w)
  rw [eqB_mod]
  obtain ⟨n0, hn0⟩ : ∃ n, x.recs.length = n := ⟨_, rfl⟩
  obtain ⟨q0, hq0⟩ : ∃ n, y.recs.length = n := ⟨_, rfl⟩
  have HL0 := Lib.hid hn0
  have HM0 := Lib.hid hq0
  have HS0 := Lib.hid s0
  have HT0 := Lib.hid t0
  obtain ⟨n1, hn1⟩ : ∃ n, x.funcs.length = n := ⟨_, rfl⟩
  obtain ⟨q1, hq1⟩ : ∃ n, y.funcs.length = n := ⟨_, rfl⟩
  have HL1 := Lib.hid hn1
  have HM1 := Lib.hid hq1
  have HS1 := Lib.hid s1
  have HT1 := Lib.hid t1
  obtain ⟨n2, hn2⟩ : ∃ n, x.imps.length = n := ⟨_, rfl⟩
  obtain ⟨q2, hq2⟩ : ∃ n, y.imps.length = n := ⟨_, rfl⟩
  have HL2 := Lib.hid hn2
  have HM2 := Lib.hid hq2
  have HS2 := Lib.hid s2
  have HT2 := Lib.hid t2
  obtain ⟨n3, hn3⟩ : ∃ n, x.ints.length = n := ⟨_, rfl⟩
  obtain ⟨q3, hq3⟩ : ∃ n, y.ints.length = n := ⟨_, rfl⟩
  have HL3 := Lib.hid hn3
  have HM3 := Lib.hid hq3
  have HS3 := Lib.hid s3
  have HT3 := Lib.hid t3
  obtain ⟨n4, hn4⟩ : ∃ n, x.texts.length = n := ⟨_, rfl⟩
  obtain ⟨q4, hq4⟩ : ∃ n, y.texts.length = n := ⟨_, rfl⟩
  have HL4 := Lib.hid hn4
  have HM4 := Lib.hid hq4
  have HS4 := Lib.hid s4
  have HT4 := Lib.hid t4
  rw [hn0, hn1, hn2, hn3, hn4, hq0, hq1, hq2, hq3, hq4]
  rw [hn0] at l0
  rw [hq0] at k0
  rw [hn1] at l1
  rw [hq1] at k1
  rw [hn2] at l2
  rw [hq2] at k2
  rw [hn3] at l3
  rw [hq3] at k3
  rw [hn4] at l4
  rw [hq4] at k4
  clear hn0 hq0 s0 t0 hn1 hq1 s1 t1 hn2 hq2 s2 t2 hn3 hq3 s3 t3 hn4 hq4 s4 t4
  have HB0 : Hid (Below w.heap.size w ((w.alloc (.cells #[.slice A0 n0 d0, .slice A1 n1 d1, .slice A2 n2 d2, .slice A3 n3 d3, .slice A4 n4 d4] 28)).alloc (.cells #[.slice B0 q0 g0, .slice B1 q1 g1, .slice B2 q2 g2, .slice B3 q3 g3, .slice B4 q4 g4] 28))) := ((Below.refl _ _).alloc (Nat.le_refl _) _).alloc (by simp) _
  have HC0 : Hid ((C5 w.heap.size (.slice A0 n0 d0) (.slice A1 n1 d1) (.slice A2 n2 d2) (.slice A3 n3 d3) (.slice A4 n4 d4) ((w.alloc (.cells #[.slice A0 n0 d0, .slice A1 n1 d1, .slice A2 n2 d2, .slice A3 n3 d3, .slice A4 n4 d4] 28)).alloc (.cells #[.slice B0 q0 g0, .slice B1 q1 g1, .slice B2 q2 g2, .slice B3 q3 g3, .slice B4 q4 g4] 28))) ∧ (C5 (w.heap.size + 1) (.slice B0 q0 g0) (.slice B1 q1 g1) (.slice B2 q2 g2) (.slice B3 q3 g3) (.slice B4 q4 g4) ((w.alloc (.cells #[.slice A0 n0 d0, .slice A1 n1 d1, .slice A2 n2 d2, .slice A3 n3 d3, .slice A4 n4 d4] 28)).alloc (.cells #[.slice B0 q0 g0, .slice B1 q1 g1, .slice B2 q2 g2, .slice B3 q3 g3, .slice B4 q4 g4] 28)))) := by show _ ∧ _; simp [C5, go_sem]
  by_cases h0 : n0 = q0
  rotate_left
  · have b0 : ((n0 : Int) != (q0 : Int)) = true := by simp; omega
    have c0 : (n0 != q0) = true := by simpa using h0
    have HNE := Lib.hid h0
    clear h0
    go_enter Tryz.func13, Tryz.ntmps13
    try simp only [List.append]
    go_wp2_with fail
    go_ret
    refine ⟨?_, HB0.out⟩
    rw [eqB_ne (show x.recs ≠ y.recs from fun e => HNE.out (by rw [← HL0.out, ← HM0.out, e]))]
    simp
  subst h0
  by_cases h1 : n1 = q1
  rotate_left
  · have b1 : ((n1 : Int) != (q1 : Int)) = true := by simp; omega
    have c1 : (n1 != q1) = true := by simpa using h1
    have HNE := Lib.hid h1
    clear h1
    go_enter Tryz.func13, Tryz.ntmps13
    try simp only [List.append]
    go_wp2_with fail
    go_ret
    refine ⟨?_, HB0.out⟩
    rw [eqB_ne (show x.funcs ≠ y.funcs from fun e => HNE.out (by rw [← HL1.out, ← HM1.out, e]))]
    simp
  subst h1
  by_cases h2 : n2 = q2
  rotate_left
  · have b2 : ((n2 : Int) != (q2 : Int)) = true := by simp; omega
    have c2 : (n2 != q2) = true := by simpa using h2
    have HNE := Lib.hid h2
    clear h2
    go_enter Tryz.func13, Tryz.ntmps13
    try simp only [List.append]
    go_wp2_with fail
    go_ret
    refine ⟨?_, HB0.out⟩
    rw [eqB_ne (show x.imps ≠ y.imps from fun e => HNE.out (by rw [← HL2.out, ← HM2.out, e]))]
    simp
  subst h2
  by_cases h3 : n3 = q3
  rotate_left
  · have b3 : ((n3 : Int) != (q3 : Int)) = true := by simp; omega
    have c3 : (n3 != q3) = true := by simpa using h3
    have HNE := Lib.hid h3
    clear h3
    go_enter Tryz.func13, Tryz.ntmps13
    try simp only [List.append]
    go_wp2_with fail
    go_ret
    refine ⟨?_, HB0.out⟩
    rw [eqB_ne (show x.ints ≠ y.ints from fun e => HNE.out (by rw [← HL3.out, ← HM3.out, e]))]
    simp
  subst h3
  by_cases h4 : n4 = q4
  rotate_left
  · have b4 : ((n4 : Int) != (q4 : Int)) = true := by simp; omega
    have c4 : (n4 != q4) = true := by simpa using h4
    have HNE := Lib.hid h4
    clear h4
    go_enter Tryz.func13, Tryz.ntmps13
    try simp only [List.append]
    go_wp2_with fail
    go_ret
    refine ⟨?_, HB0.out⟩
    rw [eqB_ne (show x.texts ≠ y.texts from fun e => HNE.out (by rw [← HL4.out, ← HM4.out, e]))]
    simp
  subst h4
  go_enter Tryz.func13, Tryz.ntmps13
  try simp only [List.append]
  go_wp2_with fail
  refine wp_world fun W hW => ?_
  have HBW : Hid (Below w.heap.size w W) := by show Below _ _ _; rw [hW]; exact HB0.out
  have HCW : Hid ((C5 w.heap.size (.slice A0 n0 d0) (.slice A1 n1 d1) (.slice A2 n2 d2) (.slice A3 n3 d3) (.slice A4 n4 d4) W) ∧ (C5 (w.heap.size + 1) (.slice B0 n0 g0) (.slice B1 n1 g1) (.slice B2 n2 g2) (.slice B3 n3 g3) (.slice B4 n4 g4) W)) := by show _ ∧ _; rw [hW]; exact HC0.out
  have hWz : w.heap.size + 1 < W.heap.size := by rw [hW]; simp
  have HZ : Hid (∀ wr, Below W.heap.size W wr → (C5 w.heap.size (.slice A0 n0 d0) (.slice A1 n1 d1) (.slice A2 n2 d2) (.slice A3 n3 d3) (.slice A4 n4 d4) wr) ∧ (C5 (w.heap.size + 1) (.slice B0 n0 g0) (.slice B1 n1 g1) (.slice B2 n2 g2) (.slice B3 n3 g3) (.slice B4 n4 g4) wr)) := fun wr hb => ⟨HCW.out.1.below hb (by omega), HCW.out.2.below hb hWz⟩
  have HFin : Hid (∀ wr, Below W.heap.size W wr → Below w.heap.size w wr) := fun wr hb => HBW.out.trans (hb.mono HBW.out.size)
  clear hW HB0 HC0 HCW
  have HA0 := Lib.hid ((HS0.out.below HBW.out (Nat.le_refl _)).wide (T := (· < W.heap.size)) fun b hb => Nat.lt_of_lt_of_le hb HBW.out.size)
  have HD0 := Lib.hid ((HT0.out.below HBW.out (Nat.le_refl _)).wide (T := (· < W.heap.size)) fun b hb => Nat.lt_of_lt_of_le hb HBW.out.size)
  clear HS0 HT0
  have HA1 := Lib.hid ((HS1.out.below HBW.out (Nat.le_refl _)).wide (T := (· < W.heap.size)) fun b hb => Nat.lt_of_lt_of_le hb HBW.out.size)
  have HD1 := Lib.hid ((HT1.out.below HBW.out (Nat.le_refl _)).wide (T := (· < W.heap.size)) fun b hb => Nat.lt_of_lt_of_le hb HBW.out.size)
  clear HS1 HT1
  have HA2 := Lib.hid ((HS2.out.below HBW.out (Nat.le_refl _)).wide (T := (· < W.heap.size)) fun b hb => Nat.lt_of_lt_of_le hb HBW.out.size)
  have HD2 := Lib.hid ((HT2.out.below HBW.out (Nat.le_refl _)).wide (T := (· < W.heap.size)) fun b hb => Nat.lt_of_lt_of_le hb HBW.out.size)
  clear HS2 HT2
  have HA3 := Lib.hid ((HS3.out.below HBW.out (Nat.le_refl _)).wide (T := (· < W.heap.size)) fun b hb => Nat.lt_of_lt_of_le hb HBW.out.size)
  have HD3 := Lib.hid ((HT3.out.below HBW.out (Nat.le_refl _)).wide (T := (· < W.heap.size)) fun b hb => Nat.lt_of_lt_of_le hb HBW.out.size)
  clear HS3 HT3
  have HA4 := Lib.hid ((HS4.out.below HBW.out (Nat.le_refl _)).wide (T := (· < W.heap.size)) fun b hb => Nat.lt_of_lt_of_le hb HBW.out.size)
  have HD4 := Lib.hid ((HT4.out.below HBW.out (Nat.le_refl _)).wide (T := (· < W.heap.size)) fun b hb => Nat.lt_of_lt_of_le hb HBW.out.size)
  clear HS4 HT4
  go_loopw [5] (fun i wr => ∃ k : Nat, k ≤ n0 ∧ i = .int .i64 (k : Nat) ∧ x.recs.take k = y.recs.take k ∧ Below W.heap.size W wr) (fun i _ => n0 - (intOf i).toNat)
  case atStart => exact ⟨0, Nat.zero_le _, rfl, by simp, Below.refl _ _⟩
  case round =>
    obtain ⟨k, hk, rfl, heq, hbel⟩ := hrel
    have HE := Lib.hid heq
    have HB := Lib.hid hbel
    have hs := hbel.size
    clear heq hbel
    by_cases hlt : k < n0
    · skip
      obtain ⟨p, hp⟩ : ∃ p, x.recs[k]? = some p := ⟨x.recs[k]'(by rw [HL0.out]; exact hlt), List.getElem?_eq_getElem _⟩
      obtain ⟨r, hr⟩ : ∃ r, y.recs[k]? = some r := ⟨y.recs[k]'(by rw [HM0.out]; exact hlt), List.getElem?_eq_getElem _⟩
      obtain ⟨a, cs, ea, hab, hc, hR⟩ := HA0.out.at hp
      obtain ⟨b, cs2, eb, hbb, hc2, hR2⟩ := HD0.out.at hr
      have HP := Lib.hid hp
      have HR := Lib.hid hr
      clear hp hr
      subst ea eb
      obtain ⟨P0, c3, rfl, w1, w2, w3⟩ := hR
      obtain ⟨P1, c4, rfl, w4, w5, w6⟩ := hR2
      unfold maxLen at w2 w5
      have ca0 := (HB.out.cell (p := a.add k) (by rw [addBlock]; exact hab)).trans (one_cell (K := tysL.k) rfl (hc 0 _ rfl))
      have cb0 := (HB.out.cell (p := b.add k) (by rw [addBlock]; exact hbb)).trans (one_cell (K := tysL.k) rfl (hc2 0 _ rfl))
      have TC : Hid (∀ q, Calls Tryz.prog 45 #[.slice P0 p.length c3, .slice P1 r.length c4] (wr.drewN q) fun e w' => e = .returned (.bool (eqB p r)) ∧ ∃ m, w' = (wr.drewN q).drewN m) := fun q => refTypes_any P0 P1 _ _ c3 c4 p r _ _ _ rfl rfl (sq_drew (w3.below HB.out (Nat.le_refl _)) q) (sq_drew (w6.below HB.out (Nat.le_refl _)) q) (by omega) (by omega)
      clear hc hc2 w3 w6 w1 w2 w4 w5
      obtain ⟨⟨z0, z1, z2, z3, z4⟩, y0, y1, y2, y3, y4⟩ := HZ.out wr HB.out
      have k0' : 0 ≤ (k : Int) := by omega
      generalize p.length = u9 at *
      generalize r.length = v9 at *
      cases hg : eqB p r
      all_goals
        rw [hg] at TC
        have HG := Lib.hid hg
        clear hg
        go_wp2_with fail
        go_quiet (first | (go_at_call 45; refine quiet_at (TC.out _)))
        go_wp2_with fail
      · skip
        go_ret
        refine ⟨?_, HFin.out _ (below_drews HB.out _ hs)⟩
        rw [eqB_ne (get_ne HP.out HR.out (eqB_false HG.out) : x.recs ≠ y.recs)]
        simp
      · skip
        refine ⟨⟨k + 1, by omega, by simp, take_same HE.out HP.out HR.out (eqB_iff.1 HG.out), below_drews HB.out _ hs⟩, by simp [intOf]; omega⟩
    · obtain rfl : k = n0 := by omega
      obtain ⟨⟨z0, z1, z2, z3, z4⟩, y0, y1, y2, y3, y4⟩ := HZ.out wr HB.out
      have k0' : 0 ≤ (k : Int) := by omega
      have EQ0 : Hid (x.recs = y.recs) := by
        have e := HE.out
        rw [List.take_of_length_le (by rw [HL0.out]; exact Nat.le_refl _), List.take_of_length_le (by rw [HM0.out]; exact Nat.le_refl _)] at e
        exact e
      go_wp2_with fail
      go_loopw [6] (fun i wr => ∃ k : Nat, k ≤ n1 ∧ i = .int .i64 (k : Nat) ∧ x.funcs.take k = y.funcs.take k ∧ Below W.heap.size W wr) (fun i _ => n1 - (intOf i).toNat)
      case atStart => exact ⟨0, Nat.zero_le _, rfl, by simp, HB.out⟩
      case round =>
        obtain ⟨k, hk, rfl, heq, hbel⟩ := hrel
        clear HB HE
        have HE := Lib.hid heq
        have HB := Lib.hid hbel
        have hs := hbel.size
        clear heq hbel
        by_cases hlt : k < n1
        · skip
          obtain ⟨p, hp⟩ : ∃ p, x.funcs[k]? = some p := ⟨x.funcs[k]'(by rw [HL1.out]; exact hlt), List.getElem?_eq_getElem _⟩
          obtain ⟨r, hr⟩ : ∃ r, y.funcs[k]? = some r := ⟨y.funcs[k]'(by rw [HM1.out]; exact hlt), List.getElem?_eq_getElem _⟩
          obtain ⟨a, cs, ea, hab, hc, hR⟩ := HA1.out.at hp
          obtain ⟨b, cs2, eb, hbb, hc2, hR2⟩ := HD1.out.at hr
          have HP := Lib.hid hp
          have HR := Lib.hid hr
          clear hp hr
          subst ea eb
          obtain ⟨_, _, _, rfl, -, -, ⟨P0, c3, e4, w1, w2, w3⟩, ⟨P2, c5, e6, w7, w8, w9⟩, ⟨P4, c7, e8, wa, wb, wq⟩⟩ := hR
          obtain ⟨_, _, _, rfl, -, -, ⟨P1, c4, e5, w4, w5, w6⟩, ⟨P3, c6, e7, wd, we, wf⟩, ⟨P5, c8, e9, wg, wh, wi⟩⟩ := hR2
          simp only [List.cons.injEq, and_true] at e4 e5 e6 e7 e8 e9
          subst e4 e5 e6 e7 e8 e9
          unfold maxLen at w2 w5 w8 we wb wh
          have ca0 := (HB.out.cell (p := a.add (k * 5)) (by rw [addBlock]; exact hab)).trans (hc 0 _ rfl)
          have ca1 := (HB.out.cell (p := a.add (k * 5 + 1)) (by rw [addBlock]; exact hab)).trans (hc 1 _ rfl)
          rw [next_cell a (k * 5) 1 (by omega)] at ca1
          have ca2 := (HB.out.cell (p := a.add (k * 5 + 2)) (by rw [addBlock]; exact hab)).trans (hc 2 _ rfl)
          rw [next_cell a (k * 5) 2 (by omega)] at ca2
          have ca3 := (HB.out.cell (p := a.add (k * 5 + 3)) (by rw [addBlock]; exact hab)).trans (hc 3 _ rfl)
          rw [next_cell a (k * 5) 3 (by omega)] at ca3
          have ca4 := (HB.out.cell (p := a.add (k * 5 + 4)) (by rw [addBlock]; exact hab)).trans (hc 4 _ rfl)
          rw [next_cell a (k * 5) 4 (by omega)] at ca4
          have cb0 := (HB.out.cell (p := b.add (k * 5)) (by rw [addBlock]; exact hbb)).trans (hc2 0 _ rfl)
          have cb1 := (HB.out.cell (p := b.add (k * 5 + 1)) (by rw [addBlock]; exact hbb)).trans (hc2 1 _ rfl)
          rw [next_cell b (k * 5) 1 (by omega)] at cb1
          have cb2 := (HB.out.cell (p := b.add (k * 5 + 2)) (by rw [addBlock]; exact hbb)).trans (hc2 2 _ rfl)
          rw [next_cell b (k * 5) 2 (by omega)] at cb2
          have cb3 := (HB.out.cell (p := b.add (k * 5 + 3)) (by rw [addBlock]; exact hbb)).trans (hc2 3 _ rfl)
          rw [next_cell b (k * 5) 3 (by omega)] at cb3
          have cb4 := (HB.out.cell (p := b.add (k * 5 + 4)) (by rw [addBlock]; exact hbb)).trans (hc2 4 _ rfl)
          rw [next_cell b (k * 5) 4 (by omega)] at cb4
          clear hc hc2
          obtain ⟨⟨z0, z1, z2, z3, z4⟩, y0, y1, y2, y3, y4⟩ := HZ.out wr HB.out
          have k0' : 0 ≤ (k : Int) := by omega
          go_wp2_with fail
          go_cut [7, 8] (fun s7 s8 wx => ∃ fb gb : Nat, s7 = .pointer (some ⟨fb, 0, none⟩) ∧ s8 = .pointer (some ⟨gb, 0, none⟩) ∧ C5 fb (.slice P0 p.args.length c3) (.int .i64 p.ret.1) (.int .i64 p.ret.2) (.slice P2 p.locs.length c5) (.slice P4 p.code.length c7) wx ∧ C5 gb (.slice P1 r.args.length c4) (.int .i64 r.ret.1) (.int .i64 r.ret.2) (.slice P3 r.locs.length c6) (.slice P5 r.code.length c8) wx ∧ Below W.heap.size W wx)
          case first =>
            have HK12 := Lib.hid (And.intro z1 (And.intro y1 (And.intro ca0 (And.intro ca1 (And.intro ca2 (And.intro ca3 (And.intro ca4 (And.intro cb0 (And.intro cb1 (And.intro cb2 (And.intro cb3 cb4)))))))))))
            go_region_held3 (fun w' => w'.cell? ⟨w.heap.size, 1, none⟩ = some (.slice (some a) n1 d1) ∧ w'.cell? ⟨w.heap.size + 1, 1, none⟩ = some (.slice (some b) n1 g1) ∧ w'.cell? (a.add (k * 5)) = some (.slice P0 p.args.length c3) ∧ w'.cell? ⟨(a.add (k * 5)).block, (a.add (k * 5)).off + 1, none⟩ = some (.int .i64 p.ret.1) ∧ w'.cell? ⟨(a.add (k * 5)).block, (a.add (k * 5)).off + 2, none⟩ = some (.int .i64 p.ret.2) ∧ w'.cell? ⟨(a.add (k * 5)).block, (a.add (k * 5)).off + 3, none⟩ = some (.slice P2 p.locs.length c5) ∧ w'.cell? ⟨(a.add (k * 5)).block, (a.add (k * 5)).off + 4, none⟩ = some (.slice P4 p.code.length c7) ∧ w'.cell? (b.add (k * 5)) = some (.slice P1 r.args.length c4) ∧ w'.cell? ⟨(b.add (k * 5)).block, (b.add (k * 5)).off + 1, none⟩ = some (.int .i64 r.ret.1) ∧ w'.cell? ⟨(b.add (k * 5)).block, (b.add (k * 5)).off + 2, none⟩ = some (.int .i64 r.ret.2) ∧ w'.cell? ⟨(b.add (k * 5)).block, (b.add (k * 5)).off + 3, none⟩ = some (.slice P3 r.locs.length c6) ∧ w'.cell? ⟨(b.add (k * 5)).block, (b.add (k * 5)).off + 4, none⟩ = some (.slice P5 r.code.length c8))
              (first | exact HK12.out | exact keep12 (by (repeat' (first | exact Below.refl _ _ | apply Below.drew | apply Below.alloc | apply Below.setCell)) <;> (simp <;> omega)) HK12.out) (fail)
            all_goals
              go_wp2_with fail
              go_meet
              exact ⟨_, _, rfl, rfl, by simp [C5, go_sem], by simp [C5, go_sem], ((HB.out.alloc hs _).alloc (by simp; omega) _).drew⟩
          case rest =>
            obtain ⟨fb, gb, rfl, rfl, hC1, hC2, hB2⟩ := hcut
            have HC1 := Lib.hid hC1
            have HC2 := Lib.hid hC2
            have HX0 := Lib.hid hB2
            clear hC1 hC2 hB2 ca0 ca1 ca2 ca3 ca4 cb0 cb1 cb2 cb3 cb4 z0 z1 z2 z3 z4 y0 y1 y2 y3 y4
            have TCa : Hid (∀ X', Below W.heap.size W X' → Calls Tryz.prog 45 #[.slice P0 p.args.length c3, .slice P1 r.args.length c4] X' fun e w' => e = .returned (.bool (eqB p.args r.args)) ∧ ∃ q, w' = X'.drewN q) := fun X' hb => refTypes_any P0 P1 _ _ c3 c4 p.args r.args _ _ _ rfl rfl (w3.below hb (Nat.le_refl _)) (w6.below hb (Nat.le_refl _)) (by omega) (by omega)
            have TCl : Hid (∀ X', Below W.heap.size W X' → Calls Tryz.prog 45 #[.slice P2 p.locs.length c5, .slice P3 r.locs.length c6] X' fun e w' => e = .returned (.bool (eqB p.locs r.locs)) ∧ ∃ q, w' = X'.drewN q) := fun X' hb => refTypes_any P2 P3 _ _ c5 c6 p.locs r.locs _ _ _ rfl rfl (w9.below hb (Nat.le_refl _)) (wf.below hb (Nat.le_refl _)) (by omega) (by omega)
            have HPR := Lib.hid (eqB_fn p r)
            rw [eqB_typ] at HPR
            have HQ4 := Lib.hid wq
            have HQ5 := Lib.hid wi
            clear wq wi w3 w6 w9 wf
            have HfX := Lib.hid (World.block_lt_of_cell? wc _ HC1.out.1)
            have HgX := Lib.hid (World.block_lt_of_cell? wc _ HC2.out.1)
            have F1 := HC1.out
            have F2 := HC2.out
            obtain ⟨ca0, ca1, ca2, ca3, ca4⟩ := F1
            obtain ⟨cb0, cb1, cb2, cb3, cb4⟩ := F2
            obtain ⟨nc, hnc⟩ : ∃ nc, p.code.length = nc := ⟨_, rfl⟩
            obtain ⟨mc, hmc⟩ : ∃ mc, r.code.length = mc := ⟨_, rfl⟩
            have HNC := Lib.hid hnc
            have HMC := Lib.hid hmc
            have HCD : Hid (nc ≠ mc → p.code ≠ r.code) := fun h e => h (by rw [← hnc, ← hmc, e])
            rw [hnc] at HC1 ca4 wa
            rw [hmc] at HC2 cb4 wg
            clear hnc hmc
            generalize p.args.length = u9 at *
            generalize r.args.length = v9 at *
            generalize p.locs.length = u8' at *
            generalize r.locs.length = v8' at *
            generalize p.ret.1 = o1 at *
            generalize p.ret.2 = o2 at *
            generalize r.ret.1 = o3 at *
            generalize r.ret.2 = o4 at *
            generalize eqB p.args r.args = bA at *
            generalize eqB p.locs r.locs = bL at *
            cases bA
            · skip
              go_wp2_with (first
                | (go_at_call 45
                   (with_reducible refine (TCl.out _ ?_).mono ?_)
                   · exact HX1.out
                   rintro e x2 ⟨rfl, q2, rfl⟩
                   have HX2 := Lib.hid (below_drews HX0.out (q1 + q2) HX0.out.size))
                | (go_at_call 45
                   (with_reducible refine (TCa.out _ ?_).mono ?_)
                   · exact HX0.out
                   rintro e x1 ⟨rfl, q1, rfl⟩
                   have HX1 := Lib.hid (below_drews HX0.out q1 HX0.out.size)))
              go_ret
              refine ⟨?_, HFin.out _ HX1.out⟩
              rw [eqB_ne (get_ne HP.out HR.out (eqB_false (by rw [HPR.out]; simp)) : x.funcs ≠ y.funcs)]
              simp
            by_cases r1 : o1 = o3
            rotate_left
            · have rb1 : (o1 == o3) = false := by simpa using r1
              clear r1
              go_wp2_with (first
                | (go_at_call 45
                   (with_reducible refine (TCl.out _ ?_).mono ?_)
                   · exact HX1.out
                   rintro e x2 ⟨rfl, q2, rfl⟩
                   have HX2 := Lib.hid (below_drews HX0.out (q1 + q2) HX0.out.size))
                | (go_at_call 45
                   (with_reducible refine (TCa.out _ ?_).mono ?_)
                   · exact HX0.out
                   rintro e x1 ⟨rfl, q1, rfl⟩
                   have HX1 := Lib.hid (below_drews HX0.out q1 HX0.out.size)))
              go_ret
              refine ⟨?_, HFin.out _ HX1.out⟩
              rw [eqB_ne (get_ne HP.out HR.out (eqB_false (by rw [HPR.out, rb1]; simp)) : x.funcs ≠ y.funcs)]
              simp
            subst r1
            by_cases r2 : o2 = o4
            rotate_left
            · have rb2 : (o2 == o4) = false := by simpa using r2
              clear r2
              go_wp2_with (first
                | (go_at_call 45
                   (with_reducible refine (TCl.out _ ?_).mono ?_)
                   · exact HX1.out
                   rintro e x2 ⟨rfl, q2, rfl⟩
                   have HX2 := Lib.hid (below_drews HX0.out (q1 + q2) HX0.out.size))
                | (go_at_call 45
                   (with_reducible refine (TCa.out _ ?_).mono ?_)
                   · exact HX0.out
                   rintro e x1 ⟨rfl, q1, rfl⟩
                   have HX1 := Lib.hid (below_drews HX0.out q1 HX0.out.size)))
              go_ret
              refine ⟨?_, HFin.out _ HX1.out⟩
              rw [eqB_ne (get_ne HP.out HR.out (eqB_false (by rw [HPR.out, rb2]; simp)) : x.funcs ≠ y.funcs)]
              simp
            subst r2
            cases bL
            · skip
              go_wp2_with (first
                | (go_at_call 45
                   (with_reducible refine (TCl.out _ ?_).mono ?_)
                   · exact HX1.out
                   rintro e x2 ⟨rfl, q2, rfl⟩
                   have HX2 := Lib.hid (below_drews HX0.out (q1 + q2) HX0.out.size))
                | (go_at_call 45
                   (with_reducible refine (TCa.out _ ?_).mono ?_)
                   · exact HX0.out
                   rintro e x1 ⟨rfl, q1, rfl⟩
                   have HX1 := Lib.hid (below_drews HX0.out q1 HX0.out.size)))
              go_ret
              refine ⟨?_, HFin.out _ HX2.out⟩
              rw [eqB_ne (get_ne HP.out HR.out (eqB_false (by rw [HPR.out]; simp)) : x.funcs ≠ y.funcs)]
              simp
            by_cases hcl : nc = mc
            rotate_left
            · have b5 : ((nc : Int) != (mc : Int)) = true := by simp; omega
              have b6 : (nc != mc) = true := by simpa using hcl
              have HNE := Lib.hid (HCD.out hcl)
              clear hcl
              go_wp2_with (first
                | (go_at_call 45
                   (with_reducible refine (TCl.out _ ?_).mono ?_)
                   · exact HX1.out
                   rintro e x2 ⟨rfl, q2, rfl⟩
                   have HX2 := Lib.hid (below_drews HX0.out (q1 + q2) HX0.out.size))
                | (go_at_call 45
                   (with_reducible refine (TCa.out _ ?_).mono ?_)
                   · exact HX0.out
                   rintro e x1 ⟨rfl, q1, rfl⟩
                   have HX1 := Lib.hid (below_drews HX0.out q1 HX0.out.size)))
              go_ret
              refine ⟨?_, HFin.out _ HX2.out⟩
              rw [eqB_ne (get_ne HP.out HR.out (fun e => HNE.out (by rw [e])) : x.funcs ≠ y.funcs)]
              simp
            subst hcl
            go_wp2_with (first
              | (go_at_call 45
                 (with_reducible refine (TCl.out _ ?_).mono ?_)
                 · exact HX1.out
                 rintro e x2 ⟨rfl, q2, rfl⟩
                 have HX2 := Lib.hid (below_drews HX0.out (q1 + q2) HX0.out.size))
              | (go_at_call 45
                 (with_reducible refine (TCa.out _ ?_).mono ?_)
                 · exact HX0.out
                 rintro e x1 ⟨rfl, q1, rfl⟩
                 have HX1 := Lib.hid (below_drews HX0.out q1 HX0.out.size)))
            go_loopw [9] (fun i wv => ∃ j : Nat, j ≤ nc ∧ i = .int .i64 (j : Nat) ∧ p.code.take j = r.code.take j ∧ Below W.heap.size W wv ∧ (C5 fb (.slice P0 u9 c3) (.int .i64 o1) (.int .i64 o2) (.slice P2 u8' c5) (.slice P4 nc c7) wv) ∧ (C5 gb (.slice P1 v9 c4) (.int .i64 o1) (.int .i64 o2) (.slice P3 v8' c6) (.slice P5 nc c8) wv)) (fun i _ => nc - (intOf i).toNat)
            case atStart => exact ⟨0, Nat.zero_le _, rfl, by simp, HX2.out, HC1.out.below (below_drewN wc (q1 + q2)) HfX.out, HC2.out.below (below_drewN wc (q1 + q2)) HgX.out⟩
            case round =>
              obtain ⟨j, hj, rfl, hje, hvb, hd1, hd2⟩ := hrel
              have HJE := Lib.hid hje
              have HV := Lib.hid hvb
              have HD1' := Lib.hid hd1
              have HD2' := Lib.hid hd2
              have hv := hvb.size
              have HfV := Lib.hid (World.block_lt_of_cell? wr _ hd1.1)
              have HgV := Lib.hid (World.block_lt_of_cell? wr _ hd2.1)
              clear ca0 ca1 ca2 ca3 ca4 cb0 cb1 cb2 cb3 cb4
              obtain ⟨ca0, ca1, ca2, ca3, ca4⟩ := hd1
              obtain ⟨cb0, cb1, cb2, cb3, cb4⟩ := hd2
              clear hje hvb
              by_cases hjl : j < nc
              · skip
                obtain ⟨ii, hi⟩ : ∃ ii, p.code[j]? = some ii := ⟨p.code[j]'(by rw [HNC.out]; exact hjl), List.getElem?_eq_getElem _⟩
                obtain ⟨jj, hjj⟩ : ∃ jj, r.code[j]? = some jj := ⟨r.code[j]'(by rw [HMC.out]; exact hjl), List.getElem?_eq_getElem _⟩
                obtain ⟨a', cs', ea', ha'b, hc', hR'⟩ := HQ4.out.at hi
                obtain ⟨b', cs2', eb', hb'b, hc2', hR2'⟩ := HQ5.out.at hjj
                have HI := Lib.hid hi
                have HJ := Lib.hid hjj
                clear hi hjj
                subst ea' eb'
                obtain ⟨rfl, -, -, -⟩ := hR'
                obtain ⟨rfl, -, -, -⟩ := hR2'
                have ia0 := (HV.out.cell (p := a'.add (j * 3)) (by rw [addBlock]; exact ha'b)).trans (hc' 0 _ rfl)
                have ia1 := (HV.out.cell (p := a'.add (j * 3 + 1)) (by rw [addBlock]; exact ha'b)).trans (hc' 1 _ rfl)
                rw [next_cell a' (j * 3) 1 (by omega)] at ia1
                have ia2 := (HV.out.cell (p := a'.add (j * 3 + 2)) (by rw [addBlock]; exact ha'b)).trans (hc' 2 _ rfl)
                rw [next_cell a' (j * 3) 2 (by omega)] at ia2
                have ib0 := (HV.out.cell (p := b'.add (j * 3)) (by rw [addBlock]; exact hb'b)).trans (hc2' 0 _ rfl)
                have ib1 := (HV.out.cell (p := b'.add (j * 3 + 1)) (by rw [addBlock]; exact hb'b)).trans (hc2' 1 _ rfl)
                rw [next_cell b' (j * 3) 1 (by omega)] at ib1
                have ib2 := (HV.out.cell (p := b'.add (j * 3 + 2)) (by rw [addBlock]; exact hb'b)).trans (hc2' 2 _ rfl)
                rw [next_cell b' (j * 3) 2 (by omega)] at ib2
                clear hc' hc2'
                have j0' : 0 ≤ (j : Int) := by omega
                have j1' : (j : Int) < (nc : Int) := by omega
                by_cases hij : ii = jj
                · subst hij
                  go_wp2_with fail
                  go_quiet (fail)
                  go_wp2_with fail
                  refine ⟨⟨j + 1, by omega, by simp, take_same HJE.out HI.out HJ.out rfl, below_drews HV.out _ hv, HD1'.out.below (below_drewN wr _) HfV.out, HD2'.out.below (below_drewN wr _) HgV.out⟩, by simp [intOf]; omega⟩
                have HIJ := Lib.hid hij
                by_cases s0 : ii.1 = jj.1
                rotate_left
                · have t0 : (ii.1 == jj.1) = false := by simpa using s0
                  clear s0 hij
                  go_wp2_with fail
                  go_quiet (fail)
                  go_wp2_with fail
                  go_ret
                  refine ⟨?_, HFin.out _ (below_drews HV.out _ hv)⟩
                  rw [eqB_ne (get_ne HP.out HR.out (fun e => get_ne HI.out HJ.out HIJ.out (by rw [e])) : x.funcs ≠ y.funcs)]
                  simp
                have t0 : (ii.1 == jj.1) = true := by simpa using s0
                by_cases s1 : ii.2.1 = jj.2.1
                rotate_left
                · have t1 : (ii.2.1 == jj.2.1) = false := by simpa using s1
                  clear s0 s1 hij
                  go_wp2_with fail
                  go_quiet (fail)
                  go_wp2_with fail
                  go_ret
                  refine ⟨?_, HFin.out _ (below_drews HV.out _ hv)⟩
                  rw [eqB_ne (get_ne HP.out HR.out (fun e => get_ne HI.out HJ.out HIJ.out (by rw [e])) : x.funcs ≠ y.funcs)]
                  simp
                have t1 : (ii.2.1 == jj.2.1) = true := by simpa using s1
                have s2 : ¬ ii.2.2 = jj.2.2 := fun s2 => hij (Prod.ext s0 (Prod.ext s1 s2))
                have t2 : (ii.2.2 == jj.2.2) = false := by simpa using s2
                clear s0 s1 s2 hij
                go_wp2_with fail
                go_quiet (fail)
                go_wp2_with fail
                go_ret
                refine ⟨?_, HFin.out _ (below_drews HV.out _ hv)⟩
                rw [eqB_ne (get_ne HP.out HR.out (fun e => get_ne HI.out HJ.out HIJ.out (by rw [e])) : x.funcs ≠ y.funcs)]
                simp
              · obtain rfl : j = nc := by omega
                have e := HJE.out
                rw [List.take_of_length_le (by rw [HNC.out]; exact Nat.le_refl _), List.take_of_length_le (by rw [HMC.out]; exact Nat.le_refl _)] at e
                have HPRt : Hid (eqB p r = true) := by show eqB p r = true; rw [HPR.out, e, eqB_self]; simp
                clear e
                go_wp2_with fail
                refine ⟨⟨k + 1, by omega, by simp, take_same HE.out HP.out HR.out (eqB_iff.1 HPRt.out), HV.out⟩, by simp [intOf]; omega⟩
        · obtain rfl : k = n1 := by omega
          obtain ⟨⟨z0, z1, z2, z3, z4⟩, y0, y1, y2, y3, y4⟩ := HZ.out wr HB.out
          have k0' : 0 ≤ (k : Int) := by omega
          have EQ1 : Hid (x.funcs = y.funcs) := by
            have e := HE.out
            rw [List.take_of_length_le (by rw [HL1.out]; exact Nat.le_refl _), List.take_of_length_le (by rw [HM1.out]; exact Nat.le_refl _)] at e
            exact e
          go_wp2_with fail
          go_loopw [10] (fun i wr => ∃ k : Nat, k ≤ n2 ∧ i = .int .i64 (k : Nat) ∧ x.imps.take k = y.imps.take k ∧ Below W.heap.size W wr) (fun i _ => n2 - (intOf i).toNat)
          case atStart => exact ⟨0, Nat.zero_le _, rfl, by simp, HB.out⟩
          case round =>
            obtain ⟨k, hk, rfl, heq, hbel⟩ := hrel
            clear HB HE
            have HE := Lib.hid heq
            have HB := Lib.hid hbel
            have hs := hbel.size
            clear heq hbel
            by_cases hlt : k < n2
            · skip
              obtain ⟨p, hp⟩ : ∃ p, x.imps[k]? = some p := ⟨x.imps[k]'(by rw [HL2.out]; exact hlt), List.getElem?_eq_getElem _⟩
              obtain ⟨r, hr⟩ : ∃ r, y.imps[k]? = some r := ⟨y.imps[k]'(by rw [HM2.out]; exact hlt), List.getElem?_eq_getElem _⟩
              obtain ⟨a, cs, ea, hab, hc, hR⟩ := HA2.out.at hp
              obtain ⟨b, cs2, eb, hbb, hc2, hR2⟩ := HD2.out.at hr
              have HP := Lib.hid hp
              have HR := Lib.hid hr
              clear hp hr
              subst ea eb
              obtain ⟨_, rfl, -, -, ⟨P0, c3, e4, w1, w2, w3⟩⟩ := hR
              obtain ⟨_, rfl, -, -, ⟨P1, c4, e5, w4, w5, w6⟩⟩ := hR2
              simp only [List.cons.injEq, and_true] at e4 e5
              subst e4 e5
              unfold maxLen at w2 w5
              have ca0 := (HB.out.cell (p := a.add (k * 3)) (by rw [addBlock]; exact hab)).trans (hc 0 _ rfl)
              have ca1 := (HB.out.cell (p := a.add (k * 3 + 1)) (by rw [addBlock]; exact hab)).trans (hc 1 _ rfl)
              rw [next_cell a (k * 3) 1 (by omega)] at ca1
              have ca2 := (HB.out.cell (p := a.add (k * 3 + 2)) (by rw [addBlock]; exact hab)).trans (hc 2 _ rfl)
              rw [next_cell a (k * 3) 2 (by omega)] at ca2
              have cb0 := (HB.out.cell (p := b.add (k * 3)) (by rw [addBlock]; exact hbb)).trans (hc2 0 _ rfl)
              have cb1 := (HB.out.cell (p := b.add (k * 3 + 1)) (by rw [addBlock]; exact hbb)).trans (hc2 1 _ rfl)
              rw [next_cell b (k * 3) 1 (by omega)] at cb1
              have cb2 := (HB.out.cell (p := b.add (k * 3 + 2)) (by rw [addBlock]; exact hbb)).trans (hc2 2 _ rfl)
              rw [next_cell b (k * 3) 2 (by omega)] at cb2
              have TC : Hid (∀ q, Calls Tryz.prog 45 #[.slice P0 p.args.length c3, .slice P1 r.args.length c4] (wr.drewN q) fun e w' => e = .returned (.bool (eqB p.args r.args)) ∧ ∃ m, w' = (wr.drewN q).drewN m) := fun q => refTypes_any P0 P1 _ _ c3 c4 p.args r.args _ _ _ rfl rfl (sq_drew (w3.below HB.out (Nat.le_refl _)) q) (sq_drew (w6.below HB.out (Nat.le_refl _)) q) (by omega) (by omega)
              clear hc hc2 w3 w6 w1 w2 w4 w5
              have HPR := Lib.hid (eqB_imp p r)
              rw [eqB_typ] at HPR
              obtain ⟨⟨z0, z1, z2, z3, z4⟩, y0, y1, y2, y3, y4⟩ := HZ.out wr HB.out
              have k0' : 0 ≤ (k : Int) := by omega
              generalize p.args.length = u9 at *
              generalize r.args.length = v9 at *
              generalize eqB p.args r.args = bb at *
              generalize p.ret.1 = o1 at *
              generalize p.ret.2 = o2 at *
              generalize r.ret.1 = o3 at *
              generalize r.ret.2 = o4 at *
              cases bb
              · go_wp2_with fail
                go_quiet (first | (go_at_call 45; refine quiet_at (TC.out _)))
                go_wp2_with fail
                go_ret
                refine ⟨?_, HFin.out _ (below_drews HB.out _ hs)⟩
                rw [eqB_ne (get_ne HP.out HR.out (eqB_false (by rw [HPR.out]; simp)) : x.imps ≠ y.imps)]
                simp
              by_cases r1 : o1 = o3
              · subst r1
                by_cases r2 : o2 = o4
                · subst r2
                  go_wp2_with fail
                  go_quiet (first | (go_at_call 45; refine quiet_at (TC.out _)))
                  go_wp2_with fail
                  refine ⟨⟨k + 1, by omega, by simp, take_same HE.out HP.out HR.out (eqB_iff.1 (by rw [HPR.out]; simp)), below_drews HB.out _ hs⟩, by simp [intOf]; omega⟩
                · have rb2 : (o2 == o4) = false := by simpa using r2
                  clear r2
                  go_wp2_with fail
                  go_quiet (first | (go_at_call 45; refine quiet_at (TC.out _)))
                  go_wp2_with fail
                  go_ret
                  refine ⟨?_, HFin.out _ (below_drews HB.out _ hs)⟩
                  rw [eqB_ne (get_ne HP.out HR.out (eqB_false (by rw [HPR.out, rb2]; simp)) : x.imps ≠ y.imps)]
                  simp
              · have rb1 : (o1 == o3) = false := by simpa using r1
                clear r1
                go_wp2_with fail
                go_quiet (first | (go_at_call 45; refine quiet_at (TC.out _)))
                go_wp2_with fail
                go_ret
                refine ⟨?_, HFin.out _ (below_drews HB.out _ hs)⟩
                rw [eqB_ne (get_ne HP.out HR.out (eqB_false (by rw [HPR.out, rb1]; simp)) : x.imps ≠ y.imps)]
                simp
            · obtain rfl : k = n2 := by omega
              obtain ⟨⟨z0, z1, z2, z3, z4⟩, y0, y1, y2, y3, y4⟩ := HZ.out wr HB.out
              have k0' : 0 ≤ (k : Int) := by omega
              have EQ2 : Hid (x.imps = y.imps) := by
                have e := HE.out
                rw [List.take_of_length_le (by rw [HL2.out]; exact Nat.le_refl _), List.take_of_length_le (by rw [HM2.out]; exact Nat.le_refl _)] at e
                exact e
              go_wp2_with fail
              go_loopw [11] (fun i wr => ∃ k : Nat, k ≤ n3 ∧ i = .int .i64 (k : Nat) ∧ x.ints.take k = y.ints.take k ∧ Below W.heap.size W wr) (fun i _ => n3 - (intOf i).toNat)
              case atStart => exact ⟨0, Nat.zero_le _, rfl, by simp, HB.out⟩
              case round =>
                obtain ⟨k, hk, rfl, heq, hbel⟩ := hrel
                clear HB HE
                have HE := Lib.hid heq
                have HB := Lib.hid hbel
                have hs := hbel.size
                clear heq hbel
                by_cases hlt : k < n3
                · skip
                  obtain ⟨p, hp⟩ : ∃ p, x.ints[k]? = some p := ⟨x.ints[k]'(by rw [HL3.out]; exact hlt), List.getElem?_eq_getElem _⟩
                  obtain ⟨r, hr⟩ : ∃ r, y.ints[k]? = some r := ⟨y.ints[k]'(by rw [HM3.out]; exact hlt), List.getElem?_eq_getElem _⟩
                  obtain ⟨a, cs, ea, hab, hc, hR⟩ := HA3.out.at hp
                  obtain ⟨b, cs2, eb, hbb, hc2, hR2⟩ := HD3.out.at hr
                  have HP := Lib.hid hp
                  have HR := Lib.hid hr
                  clear hp hr
                  subst ea eb
                  obtain ⟨rfl, -⟩ := hR
                  obtain ⟨rfl, -⟩ := hR2
                  have ca0 := (HB.out.cell (p := a.add k) (by rw [addBlock]; exact hab)).trans (one_cell (K := numL.k) rfl (hc 0 _ rfl))
                  have cb0 := (HB.out.cell (p := b.add k) (by rw [addBlock]; exact hbb)).trans (one_cell (K := numL.k) rfl (hc2 0 _ rfl))
                  clear hc hc2
                  obtain ⟨⟨z0, z1, z2, z3, z4⟩, y0, y1, y2, y3, y4⟩ := HZ.out wr HB.out
                  have k0' : 0 ≤ (k : Int) := by omega
                  by_cases hxy : p = r
                  · have HXY := Lib.hid hxy
                    have t1 : ((p : Int) == (r : Int)) = true := by simp; omega
                    have t2 : ((p : Int) != (r : Int)) = false := by simp; omega
                    have t3 : (p == r) = true := by simp; omega
                    have t4 : (p != r) = false := by simp; omega
                    clear hxy
                    go_wp2_with fail
                    go_quiet (fail)
                    go_wp2_with fail
                    refine ⟨⟨k + 1, by omega, by simp, take_same HE.out HP.out HR.out (HXY.out), below_drews HB.out _ hs⟩, by simp [intOf]; omega⟩
                  · have HXY := Lib.hid hxy
                    have t1 : ((p : Int) == (r : Int)) = false := by simp; omega
                    have t2 : ((p : Int) != (r : Int)) = true := by simp; omega
                    have t3 : (p == r) = false := by simp; omega
                    have t4 : (p != r) = true := by simp; omega
                    clear hxy
                    go_wp2_with fail
                    go_quiet (fail)
                    go_wp2_with fail
                    go_ret
                    refine ⟨?_, HFin.out _ (below_drews HB.out _ hs)⟩
                    rw [eqB_ne (get_ne HP.out HR.out (HXY.out) : x.ints ≠ y.ints)]
                    simp
                · obtain rfl : k = n3 := by omega
                  obtain ⟨⟨z0, z1, z2, z3, z4⟩, y0, y1, y2, y3, y4⟩ := HZ.out wr HB.out
                  have k0' : 0 ≤ (k : Int) := by omega
                  have EQ3 : Hid (x.ints = y.ints) := by
                    have e := HE.out
                    rw [List.take_of_length_le (by rw [HL3.out]; exact Nat.le_refl _), List.take_of_length_le (by rw [HM3.out]; exact Nat.le_refl _)] at e
                    exact e
                  go_wp2_with fail
                  go_loopw [12] (fun i wr => ∃ k : Nat, k ≤ n4 ∧ i = .int .i64 (k : Nat) ∧ x.texts.take k = y.texts.take k ∧ Below W.heap.size W wr) (fun i _ => n4 - (intOf i).toNat)
                  case atStart => exact ⟨0, Nat.zero_le _, rfl, by simp, HB.out⟩
                  case round =>
                    obtain ⟨k, hk, rfl, heq, hbel⟩ := hrel
                    clear HB HE
                    have HE := Lib.hid heq
                    have HB := Lib.hid hbel
                    have hs := hbel.size
                    clear heq hbel
                    by_cases hlt : k < n4
                    · skip
                      obtain ⟨p, hp⟩ : ∃ p, x.texts[k]? = some p := ⟨x.texts[k]'(by rw [HL4.out]; exact hlt), List.getElem?_eq_getElem _⟩
                      obtain ⟨r, hr⟩ : ∃ r, y.texts[k]? = some r := ⟨y.texts[k]'(by rw [HM4.out]; exact hlt), List.getElem?_eq_getElem _⟩
                      obtain ⟨a, cs, ea, hab, hc, hR⟩ := HA4.out.at hp
                      obtain ⟨b, cs2, eb, hbb, hc2, hR2⟩ := HD4.out.at hr
                      have HP := Lib.hid hp
                      have HR := Lib.hid hr
                      clear hp hr
                      subst ea eb
                      obtain ⟨v0, rfl, ex⟩ := hR
                      obtain ⟨v1, rfl, ey⟩ := hR2
                      have ca0 := (HB.out.cell (p := a.add k) (by rw [addBlock]; exact hab)).trans (one_cell (K := strL.k) rfl (hc 0 _ rfl))
                      have cb0 := (HB.out.cell (p := b.add k) (by rw [addBlock]; exact hbb)).trans (one_cell (K := strL.k) rfl (hc2 0 _ rfl))
                      clear hc hc2
                      obtain ⟨⟨z0, z1, z2, z3, z4⟩, y0, y1, y2, y3, y4⟩ := HZ.out wr HB.out
                      have k0' : 0 ≤ (k : Int) := by omega
                      by_cases hxy : p = r
                      · have HXY := Lib.hid hxy
                        have t1 : (v0.toList == v1.toList) = true := by rw [strB_inj (ex.symm.trans (hxy.trans ey))]; simp
                        have t2 : (v0.toList != v1.toList) = false := by rw [bne, t1]; rfl
                        clear hxy ex ey
                        go_wp2_with fail
                        go_quiet (fail)
                        go_wp2_with fail
                        refine ⟨⟨k + 1, by omega, by simp, take_same HE.out HP.out HR.out (HXY.out), below_drews HB.out _ hs⟩, by simp [intOf]; omega⟩
                      · have HXY := Lib.hid hxy
                        have t1 : (v0.toList == v1.toList) = false := by
                          cases hb : v0.toList == v1.toList
                          · rfl
                          · exact absurd (by rw [ex, ey, strB, strB, ← ByteArray.toList_eq, ← ByteArray.toList_eq, eq_of_beq hb]) hxy
                        have t2 : (v0.toList != v1.toList) = true := by rw [bne, t1]; rfl
                        clear hxy ex ey
                        go_wp2_with fail
                        go_quiet (fail)
                        go_wp2_with fail
                        go_ret
                        refine ⟨?_, HFin.out _ (below_drews HB.out _ hs)⟩
                        rw [eqB_ne (get_ne HP.out HR.out (HXY.out) : x.texts ≠ y.texts)]
                        simp
                    · obtain rfl : k = n4 := by omega
                      obtain ⟨⟨z0, z1, z2, z3, z4⟩, y0, y1, y2, y3, y4⟩ := HZ.out wr HB.out
                      have k0' : 0 ≤ (k : Int) := by omega
                      have EQ4 : Hid (x.texts = y.texts) := by
                        have e := HE.out
                        rw [List.take_of_length_le (by rw [HL4.out]; exact Nat.le_refl _), List.take_of_length_le (by rw [HM4.out]; exact Nat.le_refl _)] at e
                        exact e
                      go_wp2_with fail
                      go_ret
                      refine ⟨?_, HFin.out _ HB.out⟩
                      rw [EQ0.out, EQ1.out, EQ2.out, EQ3.out, EQ4.out]
                      simp [eqB_self]
end Go.Proofs.YtngjnkkdhjholaaGreat
