/-
  What module's sameFunction and Same do: whether two are the same. Conditions: none but that there are such.
  What law06's answers says: true. Conditions: none.
  Words for the law on bounds: rows of cells that the call appends to, and which of the law's modules fit. Conditions: as each theorem says.
  What ModuleBounds' function does at the case 0: true. Conditions: as the theorem says.
-/
import Derived.Test.YtngjnkkdhjholaaP02
import Derived.Test.YtngjnkkdhjholaaP06
import Derived.Test.YtngjnkkdhjholaaP11
import Derived.Test.YtngjnkkdhjholaaP16
import Derived.Test.YtngjnkkdhjholaaP18
import Derived.Test.YtngjnkkdhjholaaP19
import Derived.Deep.RegionLaw
namespace Go.Proofs.Ytngjnkkdhjholaa
open Go.RowKit
set_option linter.unusedSimpArgs false
set_option linter.unusedVariables false

theorem sl_at {α : Type} {L : Lay α} {w w1 : World} {v : Value} {xs : List α} (h : (slL L).R (· < w.heap.size) w [v] xs) (hb : Below w.heap.size w w1) : (slL L).R (· < w1.heap.size) w1 [v] xs :=
  (slL L).wide ((slL L).keep h fun b hb1 => hb.block b hb1) fun b hb1 => Nat.lt_of_lt_of_le hb1 hb.size

set_option maxRecDepth 100000 in
set_option maxHeartbeats 4000000 in
theorem sameFunction_any (cs cs2 : List Value) (x y : Fn) (w : World) (h : fnL.R (· < w.heap.size) w cs x) (h' : fnL.R (· < w.heap.size) w cs2 y) :
    Calls Try.prog 15 #[vAgg cs, vAgg cs2] w (Tells (eqB x y) w) := by
  obtain ⟨p0, p1, p2, rfl, -, -, hA, hL, hC⟩ := h
  obtain ⟨q0, q1, q2, rfl, -, -, hA', hL', hC'⟩ := h'
  have T0 : Hid (∀ w1, Below w.heap.size w w1 → Calls Try.prog 13 #[vOne [p0], vOne [q0]] w1 (Tells (eqB x.args y.args) w1)) := fun w1 hb => sameTypes_any _ _ _ _ w1 (sl_at hA hb) (sl_at hA' hb)
  have T1 : Hid (∀ w1, Below w.heap.size w w1 → Calls Try.prog 13 #[vOne [p1], vOne [q1]] w1 (Tells (eqB x.locs y.locs) w1)) := fun w1 hb => sameTypes_any _ _ _ _ w1 (sl_at hL hb) (sl_at hL' hb)
  obtain ⟨A4, d4, e4, -⟩ := hA
  obtain ⟨A5, d5, e5, -⟩ := hL
  obtain ⟨A6, d6, e6, l6, m6, s6⟩ := hC
  obtain ⟨B4, g4, i4, -⟩ := hA'
  obtain ⟨B5, g5, i5, -⟩ := hL'
  obtain ⟨B6, g6, i6, k6, n6, t6⟩ := hC'
  simp only [List.cons.injEq, and_true] at e4 e5 e6 i4 i5 i6
  subst e4 e5 e6 i4 i5 i6
  unfold maxLen at m6 n6
  have T2 : Hid (∀ w1, Below w.heap.size w w1 → Calls Try.prog 44 #[.slice A6 x.code.length d6, .slice B6 y.code.length g6] w1 (Tells (eqB x.code y.code) w1)) := fun w1 hb =>
    (equal_ins A6 B6 _ _ d6 g6 x.code y.code w1 _ _ rfl rfl (s6.below hb (Nat.le_refl _)) (t6.below hb (Nat.le_refl _)) (by omega) (by omega)).mono fun e w2 h => ⟨h.1, by obtain ⟨q, rfl⟩ := h.2; exact below_drewN _ _⟩
  have T02 : Hid (∀ w1, Below w.heap.size w w1 → Calls Try.prog 13 #[.slice A4 x.args.length d4, .slice B4 y.args.length g4] w1 (Tells (eqB x.args y.args) w1)) := T0.out
  have T12 : Hid (∀ w1, Below w.heap.size w w1 → Calls Try.prog 13 #[.slice A5 x.locs.length d5, .slice B5 y.locs.length g5] w1 (Tells (eqB x.locs y.locs) w1)) := T1.out
  clear T0 T1 s6 t6 m6 n6 l6 k6
  show Calls Try.prog 15 #[.agg #[.slice A4 x.args.length d4, .int .i64 x.ret.1, .int .i64 x.ret.2, .slice A5 x.locs.length d5, .slice A6 x.code.length d6], .agg #[.slice B4 y.args.length g4, .int .i64 y.ret.1, .int .i64 y.ret.2, .slice B5 y.locs.length g5, .slice B6 y.code.length g6]] w (Tells (eqB x y) w)
  rw [eqB_fn, eqB_typ]
  generalize x.args.length = n0 at *
  generalize y.args.length = m0 at *
  generalize x.locs.length = n1 at *
  generalize y.locs.length = m1 at *
  generalize x.code.length = n2 at *
  generalize y.code.length = m2 at *
  generalize eqB x.args y.args = b2 at *
  generalize eqB x.locs y.locs = b3 at *
  generalize eqB x.code y.code = b4 at *
  generalize x.ret.1 = k1 at *
  generalize x.ret.2 = k2 at *
  generalize y.ret.1 = k3 at *
  generalize y.ret.2 = k4 at *
  have HB0 : Hid (Below w.heap.size w ((w.alloc (.cells #[.slice A4 n0 d4, .int .i64 k1, .int .i64 k2, .slice A5 n1 d5, .slice A6 n2 d6] 39)).alloc (.cells #[.slice B4 m0 g4, .int .i64 k3, .int .i64 k4, .slice B5 m1 g5, .slice B6 m2 g6] 39))) := ((Below.refl _ _).alloc (Nat.le_refl _) _).alloc (by simp) _
  have HX : Hid (∀ W, Below w.heap.size w W → w.heap.size + 1 < W.heap.size → C5 w.heap.size (.slice A4 n0 d4) (.int .i64 k1) (.int .i64 k2) (.slice A5 n1 d5) (.slice A6 n2 d6) W → C5 (w.heap.size + 1) (.slice B4 m0 g4) (.int .i64 k3) (.int .i64 k4) (.slice B5 m1 g5) (.slice B6 m2 g6) W → ∀ w1, Below W.heap.size W w1 →
      C5 w.heap.size (.slice A4 n0 d4) (.int .i64 k1) (.int .i64 k2) (.slice A5 n1 d5) (.slice A6 n2 d6) w1 ∧ C5 (w.heap.size + 1) (.slice B4 m0 g4) (.int .i64 k3) (.int .i64 k4) (.slice B5 m1 g5) (.slice B6 m2 g6) w1 ∧ Below w.heap.size w w1 ∧ w.heap.size + 1 < w1.heap.size) :=
    fun W hb hs hC hD w1 h1 => ⟨hC.below h1 (by omega), hD.below h1 hs, hb.trans (h1.mono hb.size), Nat.lt_of_lt_of_le hs h1.size⟩
  have HX1 := Lib.hid (HX.out _ HB0.out (by simp) (by simp [C5, go_sem]) (by simp [C5, go_sem]))
  by_cases g1 : k1 = k3
  · subst g1
    by_cases g2 : k2 = k4
    · subst g2
      have e0 : ((k1 == k1) && (k2 == k2)) = true := by simp
      rw [e0, Bool.true_and]
      clear e0
      rcases b2 with _ | _
      case' true => rcases b3 with _ | _
      all_goals
        go_enter Try.func15, Try.ntmps15
        go_wp2_with (first
          | (go_at_call 44
             refine (T2.out _ HB2.out).mono ?_
             rintro e w3 ⟨rfl, hb3⟩
             have HB3 := Lib.hid (HB2.out.trans (hb3.mono HB2.out.size))
             clear hb3)
          | (go_at_call 13
             (with_reducible refine (T12.out _ ?_).mono ?_)
             · exact HB1.out
             rintro e w2 ⟨rfl, hb2⟩
             obtain ⟨hC2, hD2, hB2, hs2⟩ := HX2.out w2 hb2
             have HB2 := Lib.hid hB2
             obtain ⟨y10, y11, y12, y13, y14⟩ := hC2
             obtain ⟨z10, z11, z12, z13, z14⟩ := hD2
             clear hb2 hB2)
          | (go_at_call 13
             (with_reducible refine (T02.out _ ?_).mono ?_)
             · exact HB0.out
             rintro e w1 ⟨rfl, hb1⟩
             obtain ⟨hC1, hD1, hB1, hs1⟩ := HX1.out w1 hb1
             have HX2 := Lib.hid (HX.out w1 hB1 hs1 hC1 hD1)
             have HB1 := Lib.hid hB1
             obtain ⟨y0, y1, y2, y3, y4⟩ := hC1
             obtain ⟨z0, z1, z2, z3, z4⟩ := hD1
             clear hb1 hB1))
        go_ret
      all_goals first | exact ⟨by simp, HB3.out⟩ | exact ⟨by simp, HB2.out⟩ | exact ⟨by simp, HB1.out⟩
    · have b2 : (k2 == k4) = false := by simpa using g2
      clear g2
      go_enter Try.func15, Try.ntmps15
      go_wp2_with fail
      go_ret
      exact ⟨by simp [b2], HB0.out⟩
  · have b1 : (k1 == k3) = false := by simpa using g1
    clear g1
    go_enter Try.func15, Try.ntmps15
    go_wp2_with fail
    go_ret
    exact ⟨by simp [b1], HB0.out⟩

set_option maxRecDepth 100000 in
set_option maxHeartbeats 4000000 in
theorem same_mod (cs cs2 : List Value) (x y : Mod) (w : World) (h : modL.R (· < w.heap.size) w cs x) (h' : modL.R (· < w.heap.size) w cs2 y) :
    Calls Try.prog 7 #[vAgg cs, vAgg cs2] w (Tells (eqB x y) w) := by
  obtain ⟨_, _, _, _, _, rfl, ⟨A0, d0, e0, l0, m0, s0⟩, ⟨A1, d1, e1, l1, m1, s1⟩, ⟨A2, d2, e2, l2, m2, s2⟩, ⟨A3, d3, e3, l3, m3, s3⟩, ⟨A4, d4, e4, l4, m4, s4⟩⟩ := h
  obtain ⟨_, _, _, _, _, rfl, ⟨B0, g0, f0, k0, j0, t0⟩, ⟨B1, g1, f1, k1, j1, t1⟩, ⟨B2, g2, f2, k2, j2, t2⟩, ⟨B3, g3, f3, k3, j3, t3⟩, ⟨B4, g4, f4, k4, j4, t4⟩⟩ := h'
  simp only [List.cons.injEq, and_true] at e0 e1 e2 e3 e4 f0 f1 f2 f3 f4
  subst e0 e1 e2 e3 e4 f0 f1 f2 f3 f4
  unfold maxLen at m0 m1 m2 m3 m4 j0 j1 j2 j3 j4
  have T0 : Hid (∀ w1, Below w.heap.size w w1 → Calls Try.prog 12 #[.slice A0 x.recs.length d0, .slice B0 y.recs.length g0, .func (.func 13) #[] #[]] w1 (Tells (eqB x.recs y.recs) w1)) := fun w1 hb =>
    equalFunc_rec A0 B0 _ _ d0 g0 x.recs y.recs w1 rfl rfl ((s0.below hb (Nat.le_refl _)).wide fun b hb1 => Nat.lt_of_lt_of_le hb1 hb.size) ((t0.below hb (Nat.le_refl _)).wide fun b hb1 => Nat.lt_of_lt_of_le hb1 hb.size) (by omega) (by omega) fun w2 cs cs2 a b ha hb => sameTypes_any cs cs2 a b w2 ha hb
  have T1 : Hid (∀ w1, Below w.heap.size w w1 → Calls Try.prog 14 #[.slice A1 x.funcs.length d1, .slice B1 y.funcs.length g1, .func (.func 15) #[] #[]] w1 (Tells (eqB x.funcs y.funcs) w1)) := fun w1 hb =>
    equalFunc_fn A1 B1 _ _ d1 g1 x.funcs y.funcs w1 rfl rfl ((s1.below hb (Nat.le_refl _)).wide fun b hb1 => Nat.lt_of_lt_of_le hb1 hb.size) ((t1.below hb (Nat.le_refl _)).wide fun b hb1 => Nat.lt_of_lt_of_le hb1 hb.size) (by omega) (by omega) fun w2 cs cs2 a b ha hb => sameFunction_any cs cs2 a b w2 ha hb
  have T2 : Hid (∀ w1, Below w.heap.size w w1 → Calls Try.prog 16 #[.slice A2 x.imps.length d2, .slice B2 y.imps.length g2, .func (.func 17) #[] #[]] w1 (Tells (eqB x.imps y.imps) w1)) := fun w1 hb =>
    equalFunc_imp A2 B2 _ _ d2 g2 x.imps y.imps w1 rfl rfl ((s2.below hb (Nat.le_refl _)).wide fun b hb1 => Nat.lt_of_lt_of_le hb1 hb.size) ((t2.below hb (Nat.le_refl _)).wide fun b hb1 => Nat.lt_of_lt_of_le hb1 hb.size) (by omega) (by omega) fun w2 cs cs2 a b ha hb => sameImport_any cs cs2 a b w2 ha hb
  have T3 : Hid (∀ w1, Below w.heap.size w w1 → Calls Try.prog 18 #[.slice A3 x.ints.length d3, .slice B3 y.ints.length g3] w1 (Tells (eqB x.ints y.ints) w1)) := fun w1 hb =>
    (equal_num A3 B3 _ _ d3 g3 x.ints y.ints w1 _ _ rfl rfl (s3.below hb (Nat.le_refl _)) (t3.below hb (Nat.le_refl _)) (by omega) (by omega)).mono fun e w2 h => ⟨h.1, by obtain ⟨q, rfl⟩ := h.2; exact below_drewN _ _⟩
  have T4 : Hid (∀ w1, Below w.heap.size w w1 → Calls Try.prog 19 #[.slice A4 x.texts.length d4, .slice B4 y.texts.length g4] w1 (Tells (eqB x.texts y.texts) w1)) := fun w1 hb =>
    (equal_str A4 B4 _ _ d4 g4 x.texts y.texts w1 _ _ rfl rfl (s4.below hb (Nat.le_refl _)) (t4.below hb (Nat.le_refl _)) (by omega) (by omega)).mono fun e w2 h => ⟨h.1, by obtain ⟨q, rfl⟩ := h.2; exact below_drewN _ _⟩
  clear s0 s1 s2 s3 s4 t0 t1 t2 t3 t4 l0 l1 l2 l3 l4 m0 m1 m2 m3 m4 k0 k1 k2 k3 k4 j0 j1 j2 j3 j4
  show Calls Try.prog 7 #[.agg #[.slice A0 x.recs.length d0, .slice A1 x.funcs.length d1, .slice A2 x.imps.length d2, .slice A3 x.ints.length d3, .slice A4 x.texts.length d4], .agg #[.slice B0 y.recs.length g0, .slice B1 y.funcs.length g1, .slice B2 y.imps.length g2, .slice B3 y.ints.length g3, .slice B4 y.texts.length g4]] w (Tells (eqB x y) w)
  rw [eqB_mod]
  generalize x.recs.length = n0 at *
  generalize x.funcs.length = n1 at *
  generalize x.imps.length = n2 at *
  generalize x.ints.length = n3 at *
  generalize x.texts.length = n4 at *
  generalize y.recs.length = m0 at *
  generalize y.funcs.length = m1 at *
  generalize y.imps.length = m2 at *
  generalize y.ints.length = m3 at *
  generalize y.texts.length = m4 at *
  generalize eqB x.recs y.recs = b0 at *
  generalize eqB x.funcs y.funcs = b1 at *
  generalize eqB x.imps y.imps = b2 at *
  generalize eqB x.ints y.ints = b3 at *
  generalize eqB x.texts y.texts = b4 at *
  have HB0 : Hid (Below w.heap.size w ((w.alloc (.cells #[.slice A0 n0 d0, .slice A1 n1 d1, .slice A2 n2 d2, .slice A3 n3 d3, .slice A4 n4 d4] 28)).alloc (.cells #[.slice B0 m0 g0, .slice B1 m1 g1, .slice B2 m2 g2, .slice B3 m3 g3, .slice B4 m4 g4] 28))) := ((Below.refl _ _).alloc (Nat.le_refl _) _).alloc (by simp) _
  have HX : Hid (∀ W, Below w.heap.size w W → w.heap.size + 1 < W.heap.size → C5 w.heap.size (.slice A0 n0 d0) (.slice A1 n1 d1) (.slice A2 n2 d2) (.slice A3 n3 d3) (.slice A4 n4 d4) W → C5 (w.heap.size + 1) (.slice B0 m0 g0) (.slice B1 m1 g1) (.slice B2 m2 g2) (.slice B3 m3 g3) (.slice B4 m4 g4) W → ∀ w1, Below W.heap.size W w1 →
      C5 w.heap.size (.slice A0 n0 d0) (.slice A1 n1 d1) (.slice A2 n2 d2) (.slice A3 n3 d3) (.slice A4 n4 d4) w1 ∧ C5 (w.heap.size + 1) (.slice B0 m0 g0) (.slice B1 m1 g1) (.slice B2 m2 g2) (.slice B3 m3 g3) (.slice B4 m4 g4) w1 ∧ Below w.heap.size w w1 ∧ w.heap.size + 1 < w1.heap.size) :=
    fun W hb hs hC hD w1 h1 => ⟨hC.below h1 (by omega), hD.below h1 hs, hb.trans (h1.mono hb.size), Nat.lt_of_lt_of_le hs h1.size⟩
  have HX1 := Lib.hid (HX.out _ HB0.out (by simp) (by simp [C5, go_sem]) (by simp [C5, go_sem]))
  rcases b0 with _ | _
  case' true => rcases b1 with _ | _
  case' true.true => rcases b2 with _ | _
  case' true.true.true => rcases b3 with _ | _
  all_goals
    go_enter Try.func7, Try.ntmps7
    try simp only [List.append]
    go_wp2_with (first
      | (go_at_call 19
         refine (T4.out _ HB4.out).mono ?_
         rintro e w5 ⟨rfl, hb5⟩
         have HB5 := Lib.hid (HB4.out.trans (hb5.mono HB4.out.size))
         clear hb5)
      | (go_at_call 18
         refine (T3.out _ HB3.out).mono ?_
         rintro e w4 ⟨rfl, hb4⟩
         obtain ⟨hC4, hD4, hB4, hs4⟩ := HX4.out w4 hb4
         have HB4 := Lib.hid hB4
         obtain ⟨y30, y31, y32, y33, y34⟩ := hC4
         obtain ⟨z30, z31, z32, z33, z34⟩ := hD4
         clear hb4 hB4)
      | (go_at_call 16
         refine (T2.out _ HB2.out).mono ?_
         rintro e w3 ⟨rfl, hb3⟩
         obtain ⟨hC3, hD3, hB3, hs3⟩ := HX3.out w3 hb3
         have HX4 := Lib.hid (HX.out w3 hB3 hs3 hC3 hD3)
         have HB3 := Lib.hid hB3
         obtain ⟨y20, y21, y22, y23, y24⟩ := hC3
         obtain ⟨z20, z21, z22, z23, z24⟩ := hD3
         clear hb3 hB3)
      | (go_at_call 14
         refine (T1.out _ HB1.out).mono ?_
         rintro e w2 ⟨rfl, hb2⟩
         obtain ⟨hC2, hD2, hB2, hs2⟩ := HX2.out w2 hb2
         have HX3 := Lib.hid (HX.out w2 hB2 hs2 hC2 hD2)
         have HB2 := Lib.hid hB2
         obtain ⟨y10, y11, y12, y13, y14⟩ := hC2
         obtain ⟨z10, z11, z12, z13, z14⟩ := hD2
         clear hb2 hB2)
      | (go_at_call 12
         refine (T0.out _ HB0.out).mono ?_
         rintro e w1 ⟨rfl, hb1⟩
         obtain ⟨hC1, hD1, hB1, hs1⟩ := HX1.out w1 hb1
         have HX2 := Lib.hid (HX.out w1 hB1 hs1 hC1 hD1)
         have HB1 := Lib.hid hB1
         obtain ⟨y0, y1, y2, y3, y4⟩ := hC1
         obtain ⟨z0, z1, z2, z3, z4⟩ := hD1
         clear hb1 hB1))
    go_ret
  all_goals first | exact ⟨by simp, HB5.out⟩ | exact ⟨by simp, HB4.out⟩ | exact ⟨by simp, HB3.out⟩ | exact ⟨by simp, HB2.out⟩ | exact ⟨by simp, HB1.out⟩
end Go.Proofs.Ytngjnkkdhjholaa
namespace Go.Proofs.Ytngjnkkdhjholaa
open Go.RowKit
set_option linter.unusedSimpArgs false
set_option linter.unusedVariables false

def fn0 : Fn := ⟨[], (1, 0), [], [(26, 0, 0)]⟩
def m0 : Mod := ⟨[], [fn0], [], [], []⟩
theorem m0_fit : fitB m0 = true := by decide
theorem m0_bytes : modB m0 = [5, 1, 0, 7, 1, 0, 1, 0, 0, 1, 26, 1, 0, 1, 0, 1, 0] := by
  have hi : insB 26 0 0 = [26] := by
    have h : goodI ((26 : Nat) : Int) ((0 : Nat) : Int) ((0 : Nat) : Int) = true := by decide
    have := insB_good h
    rw [show argN ((26 : Nat) : Int) = 0 by decide] at this
    simpa [bodyB] using this
  simp [modB, partsB, m0, fn0, joinB, pts, pt, lB, fnB, tB, typB, iB, hi, vb_small]
theorem m0_print : printN m0 ≠ 0 := by
  rw [printN, if_pos m0_fit, m0_bytes]
  decide +kernel

/-- The smallest module, as answers lays it. -/
theorem m0_laid (w : World) : modL.R (· < (((w.alloc (.cells #[.int .i64 26, .int .i64 0, .int .i64 0] 35)).alloc (.cells #[.slice none 0 0, .int .i64 1, .int .i64 0, .slice none 0 0, .slice (some ⟨w.heap.size, 0, none⟩) 1 1] 39)).alloc (.cells #[.slice none 0 0, .slice (some ⟨w.heap.size + 1, 0, none⟩) 1 1, .slice none 0 0, .slice none 0 0, .slice none 0 0] 28)).heap.size)
    (((w.alloc (.cells #[.int .i64 26, .int .i64 0, .int .i64 0] 35)).alloc (.cells #[.slice none 0 0, .int .i64 1, .int .i64 0, .slice none 0 0, .slice (some ⟨w.heap.size, 0, none⟩) 1 1] 39)).alloc (.cells #[.slice none 0 0, .slice (some ⟨w.heap.size + 1, 0, none⟩) 1 1, .slice none 0 0, .slice none 0 0, .slice none 0 0] 28))
    [.slice none 0 0, .slice (some ⟨w.heap.size + 1, 0, none⟩) 1 1, .slice none 0 0, .slice none 0 0, .slice none 0 0] m0 := by
  have hm : (0 : Nat) ≤ maxLen ∧ 1 ≤ maxLen := by unfold maxLen; omega
  have add : ∀ b i, (⟨b, 0, none⟩ : Addr).add i = ⟨b, i, none⟩ := fun b i => by unfold Addr.add; split <;> simp_all
  refine ⟨_, _, _, _, _, rfl, ⟨none, 0, rfl, Nat.le_refl _, hm.1, Sq.nil _ _ _ _⟩, ⟨some ⟨w.heap.size + 1, 0, none⟩, 1, rfl, Nat.le_refl _, hm.2, fun _ => ⟨_, rfl, by simp, fun j x hx => ?_⟩⟩, ⟨none, 0, rfl, Nat.le_refl _, hm.1, Sq.nil _ _ _ _⟩, ⟨none, 0, rfl, Nat.le_refl _, hm.1, Sq.nil _ _ _ _⟩, ⟨none, 0, rfl, Nat.le_refl _, hm.1, Sq.nil _ _ _ _⟩⟩
  match j, hx with
  | 0, hx =>
    simp [m0] at hx
    subst hx
    refine ⟨[.slice none 0 0, .int .i64 1, .int .i64 0, .slice none 0 0, .slice (some ⟨w.heap.size, 0, none⟩) 1 1], fun i u hu => ?_, _, _, _, rfl, by unfold I64 fn0; simp, by unfold I64 fn0; simp, ⟨none, 0, rfl, Nat.le_refl _, hm.1, Sq.nil _ _ _ _⟩, ⟨none, 0, rfl, Nat.le_refl _, hm.1, Sq.nil _ _ _ _⟩, ⟨some ⟨w.heap.size, 0, none⟩, 1, rfl, Nat.le_refl _, hm.2, fun _ => ⟨_, rfl, by simp; omega, fun j x hx => ?_⟩⟩⟩
    · rw [add]
      match i, hu with
      | 0, hu => simp at hu; subst hu; simp [go_sem]
      | 1, hu => simp at hu; subst hu; simp [go_sem]
      | 2, hu => simp at hu; subst hu; simp [go_sem]
      | 3, hu => simp at hu; subst hu; simp [go_sem]
      | 4, hu => simp at hu; subst hu; simp [go_sem]
      | i + 5, hu => simp at hu
    · match j, hx with
      | 0, hx =>
        simp [fn0] at hx
        subst hx
        refine ⟨[.int .i64 26, .int .i64 0, .int .i64 0], fun i u hu => ?_, rfl, by unfold I64; simp, by unfold I64; simp, by unfold I64; simp⟩
        rw [add]
        match i, hu with
        | 0, hu => simp at hu; subst hu; simp [go_sem]
        | 1, hu => simp at hu; subst hu; simp [go_sem]
        | 2, hu => simp at hu; subst hu; simp [go_sem]
        | i + 3, hu => simp at hu
      | j + 1, hx => simp [fn0] at hx
  | j + 1, hx => simp [m0] at hx

theorem mod_at {w w1 : World} {cs : List Value} {m : Mod} (h : modL.R (· < w.heap.size) w cs m) (hb : Below w.heap.size w w1) : modL.R (· < w1.heap.size) w1 cs m :=
  modL.wide (modL.keep h fun b hb1 => hb.block b hb1) fun b hb1 => Nat.lt_of_lt_of_le hb1 hb.size

set_option maxRecDepth 100000 in
set_option maxHeartbeats 4000000 in
theorem answers6 (w : World) : Calls Try.prog 6 #[] w fun e w' => e = .returned (.bool true) ∧ Below w.heap.size w w' := by
  go_enter Try.func6, Try.ntmps6
  go_wp2_with fail
  refine calls_world fun W hW => ?_
  have HL : Hid (modL.R (· < W.heap.size) W [.slice none 0 0, .slice (some ⟨w.heap.size + 1, 0, none⟩) 1 1, .slice none 0 0, .slice none 0 0, .slice none 0 0] m0) := by rw [hW]; exact m0_laid w
  have HB0 : Hid (Below w.heap.size w W) := by show Below _ _ _; rw [hW]; exact (((Below.refl _ _).alloc (Nat.le_refl _) _).alloc (by simp) _).alloc (by simp; omega) _
  have HC0 : Hid (C5 (w.heap.size + 2) (.slice none 0 0) (.slice (some ⟨w.heap.size + 1, 0, none⟩) 1 1) (.slice none 0 0) (.slice none 0 0) (.slice none 0 0) W) := by show C5 _ _ _ _ _ _ _; rw [hW]; simp [C5, go_sem]
  have hz : w.heap.size + 2 < W.heap.size := by rw [hW]; simp
  clear hW
  refine (encode_any _ m0 W HL.out).mono ?_
  rintro e w1 ⟨hb1, ⟨h1, -⟩ | ⟨-, u, rfl, hown⟩⟩
  · rw [m0_fit] at h1
    cases h1
  obtain ⟨A5, c5, rfl, -, -, -, hY5⟩ := own_slice hown
  have HY5 := Lib.hid (hY5.wide (T := (· < w1.heap.size)) fun b hb => hb.2)
  rw [m0_bytes]
  rw [m0_bytes] at HY5
  have HB1 := Lib.hid (HB0.out.trans (hb1.mono HB0.out.size))
  have HC1 := Lib.hid (HC0.out.below hb1 hz)
  have HL1 := Lib.hid (mod_at HL.out hb1)
  have hz1 : w.heap.size + 2 < w1.heap.size := Nat.lt_of_lt_of_le hz hb1.size
  clear hb1 hown hY5
  simp only [List.length_cons, List.length_nil, Nat.zero_add, Nat.reduceAdd]
  go_wp2_with fail
  refine (decode_any A5 17 c5 [5, 1, 0, 7, 1, 0, 1, 0, 0, 1, 26, 1, 0, 1, 0, 1, 0] w1 rfl (by decide) HY5.out (by omega)).mono ?_
  rintro e w2 ⟨hb2, ⟨m, cs, hm, he, hR⟩ | ⟨hno, -⟩⟩
  rotate_left
  · exact absurd ⟨m0, fitB_iff.1 m0_fit, by simp [m0], m0_bytes.symm⟩ hno
  obtain rfl : m = m0 := mod_unique hm.1 (fitB_iff.1 m0_fit) hm.2.1 (by simp [m0]) (by rw [← hm.2.2, m0_bytes])
  have HL2 := Lib.hid (modL.wide hR (T := (· < w2.heap.size)) fun b hb => hb.2)
  obtain ⟨_, _, _, _, _, rfl, ⟨A0, d0, e0, -⟩, ⟨A1, d1, e1, -⟩, ⟨A2, d2, e2, -⟩, ⟨A3, d3, e3, -⟩, ⟨A4, d4, e4, -⟩⟩ := hR
  simp only [List.cons.injEq, and_true] at e0 e1 e2 e3 e4
  subst e0 e1 e2 e3 e4
  simp only [m0, List.length_nil, List.length_cons, Nat.zero_add] at he HL2
  subst he
  have HB2 := Lib.hid (HB1.out.trans (hb2.mono HB1.out.size))
  have HC2 := Lib.hid (HC1.out.below hb2 hz1)
  have HL3 := Lib.hid (mod_at HL1.out hb2)
  have hz2 : w.heap.size + 2 < w2.heap.size := Nat.lt_of_lt_of_le hz1 hb2.size
  obtain ⟨y0, y1, y2, y3, y4⟩ := HC2.out
  clear hb2 hm
  go_wp2_with fail
  refine calls_world fun W3 hW3 => ?_
  have HA3 : Hid (Below w2.heap.size w2 W3) := by show Below _ _ _; rw [hW3]; exact (Below.refl _ _).alloc (Nat.le_refl _) _
  have HB3 := Lib.hid (HB2.out.trans (HA3.out.mono HB2.out.size))
  have HC3 := Lib.hid (HC2.out.below HA3.out hz2)
  have hz3 : w.heap.size + 2 < W3.heap.size := Nat.lt_of_lt_of_le hz2 HA3.out.size
  clear hW3
  refine (same_mod _ _ m0 m0 W3 (mod_at HL2.out HA3.out) (mod_at HL3.out HA3.out)).mono ?_
  rintro e w4 ⟨he, hb4⟩
  rw [eqB_self] at he
  subst he
  have HB4 := Lib.hid (HB3.out.trans (hb4.mono HB3.out.size))
  obtain ⟨z0, z1, z2, z3, z4⟩ := HC3.out.below hb4 hz3
  have HL4 := Lib.hid (mod_at (mod_at HL3.out HA3.out) hb4)
  clear hb4
  go_wp2_with fail
  refine (print_any _ m0 w4 HL4.out (by simp [m0])).mono ?_
  rintro e w5 ⟨rfl, hb5⟩
  have hpn : ((printN m0 : Int) != 0) = true := by
    have h := m0_print
    simp
    omega
  have hpn2 : (printN m0 != 0) = true := by
    have h := m0_print
    simp
    omega
  generalize printN m0 = pn at *
  go_wp2_with fail
  go_ret
  exact ⟨rfl, HB4.out.trans (hb5.mono HB4.out.size)⟩
end Go.Proofs.Ytngjnkkdhjholaa
namespace Go.Proofs.Ytngjnkkdhjholaa
open Go.RowKit
set_option linter.unusedSimpArgs false
set_option linter.unusedVariables false

set_option maxRecDepth 100000 in
theorem walk_append_raw (k : Nat) (w : World) {ops : Array Oper} {rest : List Oper} {o : Oper} {a : Act} {Q : Exit → Act → World → Prop} (hgd : o.guard = none) (s x : Operand) (T E : TypeId)
    (ho : o.op = .call { callee := .builtin .append, args := #[s, x], argTypes := #[T, T] })
    (z : Value) (B : Nat) (hT : Try.prog.underlying T = some (.slice E)) (hI : (Try.prog.info? E).map (fun i => (i.zero, i.size, i.bytes)) = some (some z, k, B)) (hz : z.cells.size = k) (hk : 0 < k) (hB : B ≤ 100)
    (base : Nat) (v : Value) (n : Nat) (cs : List Value) (hs : a.eval s = v) (hO : w.ownsRow base E k v n cs) (ad : Addr) (d : Nat) (hx : a.eval x = .slice (some ad) 1 d) (ys : List Value) (hl : ys.length = k)
    (hc : ∀ j u, ys[j]? = some u → w.cell? (ad.add j) = some u) (hone : ∀ u ∈ ys, u.oneCell' = true) (hbig : n ≤ 1000) (hbase : base ≤ w.heap.size)
    (h : ∀ v' w', w'.ownsRow base E k v' (n + 1) (cs ++ ys) → w.grownBy w' v.ownBlock → (v'.ownBlock = v.ownBlock ∨ v'.ownBlock = some w.heap.size) → wpList Try.prog ops Q rest (a.put o.dst v') w') : wpList Try.prog ops Q (o :: rest) a w := by
  refine wpList_plain hgd fun _ hK => ?_
  obtain ⟨i0, hi0, hz0, hz1, hz2⟩ := info_parts hI
  have hBx : (n + 1) * B ≤ 140737488355328 := by
    have := Nat.mul_le_mul (show n + 1 ≤ 1001 by omega) hB
    omega
  obtain ⟨v', w', hrun, h2, h3, _, h5⟩ := run_append_own_at (P := Try.prog) w base T o.type E i0 z k B hT hi0 hz0 hz1 hz2 hz hk v n cs hO ad 1 d ys (by rw [hl, Nat.one_mul]) hc hone
    (by simp only [maxLen]; omega) hBx hbase
  unfold Oper.wp execOp
  simp only [ho, resolve, invoke, builtin, Sem.run_bind, Sem.run_pure, Result.andThen_ok, List.map_toArray, List.map_cons, List.map_nil, hs, hx, hrun]
  exact hK _ _ (h v' w' h2 h3 h5)

theorem step_append_raw (k : Nat) (w : World) {ops : Array Oper} {o : Oper} {a : Act} {K : Act → World → Prop} {Q : Exit → Act → World → Prop} {X : Prop} (hgd : o.guard = none) (s x : Operand) (T E : TypeId)
    (ho : o.op = .call { callee := .builtin .append, args := #[s, x], argTypes := #[T, T] })
    (z : Value) (B : Nat) (hT : Try.prog.underlying T = some (.slice E)) (hI : (Try.prog.info? E).map (fun i => (i.zero, i.size, i.bytes)) = some (some z, k, B)) (hz : z.cells.size = k) (hk : 0 < k) (hB : B ≤ 100)
    (base : Nat) (v : Value) (n : Nat) (cs : List Value) (hs : a.eval s = v) (hO : w.ownsRow base E k v n cs) (ad : Addr) (d : Nat) (hx : a.eval x = .slice (some ad) 1 d) (ys : List Value) (hl : ys.length = k)
    (hc : ∀ j u, ys[j]? = some u → w.cell? (ad.add j) = some u) (hone : ∀ u ∈ ys, u.oneCell' = true) (hbig : n ≤ 1000) (hbase : base ≤ w.heap.size)
    (h : ∀ v' w', w'.ownsRow base E k v' (n + 1) (cs ++ ys) → w.grownBy w' v.ownBlock → (v'.ownBlock = v.ownBlock ∨ v'.ownBlock = some w.heap.size) → K (a.put o.dst v') w') :
    if Region.wanted o (yielded ops a.tmps) = true then Oper.wp Try.prog o a w K Q else X := by
  have hw : Region.wanted o (yielded ops a.tmps) = true := by simp [Region.wanted, hgd]
  rw [if_pos hw]
  obtain ⟨i0, hi0, hz0, hz1, hz2⟩ := info_parts hI
  have hBx : (n + 1) * B ≤ 140737488355328 := by
    have := Nat.mul_le_mul (show n + 1 ≤ 1001 by omega) hB
    omega
  obtain ⟨v', w', hrun, h2, h3, _, h5⟩ := run_append_own_at (P := Try.prog) w base T o.type E i0 z k B hT hi0 hz0 hz1 hz2 hz hk v n cs hO ad 1 d ys (by rw [hl, Nat.one_mul]) hc hone
    (by simp only [maxLen]; omega) hBx hbase
  unfold Oper.wp execOp
  simp only [ho, resolve, invoke, builtin, Sem.run_bind, Sem.run_pure, Result.andThen_ok, List.map_toArray, List.map_cons, List.map_nil, hs, hx, hrun]
  exact h v' w' h2 h3 h5

/-- A row of cells of which each things' cells say what it is. -/
theorem raw_sl {α : Type} {L : Lay α} {S : Nat → Prop} {ty base : Nat} {w : World} {v : Value} {xs : List α} {css : List (List Value)} (hl : css.length = xs.length) (hown : w.ownsRow base ty L.k v xs.length css.flatten)
    (hR : ∀ (j : Nat) (x : α) (cs : List Value), xs[j]? = some x → css[j]? = some cs → L.R S w cs x) (hS : ∀ b, base ≤ b → b < w.heap.size → S b) : (slL L).R S w [v] xs := by
  have hk : ∀ cs ∈ css, cs.length = L.k := fun cs hcs => by
    obtain ⟨j, hj⟩ := List.mem_iff_getElem?.1 hcs
    have hjl : j < xs.length := by rw [← hl]; exact (List.getElem?_eq_some_iff.1 hj).1
    exact L.len (hR j _ cs (List.getElem?_eq_getElem hjl) hj)
  rcases hown.2 with ⟨rfl, h0⟩ | ⟨g, cap, cur, rfl, hb, hg, hnc, hcm, _, _⟩
  · exact ⟨none, 0, by rw [h0], by omega, by simp [maxLen], fun hpos => absurd hpos (by omega)⟩
  · refine ⟨some ⟨g, 0, none⟩, cap, rfl, hnc, hcm, fun _ => ⟨⟨g, 0, none⟩, rfl, hS _ hb (Array.getElem?_eq_some_iff.1 hg).1, fun j x hx => ?_⟩⟩
    have hjl : j < css.length := by rw [hl]; exact (List.getElem?_eq_some_iff.1 hx).1
    have hcs := List.getElem?_eq_getElem hjl
    have hr := hR j x _ hx hcs
    refine ⟨_, fun i u hu => ?_, hr⟩
    have hi : i < L.k := by rw [← L.len hr]; exact (List.getElem?_eq_some_iff.1 hu).1
    exact hown.cells rfl (j * L.k + i) u (by rw [flat_get hk hcs i hi]; exact hu)
/-- A row of one thing, as it was laid. -/
theorem raw_one {w : World} {g base ty k : Nat} {cs : Array Value} (h : Blk w g ty cs) (hb : base ≤ g) (hk : cs.size = k) : w.ownsRow base ty k (.slice (some ⟨g, 0, none⟩) 1 1) 1 cs.toList :=
  ⟨by simp [hk], .inr ⟨g, 1, cs, rfl, hb, h, Nat.le_refl _, by simp [maxLen], by omega, by rw [List.take_of_length_le (by simp [hk])]⟩⟩
/-- One thing in a row of its own. -/
theorem one_sl {α : Type} {L : Lay α} {S : Nat → Prop} {w : World} {g ty : Nat} {cs : Array Value} {x : α} (h : Blk w g ty cs) (hg : S g) (hR : L.R S w cs.toList x) : (slL L).R S w [.slice (some ⟨g, 0, none⟩) 1 1] [x] := by
  refine ⟨some ⟨g, 0, none⟩, 1, rfl, Nat.le_refl _, by simp [maxLen], fun _ => ⟨_, rfl, hg, fun j y hy => ?_⟩⟩
  have hj : j = 0 := by
    rcases Nat.eq_zero_or_pos j with h | h
    · exact h
    · rw [List.getElem?_eq_none (by simp; omega)] at hy
      cases hy
  subst hj
  simp at hy
  subst hy
  refine ⟨_, fun i u hu => ?_, hR⟩
  have e : (⟨g, 0, none⟩ : Addr).add (0 * L.k + i) = ⟨g, i, none⟩ := by unfold Addr.add; split <;> simp_all
  rw [e, h.cell i]
  simpa using hu
theorem nil_sl {α : Type} (L : Lay α) (S : Nat → Prop) (w : World) : (slL L).R S w [.slice none 0 0] [] := ⟨none, 0, rfl, Nat.le_refl _, by simp [maxLen], Sq.nil _ _ _ _⟩

def tA : Array Value := #[.int .i64 1, .int .i64 0]
def iA : Array Value := #[.int .i64 26, .int .i64 0, .int .i64 0]
theorem modB_pos (m : Mod) : 0 < (modB m).length := by
  have : joinB (partsB m) = vb 5 ++ pts (partsB m) := rfl
  rw [modB, this, vb_small 5 (by omega)]
  simp
theorem t_good (r : Int) : goodT r (1, 0) = true := by simp [goodT, goodB]
theorem f_ok (r : Int) (n c : Nat) : fnOk r ⟨[], (1, 0), List.replicate n (1, 0), (26, 0, 0) :: List.replicate c (5, 0, 0)⟩ = decide (n ≤ 8 ∧ c ≤ 63) := by
  have h1 : goodIn (26, 0, 0) = true := by decide
  have h2 : goodIn (5, 0, 0) = true := by decide
  rw [Bool.eq_iff_iff]
  simp only [fnOk, Bool.and_eq_true, witB_iff, t_good, decide_eq_true_eq]
  simp [t_good, h1, h2]
  omega
theorem f0_ok (r : Int) : fnOk r fn0 = true := by
  have h := f_ok r 0 0
  simp at h
  exact h
/-- The law's modules: which of the seven, and how many more. -/
def bm : Nat → Nat → Mod
  | 0, k => ⟨List.replicate k [], [fn0], [], [], []⟩
  | 1, k => ⟨[], List.replicate (k + 1) fn0, [], [], []⟩
  | 2, k => ⟨[], [fn0], List.replicate k ⟨[], (1, 0)⟩, [], []⟩
  | 3, k => ⟨[], [fn0], [], List.range k, []⟩
  | 4, k => ⟨[], [fn0], [], [], List.replicate k [97]⟩
  | 5, k => ⟨[], [⟨[], (1, 0), List.replicate k (1, 0), [(26, 0, 0)]⟩], [], [], []⟩
  | _, k => ⟨[], [⟨[], (1, 0), [], (26, 0, 0) :: List.replicate k (5, 0, 0)⟩], [], [], []⟩
def bt : Nat → Nat
  | 0 => 8
  | 1 => 7
  | 2 => 8
  | 3 => 16
  | 4 => 16
  | 5 => 8
  | _ => 63
theorem bm_fit (c k : Nat) : fitB (bm c k) = decide (k ≤ bt c) := by
  have h0 := f0_ok
  have h5 : ∀ r, fnOk r ⟨[], (1, 0), List.replicate k (1, 0), [(26, 0, 0)]⟩ = decide (k ≤ 8) := fun r => by simpa using f_ok r k 0
  have h6 : ∀ r, fnOk r ⟨[], (1, 0), [], (26, 0, 0) :: List.replicate k (5, 0, 0)⟩ = decide (k ≤ 63) := fun r => by simpa using f_ok r 0 k
  rw [Bool.eq_iff_iff]
  match c with
  | 0 => simp [fitB, witB_iff, bm, bt, recOk, h0]; omega
  | 1 => simp [fitB, witB_iff, bm, bt, recOk, h0]; omega
  | 2 => simp [fitB, witB_iff, bm, bt, impOk, t_good, h0]; omega
  | 3 => simp [fitB, witB_iff, bm, bt, h0]
  | 4 => simp [fitB, witB_iff, bm, bt, shortB, h0]; omega
  | 5 => simp [fitB, witB_iff, bm, bt, h5]
  | c + 6 => simp [fitB, witB_iff, bm, bt, h6]
theorem raw_below {w w' : World} {base B ty k : Nat} {v : Value} {n : Nat} {xs : List Value} (h : w.ownsRow base ty k v n xs) (hb : Below B w w') (hB : w.heap.size ≤ B) : w'.ownsRow base ty k v n xs :=
  h.kept (w' := w') (row := none) ⟨hb.os, hb.tape, hb.output, hb.size, fun k hk _ => hb.block k (by omega)⟩ (by cases v.ownBlock <;> simp)
theorem raw_shape {w : World} {base ty k : Nat} {v : Value} {n : Nat} {xs : List Value} (h : w.ownsRow base ty k v n xs) : ∃ A m c, v = .slice A m c := by
  rcases h.2 with ⟨rfl, -⟩ | ⟨g, cap, cur, rfl, -⟩
  · exact ⟨_, _, _, rfl⟩
  · exact ⟨_, _, _, rfl⟩
/-- The law's function, and the row that holds it. -/
theorem fn_laid {w : World} {N tf ti : Nat} (h2 : Blk w (N + 2) tf #[.slice none 0 0, .int .i64 1, .int .i64 0, .slice none 0 0, .slice (some ⟨N + 1, 0, none⟩) 1 1]) (h1 : Blk w (N + 1) ti iA) : (slL fnL).R (· < w.heap.size) w [.slice (some ⟨N + 2, 0, none⟩) 1 1] [fn0] :=
  one_sl h2 h2.lt ⟨_, _, _, rfl, by unfold I64 fn0; simp, by unfold I64 fn0; simp, nil_sl _ _ _, nil_sl _ _ _, one_sl (x := (26, 0, 0)) h1 h1.lt ⟨rfl, by unfold I64; simp, by unfold I64; simp, by unfold I64; simp⟩⟩

/-- The law's four blocks, as they are laid. -/
theorem four_blk (w : World) (c0 c1 c2 c3 : Array Value) (t0 t1 t2 t3 : Nat) : Blk ((((w.alloc (.cells c0 t0)).alloc (.cells c1 t1)).alloc (.cells c2 t2)).alloc (.cells c3 t3)) w.heap.size t0 c0 ∧
    Blk ((((w.alloc (.cells c0 t0)).alloc (.cells c1 t1)).alloc (.cells c2 t2)).alloc (.cells c3 t3)) (w.heap.size + 1) t1 c1 ∧ Blk ((((w.alloc (.cells c0 t0)).alloc (.cells c1 t1)).alloc (.cells c2 t2)).alloc (.cells c3 t3)) (w.heap.size + 2) t2 c2 ∧
    Blk ((((w.alloc (.cells c0 t0)).alloc (.cells c1 t1)).alloc (.cells c2 t2)).alloc (.cells c3 t3)) (w.heap.size + 3) t3 c3 := by
  have k : ∀ (v : World) (o : Obj) (b t : Nat) (c : Array Value), Blk v b t c → Blk (v.alloc o) b t c := fun v o b t c h => (Below.heap_alloc v o b h.lt).trans h
  have n : ∀ (v : World) (b t : Nat) (c : Array Value), v.heap.size = b → Blk (v.alloc (.cells c t)) b t c := fun v b t c h => by rw [← h]; exact blk_new v t c
  exact ⟨k _ _ _ _ _ (k _ _ _ _ _ (k _ _ _ _ _ (n _ _ _ _ rfl))), k _ _ _ _ _ (k _ _ _ _ _ (n _ _ _ _ (by simp))), k _ _ _ _ _ (n _ _ _ _ (by simp)), n _ _ _ _ (by simp)⟩

/-- What is known behind some rounds: the row of cells v, which the block g keeps, holds css; of the law's four blocks no other has turned but b0, where the row began. -/
def Bst (N ty k b0 g ty2 : Nat) (mk : Value → Array Value) (w W0 wr : World) (css : List (List Value)) (v : Value) : Prop :=
  Below N w wr ∧ N + 4 ≤ wr.heap.size ∧ wr.ownsRow (N + 1) ty k v css.length css.flatten ∧ (∀ b, v.ownBlock = some b → b = b0 ∨ N + 4 ≤ b) ∧ (∀ b, b < N + 4 → b ≠ b0 → b ≠ g → wr.heap[b]? = W0.heap[b]?) ∧ Blk wr g ty2 (mk v)
theorem Bst.blk {N ty k b0 g ty2 : Nat} {mk : Value → Array Value} {w W0 wr w1 w2 : World} {css : List (List Value)} {v : Value} (h : Bst N ty k b0 g ty2 mk w W0 wr css v) (hb : b0 ≠ g) (hg : g < N + 4) (h1 : Below wr.heap.size wr w1) (hgr : w1.grownBy w2 v.ownBlock) : Blk w2 g ty2 (mk v) := by
  obtain ⟨a1, a2, a3, a4, a5, a6⟩ := h
  refine ((hgr.block g (Nat.lt_of_lt_of_le a6.lt h1.size) fun e => ?_).trans (h1.block g a6.lt)).trans a6
  rcases a4 g e.symm with h | h <;> omega
theorem Bst.step {N ty k b0 g ty2 i : Nat} {mk : Value → Array Value} {w W0 wr w1 w2 : World} {css : List (List Value)} {ys : List Value} {v v' : Value} (h : Bst N ty k b0 g ty2 mk w W0 wr css v) (hb : b0 ≠ g) (hb0 : N ≤ b0) (hg0 : N ≤ g) (hg : g < N + 4) (h1 : Below wr.heap.size wr w1)
    (hown : w2.ownsRow (N + 1) ty k v' (css.length + 1) (css.flatten ++ ys)) (hgr : w1.grownBy w2 v.ownBlock) (h5 : v'.ownBlock = v.ownBlock ∨ v'.ownBlock = some w1.heap.size) (hset : (mk v).setIfInBounds i v' = mk v') :
    Bst N ty k b0 g ty2 mk w W0 (w2.setCell ⟨g, i, none⟩ v') (css ++ [ys]) v' := by
  have hblk := h.blk hb hg h1 hgr
  obtain ⟨a1, a2, a3, a4, a5, a6⟩ := h
  have s1 := h1.size
  have s2 := hgr.size
  have hv : ∀ b, v'.ownBlock = some b → b = b0 ∨ N + 4 ≤ b := by
    intro b e
    rcases h5 with h | h
    · exact a4 b (h ▸ e)
    · rw [h] at e
      injection e with e
      omega
  have hrow : ∀ j, v.ownBlock = some j → N ≤ j := fun j e => by rcases a4 j e with h | h <;> omega
  refine ⟨((a1.trans (h1.mono (by omega))).trans (below_grown hgr (by omega) hrow)).setCell (p := ⟨g, i, none⟩) hg0 _, by have := (only_set (only_refl g w2) i v').size; omega, ?_, hv, ?_, ?_⟩
  · have := hown.kept (row := some g) (only_set (only_refl g w2) i v') (.inr fun e => by rcases hv g e with h | h <;> omega)
    simpa using this
  · intro b h2 h3 h4
    rw [Below.heap_setCell _ _ _ _ (by simpa using h4), hgr.block b (by omega) (fun e => by rcases a4 b e.symm with h | h <;> omega), h1.block b (by omega)]
    exact a5 b h2 h3 h4
  · rw [← hset]
    exact hblk.set i v'
end Go.Proofs.Ytngjnkkdhjholaa
namespace Go.Proofs.Ytngjnkkdhjholaa
open Go.RowKit
set_option linter.unusedSimpArgs false
set_option linter.unusedVariables false

set_option maxRecDepth 100000 in
set_option maxHeartbeats 4000000 in
theorem bounds0 (t n : Int) (w : World) (ht : 0 ≤ t ∧ t ≤ 255) (hn : 0 ≤ n ∧ n ≤ 255) (hc : t % 7 = 0) :
    Calls Try.prog 4 #[.int .u8 t, .int .u8 n] w fun e w' => e = .returned (.bool true) ∧ Below w.heap.size w w' := by
  have AN := Lib.hid (fun w => answers6 w)
  obtain ⟨k, ek, hk⟩ : ∃ k : Nat, n % 70 = (k : Int) ∧ k < 70 := ⟨(n % 70).toNat, by omega, by omega⟩
  go_enter Try.func4, Try.ntmps4
  go_wp2_with fail
  rw [ek]
  refine wp_world fun W0 hW0 => ?_
  have HFB := Lib.hid (four_blk w tA iA #[.slice none 0 0, .int .i64 1, .int .i64 0, .slice none 0 0, .slice (some ⟨w.heap.size + 1, 0, none⟩) 1 1] #[.slice none 0 0, .slice (some ⟨w.heap.size + 2, 0, none⟩) 1 1, .slice none 0 0, .slice none 0 0, .slice none 0 0] 33 35 39 28)
  have B0 : Hid (Blk W0 w.heap.size 33 tA) := by show Blk _ _ _ _; rw [hW0]; exact HFB.out.1
  have B1 : Hid (Blk W0 (w.heap.size + 1) 35 iA) := by show Blk _ _ _ _; rw [hW0]; exact HFB.out.2.1
  have B2 : Hid (Blk W0 (w.heap.size + 2) 39 #[.slice none 0 0, .int .i64 1, .int .i64 0, .slice none 0 0, .slice (some ⟨w.heap.size + 1, 0, none⟩) 1 1]) := by show Blk _ _ _ _; rw [hW0]; exact HFB.out.2.2.1
  have B3 : Hid (Blk W0 (w.heap.size + 3) 28 #[.slice none 0 0, .slice (some ⟨w.heap.size + 2, 0, none⟩) 1 1, .slice none 0 0, .slice none 0 0, .slice none 0 0]) := by show Blk _ _ _ _; rw [hW0]; exact HFB.out.2.2.2
  clear HFB
  have HB0 : Hid (Below w.heap.size w W0) := by show Below _ _ _; rw [hW0]; exact ((((Below.refl _ _).alloc (Nat.le_refl _) _).alloc (by simp) _).alloc (by simp; omega) _).alloc (by simp; omega) _
  have hz0 : w.heap.size + 4 ≤ W0.heap.size := by rw [hW0]; simp
  clear hW0
  go_loopw [8, 9] (fun mo i wr => ∃ j : Nat, j ≤ k ∧ i = .int .i64 (j : Nat) ∧ ∃ q : Int, mo = .int .i64 q ∧ (j = 0 → q = 0) ∧ (0 < j → q = 8) ∧ ∃ v, Bst w.heap.size 37 1 (w.heap.size + 4) (w.heap.size + 3) 28 (fun v => #[v, .slice (some ⟨w.heap.size + 2, 0, none⟩) 1 1, .slice none 0 0, .slice none 0 0, .slice none 0 0]) w W0 wr ((List.replicate j [.slice none 0 0] : List (List Value))) v) (fun _ i _ => k - (intOf i).toNat)
  case atStart =>
    refine ⟨0, Nat.zero_le _, rfl, 0, rfl, fun _ => rfl, fun h => absurd h (by omega), .slice none 0 0, HB0.out, hz0, ?_, (fun b e => by cases e), fun b _ _ _ => rfl, B3.out⟩
    exact World.ownsRow_nil _ _ _ _
  case round =>
    obtain ⟨j, hj, rfl, q, rfl, hq0, hq1, v, hst⟩ := hrel
    have HS := Lib.hid hst
    have HBw := Lib.hid hst.1
    have hz := hst.2.1
    clear hst
    by_cases hlt : j < k
    · have c3 : wr.cell? ⟨w.heap.size + 1 + 1 + 1, 0, none⟩ = some v := by simpa using HS.out.2.2.2.2.2.cell 0
      have hlen : ((List.replicate j [.slice none 0 0] : List (List Value))).length = j := by simp
      go_wp2_with (first
        | (at_builtin
           refine walk_append_raw 1 _ rfl (.tmp 32) (.tmp 33) 22 37 rfl (.slice none 0 0) 24 Try.underlying22 info_rec rfl (by decide) (by decide) (w.heap.size + 1) v ((List.replicate j [.slice none 0 0] : List (List Value))).length ((List.replicate j [.slice none 0 0] : List (List Value))).flatten rfl
             (raw_below HS.out.2.2.1 ((Below.refl _ _).alloc (Nat.le_refl _) _) (Nat.le_refl _)) ⟨wr.heap.size, 0, none⟩ 1 rfl [.slice none 0 0] rfl (cell_new wr 37 [.slice none 0 0]) (by simp [Value.oneCell']) (by rw [hlen]; omega) (by simp; omega) ?_
           intro v2 w2 hown2 hg2 h5
           have HB2 := Lib.hid (HS.out.blk (by omega) (by omega) ((Below.refl _ _).alloc (Nat.le_refl _) _) hg2)
           have HS2 := Lib.hid (HS.out.step (i := 0) (by omega) (by omega) (by omega) (by omega) ((Below.refl _ _).alloc (Nat.le_refl _) _) hown2 hg2 h5 (by simp))
           obtain ⟨Av, nv, cv, rfl⟩ := raw_shape hown2
           have d3 : w2.cell? ⟨w.heap.size + 1 + 1 + 1, 0, none⟩ = some v := by simpa using HB2.out.cell 0
           have f3 : w2.frozen? ⟨w.heap.size + 1 + 1 + 1, 0, none⟩ = false := HB2.out.frozen 0
           clear hown2 hg2 h5))
      refine ⟨⟨j + 1, by omega, by simp, 8, rfl, fun h => absurd h (by omega), fun _ => rfl, .slice Av nv cv, ?_⟩, by simp [intOf]; omega⟩
      have := HS2.out
      simpa [List.replicate_succ'] using this
    · obtain rfl : j = k := by omega
      have HV : Hid ((slL tysL).R (· < wr.heap.size) wr [v] (bm 0 j).recs) := by
        refine raw_sl (L := tysL) (css := (List.replicate j [.slice none 0 0] : List (List Value))) (by simp [bm]) (by have := HS.out.2.2.1; rw [show ((List.replicate j [.slice none 0 0] : List (List Value))).length = (bm 0 j).recs.length by simp [bm]] at this; exact this) (fun i x cs h1 h2 => ?_) (fun b _ h => h)
        obtain rfl : cs = [.slice none 0 0] := by simp [List.getElem?_replicate] at h2; first | exact h2.2.symm | exact h2.2
        obtain rfl : x = [] := by simp [bm, List.getElem?_replicate] at h1; first | exact h1.2.symm | exact h1.2
        exact nil_sl _ _ _
      have HF : Hid ((slL fnL).R (· < wr.heap.size) wr [.slice (some ⟨w.heap.size + 2, 0, none⟩) 1 1] [fn0]) :=
        fn_laid ((HS.out.2.2.2.2.1 (w.heap.size + 2) (by omega) (by omega) (by omega)).trans B2.out) ((HS.out.2.2.2.2.1 (w.heap.size + 1) (by omega) (by omega) (by omega)).trans B1.out)
      have HL : Hid (modL.R (· < wr.heap.size) wr [v, .slice (some ⟨w.heap.size + 2, 0, none⟩) 1 1, .slice none 0 0, .slice none 0 0, .slice none 0 0] (bm 0 j)) := ⟨_, _, _, _, _, rfl, HV.out, HF.out, nil_sl _ _ _, nil_sl _ _ _, nil_sl _ _ _⟩
      have hb3 := HS.out.2.2.2.2.2
      obtain ⟨Av, nv, cv, rfl⟩ := raw_shape HS.out.2.2.1
      have c0 : wr.cell? ⟨w.heap.size + 1 + 1 + 1, 0, none⟩ = some (.slice Av nv cv) := by simpa using hb3.cell 0
      have c1 : wr.cell? ⟨w.heap.size + 1 + 1 + 1, 1, none⟩ = some (.slice (some ⟨w.heap.size + 2, 0, none⟩) 1 1) := by simpa using hb3.cell 1
      have c2 : wr.cell? ⟨w.heap.size + 1 + 1 + 1, 2, none⟩ = some (.slice none 0 0) := by simpa using hb3.cell 2
      have c3 : wr.cell? ⟨w.heap.size + 1 + 1 + 1, 3, none⟩ = some (.slice none 0 0) := by simpa using hb3.cell 3
      have c4 : wr.cell? ⟨w.heap.size + 1 + 1 + 1, 4, none⟩ = some (.slice none 0 0) := by simpa using hb3.cell 4
      have hq : decide ((j : Int) ≤ q) = decide (j ≤ bt 0) := by
        rw [decide_eq_decide, show bt 0 = 8 from rfl]
        rcases Nat.eq_zero_or_pos j with h | h
        · rw [hq0 h]; omega
        · rw [hq1 h]; omega
      clear HV HF hb3 HS B0 B1 B2 B3 HB0 hq0 hq1
      go_wp2_with fail
      refine (encode_any _ (bm 0 j) wr HL.out).mono ?_
      rintro e w1 ⟨hb1, ⟨h1, rfl⟩ | ⟨h1, u, rfl, hown⟩⟩
      · have HB1 := Lib.hid (HBw.out.trans (hb1.mono HBw.out.size))
        have hq1 : decide ((j : Int) ≤ q) = false := by rw [← h1, bm_fit, ← hq]
        clear hb1 hq h1
        go_wp2_with fail
        refine (AN.out w1).mono ?_
        rintro e w2 ⟨rfl, hb2⟩
        go_wp2_with fail
        go_ret
        exact ⟨rfl, HB1.out.trans (hb2.mono HB1.out.size)⟩
      · obtain ⟨A5, c5, rfl, -, -, -, -⟩ := own_slice hown
        have HB1 := Lib.hid (HBw.out.trans (hb1.mono HBw.out.size))
        have hq1 : decide ((j : Int) ≤ q) = true := by rw [← h1, bm_fit, ← hq]
        have hp := modB_pos (bm 0 j)
        generalize (modB (bm 0 j)).length = len at *
        have hp1 : decide ((len : Int) > 0) = true := by simp; omega
        clear hb1 hown hq h1
        go_wp2_with fail
        refine (AN.out w1).mono ?_
        rintro e w2 ⟨rfl, hb2⟩
        go_wp2_with fail
        go_ret
        exact ⟨rfl, HB1.out.trans (hb2.mono HB1.out.size)⟩
end Go.Proofs.Ytngjnkkdhjholaa
