/-
  What module's sameFunction and Same do: whether two are the same. Conditions: none but that there are such.
  What law06's answers says: true. Conditions: none.
  What the document's own Types does over elements of one kind (chrysalis/api.Type): whether two lists are the same. Conditions: as the theorem says.
-/
import Derived.Test.YtngjnkkdhjholaaGreatQ03
import Derived.Test.YtngjnkkdhjholaaGreatQ08
import Derived.Test.YtngjnkkdhjholaaGreatQ17
import Derived.Test.YtngjnkkdhjholaaGreatQ18
import Derived.BigQuiet
import Derived.Laws.Strings
namespace Go.Proofs.YtngjnkkdhjholaaGreat
open Go.RowKit
set_option linter.unusedSimpArgs false
set_option linter.unusedVariables false

theorem sl_at {α : Type} {L : Lay α} {w w1 : World} {v : Value} {xs : List α} (h : (slL L).R (· < w.heap.size) w [v] xs) (hb : Below w.heap.size w w1) : (slL L).R (· < w1.heap.size) w1 [v] xs :=
  (slL L).wide ((slL L).keep h fun b hb1 => hb.block b hb1) fun b hb1 => Nat.lt_of_lt_of_le hb1 hb.size

set_option maxRecDepth 100000 in
set_option maxHeartbeats 4000000 in
theorem sameFunction_any (cs cs2 : List Value) (x y : Fn) (w : World) (h : fnL.R (· < w.heap.size) w cs x) (h' : fnL.R (· < w.heap.size) w cs2 y) :
    Calls Tryz.prog 49 #[vAgg cs, vAgg cs2] w (Tells (eqB x y) w) := by
  obtain ⟨p0, p1, p2, rfl, -, -, hA, hL, hC⟩ := h
  obtain ⟨q0, q1, q2, rfl, -, -, hA', hL', hC'⟩ := h'
  have T0 : Hid (∀ w1, Below w.heap.size w w1 → Calls Tryz.prog 47 #[vOne [p0], vOne [q0]] w1 (Tells (eqB x.args y.args) w1)) := fun w1 hb => sameTypes_any _ _ _ _ w1 (sl_at hA hb) (sl_at hA' hb)
  have T1 : Hid (∀ w1, Below w.heap.size w w1 → Calls Tryz.prog 47 #[vOne [p1], vOne [q1]] w1 (Tells (eqB x.locs y.locs) w1)) := fun w1 hb => sameTypes_any _ _ _ _ w1 (sl_at hL hb) (sl_at hL' hb)
  obtain ⟨A4, d4, e4, -⟩ := hA
  obtain ⟨A5, d5, e5, -⟩ := hL
  obtain ⟨A6, d6, e6, l6, m6, s6⟩ := hC
  obtain ⟨B4, g4, i4, -⟩ := hA'
  obtain ⟨B5, g5, i5, -⟩ := hL'
  obtain ⟨B6, g6, i6, k6, n6, t6⟩ := hC'
  simp only [List.cons.injEq, and_true] at e4 e5 e6 i4 i5 i6
  subst e4 e5 e6 i4 i5 i6
  unfold maxLen at m6 n6
  have T2 : Hid (∀ w1, Below w.heap.size w w1 → Calls Tryz.prog 92 #[.slice A6 x.code.length d6, .slice B6 y.code.length g6] w1 (Tells (eqB x.code y.code) w1)) := fun w1 hb =>
    (equal_ins A6 B6 _ _ d6 g6 x.code y.code w1 _ _ rfl rfl (s6.below hb (Nat.le_refl _)) (t6.below hb (Nat.le_refl _)) (by omega) (by omega)).mono fun e w2 h => ⟨h.1, by obtain ⟨q, rfl⟩ := h.2; exact below_drewN _ _⟩
  have T02 : Hid (∀ w1, Below w.heap.size w w1 → Calls Tryz.prog 47 #[.slice A4 x.args.length d4, .slice B4 y.args.length g4] w1 (Tells (eqB x.args y.args) w1)) := T0.out
  have T12 : Hid (∀ w1, Below w.heap.size w w1 → Calls Tryz.prog 47 #[.slice A5 x.locs.length d5, .slice B5 y.locs.length g5] w1 (Tells (eqB x.locs y.locs) w1)) := T1.out
  clear T0 T1 s6 t6 m6 n6 l6 k6
  show Calls Tryz.prog 49 #[.agg #[.slice A4 x.args.length d4, .int .i64 x.ret.1, .int .i64 x.ret.2, .slice A5 x.locs.length d5, .slice A6 x.code.length d6], .agg #[.slice B4 y.args.length g4, .int .i64 y.ret.1, .int .i64 y.ret.2, .slice B5 y.locs.length g5, .slice B6 y.code.length g6]] w (Tells (eqB x y) w)
  rw [eqB_fn, eqB_typ]
  generalize x.args.length = n0 at *
  generalize y.args.length = m0 at *
  generalize x.locs.length = n1 at *
  generalize y.locs.length = m1 at *
  generalize x.code.length = n2 at *
  generalize y.code.length = m2 at *
  generalize eqB x.args y.args = b2 at *
  generalize eqB x.locs y.locs = b3 at *
  generalize eqB x.code y.code = b4 at *
  generalize x.ret.1 = k1 at *
  generalize x.ret.2 = k2 at *
  generalize y.ret.1 = k3 at *
  generalize y.ret.2 = k4 at *
  have HB0 : Hid (Below w.heap.size w ((w.alloc (.cells #[.slice A4 n0 d4, .int .i64 k1, .int .i64 k2, .slice A5 n1 d5, .slice A6 n2 d6] 52)).alloc (.cells #[.slice B4 m0 g4, .int .i64 k3, .int .i64 k4, .slice B5 m1 g5, .slice B6 m2 g6] 52))) := ((Below.refl _ _).alloc (Nat.le_refl _) _).alloc (by simp) _
  have HX : Hid (∀ W, Below w.heap.size w W → w.heap.size + 1 < W.heap.size → C5 w.heap.size (.slice A4 n0 d4) (.int .i64 k1) (.int .i64 k2) (.slice A5 n1 d5) (.slice A6 n2 d6) W → C5 (w.heap.size + 1) (.slice B4 m0 g4) (.int .i64 k3) (.int .i64 k4) (.slice B5 m1 g5) (.slice B6 m2 g6) W → ∀ w1, Below W.heap.size W w1 →
      C5 w.heap.size (.slice A4 n0 d4) (.int .i64 k1) (.int .i64 k2) (.slice A5 n1 d5) (.slice A6 n2 d6) w1 ∧ C5 (w.heap.size + 1) (.slice B4 m0 g4) (.int .i64 k3) (.int .i64 k4) (.slice B5 m1 g5) (.slice B6 m2 g6) w1 ∧ Below w.heap.size w w1 ∧ w.heap.size + 1 < w1.heap.size) :=
    fun W hb hs hC hD w1 h1 => ⟨hC.below h1 (by omega), hD.below h1 hs, hb.trans (h1.mono hb.size), Nat.lt_of_lt_of_le hs h1.size⟩
  have HX1 := Lib.hid (HX.out _ HB0.out (by simp) (by simp [C5, go_sem]) (by simp [C5, go_sem]))
  by_cases g1 : k1 = k3
  · subst g1
    by_cases g2 : k2 = k4
    · subst g2
      have e0 : ((k1 == k1) && (k2 == k2)) = true := by simp
      rw [e0, Bool.true_and]
      clear e0
      rcases b2 with _ | _
      case' true => rcases b3 with _ | _
      all_goals
        go_enter Tryz.func49, Tryz.ntmps49
        go_wp2_with (first
          | (go_at_call 92
             refine (T2.out _ HB2.out).mono ?_
             rintro e w3 ⟨rfl, hb3⟩
             have HB3 := Lib.hid (HB2.out.trans (hb3.mono HB2.out.size))
             clear hb3)
          | (go_at_call 47
             (with_reducible refine (T12.out _ ?_).mono ?_)
             · exact HB1.out
             rintro e w2 ⟨rfl, hb2⟩
             obtain ⟨hC2, hD2, hB2, hs2⟩ := HX2.out w2 hb2
             have HB2 := Lib.hid hB2
             obtain ⟨y10, y11, y12, y13, y14⟩ := hC2
             obtain ⟨z10, z11, z12, z13, z14⟩ := hD2
             clear hb2 hB2)
          | (go_at_call 47
             (with_reducible refine (T02.out _ ?_).mono ?_)
             · exact HB0.out
             rintro e w1 ⟨rfl, hb1⟩
             obtain ⟨hC1, hD1, hB1, hs1⟩ := HX1.out w1 hb1
             have HX2 := Lib.hid (HX.out w1 hB1 hs1 hC1 hD1)
             have HB1 := Lib.hid hB1
             obtain ⟨y0, y1, y2, y3, y4⟩ := hC1
             obtain ⟨z0, z1, z2, z3, z4⟩ := hD1
             clear hb1 hB1))
        go_ret
      all_goals first | exact ⟨by simp, HB3.out⟩ | exact ⟨by simp, HB2.out⟩ | exact ⟨by simp, HB1.out⟩
    · have b2 : (k2 == k4) = false := by simpa using g2
      clear g2
      go_enter Tryz.func49, Tryz.ntmps49
      go_wp2_with fail
      go_ret
      exact ⟨by simp [b2], HB0.out⟩
  · have b1 : (k1 == k3) = false := by simpa using g1
    clear g1
    go_enter Tryz.func49, Tryz.ntmps49
    go_wp2_with fail
    go_ret
    exact ⟨by simp [b1], HB0.out⟩

set_option maxRecDepth 100000 in
set_option maxHeartbeats 4000000 in
theorem same_mod (cs cs2 : List Value) (x y : Mod) (w : World) (h : modL.R (· < w.heap.size) w cs x) (h' : modL.R (· < w.heap.size) w cs2 y) :
    Calls Tryz.prog 15 #[vAgg cs, vAgg cs2] w (Tells (eqB x y) w) := by
  obtain ⟨_, _, _, _, _, rfl, ⟨A0, d0, e0, l0, m0, s0⟩, ⟨A1, d1, e1, l1, m1, s1⟩, ⟨A2, d2, e2, l2, m2, s2⟩, ⟨A3, d3, e3, l3, m3, s3⟩, ⟨A4, d4, e4, l4, m4, s4⟩⟩ := h
  obtain ⟨_, _, _, _, _, rfl, ⟨B0, g0, f0, k0, j0, t0⟩, ⟨B1, g1, f1, k1, j1, t1⟩, ⟨B2, g2, f2, k2, j2, t2⟩, ⟨B3, g3, f3, k3, j3, t3⟩, ⟨B4, g4, f4, k4, j4, t4⟩⟩ := h'
  simp only [List.cons.injEq, and_true] at e0 e1 e2 e3 e4 f0 f1 f2 f3 f4
  subst e0 e1 e2 e3 e4 f0 f1 f2 f3 f4
  unfold maxLen at m0 m1 m2 m3 m4 j0 j1 j2 j3 j4
  have T0 : Hid (∀ w1, Below w.heap.size w w1 → Calls Tryz.prog 46 #[.slice A0 x.recs.length d0, .slice B0 y.recs.length g0, .func (.func 47) #[] #[]] w1 (Tells (eqB x.recs y.recs) w1)) := fun w1 hb =>
    equalFunc_rec A0 B0 _ _ d0 g0 x.recs y.recs w1 rfl rfl ((s0.below hb (Nat.le_refl _)).wide fun b hb1 => Nat.lt_of_lt_of_le hb1 hb.size) ((t0.below hb (Nat.le_refl _)).wide fun b hb1 => Nat.lt_of_lt_of_le hb1 hb.size) (by omega) (by omega) fun w2 cs cs2 a b ha hb => sameTypes_any cs cs2 a b w2 ha hb
  have T1 : Hid (∀ w1, Below w.heap.size w w1 → Calls Tryz.prog 48 #[.slice A1 x.funcs.length d1, .slice B1 y.funcs.length g1, .func (.func 49) #[] #[]] w1 (Tells (eqB x.funcs y.funcs) w1)) := fun w1 hb =>
    equalFunc_fn A1 B1 _ _ d1 g1 x.funcs y.funcs w1 rfl rfl ((s1.below hb (Nat.le_refl _)).wide fun b hb1 => Nat.lt_of_lt_of_le hb1 hb.size) ((t1.below hb (Nat.le_refl _)).wide fun b hb1 => Nat.lt_of_lt_of_le hb1 hb.size) (by omega) (by omega) fun w2 cs cs2 a b ha hb => sameFunction_any cs cs2 a b w2 ha hb
  have T2 : Hid (∀ w1, Below w.heap.size w w1 → Calls Tryz.prog 50 #[.slice A2 x.imps.length d2, .slice B2 y.imps.length g2, .func (.func 51) #[] #[]] w1 (Tells (eqB x.imps y.imps) w1)) := fun w1 hb =>
    equalFunc_imp A2 B2 _ _ d2 g2 x.imps y.imps w1 rfl rfl ((s2.below hb (Nat.le_refl _)).wide fun b hb1 => Nat.lt_of_lt_of_le hb1 hb.size) ((t2.below hb (Nat.le_refl _)).wide fun b hb1 => Nat.lt_of_lt_of_le hb1 hb.size) (by omega) (by omega) fun w2 cs cs2 a b ha hb => sameImport_any cs cs2 a b w2 ha hb
  have T3 : Hid (∀ w1, Below w.heap.size w w1 → Calls Tryz.prog 52 #[.slice A3 x.ints.length d3, .slice B3 y.ints.length g3] w1 (Tells (eqB x.ints y.ints) w1)) := fun w1 hb =>
    (equal_num A3 B3 _ _ d3 g3 x.ints y.ints w1 _ _ rfl rfl (s3.below hb (Nat.le_refl _)) (t3.below hb (Nat.le_refl _)) (by omega) (by omega)).mono fun e w2 h => ⟨h.1, by obtain ⟨q, rfl⟩ := h.2; exact below_drewN _ _⟩
  have T4 : Hid (∀ w1, Below w.heap.size w w1 → Calls Tryz.prog 53 #[.slice A4 x.texts.length d4, .slice B4 y.texts.length g4] w1 (Tells (eqB x.texts y.texts) w1)) := fun w1 hb =>
    (equal_str A4 B4 _ _ d4 g4 x.texts y.texts w1 _ _ rfl rfl (s4.below hb (Nat.le_refl _)) (t4.below hb (Nat.le_refl _)) (by omega) (by omega)).mono fun e w2 h => ⟨h.1, by obtain ⟨q, rfl⟩ := h.2; exact below_drewN _ _⟩
  clear s0 s1 s2 s3 s4 t0 t1 t2 t3 t4 l0 l1 l2 l3 l4 m0 m1 m2 m3 m4 k0 k1 k2 k3 k4 j0 j1 j2 j3 j4
  show Calls Tryz.prog 15 #[.agg #[.slice A0 x.recs.length d0, .slice A1 x.funcs.length d1, .slice A2 x.imps.length d2, .slice A3 x.ints.length d3, .slice A4 x.texts.length d4], .agg #[.slice B0 y.recs.length g0, .slice B1 y.funcs.length g1, .slice B2 y.imps.length g2, .slice B3 y.ints.length g3, .slice B4 y.texts.length g4]] w (Tells (eqB x y) w)
  rw [eqB_mod]
  generalize x.recs.length = n0 at *
  generalize x.funcs.length = n1 at *
  generalize x.imps.length = n2 at *
  generalize x.ints.length = n3 at *
  generalize x.texts.length = n4 at *
  generalize y.recs.length = m0 at *
  generalize y.funcs.length = m1 at *
  generalize y.imps.length = m2 at *
  generalize y.ints.length = m3 at *
  generalize y.texts.length = m4 at *
  generalize eqB x.recs y.recs = b0 at *
  generalize eqB x.funcs y.funcs = b1 at *
  generalize eqB x.imps y.imps = b2 at *
  generalize eqB x.ints y.ints = b3 at *
  generalize eqB x.texts y.texts = b4 at *
  have HB0 : Hid (Below w.heap.size w ((w.alloc (.cells #[.slice A0 n0 d0, .slice A1 n1 d1, .slice A2 n2 d2, .slice A3 n3 d3, .slice A4 n4 d4] 28)).alloc (.cells #[.slice B0 m0 g0, .slice B1 m1 g1, .slice B2 m2 g2, .slice B3 m3 g3, .slice B4 m4 g4] 28))) := ((Below.refl _ _).alloc (Nat.le_refl _) _).alloc (by simp) _
  have HX : Hid (∀ W, Below w.heap.size w W → w.heap.size + 1 < W.heap.size → C5 w.heap.size (.slice A0 n0 d0) (.slice A1 n1 d1) (.slice A2 n2 d2) (.slice A3 n3 d3) (.slice A4 n4 d4) W → C5 (w.heap.size + 1) (.slice B0 m0 g0) (.slice B1 m1 g1) (.slice B2 m2 g2) (.slice B3 m3 g3) (.slice B4 m4 g4) W → ∀ w1, Below W.heap.size W w1 →
      C5 w.heap.size (.slice A0 n0 d0) (.slice A1 n1 d1) (.slice A2 n2 d2) (.slice A3 n3 d3) (.slice A4 n4 d4) w1 ∧ C5 (w.heap.size + 1) (.slice B0 m0 g0) (.slice B1 m1 g1) (.slice B2 m2 g2) (.slice B3 m3 g3) (.slice B4 m4 g4) w1 ∧ Below w.heap.size w w1 ∧ w.heap.size + 1 < w1.heap.size) :=
    fun W hb hs hC hD w1 h1 => ⟨hC.below h1 (by omega), hD.below h1 hs, hb.trans (h1.mono hb.size), Nat.lt_of_lt_of_le hs h1.size⟩
  have HX1 := Lib.hid (HX.out _ HB0.out (by simp) (by simp [C5, go_sem]) (by simp [C5, go_sem]))
  rcases b0 with _ | _
  case' true => rcases b1 with _ | _
  case' true.true => rcases b2 with _ | _
  case' true.true.true => rcases b3 with _ | _
  all_goals
    go_enter Tryz.func15, Tryz.ntmps15
    try simp only [List.append]
    go_wp2_with (first
      | (go_at_call 53
         refine (T4.out _ HB4.out).mono ?_
         rintro e w5 ⟨rfl, hb5⟩
         have HB5 := Lib.hid (HB4.out.trans (hb5.mono HB4.out.size))
         clear hb5)
      | (go_at_call 52
         refine (T3.out _ HB3.out).mono ?_
         rintro e w4 ⟨rfl, hb4⟩
         obtain ⟨hC4, hD4, hB4, hs4⟩ := HX4.out w4 hb4
         have HB4 := Lib.hid hB4
         obtain ⟨y30, y31, y32, y33, y34⟩ := hC4
         obtain ⟨z30, z31, z32, z33, z34⟩ := hD4
         clear hb4 hB4)
      | (go_at_call 50
         refine (T2.out _ HB2.out).mono ?_
         rintro e w3 ⟨rfl, hb3⟩
         obtain ⟨hC3, hD3, hB3, hs3⟩ := HX3.out w3 hb3
         have HX4 := Lib.hid (HX.out w3 hB3 hs3 hC3 hD3)
         have HB3 := Lib.hid hB3
         obtain ⟨y20, y21, y22, y23, y24⟩ := hC3
         obtain ⟨z20, z21, z22, z23, z24⟩ := hD3
         clear hb3 hB3)
      | (go_at_call 48
         refine (T1.out _ HB1.out).mono ?_
         rintro e w2 ⟨rfl, hb2⟩
         obtain ⟨hC2, hD2, hB2, hs2⟩ := HX2.out w2 hb2
         have HX3 := Lib.hid (HX.out w2 hB2 hs2 hC2 hD2)
         have HB2 := Lib.hid hB2
         obtain ⟨y10, y11, y12, y13, y14⟩ := hC2
         obtain ⟨z10, z11, z12, z13, z14⟩ := hD2
         clear hb2 hB2)
      | (go_at_call 46
         refine (T0.out _ HB0.out).mono ?_
         rintro e w1 ⟨rfl, hb1⟩
         obtain ⟨hC1, hD1, hB1, hs1⟩ := HX1.out w1 hb1
         have HX2 := Lib.hid (HX.out w1 hB1 hs1 hC1 hD1)
         have HB1 := Lib.hid hB1
         obtain ⟨y0, y1, y2, y3, y4⟩ := hC1
         obtain ⟨z0, z1, z2, z3, z4⟩ := hD1
         clear hb1 hB1))
    go_ret
  all_goals first | exact ⟨by simp, HB5.out⟩ | exact ⟨by simp, HB4.out⟩ | exact ⟨by simp, HB3.out⟩ | exact ⟨by simp, HB2.out⟩ | exact ⟨by simp, HB1.out⟩
end Go.Proofs.YtngjnkkdhjholaaGreat
namespace Go.Proofs.YtngjnkkdhjholaaGreat
open Go.RowKit
set_option linter.unusedSimpArgs false
set_option linter.unusedVariables false

def fn0 : Fn := ⟨[], (1, 0), [], [(26, 0, 0)]⟩
def m0 : Mod := ⟨[], [fn0], [], [], []⟩
theorem m0_fit : fitB m0 = true := by decide
theorem m0_bytes : modB m0 = [5, 1, 0, 7, 1, 0, 1, 0, 0, 1, 26, 1, 0, 1, 0, 1, 0] := by
  have hi : insB 26 0 0 = [26] := by
    have h : goodI ((26 : Nat) : Int) ((0 : Nat) : Int) ((0 : Nat) : Int) = true := by decide
    have := insB_good h
    rw [show argN ((26 : Nat) : Int) = 0 by decide] at this
    simpa [bodyB] using this
  simp [modB, partsB, m0, fn0, joinB, pts, pt, lB, fnB, tB, typB, iB, hi, vb_small]
theorem m0_print : printN m0 ≠ 0 := by
  rw [printN, if_pos m0_fit, m0_bytes]
  decide +kernel

/-- The smallest module, as answers lays it. -/
theorem m0_laid (w : World) : modL.R (· < (((w.alloc (.cells #[.int .i64 26, .int .i64 0, .int .i64 0] 56)).alloc (.cells #[.slice none 0 0, .int .i64 1, .int .i64 0, .slice none 0 0, .slice (some ⟨w.heap.size, 0, none⟩) 1 1] 52)).alloc (.cells #[.slice none 0 0, .slice (some ⟨w.heap.size + 1, 0, none⟩) 1 1, .slice none 0 0, .slice none 0 0, .slice none 0 0] 28)).heap.size)
    (((w.alloc (.cells #[.int .i64 26, .int .i64 0, .int .i64 0] 56)).alloc (.cells #[.slice none 0 0, .int .i64 1, .int .i64 0, .slice none 0 0, .slice (some ⟨w.heap.size, 0, none⟩) 1 1] 52)).alloc (.cells #[.slice none 0 0, .slice (some ⟨w.heap.size + 1, 0, none⟩) 1 1, .slice none 0 0, .slice none 0 0, .slice none 0 0] 28))
    [.slice none 0 0, .slice (some ⟨w.heap.size + 1, 0, none⟩) 1 1, .slice none 0 0, .slice none 0 0, .slice none 0 0] m0 := by
  have hm : (0 : Nat) ≤ maxLen ∧ 1 ≤ maxLen := by unfold maxLen; omega
  have add : ∀ b i, (⟨b, 0, none⟩ : Addr).add i = ⟨b, i, none⟩ := fun b i => by unfold Addr.add; split <;> simp_all
  refine ⟨_, _, _, _, _, rfl, ⟨none, 0, rfl, Nat.le_refl _, hm.1, Sq.nil _ _ _ _⟩, ⟨some ⟨w.heap.size + 1, 0, none⟩, 1, rfl, Nat.le_refl _, hm.2, fun _ => ⟨_, rfl, by simp, fun j x hx => ?_⟩⟩, ⟨none, 0, rfl, Nat.le_refl _, hm.1, Sq.nil _ _ _ _⟩, ⟨none, 0, rfl, Nat.le_refl _, hm.1, Sq.nil _ _ _ _⟩, ⟨none, 0, rfl, Nat.le_refl _, hm.1, Sq.nil _ _ _ _⟩⟩
  match j, hx with
  | 0, hx =>
    simp [m0] at hx
    subst hx
    refine ⟨[.slice none 0 0, .int .i64 1, .int .i64 0, .slice none 0 0, .slice (some ⟨w.heap.size, 0, none⟩) 1 1], fun i u hu => ?_, _, _, _, rfl, by unfold I64 fn0; simp, by unfold I64 fn0; simp, ⟨none, 0, rfl, Nat.le_refl _, hm.1, Sq.nil _ _ _ _⟩, ⟨none, 0, rfl, Nat.le_refl _, hm.1, Sq.nil _ _ _ _⟩, ⟨some ⟨w.heap.size, 0, none⟩, 1, rfl, Nat.le_refl _, hm.2, fun _ => ⟨_, rfl, by simp; omega, fun j x hx => ?_⟩⟩⟩
    · rw [add]
      match i, hu with
      | 0, hu => simp at hu; subst hu; simp [go_sem]
      | 1, hu => simp at hu; subst hu; simp [go_sem]
      | 2, hu => simp at hu; subst hu; simp [go_sem]
      | 3, hu => simp at hu; subst hu; simp [go_sem]
      | 4, hu => simp at hu; subst hu; simp [go_sem]
      | i + 5, hu => simp at hu
    · match j, hx with
      | 0, hx =>
        simp [fn0] at hx
        subst hx
        refine ⟨[.int .i64 26, .int .i64 0, .int .i64 0], fun i u hu => ?_, rfl, by unfold I64; simp, by unfold I64; simp, by unfold I64; simp⟩
        rw [add]
        match i, hu with
        | 0, hu => simp at hu; subst hu; simp [go_sem]
        | 1, hu => simp at hu; subst hu; simp [go_sem]
        | 2, hu => simp at hu; subst hu; simp [go_sem]
        | i + 3, hu => simp at hu
      | j + 1, hx => simp [fn0] at hx
  | j + 1, hx => simp [m0] at hx

theorem mod_at {w w1 : World} {cs : List Value} {m : Mod} (h : modL.R (· < w.heap.size) w cs m) (hb : Below w.heap.size w w1) : modL.R (· < w1.heap.size) w1 cs m :=
  modL.wide (modL.keep h fun b hb1 => hb.block b hb1) fun b hb1 => Nat.lt_of_lt_of_le hb1 hb.size

set_option maxRecDepth 100000 in
set_option maxHeartbeats 4000000 in
theorem answers6 (w : World) : Calls Tryz.prog 7 #[] w fun e w' => e = .returned (.bool true) ∧ Below w.heap.size w w' := by
  go_enter Tryz.func7, Tryz.ntmps7
  go_wp2_with fail
  refine calls_world fun W hW => ?_
  have HL : Hid (modL.R (· < W.heap.size) W [.slice none 0 0, .slice (some ⟨w.heap.size + 1, 0, none⟩) 1 1, .slice none 0 0, .slice none 0 0, .slice none 0 0] m0) := by rw [hW]; exact m0_laid w
  have HB0 : Hid (Below w.heap.size w W) := by show Below _ _ _; rw [hW]; exact (((Below.refl _ _).alloc (Nat.le_refl _) _).alloc (by simp) _).alloc (by simp; omega) _
  have HC0 : Hid (C5 (w.heap.size + 2) (.slice none 0 0) (.slice (some ⟨w.heap.size + 1, 0, none⟩) 1 1) (.slice none 0 0) (.slice none 0 0) (.slice none 0 0) W) := by show C5 _ _ _ _ _ _ _; rw [hW]; simp [C5, go_sem]
  have hz : w.heap.size + 2 < W.heap.size := by rw [hW]; simp
  clear hW
  refine (encode_any _ m0 W HL.out).mono ?_
  rintro e w1 ⟨hb1, ⟨h1, -⟩ | ⟨-, u, rfl, hown⟩⟩
  · rw [m0_fit] at h1
    cases h1
  obtain ⟨A5, c5, rfl, -, -, -, hY5⟩ := own_slice hown
  have HY5 := Lib.hid (hY5.wide (T := (· < w1.heap.size)) fun b hb => hb.2)
  rw [m0_bytes]
  rw [m0_bytes] at HY5
  have HB1 := Lib.hid (HB0.out.trans (hb1.mono HB0.out.size))
  have HC1 := Lib.hid (HC0.out.below hb1 hz)
  have HL1 := Lib.hid (mod_at HL.out hb1)
  have hz1 : w.heap.size + 2 < w1.heap.size := Nat.lt_of_lt_of_le hz hb1.size
  clear hb1 hown hY5
  simp only [List.length_cons, List.length_nil, Nat.zero_add, Nat.reduceAdd]
  go_wp2_with fail
  refine (decode_any A5 17 c5 [5, 1, 0, 7, 1, 0, 1, 0, 0, 1, 26, 1, 0, 1, 0, 1, 0] w1 rfl (by decide) HY5.out (by omega)).mono ?_
  rintro e w2 ⟨hb2, ⟨m, cs, hm, he, hR⟩ | ⟨hno, -⟩⟩
  rotate_left
  · exact absurd ⟨m0, fitB_iff.1 m0_fit, by simp [m0], m0_bytes.symm⟩ hno
  obtain rfl : m = m0 := mod_unique hm.1 (fitB_iff.1 m0_fit) hm.2.1 (by simp [m0]) (by rw [← hm.2.2, m0_bytes])
  have HL2 := Lib.hid (modL.wide hR (T := (· < w2.heap.size)) fun b hb => hb.2)
  obtain ⟨_, _, _, _, _, rfl, ⟨A0, d0, e0, -⟩, ⟨A1, d1, e1, -⟩, ⟨A2, d2, e2, -⟩, ⟨A3, d3, e3, -⟩, ⟨A4, d4, e4, -⟩⟩ := hR
  simp only [List.cons.injEq, and_true] at e0 e1 e2 e3 e4
  subst e0 e1 e2 e3 e4
  simp only [m0, List.length_nil, List.length_cons, Nat.zero_add] at he HL2
  subst he
  have HB2 := Lib.hid (HB1.out.trans (hb2.mono HB1.out.size))
  have HC2 := Lib.hid (HC1.out.below hb2 hz1)
  have HL3 := Lib.hid (mod_at HL1.out hb2)
  have hz2 : w.heap.size + 2 < w2.heap.size := Nat.lt_of_lt_of_le hz1 hb2.size
  obtain ⟨y0, y1, y2, y3, y4⟩ := HC2.out
  clear hb2 hm
  go_wp2_with fail
  refine calls_world fun W3 hW3 => ?_
  have HA3 : Hid (Below w2.heap.size w2 W3) := by show Below _ _ _; rw [hW3]; exact (Below.refl _ _).alloc (Nat.le_refl _) _
  have HB3 := Lib.hid (HB2.out.trans (HA3.out.mono HB2.out.size))
  have HC3 := Lib.hid (HC2.out.below HA3.out hz2)
  have hz3 : w.heap.size + 2 < W3.heap.size := Nat.lt_of_lt_of_le hz2 HA3.out.size
  clear hW3
  refine (same_mod _ _ m0 m0 W3 (mod_at HL2.out HA3.out) (mod_at HL3.out HA3.out)).mono ?_
  rintro e w4 ⟨he, hb4⟩
  rw [eqB_self] at he
  subst he
  have HB4 := Lib.hid (HB3.out.trans (hb4.mono HB3.out.size))
  obtain ⟨z0, z1, z2, z3, z4⟩ := HC3.out.below hb4 hz3
  have HL4 := Lib.hid (mod_at (mod_at HL3.out HA3.out) hb4)
  clear hb4
  go_wp2_with fail
  refine (print_any _ m0 w4 HL4.out (by simp [m0])).mono ?_
  rintro e w5 ⟨rfl, hb5⟩
  have hpn : ((printN m0 : Int) != 0) = true := by
    have h := m0_print
    simp
    omega
  have hpn2 : (printN m0 != 0) = true := by
    have h := m0_print
    simp
    omega
  generalize printN m0 = pn at *
  go_wp2_with fail
  go_ret
  exact ⟨rfl, HB4.out.trans (hb5.mono HB4.out.size)⟩
end Go.Proofs.YtngjnkkdhjholaaGreat
namespace Go.Proofs.YtngjnkkdhjholaaGreat
open Go.RowKit
set_option linter.unusedSimpArgs false
set_option linter.unusedVariables false

set_option maxRecDepth 100000 in
set_option maxHeartbeats 1000000 in
theorem refTypes_any (A B : Option Addr) (n m c d : Nat) (xs ys : List Typ) (w : World) (S T : Nat → Prop) (hl : xs.length = n) (hm : ys.length = m) (h : Sq typL S w A xs) (h' : Sq typL T w B ys) (hn2 : n ≤ 9223372036854775807) (hm2 : m ≤ 9223372036854775807) :
    Calls Tryz.prog 45 #[.slice A n c, .slice B m d] w fun e w' => e = .returned (.bool (eqB xs ys)) ∧ ∃ q, w' = w.drewN q := by
  have HL := Lib.hid hl
  have HM := Lib.hid hm
  have HS := Lib.hid h
  have HT := Lib.hid h'
  clear hl hm h h'
  by_cases hnm : n = m
  · subst hnm
    go_enter Tryz.func45, Tryz.ntmps45
    go_wp2_with fail
    go_loopw [5] (fun i wr => ∃ k q : Nat, k ≤ n ∧ i = .int .i64 (k : Nat) ∧ xs.take k = ys.take k ∧ wr = w.drewN q) (fun i _ => n - (intOf i).toNat)
    case atStart => exact ⟨0, 0, Nat.zero_le _, rfl, by simp, rfl⟩
    case round =>
      obtain ⟨k, q, hk, rfl, heq, rfl⟩ := hrel
      have HE := Lib.hid heq
      clear heq
      by_cases hlt : k < n
      · skip
        obtain ⟨x, hx⟩ : ∃ x, xs[k]? = some x := ⟨xs[k]'(by rw [HL.out]; exact hlt), List.getElem?_eq_getElem _⟩
        obtain ⟨y, hy⟩ : ∃ y, ys[k]? = some y := ⟨ys[k]'(by rw [HM.out]; exact hlt), List.getElem?_eq_getElem _⟩
        obtain ⟨a, cs, rfl, hab, hc, hr⟩ := HS.out.at hx
        obtain ⟨b, cs2, rfl, hbb, hc2, hr2⟩ := HT.out.at hy
        have HX := Lib.hid hx
        have HY := Lib.hid hy
        clear hx hy
        obtain ⟨rfl, -, -⟩ := hr
        obtain ⟨rfl, -, -⟩ := hr2
        have c0 := hc 0 _ rfl
        rw [show k * typL.k + 0 = k * 2 from rfl] at c0
        have c1 := hc 1 _ rfl
        rw [show k * typL.k + 1 = k * 2 + 1 from rfl, next_cell a (k * 2) 1 (by omega)] at c1
        have e0 := hc2 0 _ rfl
        rw [show k * typL.k + 0 = k * 2 from rfl] at e0
        have e1 := hc2 1 _ rfl
        rw [show k * typL.k + 1 = k * 2 + 1 from rfl, next_cell b (k * 2) 1 (by omega)] at e1
        clear hc hc2
        have k0 : 0 ≤ (k : Int) := by omega
        have k1 : (k : Int) < (n : Int) := by omega
        by_cases hxy : x = y
        · have HXY := Lib.hid hxy
          subst hxy
          go_wp2_with fail
          go_quiet (fail)
          go_wp2_with fail
          refine ⟨⟨k + 1, _, by omega, by simp, take_same HE.out HX.out HY.out rfl, rfl⟩, by simp [intOf]; omega⟩
        · have HXY := Lib.hid hxy
          by_cases g0 : x.1 = y.1
          · have b0 : (x.1 == y.1) = true := by simpa using g0
            by_cases g1 : x.2 = y.2
            · exact absurd (Prod.ext g0 g1) HXY.out
            · have b1 : (x.2 == y.2) = false := by simpa using g1
              clear g0 g1
              go_wp2_with fail
              go_quiet (fail)
              go_wp2_with fail
              go_ret
              exact ⟨by rw [eqB_ne (get_ne HX.out HY.out HXY.out)]; rfl, _, World.drewN_drewN _ _ _⟩
          · have b0 : (x.1 == y.1) = false := by simpa using g0
            clear g0
            go_wp2_with fail
            go_quiet (fail)
            go_wp2_with fail
            go_ret
            exact ⟨by rw [eqB_ne (get_ne HX.out HY.out HXY.out)]; rfl, _, World.drewN_drewN _ _ _⟩
      · obtain rfl : k = n := by omega
        go_wp2_with fail
        go_ret
        refine ⟨?_, _, rfl⟩
        have e := HE.out
        rw [List.take_of_length_le (by rw [HL.out]; exact Nat.le_refl _), List.take_of_length_le (by rw [HM.out]; exact Nat.le_refl _)] at e
        rw [e, eqB_self]
        rfl
  · have h1 : ((n : Int) != (m : Int)) = true := by simp; omega
    have h2 : (n != m) = true := by simpa using hnm
    have HNM := Lib.hid hnm
    clear hnm
    go_enter Tryz.func45, Tryz.ntmps45
    go_wp2_with fail
    go_ret
    refine ⟨?_, 0, rfl⟩
    rw [eqB_ne (fun e => HNM.out (by rw [← HL.out, ← HM.out, e]))]
    rfl
end Go.Proofs.YtngjnkkdhjholaaGreat
