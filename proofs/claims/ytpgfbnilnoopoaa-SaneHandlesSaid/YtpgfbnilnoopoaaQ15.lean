/-
  What the document's own Check comes to. Conditions: none but that there is a module that is not too large.
  Words for the law on bounds: rows of cells that the call appends to, and which of the law's modules fit. Conditions: as each theorem says.
  What the document's own Main comes to, and what law07's answers says: true. Conditions: as each theorem says.
  What law07's answers says: true. Conditions: none.
-/
import Derived.Test.YtpgfbnilnoopoaaQ10
import Derived.Test.YtpgfbnilnoopoaaQ12
import Derived.Test.YtpgfbnilnoopoaaQ13
import Derived.Test.YtpgfbnilnoopoaaQ14
import Derived.Lib.QuietBelow
import Derived.BigQuiet
import Derived.Deep.RegionLaw
namespace Go.Proofs.Ytpgfbnilnoopoaa
open Go.RowKit
set_option linter.unusedSimpArgs false
set_option linter.unusedVariables false

theorem any_step {α : Type} {g : α → Bool} {xs : List α} {k : Nat} {x : α} (hx : xs[k]? = some x) : (xs.take (k + 1)).any g = ((xs.take k).any g || g x) := by
  obtain ⟨hk, rfl⟩ := List.getElem?_eq_some_iff.1 hx
  rw [List.take_succ_eq_append_getElem hk, List.any_append]
  simp

set_option maxRecDepth 100000 in
set_option maxHeartbeats 8000000 in
theorem rcheck_any (cs : List Value) (x : Mod) (w : World) (h : modL.R (· < w.heap.size) w cs x) (hz : Small x) : Calls Try.prog 10 #[vAgg cs] w fun e w' => e = .returned (.int .i64 (checkN x)) ∧ Below w.heap.size w w' := by
  have TE : Hid (∀ w1, Below w.heap.size w w1 → Calls Try.prog 23 #[vAgg cs] w1 (RMod x w1)) := fun w1 hb => rmod_any cs x w1 (mod_at h hb) hz
  obtain ⟨_, _, _, _, _, rfl, ⟨A0, d0, e0, l0, m0, s0⟩, ⟨A1, d1, e1, l1, m1, s1⟩, ⟨A2, d2, e2, l2, m2, s2⟩, ⟨A3, d3, e3, -⟩, ⟨A4, d4, e4, -⟩⟩ := h
  simp only [List.cons.injEq, and_true] at e0 e1 e2 e3 e4
  subst e0 e1 e2 e3 e4
  obtain ⟨n0, h0⟩ : ∃ n, x.recs.length = n := ⟨_, rfl⟩
  obtain ⟨n1, h1⟩ : ∃ n, x.funcs.length = n := ⟨_, rfl⟩
  obtain ⟨n2, h2⟩ : ∃ n, x.imps.length = n := ⟨_, rfl⟩
  obtain ⟨n3, h3⟩ : ∃ n, x.ints.length = n := ⟨_, rfl⟩
  obtain ⟨n4, h4⟩ : ∃ n, x.texts.length = n := ⟨_, rfl⟩
  rw [h0, h1, h2, h3, h4] at TE ⊢
  have TE2 : Hid (∀ w1, Below w.heap.size w w1 → Calls Try.prog 23 #[.agg #[.slice A0 n0 d0, .slice A1 n1 d1, .slice A2 n2 d2, .slice A3 n3 d3, .slice A4 n4 d4]] w1 (RMod x w1)) := TE.out
  clear TE
  show Calls Try.prog 10 #[.agg #[.slice A0 n0 d0, .slice A1 n1 d1, .slice A2 n2 d2, .slice A3 n3 d3, .slice A4 n4 d4]] w _
  have HB0 : Hid (∀ o : Obj, Below w.heap.size w (w.alloc o)) := fun o => (Below.refl _ _).alloc (Nat.le_refl _) _
  have HC0 : Hid (C5 w.heap.size (.slice A0 n0 d0) (.slice A1 n1 d1) (.slice A2 n2 d2) (.slice A3 n3 d3) (.slice A4 n4 d4) (w.alloc (.cells #[.slice A0 n0 d0, .slice A1 n1 d1, .slice A2 n2 d2, .slice A3 n3 d3, .slice A4 n4 d4] 28))) := by show C5 _ _ _ _ _ _ _; simp [C5, go_sem]
  cases hf : fitB x
  · have HF := Lib.hid hf
    have HN := Lib.hid (checkN_unfit hf)
    generalize checkN x = cn at *
    clear hf s0 s1 s2 h0 h1 h2 h3 h4 hz l0 l1 l2 m0 m1 m2
    go_enter Try.func10, Try.ntmps10
    go_wp2_with (first
      | (go_at_call 23
         refine (TE2.out _ (HB0.out _)).mono ?_
         rintro e w1 ⟨hb1, ⟨h1, -⟩ | ⟨-, A9, n9, c9, rfl⟩⟩
         · rw [HF.out] at h1
           cases h1
         have HB1 := Lib.hid ((HB0.out _).trans (hb1.mono (by simp)))
         clear hb1))
    go_ret
    exact ⟨by rw [HN.out]; rfl, HB1.out⟩
  have HF := Lib.hid hf
  have hF := fitB_iff.1 hf
  have hn0 : n0 ≤ 8 := by have := hF.r8; omega
  have hn1 : n1 ≤ 8 := by have := hF.f8; omega
  have hn2 : n2 ≤ 8 := by have := hF.i8; omega
  have HFn : Hid (∀ p ∈ x.funcs, fnOk n0 p = true) := fun p hp => by rw [← h0]; exact hF.funcs p hp
  have HIm : Hid (∀ p ∈ x.imps, impOk n0 p = true) := fun p hp => by rw [← h0]; exact hF.imps p hp
  have HBD : Hid (badM x = true → checkN x = 1) := fun h => checkN_bad hf h
  have HOK : Hid (badM x = false → checkN x = 0) := fun h => checkN_ok hf h
  generalize hcn : checkN x = cn at *
  have HL0 := Lib.hid h0
  have HL1 := Lib.hid h1
  have HL2 := Lib.hid h2
  have HL3 := Lib.hid h3
  have HL4 := Lib.hid h4
  have HS0 := Lib.hid s0
  have HS1 := Lib.hid s1
  have HS2 := Lib.hid s2
  clear hcn hf hF s0 s1 s2 h0 h1 h2 h3 h4 hz l0 l1 l2 m0 m1 m2
  go_enter Try.func10, Try.ntmps10
  go_wp2_with (first
    | (go_at_call 23
       refine (TE2.out _ (HB0.out _)).mono ?_
       rintro e W ⟨hb1, ⟨-, u, rfl, hown⟩ | ⟨h1, -⟩⟩
       rotate_left
       · rw [HF.out] at h1
         cases h1
       obtain ⟨A5, c5, rfl, -, -, -, -⟩ := own_slice hown
       have HB1 := Lib.hid ((HB0.out _).trans (hb1.mono (by simp)))
       have HC1 := Lib.hid (HC0.out.below hb1 (by simp))
       have hs1 : w.heap.size < W.heap.size := (by have := hb1.size; simp at this; omega)
       clear hb1 hown))
  have HZ : Hid (∀ wr, Below W.heap.size W wr → C5 w.heap.size (.slice A0 n0 d0) (.slice A1 n1 d1) (.slice A2 n2 d2) (.slice A3 n3 d3) (.slice A4 n4 d4) wr) := fun wr hb => HC1.out.below hb hs1
  have HFin : Hid (∀ wr, Below W.heap.size W wr → Below w.heap.size w wr) := fun wr hb => HB1.out.trans (hb.mono HB1.out.size)
  have HA0 : Hid (∀ wr, Below W.heap.size W wr → Sq tysL (· < wr.heap.size) wr A0 x.recs) := fun wr hb => (HS0.out.below (HFin.out wr hb) (Nat.le_refl _)).wide (T := (· < wr.heap.size)) fun b hb1 => Nat.lt_of_lt_of_le hb1 (HFin.out wr hb).size
  have HA1 := Lib.hid ((HS1.out.below HB1.out (Nat.le_refl _)).wide (T := (· < W.heap.size)) fun b hb => Nat.lt_of_lt_of_le hb HB1.out.size)
  have HA2 := Lib.hid ((HS2.out.below HB1.out (Nat.le_refl _)).wide (T := (· < W.heap.size)) fun b hb => Nat.lt_of_lt_of_le hb HB1.out.size)
  clear HS0 HS1 HS2 HB0 HC0 TE2
  go_loopw [5] (fun i wr => ∃ k : Nat, k ≤ n1 ∧ i = .int .i64 (k : Nat) ∧ (x.funcs.take k).any (badFn x) = false ∧ Below W.heap.size W wr) (fun i _ => n1 - (intOf i).toNat)
  case atStart => exact ⟨0, Nat.zero_le _, rfl, by simp, Below.refl _ _⟩
  case round =>
    obtain ⟨k, hk, rfl, hall, hbel⟩ := hrel
    have HE := Lib.hid hall
    have HB := Lib.hid hbel
    have hs := hbel.size
    clear hall hbel
    by_cases hlt : k < n1
    · skip
      obtain ⟨p, hp⟩ : ∃ p, x.funcs[k]? = some p := ⟨x.funcs[k]'(by rw [HL1.out]; exact hlt), List.getElem?_eq_getElem _⟩
      have HMem := Lib.hid (List.mem_of_getElem? hp)
      obtain ⟨a, cs, ea, hab, hc, hR⟩ := HA1.out.at hp
      have HP := Lib.hid hp
      clear hp
      subst ea
      obtain ⟨_, _, _, rfl, -, -, ⟨P0, c0, e4, -, -, -⟩, ⟨P1, c1, e5, -, -, t1⟩, ⟨P2, c2, e6, -, -, t2⟩⟩ := hR
      simp only [List.cons.injEq, and_true] at e4 e5 e6
      subst e4 e5 e6
      obtain ⟨f1, f2, f3, f4, -, -, -, f8⟩ := fn_sizes (HFn.out p HMem.out)
      have HGood := Lib.hid f8
      clear f8
      obtain ⟨ua, g0⟩ : ∃ n, p.args.length = n := ⟨_, rfl⟩
      obtain ⟨ul, g1⟩ : ∃ n, p.locs.length = n := ⟨_, rfl⟩
      obtain ⟨uc, g2⟩ : ∃ n, p.code.length = n := ⟨_, rfl⟩
      rw [g0] at f1 f2 hc
      rw [g1] at f2 hc
      rw [g2] at f3 f4 hc
      have G0 := Lib.hid g0
      have G1 := Lib.hid g1
      have G2 := Lib.hid g2
      clear g0 g1 g2
      have ca0 := (HB.out.cell (p := a.add (k * 5)) (by rw [addBlock]; exact hab)).trans (hc 0 _ rfl)
      have ca1 := (HB.out.cell (p := a.add (k * 5 + 1)) (by rw [addBlock]; exact hab)).trans (hc 1 _ rfl)
      rw [next_cell a (k * 5) 1 (by omega)] at ca1
      have ca2 := (HB.out.cell (p := a.add (k * 5 + 2)) (by rw [addBlock]; exact hab)).trans (hc 2 _ rfl)
      rw [next_cell a (k * 5) 2 (by omega)] at ca2
      have ca3 := (HB.out.cell (p := a.add (k * 5 + 3)) (by rw [addBlock]; exact hab)).trans (hc 3 _ rfl)
      rw [next_cell a (k * 5) 3 (by omega)] at ca3
      have ca4 := (HB.out.cell (p := a.add (k * 5 + 4)) (by rw [addBlock]; exact hab)).trans (hc 4 _ rfl)
      rw [next_cell a (k * 5) 4 (by omega)] at ca4
      clear hc
      obtain ⟨z0, z1, z2, z3, z4⟩ := HZ.out wr HB.out
      have k0' : 0 ≤ (k : Int) := by omega
      generalize p.ret.1 = r1 at *
      generalize p.ret.2 = r2 at *
      go_wp2_with fail
      refine wp_world fun V hV => ?_
      have HBV : Hid (Below W.heap.size W V) := by show Below _ _ _; rw [hV]; exact HB.out.alloc hs _
      have HCV : Hid (C5 wr.heap.size (.slice P0 ua c0) (.int .i64 r1) (.int .i64 r2) (.slice P1 ul c1) (.slice P2 uc c2) V) := by show C5 _ _ _ _ _ _ _; rw [hV]; simp [C5, go_sem]
      have hzV : wr.heap.size < V.heap.size := by rw [hV]; simp
      clear hV ca0 ca1 ca2 ca3 ca4 z0 z1 z2 z3 z4
      have HQ1 := Lib.hid ((t1.below HBV.out (Nat.le_refl _)).wide (T := (· < V.heap.size)) fun b hb => Nat.lt_of_lt_of_le hb HBV.out.size)
      have HQ2 := Lib.hid ((t2.below HBV.out (Nat.le_refl _)).wide (T := (· < V.heap.size)) fun b hb => Nat.lt_of_lt_of_le hb HBV.out.size)
      clear t1 t2
      have HKK : Hid (∀ wv, Below V.heap.size V wv → Below W.heap.size W wv ∧ C5 wr.heap.size (.slice P0 ua c0) (.int .i64 r1) (.int .i64 r2) (.slice P1 ul c1) (.slice P2 uc c2) wv) := fun wv hb => ⟨HBV.out.trans (hb.mono HBV.out.size), HCV.out.below hb hzV⟩
      clear HCV
      go_loopw [7] (fun i wv => ∃ j : Nat, j ≤ uc ∧ i = .int .i64 (j : Nat) ∧ (p.code.take j).any (fun t => !namedB x p t) = false ∧ Below V.heap.size V wv) (fun i _ => uc - (intOf i).toNat)
      case atStart => exact ⟨0, Nat.zero_le _, rfl, by simp, Below.refl _ _⟩
      case round =>
        obtain ⟨j, hj, rfl, hje, hvb⟩ := hrel
        have HJE := Lib.hid hje
        have HV := Lib.hid hvb
        have hv := hvb.size
        clear hje hvb
        by_cases hjl : j < uc
        · skip
          obtain ⟨⟨o, ia, ib⟩, hi⟩ : ∃ ii, p.code[j]? = some ii := ⟨p.code[j]'(by rw [G2.out]; exact hjl), List.getElem?_eq_getElem _⟩
          obtain ⟨a', cs', ea', ha'b, hc', hR'⟩ := HQ2.out.at hi
          have HI := Lib.hid hi
          obtain ⟨o1, a1, b1, e1, e2, e3, q1, q2, q3⟩ := goodI_parts (op := o) (a := ia) (b := ib) (HGood.out _ (List.mem_of_getElem? hi))
          clear hi
          subst ea'
          obtain ⟨rfl, -, -, -⟩ := hR'
          have ia0 := (HV.out.cell (p := a'.add (j * 3)) (by rw [addBlock]; exact ha'b)).trans (hc' 0 _ rfl)
          have ia1 := (HV.out.cell (p := a'.add (j * 3 + 1)) (by rw [addBlock]; exact ha'b)).trans (hc' 1 _ rfl)
          rw [next_cell a' (j * 3) 1 (by omega)] at ia1
          have ia2 := (HV.out.cell (p := a'.add (j * 3 + 2)) (by rw [addBlock]; exact ha'b)).trans (hc' 2 _ rfl)
          rw [next_cell a' (j * 3) 2 (by omega)] at ia2
          simp only at ia0 ia1 ia2
          clear hc'
          have TN : Hid (∀ w2, Below W.heap.size W w2 → Calls Try.prog 24 #[.agg #[.slice A0 n0 d0, .slice (some a) n1 d1, .slice A2 n2 d2, .slice A3 n3 d3, .slice A4 n4 d4], .agg #[.slice P0 ua c0, .int .i64 r1, .int .i64 r2, .slice P1 ul c1, .slice (some a') uc c2], .agg #[.int .i64 o, .int .i64 ia, .int .i64 ib]] w2 (Tells (namedB x p (o, ia, ib)) w2)) := fun w2 hb =>
            named_any A0 (some a) A2 A3 A4 P0 P1 (some a') n0 n1 n2 n3 n4 d0 d1 d2 d3 d4 ua ul uc c0 c1 c2 r1 r2 x p o ia ib w2 HL0.out HL1.out HL2.out HL3.out HL4.out G0.out G1.out G2.out (by omega) (by omega) (by omega) (by omega) (by omega) (HA0.out w2 hb)
          obtain ⟨hBv, y0, y1, y2, y3, y4⟩ := HKK.out wr HV.out
          have HBv := Lib.hid hBv
          have hsv := hBv.size
          obtain ⟨z0, z1, z2, z3, z4⟩ := HZ.out wr hBv
          have j0' : 0 ≤ (j : Int) := by omega
          have HBR : Hid (∀ dq osq, Below W.heap.size W (Go.Sort.grow (redrawn wr dq) osq)) := fun dq osq => HBv.out.trans ((below_regrown wr dq osq).mono HBv.out.size)
          have HVR : Hid (∀ dq osq, Below V.heap.size V (Go.Sort.grow (redrawn wr dq) osq)) := fun dq osq => HV.out.trans ((below_regrown wr dq osq).mono HV.out.size)
          have z0r := cell_regrown z0
          have z1r := cell_regrown z1
          have z2r := cell_regrown z2
          have z3r := cell_regrown z3
          have z4r := cell_regrown z4
          have y0r := cell_regrown y0
          have y1r := cell_regrown y1
          have y2r := cell_regrown y2
          have y3r := cell_regrown y3
          have y4r := cell_regrown y4
          have ia0r := cell_regrown ia0
          have ia1r := cell_regrown ia1
          have ia2r := cell_regrown ia2
          clear hBv e1 e2 e3 q1 q2 q3
          cases hg : namedB x p (o, ia, ib)
          all_goals
            rw [hg] at TN
            have HG := Lib.hid hg
            clear hg
            go_wp2_with fail
            refine wp_region_quiet_below (by kernel_rfl) (by kernel_rfl) ?_
            repeat (quiet_step (first | with_reducible exact Calls.regrown_of (TN.out _ (HBR.out _ _))))
            refine wpQuiet_nil ?_
            intro _ hw'
            obtain ⟨⟨dq, osq⟩, hw''⟩ := hw'
            subst hw''
            have HX2 := Lib.hid (HVR.out dq osq)
            go_wp2_with fail
          · skip
            go_ret
            refine ⟨?_, HFin.out _ (HKK.out _ HX2.out).1⟩
            rw [HBD.out (badFn_any HMem.out (bad_code (List.mem_of_getElem? HI.out) HG.out))]
            rfl
          · skip
            refine ⟨⟨j + 1, by omega, by simp, any_take HJE.out HI.out (by rw [HG.out]; rfl), HX2.out⟩, by simp [intOf]; omega⟩
        · obtain rfl : j = uc := by omega
          have HCode := Lib.hid (any_full HJE.out G2.out)
          obtain ⟨hBv, y0, y1, y2, y3, y4⟩ := HKK.out wr HV.out
          have j0' : 0 ≤ (j : Int) := by omega
          clear hBv
          go_wp2_with fail
          go_loopw [8] (fun i wv => ∃ j : Nat, j ≤ ul ∧ i = .int .i64 (j : Nat) ∧ (p.locs.take j).any hanB = false ∧ Below V.heap.size V wv) (fun i _ => ul - (intOf i).toNat)
          case atStart => exact ⟨0, Nat.zero_le _, rfl, by simp, HV.out⟩
          case round =>
            obtain ⟨i, hi', rfl, hie, hvb⟩ := hrel
            clear HV HJE hv y0 y1 y2 y3 y4
            have HIE := Lib.hid hie
            have HV := Lib.hid hvb
            have hv := hvb.size
            clear hie hvb
            obtain ⟨hBv, y0, y1, y2, y3, y4⟩ := HKK.out wr HV.out
            have HBv := Lib.hid hBv
            clear hBv
            have i0' : 0 ≤ (i : Int) := by omega
            by_cases hil : i < ul
            · skip
              obtain ⟨⟨q, r⟩, hi⟩ : ∃ ii, p.locs[i]? = some ii := ⟨p.locs[i]'(by rw [G1.out]; exact hil), List.getElem?_eq_getElem _⟩
              obtain ⟨a', cs', ea', ha'b, hc', hR'⟩ := HQ1.out.at hi
              have HI := Lib.hid hi
              clear hi
              subst ea'
              obtain ⟨rfl, -, -⟩ := hR'
              have ia0 := (HV.out.cell (p := a'.add (i * 2)) (by rw [addBlock]; exact ha'b)).trans (hc' 0 _ rfl)
              simp only at ia0
              clear hc'
              by_cases hq : q = 5
              · have HG : Hid (hanB (q, r) = true) := by show hanB _ = _; simp [hanB, hq]
                have hq2 : (q == 5) = true := by simpa using hq
                clear hq
                go_wp2_with fail
                go_ret
                refine ⟨?_, HFin.out _ HBv.out⟩
                rw [HBD.out (badFn_any HMem.out (bad_loc (List.mem_of_getElem? HI.out) HG.out))]
                rfl
              · have HG : Hid (hanB (q, r) = false) := by show hanB _ = _; simp [hanB, hq]
                have hq2 : (q == 5) = false := by simpa using hq
                clear hq
                go_wp2_with fail
                refine ⟨⟨i + 1, by omega, by simp, any_take HIE.out HI.out HG.out, HV.out⟩, by simp [intOf]; omega⟩
            · obtain rfl : i = ul := by omega
              have HLoc := Lib.hid (any_full HIE.out G1.out)
              go_wp2_with fail
              refine ⟨⟨k + 1, by omega, by simp, any_take HE.out HP.out (by rw [badFn, HLoc.out, HCode.out]; rfl), HBv.out⟩, by simp [intOf]; omega⟩
    · obtain rfl : k = n1 := by omega
      have HFs := Lib.hid (any_full HE.out HL1.out)
      obtain ⟨z0, z1, z2, z3, z4⟩ := HZ.out wr HB.out
      have k0' : 0 ≤ (k : Int) := by omega
      go_wp2_with fail
      go_loopw [9] (fun i wr => ∃ k : Nat, k ≤ n2 ∧ i = .int .i64 (k : Nat) ∧ (x.imps.take k).any badImp = false ∧ Below W.heap.size W wr) (fun i _ => n2 - (intOf i).toNat)
      case atStart => exact ⟨0, Nat.zero_le _, rfl, by simp, HB.out⟩
      case round =>
        obtain ⟨k, hk, rfl, hall, hbel⟩ := hrel
        clear HE HB hs z0 z1 z2 z3 z4
        have HE := Lib.hid hall
        have HB := Lib.hid hbel
        have hs := hbel.size
        clear hall hbel
        obtain ⟨z0, z1, z2, z3, z4⟩ := HZ.out wr HB.out
        have k1' : 0 ≤ (k : Int) := by omega
        by_cases hlt : k < n2
        · skip
          obtain ⟨p, hp⟩ : ∃ p, x.imps[k]? = some p := ⟨x.imps[k]'(by rw [HL2.out]; exact hlt), List.getElem?_eq_getElem _⟩
          have HMem := Lib.hid (List.mem_of_getElem? hp)
          obtain ⟨a, cs, ea, hab, hc, hR⟩ := HA2.out.at hp
          have HP := Lib.hid hp
          clear hp
          subst ea
          obtain ⟨_, rfl, -, -, ⟨P0, c0, e4, -, -, t0⟩⟩ := hR
          simp only [List.cons.injEq, and_true] at e4
          subst e4
          obtain ⟨f1, -, -⟩ := imp_sizes (HIm.out p HMem.out)
          obtain ⟨ua, g0⟩ : ∃ n, p.args.length = n := ⟨_, rfl⟩
          rw [g0] at f1 hc
          have G0 := Lib.hid g0
          clear g0
          have HCA : Hid (∀ wv, Below W.heap.size W wv → wv.cell? (a.add (k * 3)) = some (.slice P0 ua c0) ∧ wv.cell? ⟨(a.add (k * 3)).block, (a.add (k * 3)).off + 1, none⟩ = some (.int .i64 p.ret.1) ∧ wv.cell? ⟨(a.add (k * 3)).block, (a.add (k * 3)).off + 2, none⟩ = some (.int .i64 p.ret.2)) := fun wv hb => by
            have ca0 := (hb.cell (p := a.add (k * 3)) (by rw [addBlock]; exact hab)).trans (hc 0 _ rfl)
            have ca1 := (hb.cell (p := a.add (k * 3 + 1)) (by rw [addBlock]; exact hab)).trans (hc 1 _ rfl)
            rw [next_cell a (k * 3) 1 (by omega)] at ca1
            have ca2 := (hb.cell (p := a.add (k * 3 + 2)) (by rw [addBlock]; exact hab)).trans (hc 2 _ rfl)
            rw [next_cell a (k * 3) 2 (by omega)] at ca2
            exact ⟨ca0, ca1, ca2⟩
          clear hc
          have HQ0 := Lib.hid t0
          clear t0
          obtain ⟨ca0, ca1, ca2⟩ := HCA.out wr HB.out
          have TH : Hid (∀ w2, Calls Try.prog 25 #[.agg #[.int .i64 p.ret.1, .int .i64 p.ret.2]] w2 (Tells (hostB p.ret) w2)) := fun w2 => host_any p.ret w2
          obtain ⟨hr, ehr⟩ : ∃ b, hostB p.ret = b := ⟨_, rfl⟩
          rw [ehr] at TH
          have HHR := Lib.hid ehr
          clear ehr
          generalize p.ret.1 = r1 at *
          generalize p.ret.2 = r2 at *
          go_wp2_with (first
            | (go_at_call 25
               refine (TH.out _).mono ?_
               rintro e w2 ⟨rfl, hb2⟩
               have HB2 := Lib.hid (HB.out.trans (hb2.mono hs))
               clear hb2))
          go_loopw [10, 11] (fun ok i wv => ∃ j : Nat, j ≤ ua ∧ i = .int .i64 (j : Nat) ∧ ∃ b : Bool, ok = .bool b ∧ b = !((p.args.take j).any (fun t => !hostB t) || !hr) ∧ Below W.heap.size W wv) (fun _ i _ => ua - (intOf i).toNat)
          case atStart => exact ⟨0, Nat.zero_le _, rfl, hr, rfl, by simp, HB2.out⟩
          case round =>
            obtain ⟨j, hj, rfl, b, rfl, hbv, hvb⟩ := hrel
            clear ca0 ca1 ca2 z0 z1 z2 z3 z4 HB2
            have HBv := Lib.hid hbv
            have HV := Lib.hid hvb
            have hv := hvb.size
            clear hbv hvb
            obtain ⟨ca0, ca1, ca2⟩ := HCA.out wr HV.out
            obtain ⟨z0, z1, z2, z3, z4⟩ := HZ.out wr HV.out
            have j0' : 0 ≤ (j : Int) := by omega
            by_cases hjl : j < ua
            · skip
              obtain ⟨y, hi⟩ : ∃ ii, p.args[j]? = some ii := ⟨p.args[j]'(by rw [G0.out]; exact hjl), List.getElem?_eq_getElem _⟩
              obtain ⟨a', cs', ea', ha'b, hc', hR'⟩ := HQ0.out.at hi
              have HI := Lib.hid hi
              clear hi
              subst ea'
              obtain ⟨rfl, -, -⟩ := hR'
              have ia0 := (HV.out.cell (p := a'.add (j * 2)) (by rw [addBlock]; exact ha'b)).trans (hc' 0 _ rfl)
              have ia1 := (HV.out.cell (p := a'.add (j * 2 + 1)) (by rw [addBlock]; exact ha'b)).trans (hc' 1 _ rfl)
              rw [next_cell a' (j * 2) 1 (by omega)] at ia1
              clear hc'
              have TH2 : Hid (∀ w2, Calls Try.prog 25 #[.agg #[.int .i64 y.1, .int .i64 y.2]] w2 (Tells (hostB y) w2)) := fun w2 => host_any y w2
              have HST : Hid ((p.args.take (j + 1)).any (fun t => !hostB t) = ((p.args.take j).any (fun t => !hostB t) || !hostB y)) := any_step HI.out
              generalize hostB y = hy at *
              generalize y.1 = r3 at *
              generalize y.2 = r4 at *
              cases b
              · go_wp2_with fail
                refine ⟨⟨j + 1, by omega, by simp, false, rfl, ?_, HV.out⟩, by simp [intOf]; omega⟩
                rw [HST.out]
                have := HBv.out
                cases hy <;> simp_all
              · go_wp2_with (first
                  | (go_at_call 25
                     refine (TH2.out _).mono ?_
                     rintro e w2 ⟨rfl, hb2⟩
                     have HB3 := Lib.hid (HV.out.trans (hb2.mono hv))
                     clear hb2))
                refine ⟨⟨j + 1, by omega, by simp, hy, rfl, ?_, HB3.out⟩, by simp [intOf]; omega⟩
                rw [HST.out]
                have := HBv.out
                cases hy <;> simp_all
            · obtain rfl : j = ua := by omega
              have HBI : Hid (badImp p = !b) := by
                show badImp p = !b
                have e := HBv.out
                rw [List.take_of_length_le (by rw [G0.out]; exact Nat.le_refl _)] at e
                rw [badImp, HHR.out, e, Bool.not_not]
              cases b
              · go_wp2_with fail
                go_ret
                refine ⟨?_, HFin.out _ HV.out⟩
                rw [HBD.out (badImp_any HMem.out HBI.out)]
                rfl
              · go_wp2_with fail
                refine ⟨⟨k + 1, by omega, by simp, any_take HE.out HP.out HBI.out, HV.out⟩, by simp [intOf]; omega⟩
        · obtain rfl : k = n2 := by omega
          have HIs := Lib.hid (any_full HE.out HL2.out)
          go_wp2_with fail
          go_ret
          refine ⟨?_, HFin.out _ HB.out⟩
          rw [HOK.out (by rw [badM, HFs.out, HIs.out]; rfl)]
          rfl
end Go.Proofs.Ytpgfbnilnoopoaa
namespace Go.Proofs.Ytpgfbnilnoopoaa
open Go.RowKit
set_option linter.unusedSimpArgs false
set_option linter.unusedVariables false

set_option maxRecDepth 100000 in
theorem walk_append_raw (k : Nat) (w : World) {ops : Array Oper} {rest : List Oper} {o : Oper} {a : Act} {Q : Exit → Act → World → Prop} (hgd : o.guard = none) (s x : Operand) (T E : TypeId)
    (ho : o.op = .call { callee := .builtin .append, args := #[s, x], argTypes := #[T, T] })
    (z : Value) (B : Nat) (hT : Try.prog.underlying T = some (.slice E)) (hI : (Try.prog.info? E).map (fun i => (i.zero, i.size, i.bytes)) = some (some z, k, B)) (hz : z.cells.size = k) (hk : 0 < k) (hB : B ≤ 100)
    (base : Nat) (v : Value) (n : Nat) (cs : List Value) (hs : a.eval s = v) (hO : w.ownsRow base E k v n cs) (ad : Addr) (d : Nat) (hx : a.eval x = .slice (some ad) 1 d) (ys : List Value) (hl : ys.length = k)
    (hc : ∀ j u, ys[j]? = some u → w.cell? (ad.add j) = some u) (hone : ∀ u ∈ ys, u.oneCell' = true) (hbig : n ≤ 1000) (hbase : base ≤ w.heap.size)
    (h : ∀ v' w', w'.ownsRow base E k v' (n + 1) (cs ++ ys) → w.grownBy w' v.ownBlock → (v'.ownBlock = v.ownBlock ∨ v'.ownBlock = some w.heap.size) → wpList Try.prog ops Q rest (a.put o.dst v') w') : wpList Try.prog ops Q (o :: rest) a w := by
  refine wpList_plain hgd fun _ hK => ?_
  obtain ⟨i0, hi0, hz0, hz1, hz2⟩ := info_parts hI
  have hBx : (n + 1) * B ≤ 140737488355328 := by
    have := Nat.mul_le_mul (show n + 1 ≤ 1001 by omega) hB
    omega
  obtain ⟨v', w', hrun, h2, h3, _, h5⟩ := run_append_own_at (P := Try.prog) w base T o.type E i0 z k B hT hi0 hz0 hz1 hz2 hz hk v n cs hO ad 1 d ys (by rw [hl, Nat.one_mul]) hc hone
    (by simp only [maxLen]; omega) hBx hbase
  unfold Oper.wp execOp
  simp only [ho, resolve, invoke, builtin, Sem.run_bind, Sem.run_pure, Result.andThen_ok, List.map_toArray, List.map_cons, List.map_nil, hs, hx, hrun]
  exact hK _ _ (h v' w' h2 h3 h5)

theorem step_append_raw (k : Nat) (w : World) {ops : Array Oper} {o : Oper} {a : Act} {K : Act → World → Prop} {Q : Exit → Act → World → Prop} {X : Prop} (hgd : o.guard = none) (s x : Operand) (T E : TypeId)
    (ho : o.op = .call { callee := .builtin .append, args := #[s, x], argTypes := #[T, T] })
    (z : Value) (B : Nat) (hT : Try.prog.underlying T = some (.slice E)) (hI : (Try.prog.info? E).map (fun i => (i.zero, i.size, i.bytes)) = some (some z, k, B)) (hz : z.cells.size = k) (hk : 0 < k) (hB : B ≤ 100)
    (base : Nat) (v : Value) (n : Nat) (cs : List Value) (hs : a.eval s = v) (hO : w.ownsRow base E k v n cs) (ad : Addr) (d : Nat) (hx : a.eval x = .slice (some ad) 1 d) (ys : List Value) (hl : ys.length = k)
    (hc : ∀ j u, ys[j]? = some u → w.cell? (ad.add j) = some u) (hone : ∀ u ∈ ys, u.oneCell' = true) (hbig : n ≤ 1000) (hbase : base ≤ w.heap.size)
    (h : ∀ v' w', w'.ownsRow base E k v' (n + 1) (cs ++ ys) → w.grownBy w' v.ownBlock → (v'.ownBlock = v.ownBlock ∨ v'.ownBlock = some w.heap.size) → K (a.put o.dst v') w') :
    if Region.wanted o (yielded ops a.tmps) = true then Oper.wp Try.prog o a w K Q else X := by
  have hw : Region.wanted o (yielded ops a.tmps) = true := by simp [Region.wanted, hgd]
  rw [if_pos hw]
  obtain ⟨i0, hi0, hz0, hz1, hz2⟩ := info_parts hI
  have hBx : (n + 1) * B ≤ 140737488355328 := by
    have := Nat.mul_le_mul (show n + 1 ≤ 1001 by omega) hB
    omega
  obtain ⟨v', w', hrun, h2, h3, _, h5⟩ := run_append_own_at (P := Try.prog) w base T o.type E i0 z k B hT hi0 hz0 hz1 hz2 hz hk v n cs hO ad 1 d ys (by rw [hl, Nat.one_mul]) hc hone
    (by simp only [maxLen]; omega) hBx hbase
  unfold Oper.wp execOp
  simp only [ho, resolve, invoke, builtin, Sem.run_bind, Sem.run_pure, Result.andThen_ok, List.map_toArray, List.map_cons, List.map_nil, hs, hx, hrun]
  exact h v' w' h2 h3 h5

/-- A row of cells of which each things' cells say what it is. -/
theorem raw_sl {α : Type} {L : Lay α} {S : Nat → Prop} {ty base : Nat} {w : World} {v : Value} {xs : List α} {css : List (List Value)} (hl : css.length = xs.length) (hown : w.ownsRow base ty L.k v xs.length css.flatten)
    (hR : ∀ (j : Nat) (x : α) (cs : List Value), xs[j]? = some x → css[j]? = some cs → L.R S w cs x) (hS : ∀ b, base ≤ b → b < w.heap.size → S b) : (slL L).R S w [v] xs := by
  have hk : ∀ cs ∈ css, cs.length = L.k := fun cs hcs => by
    obtain ⟨j, hj⟩ := List.mem_iff_getElem?.1 hcs
    have hjl : j < xs.length := by rw [← hl]; exact (List.getElem?_eq_some_iff.1 hj).1
    exact L.len (hR j _ cs (List.getElem?_eq_getElem hjl) hj)
  rcases hown.2 with ⟨rfl, h0⟩ | ⟨g, cap, cur, rfl, hb, hg, hnc, hcm, _, _⟩
  · exact ⟨none, 0, by rw [h0], by omega, by simp [maxLen], fun hpos => absurd hpos (by omega)⟩
  · refine ⟨some ⟨g, 0, none⟩, cap, rfl, hnc, hcm, fun _ => ⟨⟨g, 0, none⟩, rfl, hS _ hb (Array.getElem?_eq_some_iff.1 hg).1, fun j x hx => ?_⟩⟩
    have hjl : j < css.length := by rw [hl]; exact (List.getElem?_eq_some_iff.1 hx).1
    have hcs := List.getElem?_eq_getElem hjl
    have hr := hR j x _ hx hcs
    refine ⟨_, fun i u hu => ?_, hr⟩
    have hi : i < L.k := by rw [← L.len hr]; exact (List.getElem?_eq_some_iff.1 hu).1
    exact hown.cells rfl (j * L.k + i) u (by rw [flat_get hk hcs i hi]; exact hu)
/-- A row of one thing, as it was laid. -/
theorem raw_one {w : World} {g base ty k : Nat} {cs : Array Value} (h : Blk w g ty cs) (hb : base ≤ g) (hk : cs.size = k) : w.ownsRow base ty k (.slice (some ⟨g, 0, none⟩) 1 1) 1 cs.toList :=
  ⟨by simp [hk], .inr ⟨g, 1, cs, rfl, hb, h, Nat.le_refl _, by simp [maxLen], by omega, by rw [List.take_of_length_le (by simp [hk])]⟩⟩
/-- One thing in a row of its own. -/
theorem one_sl {α : Type} {L : Lay α} {S : Nat → Prop} {w : World} {g ty : Nat} {cs : Array Value} {x : α} (h : Blk w g ty cs) (hg : S g) (hR : L.R S w cs.toList x) : (slL L).R S w [.slice (some ⟨g, 0, none⟩) 1 1] [x] := by
  refine ⟨some ⟨g, 0, none⟩, 1, rfl, Nat.le_refl _, by simp [maxLen], fun _ => ⟨_, rfl, hg, fun j y hy => ?_⟩⟩
  have hj : j = 0 := by
    rcases Nat.eq_zero_or_pos j with h | h
    · exact h
    · rw [List.getElem?_eq_none (by simp; omega)] at hy
      cases hy
  subst hj
  simp at hy
  subst hy
  refine ⟨_, fun i u hu => ?_, hR⟩
  have e : (⟨g, 0, none⟩ : Addr).add (0 * L.k + i) = ⟨g, i, none⟩ := by unfold Addr.add; split <;> simp_all
  rw [e, h.cell i]
  simpa using hu
theorem nil_sl {α : Type} (L : Lay α) (S : Nat → Prop) (w : World) : (slL L).R S w [.slice none 0 0] [] := ⟨none, 0, rfl, Nat.le_refl _, by simp [maxLen], Sq.nil _ _ _ _⟩

def tA : Array Value := #[.int .i64 1, .int .i64 0]
def iA : Array Value := #[.int .i64 26, .int .i64 0, .int .i64 0]
theorem modB_pos (m : Mod) : 0 < (modB m).length := by
  have : joinB (partsB m) = vb 5 ++ pts (partsB m) := rfl
  rw [modB, this, vb_small 5 (by omega)]
  simp
theorem t_good (r : Int) : goodT r (1, 0) = true := by simp [goodT, goodB]
theorem f_ok (r : Int) (n c : Nat) : fnOk r ⟨[], (1, 0), List.replicate n (1, 0), (26, 0, 0) :: List.replicate c (5, 0, 0)⟩ = decide (n ≤ 8 ∧ c ≤ 63) := by
  have h1 : goodIn (26, 0, 0) = true := by decide
  have h2 : goodIn (5, 0, 0) = true := by decide
  rw [Bool.eq_iff_iff]
  simp only [fnOk, Bool.and_eq_true, witB_iff, t_good, decide_eq_true_eq]
  simp [t_good, h1, h2]
  omega
theorem f0_ok (r : Int) : fnOk r fn0 = true := by
  have h := f_ok r 0 0
  simp at h
  exact h
/-- The law's modules: which of the seven, and how many more. -/
def bm : Nat → Nat → Mod
  | 0, k => ⟨List.replicate k [], [fn0], [], [], []⟩
  | 1, k => ⟨[], List.replicate (k + 1) fn0, [], [], []⟩
  | 2, k => ⟨[], [fn0], List.replicate k ⟨[], (1, 0)⟩, [], []⟩
  | 3, k => ⟨[], [fn0], [], List.range k, []⟩
  | 4, k => ⟨[], [fn0], [], [], List.replicate k [97]⟩
  | 5, k => ⟨[], [⟨[], (1, 0), List.replicate k (1, 0), [(26, 0, 0)]⟩], [], [], []⟩
  | _, k => ⟨[], [⟨[], (1, 0), [], (26, 0, 0) :: List.replicate k (5, 0, 0)⟩], [], [], []⟩
def bt : Nat → Nat
  | 0 => 8
  | 1 => 7
  | 2 => 8
  | 3 => 16
  | 4 => 16
  | 5 => 8
  | _ => 63
theorem bm_fit (c k : Nat) : fitB (bm c k) = decide (k ≤ bt c) := by
  have h0 := f0_ok
  have h5 : ∀ r, fnOk r ⟨[], (1, 0), List.replicate k (1, 0), [(26, 0, 0)]⟩ = decide (k ≤ 8) := fun r => by simpa using f_ok r k 0
  have h6 : ∀ r, fnOk r ⟨[], (1, 0), [], (26, 0, 0) :: List.replicate k (5, 0, 0)⟩ = decide (k ≤ 63) := fun r => by simpa using f_ok r 0 k
  rw [Bool.eq_iff_iff]
  match c with
  | 0 => simp [fitB, witB_iff, bm, bt, recOk, h0]; omega
  | 1 => simp [fitB, witB_iff, bm, bt, recOk, h0]; omega
  | 2 => simp [fitB, witB_iff, bm, bt, impOk, t_good, h0]; omega
  | 3 => simp [fitB, witB_iff, bm, bt, h0]
  | 4 => simp [fitB, witB_iff, bm, bt, shortB, h0]; omega
  | 5 => simp [fitB, witB_iff, bm, bt, h5]
  | c + 6 => simp [fitB, witB_iff, bm, bt, h6]
theorem raw_below {w w' : World} {base B ty k : Nat} {v : Value} {n : Nat} {xs : List Value} (h : w.ownsRow base ty k v n xs) (hb : Below B w w') (hB : w.heap.size ≤ B) : w'.ownsRow base ty k v n xs :=
  h.kept (w' := w') (row := none) ⟨hb.os, hb.tape, hb.output, hb.size, fun k hk _ => hb.block k (by omega)⟩ (by cases v.ownBlock <;> simp)
theorem raw_shape {w : World} {base ty k : Nat} {v : Value} {n : Nat} {xs : List Value} (h : w.ownsRow base ty k v n xs) : ∃ A m c, v = .slice A m c := by
  rcases h.2 with ⟨rfl, -⟩ | ⟨g, cap, cur, rfl, -⟩
  · exact ⟨_, _, _, rfl⟩
  · exact ⟨_, _, _, rfl⟩
/-- The law's function, and the row that holds it. -/
theorem fn_laid {w : World} {N tf ti : Nat} (h2 : Blk w (N + 2) tf #[.slice none 0 0, .int .i64 1, .int .i64 0, .slice none 0 0, .slice (some ⟨N + 1, 0, none⟩) 1 1]) (h1 : Blk w (N + 1) ti iA) : (slL fnL).R (· < w.heap.size) w [.slice (some ⟨N + 2, 0, none⟩) 1 1] [fn0] :=
  one_sl h2 h2.lt ⟨_, _, _, rfl, by unfold I64 fn0; simp, by unfold I64 fn0; simp, nil_sl _ _ _, nil_sl _ _ _, one_sl (x := (26, 0, 0)) h1 h1.lt ⟨rfl, by unfold I64; simp, by unfold I64; simp, by unfold I64; simp⟩⟩

/-- The law's four blocks, as they are laid. -/
theorem four_blk (w : World) (c0 c1 c2 c3 : Array Value) (t0 t1 t2 t3 : Nat) : Blk ((((w.alloc (.cells c0 t0)).alloc (.cells c1 t1)).alloc (.cells c2 t2)).alloc (.cells c3 t3)) w.heap.size t0 c0 ∧
    Blk ((((w.alloc (.cells c0 t0)).alloc (.cells c1 t1)).alloc (.cells c2 t2)).alloc (.cells c3 t3)) (w.heap.size + 1) t1 c1 ∧ Blk ((((w.alloc (.cells c0 t0)).alloc (.cells c1 t1)).alloc (.cells c2 t2)).alloc (.cells c3 t3)) (w.heap.size + 2) t2 c2 ∧
    Blk ((((w.alloc (.cells c0 t0)).alloc (.cells c1 t1)).alloc (.cells c2 t2)).alloc (.cells c3 t3)) (w.heap.size + 3) t3 c3 := by
  have k : ∀ (v : World) (o : Obj) (b t : Nat) (c : Array Value), Blk v b t c → Blk (v.alloc o) b t c := fun v o b t c h => (Below.heap_alloc v o b h.lt).trans h
  have n : ∀ (v : World) (b t : Nat) (c : Array Value), v.heap.size = b → Blk (v.alloc (.cells c t)) b t c := fun v b t c h => by rw [← h]; exact blk_new v t c
  exact ⟨k _ _ _ _ _ (k _ _ _ _ _ (k _ _ _ _ _ (n _ _ _ _ rfl))), k _ _ _ _ _ (k _ _ _ _ _ (n _ _ _ _ (by simp))), k _ _ _ _ _ (n _ _ _ _ (by simp)), n _ _ _ _ (by simp)⟩

/-- What is known behind some rounds: the row of cells v, which the block g keeps, holds css; of the law's four blocks no other has turned but b0, where the row began. -/
def Bst (N ty k b0 g ty2 : Nat) (mk : Value → Array Value) (w W0 wr : World) (css : List (List Value)) (v : Value) : Prop :=
  Below N w wr ∧ N + 4 ≤ wr.heap.size ∧ wr.ownsRow (N + 1) ty k v css.length css.flatten ∧ (∀ b, v.ownBlock = some b → b = b0 ∨ N + 4 ≤ b) ∧ (∀ b, b < N + 4 → b ≠ b0 → b ≠ g → wr.heap[b]? = W0.heap[b]?) ∧ Blk wr g ty2 (mk v)
theorem Bst.blk {N ty k b0 g ty2 : Nat} {mk : Value → Array Value} {w W0 wr w1 w2 : World} {css : List (List Value)} {v : Value} (h : Bst N ty k b0 g ty2 mk w W0 wr css v) (hb : b0 ≠ g) (hg : g < N + 4) (h1 : Below wr.heap.size wr w1) (hgr : w1.grownBy w2 v.ownBlock) : Blk w2 g ty2 (mk v) := by
  obtain ⟨a1, a2, a3, a4, a5, a6⟩ := h
  refine ((hgr.block g (Nat.lt_of_lt_of_le a6.lt h1.size) fun e => ?_).trans (h1.block g a6.lt)).trans a6
  rcases a4 g e.symm with h | h <;> omega
theorem Bst.step {N ty k b0 g ty2 i : Nat} {mk : Value → Array Value} {w W0 wr w1 w2 : World} {css : List (List Value)} {ys : List Value} {v v' : Value} (h : Bst N ty k b0 g ty2 mk w W0 wr css v) (hb : b0 ≠ g) (hb0 : N ≤ b0) (hg0 : N ≤ g) (hg : g < N + 4) (h1 : Below wr.heap.size wr w1)
    (hown : w2.ownsRow (N + 1) ty k v' (css.length + 1) (css.flatten ++ ys)) (hgr : w1.grownBy w2 v.ownBlock) (h5 : v'.ownBlock = v.ownBlock ∨ v'.ownBlock = some w1.heap.size) (hset : (mk v).setIfInBounds i v' = mk v') :
    Bst N ty k b0 g ty2 mk w W0 (w2.setCell ⟨g, i, none⟩ v') (css ++ [ys]) v' := by
  have hblk := h.blk hb hg h1 hgr
  obtain ⟨a1, a2, a3, a4, a5, a6⟩ := h
  have s1 := h1.size
  have s2 := hgr.size
  have hv : ∀ b, v'.ownBlock = some b → b = b0 ∨ N + 4 ≤ b := by
    intro b e
    rcases h5 with h | h
    · exact a4 b (h ▸ e)
    · rw [h] at e
      injection e with e
      omega
  have hrow : ∀ j, v.ownBlock = some j → N ≤ j := fun j e => by rcases a4 j e with h | h <;> omega
  refine ⟨((a1.trans (h1.mono (by omega))).trans (below_grown hgr (by omega) hrow)).setCell (p := ⟨g, i, none⟩) hg0 _, by have := (only_set (only_refl g w2) i v').size; omega, ?_, hv, ?_, ?_⟩
  · have := hown.kept (row := some g) (only_set (only_refl g w2) i v') (.inr fun e => by rcases hv g e with h | h <;> omega)
    simpa using this
  · intro b h2 h3 h4
    rw [Below.heap_setCell _ _ _ _ (by simpa using h4), hgr.block b (by omega) (fun e => by rcases a4 b e.symm with h | h <;> omega), h1.block b (by omega)]
    exact a5 b h2 h3 h4
  · rw [← hset]
    exact hblk.set i v'
end Go.Proofs.Ytpgfbnilnoopoaa
namespace Go.Proofs.Ytpgfbnilnoopoaa
open Go.RowKit
set_option linter.unusedSimpArgs false
set_option linter.unusedVariables false

set_option maxRecDepth 100000 in
set_option maxHeartbeats 4000000 in
theorem rmain_any (cs : List Value) (x : Mod) (w : World) (h : modL.R (· < w.heap.size) w cs x) (hz : Small x) : Calls Try.prog 12 #[vAgg cs] w (Tells (mainB x) w) := by
  have TE : Hid (∀ w1, Below w.heap.size w w1 → Calls Try.prog 10 #[vAgg cs] w1 (Errs (checkN x) w1)) := fun w1 hb => rcheck_any cs x w1 (mod_at h hb) hz
  obtain ⟨_, _, _, _, _, rfl, ⟨A0, d0, e0, -⟩, ⟨A1, d1, e1, l1, m1, s1⟩, ⟨A2, d2, e2, -⟩, ⟨A3, d3, e3, -⟩, ⟨A4, d4, e4, -⟩⟩ := h
  simp only [List.cons.injEq, and_true] at e0 e1 e2 e3 e4
  subst e0 e1 e2 e3 e4
  obtain ⟨n1, h1⟩ : ∃ n, x.funcs.length = n := ⟨_, rfl⟩
  rw [h1] at TE ⊢
  generalize x.recs.length = n0 at *
  generalize x.imps.length = n2 at *
  generalize x.ints.length = n3 at *
  generalize x.texts.length = n4 at *
  have TE2 : Hid (∀ w1, Below w.heap.size w w1 → Calls Try.prog 10 #[.agg #[.slice A0 n0 d0, .slice A1 n1 d1, .slice A2 n2 d2, .slice A3 n3 d3, .slice A4 n4 d4]] w1 (Errs (checkN x) w1)) := TE.out
  clear TE hz
  show Calls Try.prog 12 #[.agg #[.slice A0 n0 d0, .slice A1 n1 d1, .slice A2 n2 d2, .slice A3 n3 d3, .slice A4 n4 d4]] w (Tells (mainB x) w)
  have HB0 : Hid (∀ o : Obj, Below w.heap.size w (w.alloc o)) := fun o => (Below.refl _ _).alloc (Nat.le_refl _) _
  have HC0 : Hid (C5 w.heap.size (.slice A0 n0 d0) (.slice A1 n1 d1) (.slice A2 n2 d2) (.slice A3 n3 d3) (.slice A4 n4 d4) (w.alloc (.cells #[.slice A0 n0 d0, .slice A1 n1 d1, .slice A2 n2 d2, .slice A3 n3 d3, .slice A4 n4 d4] 28))) := by show C5 _ _ _ _ _ _ _; simp [C5, go_sem]
  by_cases hc : checkN x = 0
  rotate_left
  · have HN := Lib.hid (mainB_not hc)
    have b : (checkN x == 0) = false := by simpa using hc
    generalize mainB x = mb at *
    generalize checkN x = cn at *
    clear hc s1 h1
    go_enter Try.func12, Try.ntmps12
    go_wp2_with (first
      | (go_at_call 10
         refine (TE2.out _ (HB0.out _)).mono ?_
         rintro e w1 ⟨rfl, hb1⟩
         have HB1 := Lib.hid ((HB0.out _).trans (hb1.mono (by simp)))
         clear hb1))
    go_ret
    exact ⟨by rw [HN.out]; rfl, HB1.out⟩
  · have hF := fitB_iff.1 (checkN_fit hc)
    have hf1 := hF.f1
    obtain ⟨f, fs, hfs⟩ : ∃ f fs, x.funcs = f :: fs := by
      cases hx : x.funcs with
      | nil => rw [hx] at hf1; simp at hf1
      | cons f fs => exact ⟨f, fs, rfl⟩
    have HN := Lib.hid (mainB_yes hc hfs)
    rw [hc] at TE2
    obtain ⟨a, cs, ea, hab, hcl, hR⟩ := s1.at (k := 0) (x := f) (by rw [hfs]; rfl)
    subst ea
    obtain ⟨p0, p1, p2, rfl, -, -, ⟨P0, c0, e4, -⟩, ⟨P1, c1, e5, -⟩, ⟨P2, c2, e6, -⟩⟩ := hR
    simp only [List.cons.injEq, and_true] at e4 e5 e6
    subst e4 e5 e6
    have HCL : Hid (∀ w1, Below w.heap.size w w1 → w1.cell? a = some (.slice P0 f.args.length c0) ∧ w1.cell? ⟨a.block, a.off + 1, none⟩ = some (.int .i64 f.ret.1)) := fun w1 hb => by
      have k0 := hcl 0 _ rfl
      have k1 := hcl 1 _ rfl
      simp only [Nat.zero_mul, Nat.zero_add] at k0 k1
      have e0 : a.add 0 = a := by simp [Addr.add]
      have e1 : a.add 1 = ⟨a.block, a.off + 1, none⟩ := by simp [Addr.add]
      rw [e0] at k0
      rw [e1] at k1
      exact ⟨(hb.cell (p := a) hab).trans k0, (hb.cell (p := ⟨a.block, a.off + 1, none⟩) hab).trans k1⟩
    have hn1 : 0 < n1 := by rw [← h1]; exact hf1
    have hn1' : (0 : Int) < (n1 : Int) := by omega
    clear hc hF hf1 hfs h1 s1 hcl l1 m1
    generalize mainB x = mb at *
    generalize f.args.length = ua at *
    generalize f.ret.1 = k1 at *
    rcases Nat.eq_zero_or_pos ua with hu | hu
    · subst hu
      go_enter Try.func12, Try.ntmps12
      go_wp2_with (first
        | (go_at_call 10
           refine (TE2.out _ (HB0.out _)).mono ?_
           rintro e w1 ⟨rfl, hb1⟩
           have HB1 := Lib.hid ((HB0.out _).trans (hb1.mono (by simp)))
           obtain ⟨x0, x1, x2, x3, x4⟩ := HC0.out.below hb1 (by simp)
           obtain ⟨y0, y1⟩ := HCL.out _ HB1.out
           clear hb1))
      go_ret
      exact ⟨by rw [HN.out]; simp; rfl, HB1.out⟩
    · have hd : ((ua : Int) == 0) = false := by simp; omega
      have hd2 : (ua == 0) = false := by simp; omega
      go_enter Try.func12, Try.ntmps12
      go_wp2_with (first
        | (go_at_call 10
           refine (TE2.out _ (HB0.out _)).mono ?_
           rintro e w1 ⟨rfl, hb1⟩
           have HB1 := Lib.hid ((HB0.out _).trans (hb1.mono (by simp)))
           obtain ⟨x0, x1, x2, x3, x4⟩ := HC0.out.below hb1 (by simp)
           obtain ⟨y0, y1⟩ := HCL.out _ HB1.out
           clear hb1))
      go_ret
      exact ⟨by rw [HN.out, decide_eq_false (show ¬ ua = 0 by omega)]; rfl, HB1.out⟩
end Go.Proofs.Ytpgfbnilnoopoaa
namespace Go.Proofs.Ytpgfbnilnoopoaa
open Go.RowKit
set_option linter.unusedSimpArgs false
set_option linter.unusedVariables false

theorem blk_keep {v : World} {o : Obj} {b t : Nat} {c : Array Value} (h : Blk v b t c) : Blk (v.alloc o) b t c := (Below.heap_alloc v o b h.lt).trans h
theorem blk_at {v : World} {b t : Nat} {c : Array Value} (h : v.heap.size = b) : Blk (v.alloc (.cells c t)) b t c := by rw [← h]; exact blk_new v t c
theorem blk_below {v w : World} {B b t : Nat} {c : Array Value} (h : Blk v b t c) (hb : Below B v w) (hB : b < B) : Blk w b t c := (hb.block b hB).trans h

def m7 : Mod := ⟨[], [⟨[], (1, 0), [], [(0, 0, 0)]⟩], [], [], []⟩
theorem m7_check : checkN m7 = 1 := by decide
theorem mE_check : checkN mE = 2 := by decide

set_option maxRecDepth 100000 in
set_option maxHeartbeats 4000000 in
theorem answers7 (w : World) : Calls Try.prog 8 #[] w fun e w' => e = .returned (.bool true) ∧ Below w.heap.size w w' := by
  go_enter Try.func8, Try.ntmps8
  go_wp2_with fail
  refine calls_world fun W hW => ?_
  have b0 : Blk W w.heap.size 44 #[.int .i64 0, .int .i64 0, .int .i64 0] := by rw [hW]; repeat (first | exact blk_at (by simp) | refine blk_keep ?_)
  have b1 : Blk W (w.heap.size + 1) 38 #[.slice none 0 0, .int .i64 1, .int .i64 0, .slice none 0 0, .slice (some ⟨w.heap.size, 0, none⟩) 1 1] := by rw [hW]; repeat (first | exact blk_at (by simp) | refine blk_keep ?_)
  have HL : Hid (modL.R (· < W.heap.size) W [.slice none 0 0, .slice (some ⟨w.heap.size + 1, 0, none⟩) 1 1, .slice none 0 0, .slice none 0 0, .slice none 0 0] m7) :=
    ⟨_, _, _, _, _, rfl, nil_sl _ _ _, one_sl b1 b1.lt ⟨_, _, _, rfl, by unfold I64; simp, by unfold I64; simp, nil_sl _ _ _, nil_sl _ _ _, one_sl (x := (0, 0, 0)) b0 b0.lt ⟨rfl, by unfold I64; simp, by unfold I64; simp, by unfold I64; simp⟩⟩, nil_sl _ _ _, nil_sl _ _ _, nil_sl _ _ _⟩
  have HB0 : Hid (Below w.heap.size w W) := by show Below _ _ _; rw [hW]; exact (((Below.refl _ _).alloc (Nat.le_refl _) _).alloc (by simp) _).alloc (by simp; omega) _
  clear hW b0 b1
  refine (check_any _ m7 W HL.out).mono ?_
  rintro e w1 ⟨he, hb1⟩
  rw [m7_check] at he
  subst he
  have HB1 := Lib.hid (HB0.out.trans (hb1.mono HB0.out.size))
  clear hb1
  go_wp2_with fail
  refine (check_any _ mE w1 (mE_laid _ _)).mono ?_
  rintro e w2 ⟨he, hb2⟩
  rw [mE_check] at he
  subst he
  have HB2 := Lib.hid (HB1.out.trans (hb2.mono HB1.out.size))
  clear hb2
  go_wp2_with fail
  go_ret
  exact ⟨rfl, HB2.out⟩
end Go.Proofs.Ytpgfbnilnoopoaa
