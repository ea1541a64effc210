/-
  The law FlowOwn holds: what flow's Flow answers is memory of its own; the law's function returns true and turns nothing that was there.
  Conditions: none.
-/
import Derived.Test.YtlfcglolehmmiaaQ01
import Derived.Test.YtlfcglolehmmiaaQ04
import Derived.Test.YtlfcglolehmmiaaQ25
import Derived.Test.YtlfcglolehmmiaaQ28
import Derived.BigQuiet
namespace Go.Proofs.Ytlfcglolehmmiaa.flowOwn
open Go.ChangeShapes Go.WideShapes Go.ChangeAt Go.RowKit
set_option linter.unusedVariables false
set_option linter.unusedSimpArgs false

theorem sq_of {w : World} {A : Option Addr} {n c : Nat} {ts : List Typ} (h : tysL.R (· < w.heap.size) w [.slice A n c] ts) : n ≤ c ∧ c ≤ 9223372036854775807 ∧ Sq typL (· < w.heap.size) w A ts := by
  obtain ⟨A2, c2, e, h1, h2, h3⟩ := h
  simp only [List.cons.injEq, Value.slice.injEq, and_true] at e
  obtain ⟨rfl, rfl, rfl⟩ := e
  exact ⟨h1, by unfold maxLen at h2; omega, h3⟩
set_option maxRecDepth 100000 in
set_option maxHeartbeats 2000000 in
theorem walk (cs : List Value) (m : Mod) (fi pc : Int) (A : Option Addr) (na ca : Nat) (ts : List Typ) (w : World) (h : modL.R (· < w.heap.size) w cs m) (hz : Zm m) (hfi : -9223372036854775808 ≤ fi ∧ fi ≤ 9223372036854775807) (hpc : -9223372036854775808 ≤ pc ∧ pc ≤ 9223372036854775807)
    (hla : ts.length = na) (ha : tysL.R (· < w.heap.size) w [.slice A na ca] ts) (hna : A = none → ca = 0) :
    Calls Try.prog 7 #[vAgg cs, .int .i64 fi, .int .i64 pc, .slice A na ca] w fun e w' => e = .returned (.bool true) ∧ Below w.heap.size w w' := by
  have AN := Lib.hid (fun w => answers8 w)
  obtain ⟨a1, a2, sa⟩ := sq_of ha
  have HA64 := Lib.hid sa.a64
  have SA : Hid (∀ v, Below w.heap.size w v → Sq typL (· < v.heap.size) v A ts) := fun v hb => (sa.below hb (Nat.le_refl _)).wide fun i hi => Nat.lt_of_lt_of_le hi hb.size
  have L0 : Hid (∀ w1, Below w.heap.size w w1 → Calls Try.prog 8 #[vAgg cs] w1 fun e w' => ∃ b : Bool, e = .returned (.bool b) ∧ Below w1.heap.size w1 w' ∧ (b = true → Small m)) := fun w1 hb => light_any cs m w1 (mod_at h hb) hz
  have FA : Hid (na ≤ 1000 → ∀ v, Below w.heap.size w v → Calls Try.prog 10 #[vAgg cs, .int .i64 fi, .int .i64 pc, .slice A na ca] v (Flows (flowB m fi pc ts) v)) := fun hk v hb => flow_any cs m fi pc A na ca ts v (mod_at h hb) hfi hpc hla (SA.out v hb) hk a1 a2 hna
  have HLA := Lib.hid hla
  have HL64 := Lib.hid (flow_i64 m fi pc ts)
  obtain ⟨A0, A1, A2, A3, A4, n0, n1, n2, n3, n4, c0, c1, c2, c3, c4, rfl⟩ := mod_shape h
  clear h hz ha sa hfi hpc hla
  simp only [vAgg] at L0 FA ⊢
  generalize flowB m fi pc ts = ra at *
  go_enter Try.func7, Try.ntmps7
  go_wp2_with fail
  refine calls_world fun W hW => ?_
  have HB0 : Hid (Below w.heap.size w W) := by show Below _ _ _; rw [hW]; exact (Below.refl _ _).alloc (Nat.le_refl _) _
  have HC0 : Hid (C5 w.heap.size (.slice A0 n0 c0) (.slice A1 n1 c1) (.slice A2 n2 c2) (.slice A3 n3 c3) (.slice A4 n4 c4) W) := by show C5 _ _ _ _ _ _ _; rw [hW]; simp [C5, go_sem]
  have hzW : w.heap.size < W.heap.size := by rw [hW]; simp
  clear hW
  refine (L0.out W HB0.out).mono ?_
  rintro e V ⟨b, rfl, hb1, -⟩
  have HB1 := Lib.hid (HB0.out.trans (hb1.mono HB0.out.size))
  have HC1 := Lib.hid (HC0.out.below hb1 hzW)
  have hzV : w.heap.size < V.heap.size := Nat.lt_of_lt_of_le hzW hb1.size
  clear hb1
  cases b
  · go_wp2_with (first | (go_at_call 9; refine (AN.out _).mono ?_; rintro e w2 ⟨rfl, hb2⟩; have HA2 := Lib.hid (HB1.out.trans (hb2.mono HB1.out.size)); clear hb2))
    go_ret
    exact ⟨rfl, HA2.out⟩
  by_cases h20 : 20 < na
  · have h20i : (20 : Int) < (na : Int) := by omega
    go_wp2_with (first | (go_at_call 9; refine (AN.out _).mono ?_; rintro e w2 ⟨rfl, hb2⟩; have HA2 := Lib.hid (HB1.out.trans (hb2.mono HB1.out.size)); clear hb2))
    go_ret
    exact ⟨rfl, HA2.out⟩
  have h20i : ¬ (20 : Int) < (na : Int) := by omega
  have FA2 := Lib.hid (FA.out (by omega))
  clear FA
  obtain ⟨er, t, l⟩ := ra
  have HOE := Lib.hid (own_tys_empty V)
  go_upto_region 5 with (first
    | (at_builtin
       refine walk_append_tys _ rfl (.tmp 29) (.tmp 30) rfl V.heap.size (.slice (some ⟨V.heap.size, 0, none⟩) 0 0) 0 [] rfl HOE.out A na ca ts rfl HLA.out _ (SA.out _ (HB1.out.alloc HB1.out.size _)) (by omega) (by simp) ?_
       intro v3 w3 hown3 hg3 _
       have HB3 := Lib.hid ((below_new V _).grown hg3 (by simp) (fun i hi => (HOE.out.lt i hi).1))
       have HO3 : Hid (w3.ownsRow V.heap.size 39 2 v3 ts.length (T2 ts)) := (by show World.ownsRow _ _ _ _ _ _ _; rw [HLA.out]; simpa using hown3)
       have HW3 := Lib.hid (HB1.out.trans (HB3.out.mono HB1.out.size))
       obtain ⟨x0, x1, x2, x3, x4⟩ := HC1.out.below HB3.out hzV
       have hz3 : w.heap.size < w3.heap.size := Nat.lt_of_lt_of_le hzV HB3.out.size
       clear hown3 hg3)
    | (go_at_call 10
       refine (FA2.out _ HW3.out).mono ?_
       intro e w4 hq4
       obtain ⟨hb4, v4, u4, rfl, ho4, hu4, hap, h64⟩ := flows_at hq4
       clear hq4
       have HO4 : Hid (Own2 w3.heap.size w3 w4 v4 u4 t l 0 0) := ⟨hb4, ho4, hu4⟩
       have HAP : Hid (Ap v4 u4) := hap
       have H64 := Lib.hid h64
       obtain ⟨V4, e4, rfl, -, -, -, -⟩ := own_sq ho4 h64
       obtain ⟨U4, d4, rfl, -, -, -⟩ := own_ints hu4
       clear hb4 ho4 hu4 hap h64))
  have hnt : t.length ≤ 9223372036854775807 := row_len HO4.out.ov
  have hnl : l.length ≤ 9223372036854775807 := row_len HO4.out.ou
  have HC3 : Hid (C5 w.heap.size (.slice A0 n0 c0) (.slice A1 n1 c1) (.slice A2 n2 c2) (.slice A3 n3 c3) (.slice A4 n4 c4) w3) := ⟨x0, x1, x2, x3, x4⟩
  clear x0 x1 x2 x3 x4
  go_wp2_with fail
  go_loopw [13] (fun i wr => ∃ k : Nat, k ≤ t.length ∧ i = .int .i64 (k : Nat) ∧ Own2 w3.heap.size w3 wr (.slice V4 t.length e4) (.slice U4 l.length d4) t l k 0) (fun i _ => t.length - (intOf i).toNat)
  case atStart => exact ⟨0, Nat.zero_le _, rfl, HO4.out⟩
  case round =>
    obtain ⟨k, hk, rfl, hown⟩ := hrel
    clear HO4
    have HO := Lib.hid hown
    clear hown
    by_cases hlt : k < t.length
    · obtain ⟨x, hx⟩ : ∃ x, t[k]? = some x := ⟨t[k], List.getElem?_eq_getElem hlt⟩
      obtain ⟨g, rfl, hg, hgc⟩ := row_some HO.out.ov (by omega)
      have hkk := bT_get hx k
      rw [if_neg (by omega)] at hkk
      have hc := HO.out.ov.cellAt (k * 2) (by omega)
      rw [T2_get0 hkk] at hc
      have hf := HO.out.ov.frozenAt (k * 2)
      have i1 : (k : Int) < (t.length : Int) := by omega
      have HX := Lib.hid hx
      clear hkk hx
      go_wp2_with fail
      exact ⟨⟨k + 1, by omega, by simp, HO.out.turnT HX.out hg HAP.out⟩, by simp [intOf]; omega⟩
    · obtain rfl : k = t.length := by omega
      clear hlt
      go_wp2_with fail
      go_loopw [14] (fun i wr => ∃ k : Nat, k ≤ l.length ∧ i = .int .i64 (k : Nat) ∧ Own2 w3.heap.size w3 wr (.slice V4 t.length e4) (.slice U4 l.length d4) t l t.length k) (fun i _ => l.length - (intOf i).toNat)
      case atStart => exact ⟨0, Nat.zero_le _, rfl, HO.out⟩
      case round =>
        obtain ⟨k, hk2, rfl, hown⟩ := hrel
        clear HO
        have HO := Lib.hid hown
        clear hown
        by_cases hlt : k < l.length
        · obtain ⟨x, hx⟩ : ∃ x, l[k]? = some x := ⟨l[k], List.getElem?_eq_getElem hlt⟩
          obtain ⟨g, rfl, hg, hgc⟩ := row_some HO.out.ou (by omega)
          have hkk := bI_get hx k
          rw [if_neg (by omega)] at hkk
          have hc := HO.out.ou.cellAt k (by omega)
          rw [Is_get hkk] at hc
          have hf := HO.out.ou.frozenAt k
          have i1 : (k : Int) < (l.length : Int) := by omega
          have HX := Lib.hid hx
          clear hkk hx
          go_wp2_with fail
          exact ⟨⟨k + 1, by omega, by simp, HO.out.turnI HX.out hg HAP.out⟩, by simp [intOf]; omega⟩
        · obtain rfl : k = l.length := by omega
          clear hlt
          obtain ⟨y0, y1, y2, y3, y4⟩ := HC3.out.below HO.out.bel hz3
          have HWr := Lib.hid (HW3.out.trans (HO.out.bel.mono HW3.out.size))
          have hs3r := HO.out.bel.size
          go_upto_region 14 with (first
            | (go_at_call 10
               refine (FA2.out _ HWr.out).mono ?_
               intro e w6 hq6
               obtain ⟨hb6, v6, u6, rfl, ho6, hu6, -, -⟩ := flows_at hq6
               clear hq6
               have HO6 := Lib.hid (HO.out.below hb6 hs3r)
               have HV6 := Lib.hid ho6
               have HU6 := Lib.hid hu6
               have HW6 := Lib.hid (HWr.out.trans (hb6.mono HWr.out.size))
               have HI6 := Lib.hid (raw_below (raw_below HO3.out HO.out.bel (Nat.le_refl _)) hb6 (Nat.le_refl _))
               obtain ⟨V6, e6, rfl, -, -, -, -⟩ := own_sq ho6 H64.out
               obtain ⟨U6, d6, rfl, -, -, -⟩ := own_ints hu6
               clear hb6 ho6 hu6))
          clear y0 y1 y2 y3 y4 HO
          go_wp2_with fail
          go_loopw [18] (fun i wq => ∃ k q : Nat, k ≤ t.length ∧ i = .int .i64 (k : Nat) ∧ wq = w6.drewN q) (fun i _ => t.length - (intOf i).toNat)
          case atStart => exact ⟨0, 0, Nat.zero_le _, rfl, rfl⟩
          case round =>
            obtain ⟨k, q, hk3, rfl, rfl⟩ := hrel
            by_cases hlt : k < t.length
            · obtain ⟨x, hx⟩ : ∃ x, t[k]? = some x := ⟨t[k], List.getElem?_eq_getElem hlt⟩
              obtain ⟨g, rfl, hg, hgc⟩ := row_some HO6.out.ov (by omega)
              obtain ⟨g6, rfl, hg6, hgc6⟩ := row_some HV6.out (by omega)
              have hkk := bT_get hx t.length
              rw [if_pos hlt] at hkk
              have hc : w6.cell? ⟨g, k * 2, none⟩ = some (.int .i64 (wrap64 (x.1 + 1))) := by rw [HO6.out.ov.cellAt (k * 2) (by omega), T2_get0 hkk]; rfl
              have hc6 := HV6.out.cellAt (k * 2) (by omega)
              rw [T2_get0 hx] at hc6
              have hub := up_back (H64.out x (List.mem_of_getElem? hx)).1
              have i1 : (k : Int) < (t.length : Int) := by omega
              clear hkk hx
              go_wp2_with fail
              go_quiet (fail)
              go_wp2_with fail
              exact ⟨⟨k + 1, _, by omega, by simp, rfl⟩, by simp [intOf]; omega⟩
            · obtain rfl : k = t.length := by omega
              clear hlt
              go_wp2_with fail
              go_loopw [19] (fun i wq => ∃ k q : Nat, k ≤ l.length ∧ i = .int .i64 (k : Nat) ∧ wq = w6.drewN q) (fun i _ => l.length - (intOf i).toNat)
              case atStart => exact ⟨0, q, Nat.zero_le _, rfl, rfl⟩
              case round =>
                obtain ⟨k, q, hk4, rfl, rfl⟩ := hrel
                by_cases hlt : k < l.length
                · obtain ⟨x, hx⟩ : ∃ x, l[k]? = some x := ⟨l[k], List.getElem?_eq_getElem hlt⟩
                  obtain ⟨g, rfl, hg, hgc⟩ := row_some HO6.out.ou (by omega)
                  obtain ⟨g6, rfl, hg6, hgc6⟩ := row_some HU6.out (by omega)
                  have hkk := bI_get hx l.length
                  rw [if_pos hlt] at hkk
                  have hc : w6.cell? ⟨g, k, none⟩ = some (.int .i64 (wrap64 (x + 1))) := by rw [HO6.out.ou.cellAt k (by omega), Is_get hkk]; rfl
                  have hc6 := HU6.out.cellAt k (by omega)
                  rw [Is_get hx] at hc6
                  have hub := up_back (HL64.out x (List.mem_of_getElem? hx))
                  have i1 : (k : Int) < (l.length : Int) := by omega
                  clear hkk hx
                  go_wp2_with fail
                  go_quiet (fail)
                  go_wp2_with fail
                  exact ⟨⟨k + 1, _, by omega, by simp, rfl⟩, by simp [intOf]; omega⟩
                · obtain rfl : k = l.length := by omega
                  clear hlt
                  go_wp2_with (first
                    | (go_at_call 9
                       refine (AN.out _).mono ?_
                       rintro e w7 ⟨rfl, hb7⟩
                       have HA7 := Lib.hid ((below_drews' HW6.out q HW6.out.size).trans (hb7.mono HW6.out.size))
                       have HI7 := Lib.hid (raw_below (raw_below HI6.out (below_drewN w6 q) (Nat.le_refl _)) hb7 (Nat.le_refl _))
                       obtain ⟨I7, c7, e7, -, g7, g8, s7⟩ := own_sq HI7.out HA64.out
                       subst e7
                       have S7 := Lib.hid s7
                       clear hb7 s7 g7 g8)
                    | (go_at_call 11
                       refine (refTypes_any I7 A ts.length na c7 ca ts ts w7 _ _ rfl HLA.out S7.out (SA.out _ HA7.out) (by have := HLA.out; omega) (by omega)).mono ?_
                       rw [eqB_self]
                       rintro e w8 ⟨rfl, q8, rfl⟩))
                  go_ret
                  exact ⟨by simp, below_drews' HA7.out q8 HA7.out.size⟩

set_option maxRecDepth 100000 in
theorem lifted (os : Os) (started : os.Started) (H : Type) (enc : TypeId × Value → H) :
    ReturnsInHanded {} Try.checked os 7 .any (Rows.flowOwnSpec.pre6 enc Try.prog Try.f7 Rows.flowOwnRow.domain false) (Rows.flowOwnSpec.post enc Try.prog Try.f7 false true false false) := by
  refine returnsInHanded_of_change_sized (C := Try.checked) own started (by kernel_rfl) Try.func7
    (ChangeSpec.witness6 (enc := enc) (C := Try.checked) false ⟨#[], #[.agg #[.slice none 0 0, .slice none 0 0, .slice none 0 0, .slice none 0 0, .slice none 0 0], .int .i64 0, .int .i64 0, .slice none 0 0], []⟩ 8 (by kernel_rfl) (by kernel_rfl) (by kernel_rfl) (by kernel_rfl)) ?_
  intro W base args ds gs before hval0 hW hcnd hwz _
  have hval : ∀ (j : Nat) t v, Try.f7.params[j]? = some t → args[j]? = some v → Value.okWide Try.prog W .any base t v := hval0
  have hW' := hW
  obtain ⟨p, q, hA0, hV, rfl, hfz, hnd⟩ := hW
  have hA : DataW.TrodAll enc Try.prog W 0 (fun _ => true) true Try.f7.params.toList args.toList ds p := hA0
  rw [Try.params7] at hA hval
  obtain ⟨v0, vs0, d0, ds0, p0, q0, hargs, rfl, rfl, h0, r0⟩ := trodAll_cons hA
  obtain ⟨v1, vs1, d1, ds1, p1, q1, rfl, rfl, rfl, h1, r1⟩ := trodAll_cons r0
  obtain ⟨v2, vs2, d2, ds2, p2, q2, rfl, rfl, rfl, h2, r2⟩ := trodAll_cons r1
  obtain ⟨v3, vs3, d3, ds3, p3, q3, rfl, rfl, rfl, h3, r3⟩ := trodAll_cons r2
  obtain ⟨rfl, rfl, rfl⟩ := trodAll_nil r3
  obtain rfl : args = #[v0, v1, v2, v3] := by cases args; simp_all
  obtain ⟨rfl, rfl⟩ := trodVars_none hV
  have lt0 : ∀ x ∈ p0, x.block < W.heap.size := by obtain ⟨m, hm⟩ := h0; exact DataW.trod_lt m _ _ _ hm
  have hwz0 : ∀ n ∈ d0.weights Try.prog 28, n ≤ reachBytes := fun n hn => by simpa using List.all_eq_true.1 hwz n (DataW.weights_mem_each (j := 0) (t := 28) (d := d0) (by first | rfl | kernel_rfl) rfl n hn)
  obtain ⟨cs0, m0, rfl, hm0, hz0⟩ := open_modZ h0 hwz0
  obtain ⟨a1, rfl, rfl, rfl, w1⟩ := open_int Try.underlying3 (hval 1 3 v1 rfl rfl) h1
  obtain ⟨a2, rfl, rfl, rfl, w2⟩ := open_int Try.underlying3 (hval 2 3 v2 rfl rfl) h2
  obtain ⟨a3, len3, cap3, rfl⟩ := okWide_slice Try.underlying29 (hval 3 29 v3 rfl rfl)
  have lt3 : ∀ x ∈ p3, x.block < W.heap.size := by obtain ⟨m, hm⟩ := h3; exact DataW.trod_lt m _ _ _ hm
  have hn3 := tys_nil h3
  obtain ⟨ts3, hx3, hT3⟩ := open_tys h3
  clear hA0 hval0
  refine (walk cs0 m0 a1 a2 a3 len3 cap3 ts3 W hm0 hz0 (bounds_i64 w1) (bounds_i64 w2) hx3 hT3 hn3).mono fun e W' ⟨he, bel⟩ => ?_
  subst he
  exact ⟨_, rfl, _, _, _, [], _, [], hW', trodAll_mk1 (shut_bool Try.underlying4 _), (trodAll_cons_mk (Below.trod laidOut (by kernel_rfl) (of_decide_eq_true (by kernel_rfl)) h0 bel lt0) (trodAll_cons_mk (shut_int Try.underlying3 w1) (trodAll_cons_mk (shut_int Try.underlying3 w2) (trodAll_cons_mk (Below.trod laidOut (by kernel_rfl) (of_decide_eq_true (by kernel_rfl)) h3 bel lt3) trodAll_mk0)))), rfl, bel.frame _, fun h => by cases h⟩

theorem over : Rows.flowOwnRow.holds Try.pinned (OpenSpec.ofChange Rows.flowOwnSpec) :=
  OpenClaim.holds_of_wide 7 Try.f7 rfl rfl rfl rfl rfl rfl rfl ⟨rfl, rfl, rfl, rfl, rfl⟩ rfl rfl rfl rfl rfl (by kernel_rfl) Try.func7 (by kernel_rfl)
    (of_decide_eq_true (by kernel_rfl)) (by unfold Func.isWrapper; first | (rw [if_pos (by decide +kernel)]; kernel_rfl) | (rw [if_neg (by decide +kernel)]; exact ⟨rfl, rfl⟩))
    (fun os started H enc _ => lifted os started H enc)

/-- The statement. -/
theorem proved : Rows.FlowOwnSaid := over
end Go.Proofs.Ytlfcglolehmmiaa.flowOwn
