/-
  What the document's own Light answers: where it says yes, all lists within lists, and texts, are small. Conditions: there is a module, and each of its lists is within what a machine reaches.
  What the document's own Sum does. Conditions: as each theorem says.
-/
import Derived.Test.YtngjnkkdhjholaaGreatQ08
import Derived.Test.YtngjnkkdhjholaaGreatQ22
import Derived.Test.YtngjnkkdhjholaaGreatQ25
namespace Go.Proofs.YtngjnkkdhjholaaGreat
open Go.RowKit
set_option linter.unusedSimpArgs false
set_option linter.unusedVariables false

/-- The first k things measure at most z. -/
def Ub {α : Type} (g : α → Nat) (xs : List α) (k : Nat) (z : Int) : Prop := ∀ j p, j < k → xs[j]? = some p → (g p : Int) ≤ z
theorem Ub.zero {α : Type} (g : α → Nat) (xs : List α) (z : Int) : Ub g xs 0 z := fun j p h => absurd h (by omega)
theorem Ub.mono {α : Type} {g : α → Nat} {xs : List α} {k : Nat} {z z' : Int} (h : Ub g xs k z) (hz : z ≤ z') : Ub g xs k z' := fun j p h1 h2 => Int.le_trans (h j p h1 h2) hz
theorem Ub.step {α : Type} {g : α → Nat} {xs : List α} {k : Nat} {z z' : Int} {p : α} (h : Ub g xs k z) (hp : xs[k]? = some p) (hz : z ≤ z') (hg : (g p : Int) ≤ z') : Ub g xs (k + 1) z' := fun j q h1 h2 => by
  by_cases e : j = k
  · subst e
    rw [hp] at h2
    injection h2 with h2
    subst h2
    exact hg
  · exact Int.le_trans (h j q (by omega) h2) hz
theorem Ub.all {α : Type} {g : α → Nat} {xs : List α} {n : Nat} {z : Int} (h : Ub g xs n z) (hn : xs.length = n) : ∀ p ∈ xs, (g p : Int) ≤ z := fun p hp => by
  obtain ⟨j, hj⟩ := List.mem_iff_getElem?.1 hp
  exact h j p (by rw [← hn]; exact (List.getElem?_eq_some_iff.1 hj).1) hj

set_option maxRecDepth 100000 in
set_option maxHeartbeats 8000000 in
theorem light_any (cs : List Value) (x : Mod) (w : World) (h : modL.R (· < w.heap.size) w cs x) (hz : Zm x) : Calls Tryz.prog 6 #[vAgg cs] w fun e w' => ∃ b : Bool, e = .returned (.bool b) ∧ Below w.heap.size w w' ∧ (b = true → Small x) := by
  have hR : reachBytes < 140737488355328 := reachBytes_lt
  obtain ⟨⟨r0, y0⟩, ⟨r1, y1⟩, ⟨r2, y2⟩, ⟨r3, -⟩, r4, y4⟩ := hz
  have Z0 : Hid (∀ t ∈ x.recs, t.length < 140737488355328) := fun t ht => Nat.lt_of_le_of_lt (y0 t ht).1 hR
  have Z1 : Hid (∀ f ∈ x.funcs, f.args.length < 140737488355328 ∧ f.locs.length < 140737488355328 ∧ f.code.length < 140737488355328) := fun f hf => ⟨Nat.lt_of_le_of_lt (y1 f hf).1.1 hR, Nat.lt_of_le_of_lt (y1 f hf).2.1.1 hR, Nat.lt_of_le_of_lt (y1 f hf).2.2.1 hR⟩
  have Z2 : Hid (∀ f ∈ x.imps, f.args.length < 140737488355328) := fun f hf => Nat.lt_of_le_of_lt (y2 f hf).1 hR
  have Z4 : Hid (∀ s ∈ x.texts, s.length < 140737488355328) := fun s hs => Nat.lt_of_le_of_lt (y4 s hs) hR
  replace r0 : x.recs.length < 140737488355328 := Nat.lt_of_le_of_lt r0 hR
  replace r1 : x.funcs.length < 140737488355328 := Nat.lt_of_le_of_lt r1 hR
  replace r2 : x.imps.length < 140737488355328 := Nat.lt_of_le_of_lt r2 hR
  replace r3 : x.ints.length < 140737488355328 := Nat.lt_of_le_of_lt r3 hR
  replace r4 : x.texts.length < 140737488355328 := Nat.lt_of_le_of_lt r4 hR
  clear hR y0 y1 y2 y4
  obtain ⟨_, _, _, _, _, rfl, ⟨A0, d0, e0, l0, m0, s0⟩, ⟨A1, d1, e1, l1, m1, s1⟩, ⟨A2, d2, e2, l2, m2, s2⟩, ⟨A3, d3, e3, l3, m3, s3⟩, ⟨A4, d4, e4, l4, m4, s4⟩⟩ := h
  simp only [List.cons.injEq, and_true] at e0 e1 e2 e3 e4
  subst e0 e1 e2 e3 e4
  unfold maxLen at m0 m1 m2 m3 m4
  show Calls Tryz.prog 6 #[.agg #[.slice A0 x.recs.length d0, .slice A1 x.funcs.length d1, .slice A2 x.imps.length d2, .slice A3 x.ints.length d3, .slice A4 x.texts.length d4]] w _
  obtain ⟨n0, hn0⟩ : ∃ n, x.recs.length = n := ⟨_, rfl⟩
  have HL0 := Lib.hid hn0
  have HS0 := Lib.hid s0
  obtain ⟨n1, hn1⟩ : ∃ n, x.funcs.length = n := ⟨_, rfl⟩
  have HL1 := Lib.hid hn1
  have HS1 := Lib.hid s1
  obtain ⟨n2, hn2⟩ : ∃ n, x.imps.length = n := ⟨_, rfl⟩
  have HL2 := Lib.hid hn2
  have HS2 := Lib.hid s2
  obtain ⟨n3, hn3⟩ : ∃ n, x.ints.length = n := ⟨_, rfl⟩
  have HL3 := Lib.hid hn3
  have HS3 := Lib.hid s3
  obtain ⟨n4, hn4⟩ : ∃ n, x.texts.length = n := ⟨_, rfl⟩
  have HL4 := Lib.hid hn4
  have HS4 := Lib.hid s4
  rw [hn0, hn1, hn2, hn3, hn4]
  rw [hn0] at l0 r0
  rw [hn1] at l1 r1
  rw [hn2] at l2 r2
  rw [hn3] at l3 r3
  rw [hn4] at l4 r4
  clear hn0 s0 hn1 s1 hn2 s2 hn3 s3 hn4 s4
  have hw0 : (n0 : Int) ≤ 9223372036854775807 := by omega
  have hw1 : (n1 : Int) ≤ 9223372036854775807 := by omega
  have hw2 : (n2 : Int) ≤ 9223372036854775807 := by omega
  have hw4 : (n4 : Int) ≤ 9223372036854775807 := by omega
  have HB0 : Hid (Below w.heap.size w (w.alloc (.cells #[.slice A0 n0 d0, .slice A1 n1 d1, .slice A2 n2 d2, .slice A3 n3 d3, .slice A4 n4 d4] 28))) := (Below.refl _ _).alloc (Nat.le_refl _) _
  go_enter Tryz.func6, Tryz.ntmps6
  go_wp2_with fail
  · go_ret
    exact ⟨_, rfl, HB0.out, fun h => by simp at h⟩
  have hsum : n0 + n1 + n2 + n3 + n4 ≤ 200 := by omega
  refine wp_world fun W hW => ?_
  have HBW : Hid (Below w.heap.size w W) := by show Below _ _ _; rw [hW]; exact HB0.out
  have HCW : Hid (C5 w.heap.size (.slice A0 n0 d0) (.slice A1 n1 d1) (.slice A2 n2 d2) (.slice A3 n3 d3) (.slice A4 n4 d4) W) := by rw [hW]; show C5 _ _ _ _ _ _ _; simp [C5, go_sem]
  have hWz : w.heap.size < W.heap.size := by rw [hW]; simp
  have HZ : Hid (∀ wr, Below W.heap.size W wr → C5 w.heap.size (.slice A0 n0 d0) (.slice A1 n1 d1) (.slice A2 n2 d2) (.slice A3 n3 d3) (.slice A4 n4 d4) wr) := fun wr hb => HCW.out.below hb hWz
  have HFin : Hid (∀ wr, Below W.heap.size W wr → Below w.heap.size w wr) := fun wr hb => HBW.out.trans (hb.mono HBW.out.size)
  clear hW HB0 HCW
  have HA0 := Lib.hid ((HS0.out.below HBW.out (Nat.le_refl _)).wide (T := (· < W.heap.size)) fun b hb => Nat.lt_of_lt_of_le hb HBW.out.size)
  clear HS0
  have HA1 := Lib.hid ((HS1.out.below HBW.out (Nat.le_refl _)).wide (T := (· < W.heap.size)) fun b hb => Nat.lt_of_lt_of_le hb HBW.out.size)
  clear HS1
  have HA2 := Lib.hid ((HS2.out.below HBW.out (Nat.le_refl _)).wide (T := (· < W.heap.size)) fun b hb => Nat.lt_of_lt_of_le hb HBW.out.size)
  clear HS2
  have HA3 := Lib.hid ((HS3.out.below HBW.out (Nat.le_refl _)).wide (T := (· < W.heap.size)) fun b hb => Nat.lt_of_lt_of_le hb HBW.out.size)
  clear HS3
  have HA4 := Lib.hid ((HS4.out.below HBW.out (Nat.le_refl _)).wide (T := (· < W.heap.size)) fun b hb => Nat.lt_of_lt_of_le hb HBW.out.size)
  clear HS4
  go_loopw [3, 4] (fun s i wr => ∃ (z : Int) (k : Nat), s = .int .i64 z ∧ k ≤ n0 ∧ i = .int .i64 (k : Nat) ∧ 0 ≤ z ∧ z ≤ 200 + (k : Int) * 140737488355328 ∧ Ub List.length x.recs k z ∧ Below W.heap.size W wr) (fun _ i _ => n0 - (intOf i).toNat)
  case atStart => exact ⟨_, 0, rfl, Nat.zero_le _, rfl, by omega, by omega, Ub.zero _ _ _, Below.refl _ _⟩
  case round =>
    obtain ⟨z, k, rfl, hk, rfl, hz0, hz1, g0, hbel⟩ := hrel
    have HU0 := Lib.hid g0
    clear g0
    have HB := Lib.hid hbel
    have hs := hbel.size
    clear hbel
    by_cases hlt : k < n0
    · obtain ⟨p, hp⟩ : ∃ p, x.recs[k]? = some p := ⟨x.recs[k]'(by rw [HL0.out]; exact hlt), List.getElem?_eq_getElem _⟩
      have HP := Lib.hid hp
      have hm := List.mem_of_getElem? hp
      obtain ⟨a, cs, ea, hab, hc, hR⟩ := HA0.out.at hp
      clear hp
      subst ea
      have hb9 := Z0.out p hm
      obtain ⟨P0, c3, rfl, -, -, -⟩ := hR
      have ca0 := (HB.out.cell (p := a.add k) (by rw [addBlock]; exact hab)).trans (one_cell (K := tysL.k) rfl (hc 0 _ rfl))
      obtain ⟨v1, hv1⟩ : ∃ v, p.length = v := ⟨_, rfl⟩
      rw [hv1] at ca0 hb9
      have HV1 := Lib.hid hv1
      clear hc hm hv1
      obtain ⟨z0, z1, z2, z3, z4⟩ := HZ.out wr HB.out
      have k0' : 0 ≤ (k : Int) := by omega
      have k1' : (k : Int) < (n0 : Int) := by omega
      go_wp2_with fail
      exact ⟨⟨z + (v1 : Int), k + 1, rfl, by omega, by simp, by omega, by omega, HU0.out.step HP.out (by omega) (by simp only [HV1.out]; omega), HB.out⟩, by simp [intOf]; omega⟩
    · obtain rfl : k = n0 := by omega
      obtain ⟨n0, hnn⟩ : ∃ n, n = k := ⟨_, rfl⟩
      subst hnn
      obtain ⟨z0, z1, z2, z3, z4⟩ := HZ.out wr HB.out
      go_wp2_with fail
      go_loopw [3, 5] (fun s i wr => ∃ (z : Int) (k : Nat), s = .int .i64 z ∧ k ≤ n1 ∧ i = .int .i64 (k : Nat) ∧ 0 ≤ z ∧ z ≤ 28147497671065800 + (k : Int) * 422212465065984 ∧ Ub List.length x.recs n0 z ∧ Ub (fun f => List.length (Fn.args f)) x.funcs k z ∧ Ub (fun f => List.length (Fn.locs f)) x.funcs k z ∧ Ub (fun f => List.length (Fn.code f)) x.funcs k z ∧ Below W.heap.size W wr) (fun _ i _ => n1 - (intOf i).toNat)
      case atStart => exact ⟨_, 0, rfl, Nat.zero_le _, rfl, by omega, by omega, HU0.out, Ub.zero _ _ _, Ub.zero _ _ _, Ub.zero _ _ _, HB.out⟩
      case round =>
        obtain ⟨z, k, rfl, hk, rfl, hz0, hz1, o0, g0, g1, g2, hbel⟩ := hrel
        clear HB
        clear HU0
        have HU0 := Lib.hid o0
        have HU1 := Lib.hid g0
        have HU2 := Lib.hid g1
        have HU3 := Lib.hid g2
        clear o0 g0 g1 g2
        have HB := Lib.hid hbel
        have hs := hbel.size
        clear hbel
        by_cases hlt : k < n1
        · obtain ⟨p, hp⟩ : ∃ p, x.funcs[k]? = some p := ⟨x.funcs[k]'(by rw [HL1.out]; exact hlt), List.getElem?_eq_getElem _⟩
          have HP := Lib.hid hp
          have hm := List.mem_of_getElem? hp
          obtain ⟨a, cs, ea, hab, hc, hR⟩ := HA1.out.at hp
          clear hp
          subst ea
          obtain ⟨hb7, hb8, hb9⟩ := Z1.out p hm
          obtain ⟨_, _, _, rfl, -, -, ⟨P0, c3, e4, -⟩, ⟨P2, c5, e6, -⟩, ⟨P4, c7, e8, -⟩⟩ := hR
          simp only [List.cons.injEq, and_true] at e4 e6 e8
          subst e4 e6 e8
          have ca0 := (HB.out.cell (p := a.add (k * 5)) (by rw [addBlock]; exact hab)).trans (hc 0 _ rfl)
          have ca1 := (HB.out.cell (p := a.add (k * 5 + 1)) (by rw [addBlock]; exact hab)).trans (hc 1 _ rfl)
          rw [next_cell a (k * 5) 1 (by omega)] at ca1
          have ca2 := (HB.out.cell (p := a.add (k * 5 + 2)) (by rw [addBlock]; exact hab)).trans (hc 2 _ rfl)
          rw [next_cell a (k * 5) 2 (by omega)] at ca2
          have ca3 := (HB.out.cell (p := a.add (k * 5 + 3)) (by rw [addBlock]; exact hab)).trans (hc 3 _ rfl)
          rw [next_cell a (k * 5) 3 (by omega)] at ca3
          have ca4 := (HB.out.cell (p := a.add (k * 5 + 4)) (by rw [addBlock]; exact hab)).trans (hc 4 _ rfl)
          rw [next_cell a (k * 5) 4 (by omega)] at ca4
          obtain ⟨v1, hv1⟩ : ∃ v, p.args.length = v := ⟨_, rfl⟩
          obtain ⟨v2, hv2⟩ : ∃ v, p.locs.length = v := ⟨_, rfl⟩
          obtain ⟨v3, hv3⟩ : ∃ v, p.code.length = v := ⟨_, rfl⟩
          rw [hv1] at ca0 hb7
          rw [hv2] at ca3 hb8
          rw [hv3] at ca4 hb9
          have HV1 := Lib.hid hv1
          have HV2 := Lib.hid hv2
          have HV3 := Lib.hid hv3
          clear hc hm hv1 hv2 hv3
          obtain ⟨z0, z1, z2, z3, z4⟩ := HZ.out wr HB.out
          have k0' : 0 ≤ (k : Int) := by omega
          have k1' : (k : Int) < (n1 : Int) := by omega
          go_wp2_with fail
          go_quiet (fail)
          go_wp2_with fail
          exact ⟨⟨z + (v1 : Int) + (v2 : Int) + (v3 : Int), k + 1, rfl, by omega, by simp, by omega, by omega, HU0.out.mono (by omega), HU1.out.step HP.out (by omega) (by simp only [HV1.out]; omega), HU2.out.step HP.out (by omega) (by simp only [HV2.out]; omega), HU3.out.step HP.out (by omega) (by simp only [HV3.out]; omega), below_drews' HB.out _ hs⟩, by simp [intOf]; omega⟩
        · obtain rfl : k = n1 := by omega
          obtain ⟨n1, hnn⟩ : ∃ n, n = k := ⟨_, rfl⟩
          subst hnn
          obtain ⟨z0, z1, z2, z3, z4⟩ := HZ.out wr HB.out
          go_wp2_with fail
          go_loopw [3, 6] (fun s i wr => ∃ (z : Int) (k : Nat), s = .int .i64 z ∧ k ≤ n2 ∧ i = .int .i64 (k : Nat) ∧ 0 ≤ z ∧ z ≤ 112589990684262600 + (k : Int) * 140737488355328 ∧ Ub List.length x.recs n0 z ∧ Ub (fun f => List.length (Fn.args f)) x.funcs n1 z ∧ Ub (fun f => List.length (Fn.locs f)) x.funcs n1 z ∧ Ub (fun f => List.length (Fn.code f)) x.funcs n1 z ∧ Ub (fun f => List.length (Imp.args f)) x.imps k z ∧ Below W.heap.size W wr) (fun _ i _ => n2 - (intOf i).toNat)
          case atStart => exact ⟨_, 0, rfl, Nat.zero_le _, rfl, by omega, by omega, HU0.out, HU1.out, HU2.out, HU3.out, Ub.zero _ _ _, HB.out⟩
          case round =>
            obtain ⟨z, k, rfl, hk, rfl, hz0, hz1, o0, o1, o2, o3, g0, hbel⟩ := hrel
            clear HB
            clear HU0 HU1 HU2 HU3
            have HU0 := Lib.hid o0
            have HU1 := Lib.hid o1
            have HU2 := Lib.hid o2
            have HU3 := Lib.hid o3
            have HU4 := Lib.hid g0
            clear o0 o1 o2 o3 g0
            have HB := Lib.hid hbel
            have hs := hbel.size
            clear hbel
            by_cases hlt : k < n2
            · obtain ⟨p, hp⟩ : ∃ p, x.imps[k]? = some p := ⟨x.imps[k]'(by rw [HL2.out]; exact hlt), List.getElem?_eq_getElem _⟩
              have HP := Lib.hid hp
              have hm := List.mem_of_getElem? hp
              obtain ⟨a, cs, ea, hab, hc, hR⟩ := HA2.out.at hp
              clear hp
              subst ea
              have hb9 := Z2.out p hm
              obtain ⟨_, rfl, -, -, ⟨P0, c3, e4, -⟩⟩ := hR
              simp only [List.cons.injEq, and_true] at e4
              subst e4
              have ca0 := (HB.out.cell (p := a.add (k * 3)) (by rw [addBlock]; exact hab)).trans (hc 0 _ rfl)
              have ca1 := (HB.out.cell (p := a.add (k * 3 + 1)) (by rw [addBlock]; exact hab)).trans (hc 1 _ rfl)
              rw [next_cell a (k * 3) 1 (by omega)] at ca1
              have ca2 := (HB.out.cell (p := a.add (k * 3 + 2)) (by rw [addBlock]; exact hab)).trans (hc 2 _ rfl)
              rw [next_cell a (k * 3) 2 (by omega)] at ca2
              obtain ⟨v1, hv1⟩ : ∃ v, p.args.length = v := ⟨_, rfl⟩
              rw [hv1] at ca0 hb9
              have HV1 := Lib.hid hv1
              clear hc hm hv1
              obtain ⟨z0, z1, z2, z3, z4⟩ := HZ.out wr HB.out
              have k0' : 0 ≤ (k : Int) := by omega
              have k1' : (k : Int) < (n2 : Int) := by omega
              go_wp2_with fail
              exact ⟨⟨z + (v1 : Int), k + 1, rfl, by omega, by simp, by omega, by omega, HU0.out.mono (by omega), HU1.out.mono (by omega), HU2.out.mono (by omega), HU3.out.mono (by omega), HU4.out.step HP.out (by omega) (by simp only [HV1.out]; omega), HB.out⟩, by simp [intOf]; omega⟩
            · obtain rfl : k = n2 := by omega
              obtain ⟨n2, hnn⟩ : ∃ n, n = k := ⟨_, rfl⟩
              subst hnn
              obtain ⟨z0, z1, z2, z3, z4⟩ := HZ.out wr HB.out
              go_wp2_with fail
              go_loopw [3, 7] (fun s i wr => ∃ (z : Int) (k : Nat), s = .int .i64 z ∧ k ≤ n4 ∧ i = .int .i64 (k : Nat) ∧ 0 ≤ z ∧ z ≤ 140737488355328200 + (k : Int) * 140737488355328 ∧ Ub List.length x.recs n0 z ∧ Ub (fun f => List.length (Fn.args f)) x.funcs n1 z ∧ Ub (fun f => List.length (Fn.locs f)) x.funcs n1 z ∧ Ub (fun f => List.length (Fn.code f)) x.funcs n1 z ∧ Ub (fun f => List.length (Imp.args f)) x.imps n2 z ∧ Ub List.length x.texts k z ∧ Below W.heap.size W wr) (fun _ i _ => n4 - (intOf i).toNat)
              case atStart => exact ⟨_, 0, rfl, Nat.zero_le _, rfl, by omega, by omega, HU0.out, HU1.out, HU2.out, HU3.out, HU4.out, Ub.zero _ _ _, HB.out⟩
              case round =>
                obtain ⟨z, k, rfl, hk, rfl, hz0, hz1, o0, o1, o2, o3, o4, g0, hbel⟩ := hrel
                clear HB
                clear HU0 HU1 HU2 HU3 HU4
                have HU0 := Lib.hid o0
                have HU1 := Lib.hid o1
                have HU2 := Lib.hid o2
                have HU3 := Lib.hid o3
                have HU4 := Lib.hid o4
                have HU5 := Lib.hid g0
                clear o0 o1 o2 o3 o4 g0
                have HB := Lib.hid hbel
                have hs := hbel.size
                clear hbel
                by_cases hlt : k < n4
                · obtain ⟨p, hp⟩ : ∃ p, x.texts[k]? = some p := ⟨x.texts[k]'(by rw [HL4.out]; exact hlt), List.getElem?_eq_getElem _⟩
                  have HP := Lib.hid hp
                  have hm := List.mem_of_getElem? hp
                  obtain ⟨a, cs, ea, hab, hc, hR⟩ := HA4.out.at hp
                  clear hp
                  subst ea
                  have hb9 := Z4.out p hm
                  obtain ⟨st, rfl, hst⟩ := hR
                  have ca0 := (HB.out.cell (p := a.add k) (by rw [addBlock]; exact hab)).trans (one_cell (K := strL.k) rfl (hc 0 _ rfl))
                  obtain ⟨v1, hv1⟩ : ∃ v, p.length = v := ⟨_, rfl⟩
                  have hsz : st.size = v1 := by rw [← hv1, hst, strB_len]
                  rw [hv1] at hb9
                  clear hst
                  have HV1 := Lib.hid hv1
                  clear hc hm hv1
                  obtain ⟨z0, z1, z2, z3, z4⟩ := HZ.out wr HB.out
                  have k0' : 0 ≤ (k : Int) := by omega
                  have k1' : (k : Int) < (n4 : Int) := by omega
                  go_wp2_with fail
                  exact ⟨⟨z + (v1 : Int), k + 1, rfl, by omega, by simp, by omega, by omega, HU0.out.mono (by omega), HU1.out.mono (by omega), HU2.out.mono (by omega), HU3.out.mono (by omega), HU4.out.mono (by omega), HU5.out.step HP.out (by omega) (by simp only [HV1.out]; omega), HB.out⟩, by simp [intOf]; omega⟩
                · obtain rfl : k = n4 := by omega
                  obtain ⟨n4, hnn⟩ : ∃ n, n = k := ⟨_, rfl⟩
                  subst hnn
                  obtain ⟨z0, z1, z2, z3, z4⟩ := HZ.out wr HB.out
                  go_wp2_with fail
                  go_ret
                  refine ⟨_, rfl, HFin.out _ HB.out, fun hb => ?_⟩
                  have hz3 : z < 3000 := by simpa using hb
                  refine ⟨fun t ht => ?_, fun f hf => ⟨?_, ?_, ?_⟩, fun i hi => ?_, fun s hs => ?_⟩
                  · have := HU0.out.all HL0.out t ht; omega
                  · have := HU1.out.all HL1.out f hf; omega
                  · have := HU2.out.all HL1.out f hf; omega
                  · have := HU3.out.all HL1.out f hf; omega
                  · have := HU4.out.all HL2.out i hi; omega
                  · have := HU5.out.all HL4.out s hs; omega
end Go.Proofs.YtngjnkkdhjholaaGreat
namespace Go.Proofs.YtngjnkkdhjholaaGreat
open Go.RowKit

set_option maxRecDepth 100000 in
set_option maxHeartbeats 1000000 in
theorem refSum_any (A : Option Addr) (n c : Nat) (xs : List Nat) (w : World) (S : Nat → Prop) (hl : xs.length = n) (hb : ∀ x ∈ xs, x < 256) (hB : Byt S w A xs) (hn : n ≤ 140737488355328) :
    Calls Tryz.prog 14 #[.slice A n c] w fun e w' => e = .returned (.int .u32 ((crc xs : Nat) : Int)) ∧ w = w' := by
  have HL := Lib.hid hl
  have HY := Lib.hid hb
  have HB := Lib.hid hB
  clear hl hb hB
  go_enter Tryz.func14, Tryz.ntmps14
  go_wp2
  go_loop [3, 4] (fun r i => ∃ k : Nat, k ≤ n ∧ i = .int .i64 (k : Nat) ∧ r = .int .u32 ((reg O32 (xs.take k) : Nat) : Int)) (fun _ i => n - (intOf i).toNat)
  case atStart => exact ⟨0, Nat.zero_le _, rfl, by simp [reg, O32]⟩
  case round =>
    obtain ⟨k, hk, rfl, rfl⟩ := hrel
    obtain ⟨r, hr⟩ : ∃ r, reg O32 (xs.take k) = r := ⟨_, rfl⟩
    have hr32 : r < 4294967296 := by rw [← hr]; exact reg_lt _ _ (by unfold O32; omega) (fun x hx => HY.out x (List.mem_of_mem_take hx))
    rw [hr]
    have HR := Lib.hid hr
    clear hr
    by_cases hlt : k < n
    · obtain ⟨a, rfl, _, hcell⟩ := HB.out.at (k := k) (by rw [HL.out]; exact hlt)
      obtain ⟨x, hx⟩ : ∃ x, xs[k]?.getD 0 = x := ⟨_, rfl⟩
      rw [hx] at hcell
      have HX := Lib.hid hx
      clear hx
      have hx256 : x < 256 := by
        rw [← HX.out]
        simp only [show k < xs.length by rw [HL.out]; exact hlt, List.getElem?_eq_getElem, Option.getD_some]
        exact HY.out _ (List.getElem_mem _)
      obtain ⟨m, hm⟩ : ∃ m, r ^^^ x = m := ⟨_, rfl⟩
      have em : bits .xor .u32 (r : Int) (x : Int) = (m : Int) := by rw [u32_xor_nat _ _ hr32 (by omega), hm]
      have hm32 : m < 4294967296 := by rw [← hm]; exact Nat.xor_lt_two_pow (n := 32) hr32 (by omega)
      have HM := Lib.hid hm
      clear hm
      go_wp2
      go_loop [3, 5] (fun r i => ∃ j : Nat, j ≤ 8 ∧ i = .int .i64 (j : Nat) ∧ r = .int .u32 ((zk j m : Nat) : Int)) (fun _ i => 8 - (intOf i).toNat)
      case atStart => exact ⟨0, by omega, rfl, rfl⟩
      case round =>
        obtain ⟨j, hj, rfl, rfl⟩ := hrel
        obtain ⟨s, hs⟩ : ∃ s, zk j m = s := ⟨_, rfl⟩
        have hs32 : s < 4294967296 := by rw [← hs]; exact zk_lt j m hm32
        rw [hs]
        have HS := Lib.hid hs
        clear hs em
        by_cases hj8 : j < 8
        · by_cases h1 : s % 2 = 1
          · have t1 : ((s : Int) % 2 == 1) = true := by simp; omega
            have H1 := Lib.hid h1
            clear h1
            go_wp2
            refine ⟨⟨j + 1, by omega, by simp, ?_⟩, by simp [intOf]; omega⟩
            rw [zk_succ, HS.out, zs_odd s hs32 H1.out]
          · have t1 : ((s : Int) % 2 == 1) = false := by simp; omega
            have H1 := Lib.hid h1
            clear h1
            go_wp2
            refine ⟨⟨j + 1, by omega, by simp, ?_⟩, by simp [intOf]; omega⟩
            rw [zk_succ, HS.out, zs_even s H1.out]
        · obtain rfl : j = 8 := by omega
          go_wp2
          refine ⟨⟨k + 1, by omega, by simp, ?_⟩, by simp [intOf]; omega⟩
          rw [reg_take _ _ _ (by rw [HL.out]; exact hlt), HR.out, HX.out, HM.out, HS.out]
    · obtain rfl : k = n := by omega
      go_wp2
      go_ret
      refine ⟨ret_int ?_, rfl⟩
      rw [not32 r hr32]
      unfold crc
      rw [← HR.out, List.take_of_length_le (by rw [HL.out]; exact Nat.le_refl _)]
end Go.Proofs.YtngjnkkdhjholaaGreat
