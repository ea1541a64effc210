/-
  What the document's own Light answers: where it says yes, all lists within lists, and texts, are small. Conditions: there is a module, and each of its lists is within what a machine reaches.
  Modules that hang together, as plain facts: what an instruction names, handles, what a host takes; what Check and Main come to. Conditions: none; nothing here speaks of a program.
  What slices.IndexFunc and slices.ContainsFunc do over elements of one kind (chrysalis/api.Type) with one test (chrysalis/sane.isHan): whether one of them meets it. Conditions: as the theorem says.
  What slices.IndexFunc and slices.ContainsFunc do over elements of one kind (chrysalis/api.Type) with one test (chrysalis/sane.wrongImport$1): whether one of them meets it. Conditions: as the theorem says.
  What sane's isHan, wrongImport and the test that it makes do. Conditions: as each theorem says.
  What slices.IndexFunc and slices.ContainsFunc do over elements of one kind (chrysalis/api.Instr) with one test (chrysalis/sane.missing$1): whether one of them meets it. Conditions: as the theorem says.
-/
import Derived.Test.YtpgfbnilnoopoaaQ03
import Derived.Test.YtpgfbnilnoopoaaQ04
import Derived.Test.YtpgfbnilnoopoaaQ10
import Derived.BigQuiet
namespace Go.Proofs.Ytpgfbnilnoopoaa
open Go.RowKit
set_option linter.unusedSimpArgs false
set_option linter.unusedVariables false

/-- The first k things measure at most z. -/
def Ub {α : Type} (g : α → Nat) (xs : List α) (k : Nat) (z : Int) : Prop := ∀ j p, j < k → xs[j]? = some p → (g p : Int) ≤ z
theorem Ub.zero {α : Type} (g : α → Nat) (xs : List α) (z : Int) : Ub g xs 0 z := fun j p h => absurd h (by omega)
theorem Ub.mono {α : Type} {g : α → Nat} {xs : List α} {k : Nat} {z z' : Int} (h : Ub g xs k z) (hz : z ≤ z') : Ub g xs k z' := fun j p h1 h2 => Int.le_trans (h j p h1 h2) hz
theorem Ub.step {α : Type} {g : α → Nat} {xs : List α} {k : Nat} {z z' : Int} {p : α} (h : Ub g xs k z) (hp : xs[k]? = some p) (hz : z ≤ z') (hg : (g p : Int) ≤ z') : Ub g xs (k + 1) z' := fun j q h1 h2 => by
  by_cases e : j = k
  · subst e
    rw [hp] at h2
    injection h2 with h2
    subst h2
    exact hg
  · exact Int.le_trans (h j q (by omega) h2) hz
theorem Ub.all {α : Type} {g : α → Nat} {xs : List α} {n : Nat} {z : Int} (h : Ub g xs n z) (hn : xs.length = n) : ∀ p ∈ xs, (g p : Int) ≤ z := fun p hp => by
  obtain ⟨j, hj⟩ := List.mem_iff_getElem?.1 hp
  exact h j p (by rw [← hn]; exact (List.getElem?_eq_some_iff.1 hj).1) hj

set_option maxRecDepth 100000 in
set_option maxHeartbeats 8000000 in
theorem light_any (cs : List Value) (x : Mod) (w : World) (h : modL.R (· < w.heap.size) w cs x) (hz : Zm x) : Calls Try.prog 7 #[vAgg cs] w fun e w' => ∃ b : Bool, e = .returned (.bool b) ∧ Below w.heap.size w w' ∧ (b = true → Small x) := by
  have hR : reachBytes < 140737488355328 := reachBytes_lt
  obtain ⟨⟨r0, y0⟩, ⟨r1, y1⟩, ⟨r2, y2⟩, ⟨r3, -⟩, r4, y4⟩ := hz
  have Z0 : Hid (∀ t ∈ x.recs, t.length < 140737488355328) := fun t ht => Nat.lt_of_le_of_lt (y0 t ht).1 hR
  have Z1 : Hid (∀ f ∈ x.funcs, f.args.length < 140737488355328 ∧ f.locs.length < 140737488355328 ∧ f.code.length < 140737488355328) := fun f hf => ⟨Nat.lt_of_le_of_lt (y1 f hf).1.1 hR, Nat.lt_of_le_of_lt (y1 f hf).2.1.1 hR, Nat.lt_of_le_of_lt (y1 f hf).2.2.1 hR⟩
  have Z2 : Hid (∀ f ∈ x.imps, f.args.length < 140737488355328) := fun f hf => Nat.lt_of_le_of_lt (y2 f hf).1 hR
  have Z4 : Hid (∀ s ∈ x.texts, s.length < 140737488355328) := fun s hs => Nat.lt_of_le_of_lt (y4 s hs) hR
  replace r0 : x.recs.length < 140737488355328 := Nat.lt_of_le_of_lt r0 hR
  replace r1 : x.funcs.length < 140737488355328 := Nat.lt_of_le_of_lt r1 hR
  replace r2 : x.imps.length < 140737488355328 := Nat.lt_of_le_of_lt r2 hR
  replace r3 : x.ints.length < 140737488355328 := Nat.lt_of_le_of_lt r3 hR
  replace r4 : x.texts.length < 140737488355328 := Nat.lt_of_le_of_lt r4 hR
  clear hR y0 y1 y2 y4
  obtain ⟨_, _, _, _, _, rfl, ⟨A0, d0, e0, l0, m0, s0⟩, ⟨A1, d1, e1, l1, m1, s1⟩, ⟨A2, d2, e2, l2, m2, s2⟩, ⟨A3, d3, e3, l3, m3, s3⟩, ⟨A4, d4, e4, l4, m4, s4⟩⟩ := h
  simp only [List.cons.injEq, and_true] at e0 e1 e2 e3 e4
  subst e0 e1 e2 e3 e4
  unfold maxLen at m0 m1 m2 m3 m4
  show Calls Try.prog 7 #[.agg #[.slice A0 x.recs.length d0, .slice A1 x.funcs.length d1, .slice A2 x.imps.length d2, .slice A3 x.ints.length d3, .slice A4 x.texts.length d4]] w _
  obtain ⟨n0, hn0⟩ : ∃ n, x.recs.length = n := ⟨_, rfl⟩
  have HL0 := Lib.hid hn0
  have HS0 := Lib.hid s0
  obtain ⟨n1, hn1⟩ : ∃ n, x.funcs.length = n := ⟨_, rfl⟩
  have HL1 := Lib.hid hn1
  have HS1 := Lib.hid s1
  obtain ⟨n2, hn2⟩ : ∃ n, x.imps.length = n := ⟨_, rfl⟩
  have HL2 := Lib.hid hn2
  have HS2 := Lib.hid s2
  obtain ⟨n3, hn3⟩ : ∃ n, x.ints.length = n := ⟨_, rfl⟩
  have HL3 := Lib.hid hn3
  have HS3 := Lib.hid s3
  obtain ⟨n4, hn4⟩ : ∃ n, x.texts.length = n := ⟨_, rfl⟩
  have HL4 := Lib.hid hn4
  have HS4 := Lib.hid s4
  rw [hn0, hn1, hn2, hn3, hn4]
  rw [hn0] at l0 r0
  rw [hn1] at l1 r1
  rw [hn2] at l2 r2
  rw [hn3] at l3 r3
  rw [hn4] at l4 r4
  clear hn0 s0 hn1 s1 hn2 s2 hn3 s3 hn4 s4
  have hw0 : (n0 : Int) ≤ 9223372036854775807 := by omega
  have hw1 : (n1 : Int) ≤ 9223372036854775807 := by omega
  have hw2 : (n2 : Int) ≤ 9223372036854775807 := by omega
  have hw4 : (n4 : Int) ≤ 9223372036854775807 := by omega
  have HB0 : Hid (Below w.heap.size w (w.alloc (.cells #[.slice A0 n0 d0, .slice A1 n1 d1, .slice A2 n2 d2, .slice A3 n3 d3, .slice A4 n4 d4] 28))) := (Below.refl _ _).alloc (Nat.le_refl _) _
  go_enter Try.func7, Try.ntmps7
  go_wp2_with fail
  · go_ret
    exact ⟨_, rfl, HB0.out, fun h => by simp at h⟩
  have hsum : n0 + n1 + n2 + n3 + n4 ≤ 200 := by omega
  refine wp_world fun W hW => ?_
  have HBW : Hid (Below w.heap.size w W) := by show Below _ _ _; rw [hW]; exact HB0.out
  have HCW : Hid (C5 w.heap.size (.slice A0 n0 d0) (.slice A1 n1 d1) (.slice A2 n2 d2) (.slice A3 n3 d3) (.slice A4 n4 d4) W) := by rw [hW]; show C5 _ _ _ _ _ _ _; simp [C5, go_sem]
  have hWz : w.heap.size < W.heap.size := by rw [hW]; simp
  have HZ : Hid (∀ wr, Below W.heap.size W wr → C5 w.heap.size (.slice A0 n0 d0) (.slice A1 n1 d1) (.slice A2 n2 d2) (.slice A3 n3 d3) (.slice A4 n4 d4) wr) := fun wr hb => HCW.out.below hb hWz
  have HFin : Hid (∀ wr, Below W.heap.size W wr → Below w.heap.size w wr) := fun wr hb => HBW.out.trans (hb.mono HBW.out.size)
  clear hW HB0 HCW
  have HA0 := Lib.hid ((HS0.out.below HBW.out (Nat.le_refl _)).wide (T := (· < W.heap.size)) fun b hb => Nat.lt_of_lt_of_le hb HBW.out.size)
  clear HS0
  have HA1 := Lib.hid ((HS1.out.below HBW.out (Nat.le_refl _)).wide (T := (· < W.heap.size)) fun b hb => Nat.lt_of_lt_of_le hb HBW.out.size)
  clear HS1
  have HA2 := Lib.hid ((HS2.out.below HBW.out (Nat.le_refl _)).wide (T := (· < W.heap.size)) fun b hb => Nat.lt_of_lt_of_le hb HBW.out.size)
  clear HS2
  have HA3 := Lib.hid ((HS3.out.below HBW.out (Nat.le_refl _)).wide (T := (· < W.heap.size)) fun b hb => Nat.lt_of_lt_of_le hb HBW.out.size)
  clear HS3
  have HA4 := Lib.hid ((HS4.out.below HBW.out (Nat.le_refl _)).wide (T := (· < W.heap.size)) fun b hb => Nat.lt_of_lt_of_le hb HBW.out.size)
  clear HS4
  go_loopw [3, 4] (fun s i wr => ∃ (z : Int) (k : Nat), s = .int .i64 z ∧ k ≤ n0 ∧ i = .int .i64 (k : Nat) ∧ 0 ≤ z ∧ z ≤ 200 + (k : Int) * 140737488355328 ∧ Ub List.length x.recs k z ∧ Below W.heap.size W wr) (fun _ i _ => n0 - (intOf i).toNat)
  case atStart => exact ⟨_, 0, rfl, Nat.zero_le _, rfl, by omega, by omega, Ub.zero _ _ _, Below.refl _ _⟩
  case round =>
    obtain ⟨z, k, rfl, hk, rfl, hz0, hz1, g0, hbel⟩ := hrel
    have HU0 := Lib.hid g0
    clear g0
    have HB := Lib.hid hbel
    have hs := hbel.size
    clear hbel
    by_cases hlt : k < n0
    · obtain ⟨p, hp⟩ : ∃ p, x.recs[k]? = some p := ⟨x.recs[k]'(by rw [HL0.out]; exact hlt), List.getElem?_eq_getElem _⟩
      have HP := Lib.hid hp
      have hm := List.mem_of_getElem? hp
      obtain ⟨a, cs, ea, hab, hc, hR⟩ := HA0.out.at hp
      clear hp
      subst ea
      have hb9 := Z0.out p hm
      obtain ⟨P0, c3, rfl, -, -, -⟩ := hR
      have ca0 := (HB.out.cell (p := a.add k) (by rw [addBlock]; exact hab)).trans (one_cell (K := tysL.k) rfl (hc 0 _ rfl))
      obtain ⟨v1, hv1⟩ : ∃ v, p.length = v := ⟨_, rfl⟩
      rw [hv1] at ca0 hb9
      have HV1 := Lib.hid hv1
      clear hc hm hv1
      obtain ⟨z0, z1, z2, z3, z4⟩ := HZ.out wr HB.out
      have k0' : 0 ≤ (k : Int) := by omega
      have k1' : (k : Int) < (n0 : Int) := by omega
      go_wp2_with fail
      exact ⟨⟨z + (v1 : Int), k + 1, rfl, by omega, by simp, by omega, by omega, HU0.out.step HP.out (by omega) (by simp only [HV1.out]; omega), HB.out⟩, by simp [intOf]; omega⟩
    · obtain rfl : k = n0 := by omega
      obtain ⟨n0, hnn⟩ : ∃ n, n = k := ⟨_, rfl⟩
      subst hnn
      obtain ⟨z0, z1, z2, z3, z4⟩ := HZ.out wr HB.out
      go_wp2_with fail
      go_loopw [3, 5] (fun s i wr => ∃ (z : Int) (k : Nat), s = .int .i64 z ∧ k ≤ n1 ∧ i = .int .i64 (k : Nat) ∧ 0 ≤ z ∧ z ≤ 28147497671065800 + (k : Int) * 422212465065984 ∧ Ub List.length x.recs n0 z ∧ Ub (fun f => List.length (Fn.args f)) x.funcs k z ∧ Ub (fun f => List.length (Fn.locs f)) x.funcs k z ∧ Ub (fun f => List.length (Fn.code f)) x.funcs k z ∧ Below W.heap.size W wr) (fun _ i _ => n1 - (intOf i).toNat)
      case atStart => exact ⟨_, 0, rfl, Nat.zero_le _, rfl, by omega, by omega, HU0.out, Ub.zero _ _ _, Ub.zero _ _ _, Ub.zero _ _ _, HB.out⟩
      case round =>
        obtain ⟨z, k, rfl, hk, rfl, hz0, hz1, o0, g0, g1, g2, hbel⟩ := hrel
        clear HB
        clear HU0
        have HU0 := Lib.hid o0
        have HU1 := Lib.hid g0
        have HU2 := Lib.hid g1
        have HU3 := Lib.hid g2
        clear o0 g0 g1 g2
        have HB := Lib.hid hbel
        have hs := hbel.size
        clear hbel
        by_cases hlt : k < n1
        · obtain ⟨p, hp⟩ : ∃ p, x.funcs[k]? = some p := ⟨x.funcs[k]'(by rw [HL1.out]; exact hlt), List.getElem?_eq_getElem _⟩
          have HP := Lib.hid hp
          have hm := List.mem_of_getElem? hp
          obtain ⟨a, cs, ea, hab, hc, hR⟩ := HA1.out.at hp
          clear hp
          subst ea
          obtain ⟨hb7, hb8, hb9⟩ := Z1.out p hm
          obtain ⟨_, _, _, rfl, -, -, ⟨P0, c3, e4, -⟩, ⟨P2, c5, e6, -⟩, ⟨P4, c7, e8, -⟩⟩ := hR
          simp only [List.cons.injEq, and_true] at e4 e6 e8
          subst e4 e6 e8
          have ca0 := (HB.out.cell (p := a.add (k * 5)) (by rw [addBlock]; exact hab)).trans (hc 0 _ rfl)
          have ca1 := (HB.out.cell (p := a.add (k * 5 + 1)) (by rw [addBlock]; exact hab)).trans (hc 1 _ rfl)
          rw [next_cell a (k * 5) 1 (by omega)] at ca1
          have ca2 := (HB.out.cell (p := a.add (k * 5 + 2)) (by rw [addBlock]; exact hab)).trans (hc 2 _ rfl)
          rw [next_cell a (k * 5) 2 (by omega)] at ca2
          have ca3 := (HB.out.cell (p := a.add (k * 5 + 3)) (by rw [addBlock]; exact hab)).trans (hc 3 _ rfl)
          rw [next_cell a (k * 5) 3 (by omega)] at ca3
          have ca4 := (HB.out.cell (p := a.add (k * 5 + 4)) (by rw [addBlock]; exact hab)).trans (hc 4 _ rfl)
          rw [next_cell a (k * 5) 4 (by omega)] at ca4
          obtain ⟨v1, hv1⟩ : ∃ v, p.args.length = v := ⟨_, rfl⟩
          obtain ⟨v2, hv2⟩ : ∃ v, p.locs.length = v := ⟨_, rfl⟩
          obtain ⟨v3, hv3⟩ : ∃ v, p.code.length = v := ⟨_, rfl⟩
          rw [hv1] at ca0 hb7
          rw [hv2] at ca3 hb8
          rw [hv3] at ca4 hb9
          have HV1 := Lib.hid hv1
          have HV2 := Lib.hid hv2
          have HV3 := Lib.hid hv3
          clear hc hm hv1 hv2 hv3
          obtain ⟨z0, z1, z2, z3, z4⟩ := HZ.out wr HB.out
          have k0' : 0 ≤ (k : Int) := by omega
          have k1' : (k : Int) < (n1 : Int) := by omega
          go_wp2_with fail
          go_quiet (fail)
          go_wp2_with fail
          exact ⟨⟨z + (v1 : Int) + (v2 : Int) + (v3 : Int), k + 1, rfl, by omega, by simp, by omega, by omega, HU0.out.mono (by omega), HU1.out.step HP.out (by omega) (by simp only [HV1.out]; omega), HU2.out.step HP.out (by omega) (by simp only [HV2.out]; omega), HU3.out.step HP.out (by omega) (by simp only [HV3.out]; omega), below_drews' HB.out _ hs⟩, by simp [intOf]; omega⟩
        · obtain rfl : k = n1 := by omega
          obtain ⟨n1, hnn⟩ : ∃ n, n = k := ⟨_, rfl⟩
          subst hnn
          obtain ⟨z0, z1, z2, z3, z4⟩ := HZ.out wr HB.out
          go_wp2_with fail
          go_loopw [3, 6] (fun s i wr => ∃ (z : Int) (k : Nat), s = .int .i64 z ∧ k ≤ n2 ∧ i = .int .i64 (k : Nat) ∧ 0 ≤ z ∧ z ≤ 112589990684262600 + (k : Int) * 140737488355328 ∧ Ub List.length x.recs n0 z ∧ Ub (fun f => List.length (Fn.args f)) x.funcs n1 z ∧ Ub (fun f => List.length (Fn.locs f)) x.funcs n1 z ∧ Ub (fun f => List.length (Fn.code f)) x.funcs n1 z ∧ Ub (fun f => List.length (Imp.args f)) x.imps k z ∧ Below W.heap.size W wr) (fun _ i _ => n2 - (intOf i).toNat)
          case atStart => exact ⟨_, 0, rfl, Nat.zero_le _, rfl, by omega, by omega, HU0.out, HU1.out, HU2.out, HU3.out, Ub.zero _ _ _, HB.out⟩
          case round =>
            obtain ⟨z, k, rfl, hk, rfl, hz0, hz1, o0, o1, o2, o3, g0, hbel⟩ := hrel
            clear HB
            clear HU0 HU1 HU2 HU3
            have HU0 := Lib.hid o0
            have HU1 := Lib.hid o1
            have HU2 := Lib.hid o2
            have HU3 := Lib.hid o3
            have HU4 := Lib.hid g0
            clear o0 o1 o2 o3 g0
            have HB := Lib.hid hbel
            have hs := hbel.size
            clear hbel
            by_cases hlt : k < n2
            · obtain ⟨p, hp⟩ : ∃ p, x.imps[k]? = some p := ⟨x.imps[k]'(by rw [HL2.out]; exact hlt), List.getElem?_eq_getElem _⟩
              have HP := Lib.hid hp
              have hm := List.mem_of_getElem? hp
              obtain ⟨a, cs, ea, hab, hc, hR⟩ := HA2.out.at hp
              clear hp
              subst ea
              have hb9 := Z2.out p hm
              obtain ⟨_, rfl, -, -, ⟨P0, c3, e4, -⟩⟩ := hR
              simp only [List.cons.injEq, and_true] at e4
              subst e4
              have ca0 := (HB.out.cell (p := a.add (k * 3)) (by rw [addBlock]; exact hab)).trans (hc 0 _ rfl)
              have ca1 := (HB.out.cell (p := a.add (k * 3 + 1)) (by rw [addBlock]; exact hab)).trans (hc 1 _ rfl)
              rw [next_cell a (k * 3) 1 (by omega)] at ca1
              have ca2 := (HB.out.cell (p := a.add (k * 3 + 2)) (by rw [addBlock]; exact hab)).trans (hc 2 _ rfl)
              rw [next_cell a (k * 3) 2 (by omega)] at ca2
              obtain ⟨v1, hv1⟩ : ∃ v, p.args.length = v := ⟨_, rfl⟩
              rw [hv1] at ca0 hb9
              have HV1 := Lib.hid hv1
              clear hc hm hv1
              obtain ⟨z0, z1, z2, z3, z4⟩ := HZ.out wr HB.out
              have k0' : 0 ≤ (k : Int) := by omega
              have k1' : (k : Int) < (n2 : Int) := by omega
              go_wp2_with fail
              exact ⟨⟨z + (v1 : Int), k + 1, rfl, by omega, by simp, by omega, by omega, HU0.out.mono (by omega), HU1.out.mono (by omega), HU2.out.mono (by omega), HU3.out.mono (by omega), HU4.out.step HP.out (by omega) (by simp only [HV1.out]; omega), HB.out⟩, by simp [intOf]; omega⟩
            · obtain rfl : k = n2 := by omega
              obtain ⟨n2, hnn⟩ : ∃ n, n = k := ⟨_, rfl⟩
              subst hnn
              obtain ⟨z0, z1, z2, z3, z4⟩ := HZ.out wr HB.out
              go_wp2_with fail
              go_loopw [3, 7] (fun s i wr => ∃ (z : Int) (k : Nat), s = .int .i64 z ∧ k ≤ n4 ∧ i = .int .i64 (k : Nat) ∧ 0 ≤ z ∧ z ≤ 140737488355328200 + (k : Int) * 140737488355328 ∧ Ub List.length x.recs n0 z ∧ Ub (fun f => List.length (Fn.args f)) x.funcs n1 z ∧ Ub (fun f => List.length (Fn.locs f)) x.funcs n1 z ∧ Ub (fun f => List.length (Fn.code f)) x.funcs n1 z ∧ Ub (fun f => List.length (Imp.args f)) x.imps n2 z ∧ Ub List.length x.texts k z ∧ Below W.heap.size W wr) (fun _ i _ => n4 - (intOf i).toNat)
              case atStart => exact ⟨_, 0, rfl, Nat.zero_le _, rfl, by omega, by omega, HU0.out, HU1.out, HU2.out, HU3.out, HU4.out, Ub.zero _ _ _, HB.out⟩
              case round =>
                obtain ⟨z, k, rfl, hk, rfl, hz0, hz1, o0, o1, o2, o3, o4, g0, hbel⟩ := hrel
                clear HB
                clear HU0 HU1 HU2 HU3 HU4
                have HU0 := Lib.hid o0
                have HU1 := Lib.hid o1
                have HU2 := Lib.hid o2
                have HU3 := Lib.hid o3
                have HU4 := Lib.hid o4
                have HU5 := Lib.hid g0
                clear o0 o1 o2 o3 o4 g0
                have HB := Lib.hid hbel
                have hs := hbel.size
                clear hbel
                by_cases hlt : k < n4
                · obtain ⟨p, hp⟩ : ∃ p, x.texts[k]? = some p := ⟨x.texts[k]'(by rw [HL4.out]; exact hlt), List.getElem?_eq_getElem _⟩
                  have HP := Lib.hid hp
                  have hm := List.mem_of_getElem? hp
                  obtain ⟨a, cs, ea, hab, hc, hR⟩ := HA4.out.at hp
                  clear hp
                  subst ea
                  have hb9 := Z4.out p hm
                  obtain ⟨st, rfl, hst⟩ := hR
                  have ca0 := (HB.out.cell (p := a.add k) (by rw [addBlock]; exact hab)).trans (one_cell (K := strL.k) rfl (hc 0 _ rfl))
                  obtain ⟨v1, hv1⟩ : ∃ v, p.length = v := ⟨_, rfl⟩
                  have hsz : st.size = v1 := by rw [← hv1, hst, strB_len]
                  rw [hv1] at hb9
                  clear hst
                  have HV1 := Lib.hid hv1
                  clear hc hm hv1
                  obtain ⟨z0, z1, z2, z3, z4⟩ := HZ.out wr HB.out
                  have k0' : 0 ≤ (k : Int) := by omega
                  have k1' : (k : Int) < (n4 : Int) := by omega
                  go_wp2_with fail
                  exact ⟨⟨z + (v1 : Int), k + 1, rfl, by omega, by simp, by omega, by omega, HU0.out.mono (by omega), HU1.out.mono (by omega), HU2.out.mono (by omega), HU3.out.mono (by omega), HU4.out.mono (by omega), HU5.out.step HP.out (by omega) (by simp only [HV1.out]; omega), HB.out⟩, by simp [intOf]; omega⟩
                · obtain rfl : k = n4 := by omega
                  obtain ⟨n4, hnn⟩ : ∃ n, n = k := ⟨_, rfl⟩
                  subst hnn
                  obtain ⟨z0, z1, z2, z3, z4⟩ := HZ.out wr HB.out
                  go_wp2_with fail
                  go_ret
                  refine ⟨_, rfl, HFin.out _ HB.out, fun hb => ?_⟩
                  have hz3 : z < 3000 := by simpa using hb
                  refine ⟨fun t ht => ?_, fun f hf => ⟨?_, ?_, ?_⟩, fun i hi => ?_, fun s hs => ?_⟩
                  · have := HU0.out.all HL0.out t ht; omega
                  · have := HU1.out.all HL1.out f hf; omega
                  · have := HU2.out.all HL1.out f hf; omega
                  · have := HU3.out.all HL1.out f hf; omega
                  · have := HU4.out.all HL2.out i hi; omega
                  · have := HU5.out.all HL4.out s hs; omega
end Go.Proofs.Ytpgfbnilnoopoaa
namespace Go.Proofs.Ytpgfbnilnoopoaa

/-- Whether an instruction of the function f names what there is in the module m. -/
def namedB (m : Mod) (f : Fn) (i : Ins) : Bool :=
  if i.1 = 0 then decide (i.2.1 < (m.ints.length : Int))
  else if i.1 = 1 then decide (i.2.1 < (m.texts.length : Int))
  else if i.1 = 3 ∨ i.1 = 4 then decide (i.2.1 < (f.args.length : Int) + (f.locs.length : Int))
  else if i.1 = 23 ∨ i.1 = 24 then decide (i.2.1 < (f.code.length : Int))
  else if i.1 = 25 then decide (i.2.1 < (m.funcs.length : Int))
  else if i.1 = 27 then decide (i.2.1 < (m.imps.length : Int))
  else if i.1 = 28 then decide (i.2.1 < (m.recs.length : Int))
  else if i.1 = 29 ∨ i.1 = 30 then (match m.recs[i.2.1.toNat]? with | some r => decide (i.2.2 < (r.length : Int)) | none => false)
  else true
def hanB (t : Typ) : Bool := decide (t.1 = 5)
def hostB (t : Typ) : Bool := decide (t.1 = 1 ∨ t.1 = 5)
/-- What is wrong with a function. -/
def badFn (m : Mod) (f : Fn) : Bool := f.locs.any hanB || f.code.any fun i => !namedB m f i
/-- What is wrong with an import. -/
def badImp (i : Imp) : Bool := i.args.any (fun t => !hostB t) || !hostB i.ret
def badM (m : Mod) : Bool := m.funcs.any (badFn m) || m.imps.any badImp
/-- What Check comes to. -/
def checkN (m : Mod) : Int := if fitB m = false then 2 else if badM m = true then 1 else 0
/-- Whether it can begin. -/
def mainB (m : Mod) : Bool := decide (checkN m = 0) && (match m.funcs with | f :: _ => decide (f.args.length = 0) && decide (f.ret.1 = 1) | [] => false)

theorem checkN_unfit {m : Mod} (h : fitB m = false) : checkN m = 2 := by simp [checkN, h]
theorem checkN_bad {m : Mod} (h : fitB m = true) (hb : badM m = true) : checkN m = 1 := by simp [checkN, h, hb]
theorem checkN_ok {m : Mod} (h : fitB m = true) (hb : badM m = false) : checkN m = 0 := by simp [checkN, h, hb]
theorem checkN_range (m : Mod) : checkN m = 0 ∨ checkN m = 1 ∨ checkN m = 2 := by
  unfold checkN
  split
  · simp
  · split <;> simp
theorem mainB_not {m : Mod} (h : checkN m ≠ 0) : mainB m = false := by simp [mainB, h]
theorem mainB_yes {m : Mod} {f : Fn} {fs : List Fn} (h : checkN m = 0) (hf : m.funcs = f :: fs) : mainB m = (decide (f.args.length = 0) && decide (f.ret.1 = 1)) := by simp [mainB, h, hf]
theorem checkN_fit {m : Mod} (h : checkN m = 0) : fitB m = true := by
  cases hf : fitB m
  · rw [checkN_unfit hf] at h; cases h
  · rfl
theorem badFn_any {m : Mod} {f : Fn} (hf : f ∈ m.funcs) (h : badFn m f = true) : badM m = true := by
  rw [badM, Bool.or_eq_true]
  exact .inl (List.any_eq_true.2 ⟨f, hf, h⟩)
theorem badImp_any {m : Mod} {f : Imp} (hf : f ∈ m.imps) (h : badImp f = true) : badM m = true := by
  rw [badM, Bool.or_eq_true]
  exact .inr (List.any_eq_true.2 ⟨f, hf, h⟩)
theorem bad_loc {m : Mod} {f : Fn} {t : Typ} (ht : t ∈ f.locs) (h : hanB t = true) : badFn m f = true := by
  rw [badFn, Bool.or_eq_true]
  exact .inl (List.any_eq_true.2 ⟨t, ht, h⟩)
theorem bad_code {m : Mod} {f : Fn} {t : Ins} (ht : t ∈ f.code) (h : namedB m f t = false) : badFn m f = true := by
  rw [badFn, Bool.or_eq_true]
  exact .inr (List.any_eq_true.2 ⟨t, ht, by rw [h]; rfl⟩)
theorem any_take {α : Type} {g : α → Bool} {xs : List α} {k : Nat} {x : α} (h : (xs.take k).any g = false) (hx : xs[k]? = some x) (hg : g x = false) : (xs.take (k + 1)).any g = false := by
  obtain ⟨hk, rfl⟩ := List.getElem?_eq_some_iff.1 hx
  rw [List.take_succ_eq_append_getElem hk, List.any_append, h]
  simp [hg]
theorem any_here {α : Type} {g : α → Bool} {xs : List α} {x : α} (hx : x ∈ xs) (hg : g x = true) : xs.any g = true := List.any_eq_true.2 ⟨x, hx, hg⟩
theorem any_full {α : Type} {g : α → Bool} {xs : List α} {n : Nat} (h : (xs.take n).any g = false) (hl : xs.length = n) : xs.any g = false := by
  rwa [List.take_of_length_le (by omega)] at h
theorem dge (a b : Int) : decide (b ≤ a) = !decide (a < b) := by rw [Bool.eq_iff_iff]; simp
end Go.Proofs.Ytpgfbnilnoopoaa
namespace Go.Proofs.Ytpgfbnilnoopoaa
open Go.RowKit
set_option linter.unusedSimpArgs false
set_option linter.unusedVariables false

set_option maxRecDepth 100000 in
set_option maxHeartbeats 1000000 in
theorem index_han (A : Option Addr) (n c : Nat) (xs : List Typ) (g : Typ → Bool) (w : World) (hl : xs.length = n) (h : Sq typL (· < w.heap.size) w A xs) (hn2 : n ≤ 9223372036854775807)
    (hG : ∀ (w1 : World) (cs : List Value) (x : Typ), Below w.heap.size w w1 → x ∈ xs → typL.R (· < w1.heap.size) w1 cs x → Calls Try.prog 17 #[vAgg cs] w1 (Tells (g x) w1)) :
    Calls Try.prog 38 #[.slice A n c, .func (.func 17) #[] #[]] w fun e w' => ∃ k : Int, e = .returned (.int .i64 k) ∧ decide (0 ≤ k) = xs.any g ∧ Below w.heap.size w w' := by
  have HL := Lib.hid hl
  have HS := Lib.hid h
  have HP0 := Lib.hid hG
  clear hl h hG
  go_enter Try.func38, Try.ntmps38
  go_wp2_with fail
  go_loopw [8] (fun i wr => ∃ k : Nat, k ≤ n ∧ i = .int .i64 (k : Nat) ∧ (xs.take k).any g = false ∧ Below w.heap.size w wr) (fun i _ => n - (intOf i).toNat)
  case atStart => exact ⟨0, Nat.zero_le _, rfl, by simp, Below.refl _ _⟩
  case round =>
    obtain ⟨k, hk, rfl, hall, hbel⟩ := hrel
    have HA := Lib.hid hall
    have HB := Lib.hid hbel
    have hs := hbel.size
    clear hall hbel
    by_cases hlt : k < n
    · skip
      obtain ⟨x, hx⟩ : ∃ x, xs[k]? = some x := ⟨xs[k]'(by rw [HL.out]; exact hlt), List.getElem?_eq_getElem _⟩
      have hmem : x ∈ xs := List.mem_of_getElem? hx
      obtain ⟨a, cs, rfl, hab, hc, hr⟩ := HS.out.at hx
      have HX := Lib.hid hx
      clear hx
      have HR := Lib.hid hr
      obtain ⟨rfl, -, -⟩ := hr
      have c0 := (HB.out.cell (p := a.add (k * 2)) (by rw [addBlock]; exact hab)).trans (hc 0 _ rfl)
      have c1 := (HB.out.cell (p := a.add (k * 2 + 1)) (by rw [addBlock]; exact hab)).trans (hc 1 _ rfl)
      rw [next_cell a (k * 2) 1 (by omega)] at c1
      have HP : Hid (∀ w1, Below w.heap.size w w1 → Calls Try.prog 17 #[.agg #[.int .i64 x.1, .int .i64 x.2]] w1 (Tells (g x) w1)) := fun w1 hb => HP0.out w1 [.int .i64 x.1, .int .i64 x.2] x hb hmem (typL.wide (typL.keep HR.out fun b hb1 => hb.block b hb1) fun b hb1 => Nat.lt_of_lt_of_le hb1 hb.size)
      clear hc
      have hk0 : 0 ≤ (k : Int) := by omega
      cases hg : g x
      · rw [hg] at HP
        have HG := Lib.hid hg
        clear hg
        go_wp2_with (first
          | (go_at_call 17
             refine (HP.out _ HB.out).mono ?_
             rintro e w2 ⟨rfl, hb2⟩
             have Hb2 := Lib.hid (HB.out.trans (hb2.mono hs))
             clear hb2))
        refine ⟨⟨k + 1, by omega, by simp, any_take HA.out HX.out HG.out, Hb2.out⟩, by simp [intOf]; omega⟩
      · rw [hg] at HP
        have e : xs.any g = true := any_here hmem hg
        have E := Lib.hid e
        clear e hg
        go_wp2_with (first
          | (go_at_call 17
             refine (HP.out _ HB.out).mono ?_
             rintro e w2 ⟨rfl, hb2⟩
             have Hb2 := Lib.hid (HB.out.trans (hb2.mono hs))
             clear hb2))
        go_ret
        exact ⟨_, rfl, by rw [E.out]; simp, Hb2.out⟩
    · obtain rfl : k = n := by omega
      go_wp2_with fail
      go_ret
      exact ⟨_, rfl, by rw [any_full HA.out HL.out]; rfl, HB.out⟩

set_option maxRecDepth 100000 in
theorem contains_han (A : Option Addr) (n c : Nat) (xs : List Typ) (g : Typ → Bool) (w : World) (hl : xs.length = n) (h : Sq typL (· < w.heap.size) w A xs) (hn2 : n ≤ 9223372036854775807)
    (hG : ∀ (w1 : World) (cs : List Value) (x : Typ), Below w.heap.size w w1 → x ∈ xs → typL.R (· < w1.heap.size) w1 cs x → Calls Try.prog 17 #[vAgg cs] w1 (Tells (g x) w1)) :
    Calls Try.prog 16 #[.slice A n c, .func (.func 17) #[] #[]] w (Tells (xs.any g) w) := by
  have HC := Lib.hid (index_han A n c xs g w hl h hn2 hG)
  clear hl h hG
  generalize xs.any g = ab at *
  go_enter Try.func16, Try.ntmps16
  go_wp2_with (first | (go_at_call 38; refine HC.out.mono ?_; rintro e w1 ⟨k, rfl, hk, hb⟩; have HB := Lib.hid hb; have HK := Lib.hid hk; clear hb hk))
  go_ret
  exact ⟨by rw [← HK.out]; rfl, HB.out⟩
end Go.Proofs.Ytpgfbnilnoopoaa
namespace Go.Proofs.Ytpgfbnilnoopoaa
open Go.RowKit
set_option linter.unusedSimpArgs false
set_option linter.unusedVariables false

set_option maxRecDepth 100000 in
set_option maxHeartbeats 1000000 in
theorem index_wrg (A : Option Addr) (n c : Nat) (xs : List Typ) (g : Typ → Bool) (w : World) (hl : xs.length = n) (h : Sq typL (· < w.heap.size) w A xs) (hn2 : n ≤ 9223372036854775807)
    (hG : ∀ (w1 : World) (cs : List Value) (x : Typ), Below w.heap.size w w1 → x ∈ xs → typL.R (· < w1.heap.size) w1 cs x → Calls Try.prog 43 #[vAgg cs] w1 (Tells (g x) w1)) :
    Calls Try.prog 38 #[.slice A n c, .func (.func 43) #[] #[]] w fun e w' => ∃ k : Int, e = .returned (.int .i64 k) ∧ decide (0 ≤ k) = xs.any g ∧ Below w.heap.size w w' := by
  have HL := Lib.hid hl
  have HS := Lib.hid h
  have HP0 := Lib.hid hG
  clear hl h hG
  go_enter Try.func38, Try.ntmps38
  go_wp2_with fail
  go_loopw [8] (fun i wr => ∃ k : Nat, k ≤ n ∧ i = .int .i64 (k : Nat) ∧ (xs.take k).any g = false ∧ Below w.heap.size w wr) (fun i _ => n - (intOf i).toNat)
  case atStart => exact ⟨0, Nat.zero_le _, rfl, by simp, Below.refl _ _⟩
  case round =>
    obtain ⟨k, hk, rfl, hall, hbel⟩ := hrel
    have HA := Lib.hid hall
    have HB := Lib.hid hbel
    have hs := hbel.size
    clear hall hbel
    by_cases hlt : k < n
    · skip
      obtain ⟨x, hx⟩ : ∃ x, xs[k]? = some x := ⟨xs[k]'(by rw [HL.out]; exact hlt), List.getElem?_eq_getElem _⟩
      have hmem : x ∈ xs := List.mem_of_getElem? hx
      obtain ⟨a, cs, rfl, hab, hc, hr⟩ := HS.out.at hx
      have HX := Lib.hid hx
      clear hx
      have HR := Lib.hid hr
      obtain ⟨rfl, -, -⟩ := hr
      have c0 := (HB.out.cell (p := a.add (k * 2)) (by rw [addBlock]; exact hab)).trans (hc 0 _ rfl)
      have c1 := (HB.out.cell (p := a.add (k * 2 + 1)) (by rw [addBlock]; exact hab)).trans (hc 1 _ rfl)
      rw [next_cell a (k * 2) 1 (by omega)] at c1
      have HP : Hid (∀ w1, Below w.heap.size w w1 → Calls Try.prog 43 #[.agg #[.int .i64 x.1, .int .i64 x.2]] w1 (Tells (g x) w1)) := fun w1 hb => HP0.out w1 [.int .i64 x.1, .int .i64 x.2] x hb hmem (typL.wide (typL.keep HR.out fun b hb1 => hb.block b hb1) fun b hb1 => Nat.lt_of_lt_of_le hb1 hb.size)
      clear hc
      have hk0 : 0 ≤ (k : Int) := by omega
      cases hg : g x
      · rw [hg] at HP
        have HG := Lib.hid hg
        clear hg
        go_wp2_with (first
          | (go_at_call 43
             refine (HP.out _ HB.out).mono ?_
             rintro e w2 ⟨rfl, hb2⟩
             have Hb2 := Lib.hid (HB.out.trans (hb2.mono hs))
             clear hb2))
        refine ⟨⟨k + 1, by omega, by simp, any_take HA.out HX.out HG.out, Hb2.out⟩, by simp [intOf]; omega⟩
      · rw [hg] at HP
        have e : xs.any g = true := any_here hmem hg
        have E := Lib.hid e
        clear e hg
        go_wp2_with (first
          | (go_at_call 43
             refine (HP.out _ HB.out).mono ?_
             rintro e w2 ⟨rfl, hb2⟩
             have Hb2 := Lib.hid (HB.out.trans (hb2.mono hs))
             clear hb2))
        go_ret
        exact ⟨_, rfl, by rw [E.out]; simp, Hb2.out⟩
    · obtain rfl : k = n := by omega
      go_wp2_with fail
      go_ret
      exact ⟨_, rfl, by rw [any_full HA.out HL.out]; rfl, HB.out⟩

set_option maxRecDepth 100000 in
theorem contains_wrg (A : Option Addr) (n c : Nat) (xs : List Typ) (g : Typ → Bool) (w : World) (hl : xs.length = n) (h : Sq typL (· < w.heap.size) w A xs) (hn2 : n ≤ 9223372036854775807)
    (hG : ∀ (w1 : World) (cs : List Value) (x : Typ), Below w.heap.size w w1 → x ∈ xs → typL.R (· < w1.heap.size) w1 cs x → Calls Try.prog 43 #[vAgg cs] w1 (Tells (g x) w1)) :
    Calls Try.prog 16 #[.slice A n c, .func (.func 43) #[] #[]] w (Tells (xs.any g) w) := by
  have HC := Lib.hid (index_wrg A n c xs g w hl h hn2 hG)
  clear hl h hG
  generalize xs.any g = ab at *
  go_enter Try.func16, Try.ntmps16
  go_wp2_with (first | (go_at_call 38; refine HC.out.mono ?_; rintro e w1 ⟨k, rfl, hk, hb⟩; have HB := Lib.hid hb; have HK := Lib.hid hk; clear hb hk))
  go_ret
  exact ⟨by rw [← HK.out]; rfl, HB.out⟩
end Go.Proofs.Ytpgfbnilnoopoaa
namespace Go.Proofs.Ytpgfbnilnoopoaa
open Go.RowKit
set_option linter.unusedSimpArgs false
set_option linter.unusedVariables false

theorem isHan_any (x : Typ) (w : World) (cs : List Value) (hr : typL.R (· < w.heap.size) w cs x) : Calls Try.prog 17 #[vAgg cs] w (Tells (hanB x) w) := by
  obtain ⟨rfl, -, -⟩ := hr
  show Calls Try.prog 17 #[.agg #[.int .i64 x.1, .int .i64 x.2]] w (Tells (hanB x) w)
  have HD : Hid (hanB x = (x.1 == 5)) := by show hanB x = _; rw [Bool.eq_iff_iff]; simp [hanB]
  generalize hanB x = gd at *
  generalize x.1 = q1 at *
  generalize x.2 = q2 at *
  go_enter Try.func17, Try.ntmps17
  go_wp2_with fail
  go_ret
  exact ⟨by rw [HD.out]; rfl, (Below.refl _ _).alloc (Nat.le_refl _) _⟩

theorem wrong_any (x : Typ) (w : World) (cs : List Value) (hr : typL.R (· < w.heap.size) w cs x) : Calls Try.prog 43 #[vAgg cs] w (Tells (!hostB x) w) := by
  have HC : Hid (∀ w1, Calls Try.prog 17 #[.agg #[.int .i64 x.1, .int .i64 x.2]] w1 (Tells (hanB x) w1)) := fun w1 => isHan_any x w1 _ ⟨rfl, hr.2⟩
  obtain ⟨rfl, -, -⟩ := hr
  show Calls Try.prog 43 #[.agg #[.int .i64 x.1, .int .i64 x.2]] w (Tells (!hostB x) w)
  have HB0 : Hid (∀ o : Obj, Below w.heap.size w (w.alloc o)) := fun o => (Below.refl _ _).alloc (Nat.le_refl _) _
  by_cases h : x.1 = 1
  · have HD : Hid (hostB x = true) := by show hostB x = _; simp [hostB, h]
    have b : (x.1 != 1) = false := by simpa using h
    clear h
    generalize hostB x = gd at *
    generalize x.1 = q1 at *
    generalize x.2 = q2 at *
    go_enter Try.func43, Try.ntmps43
    go_wp2_with fail
    go_ret
    exact ⟨by rw [HD.out]; rfl, HB0.out _⟩
  · have HD : Hid (hostB x = hanB x) := by show hostB x = _; simp [hostB, hanB, h]
    have b : (x.1 != 1) = true := by simpa using h
    clear h
    generalize hostB x = gd at *
    generalize hanB x = ge at *
    generalize x.1 = q1 at *
    generalize x.2 = q2 at *
    go_enter Try.func43, Try.ntmps43
    go_wp2_with (first | (go_at_call 17; refine (HC.out _).mono ?_; rintro e w1 ⟨rfl, hb⟩; have HB := Lib.hid ((HB0.out _).trans (hb.mono (by simp))); clear hb))
    go_ret
    exact ⟨by rw [HD.out]; rfl, HB.out⟩

set_option maxRecDepth 100000 in
theorem wrongImport_any (x : Imp) (w : World) (cs : List Value) (hr : impL.R (· < w.heap.size) w cs x) : Calls Try.prog 22 #[vAgg cs] w (Tells (badImp x) w) := by
  obtain ⟨p0, rfl, i1, i2, ⟨A4, d4, e4, l4, m4, s4⟩⟩ := hr
  simp only [List.cons.injEq, and_true] at e4
  subst e4
  show Calls Try.prog 22 #[.agg #[.slice A4 x.args.length d4, .int .i64 x.ret.1, .int .i64 x.ret.2]] w (Tells (badImp x) w)
  obtain ⟨n, hn⟩ : ∃ n, x.args.length = n := ⟨_, rfl⟩
  have hn2 : n ≤ 9223372036854775807 := by unfold maxLen at m4; omega
  have T0 : Hid (∀ w1, Below w.heap.size w w1 → Calls Try.prog 16 #[.slice A4 n d4, .func (.func 43) #[] #[]] w1 (Tells (x.args.any fun t => !hostB t) w1)) := fun w1 hb =>
    contains_wrg A4 n d4 x.args (fun t => !hostB t) w1 hn ((s4.keep fun b hb1 => hb.block b hb1).wide fun b hb1 => Nat.lt_of_lt_of_le hb1 hb.size) hn2 fun w2 cs y _ _ hr => wrong_any y w2 cs hr
  have T1 : Hid (∀ w1, Calls Try.prog 43 #[.agg #[.int .i64 x.ret.1, .int .i64 x.ret.2]] w1 (Tells (!hostB x.ret) w1)) := fun w1 => wrong_any x.ret w1 _ ⟨rfl, i1, i2⟩
  have HO : Hid (badImp x = ((x.args.any fun t => !hostB t) || !hostB x.ret)) := rfl
  rw [hn]
  clear hn l4 m4 s4 i1 i2
  generalize badImp x = gd at *
  generalize (x.args.any fun t => !hostB t) = b1 at *
  generalize (!hostB x.ret) = b2 at *
  generalize x.ret.1 = k1 at *
  generalize x.ret.2 = k2 at *
  have HB0 : Hid (Below w.heap.size w (w.alloc (.cells #[.slice A4 n d4, .int .i64 k1, .int .i64 k2] 42))) := (Below.refl _ _).alloc (Nat.le_refl _) _
  have HX1 : Hid (∀ w1, Below (w.alloc (.cells #[.slice A4 n d4, .int .i64 k1, .int .i64 k2] 42)).heap.size (w.alloc (.cells #[.slice A4 n d4, .int .i64 k1, .int .i64 k2] 42)) w1 → w1.cell? ⟨w.heap.size, 1, none⟩ = some (.int .i64 k1) ∧ w1.cell? ⟨w.heap.size, 2, none⟩ = some (.int .i64 k2)) := fun w1 h1 =>
    ⟨(h1.cell (p := ⟨w.heap.size, 1, none⟩) (by simp)).trans (by simp [go_sem]), (h1.cell (p := ⟨w.heap.size, 2, none⟩) (by simp)).trans (by simp [go_sem])⟩
  cases b1
  all_goals
    go_enter Try.func22, Try.ntmps22
    go_wp2_with (first
      | (go_at_call 16
         refine (T0.out _ HB0.out).mono ?_
         rintro e w1 ⟨rfl, hb1⟩
         have HB1 := Lib.hid (HB0.out.trans (hb1.mono HB0.out.size))
         obtain ⟨y1, y2⟩ := HX1.out w1 hb1
         clear hb1)
      | (go_at_call 43
         refine (T1.out _).mono ?_
         rintro e w2 ⟨rfl, hb2⟩
         have HB2 := Lib.hid (HB1.out.trans (hb2.mono HB1.out.size))
         clear hb2))
    go_ret
  · exact ⟨by rw [HO.out]; rfl, HB2.out⟩
  · exact ⟨by rw [HO.out]; rfl, HB1.out⟩
end Go.Proofs.Ytpgfbnilnoopoaa
namespace Go.Proofs.Ytpgfbnilnoopoaa
open Go.RowKit
set_option linter.unusedSimpArgs false
set_option linter.unusedVariables false

set_option maxRecDepth 100000 in
set_option maxHeartbeats 1000000 in
theorem index_mis (A : Option Addr) (n c : Nat) (xs : List Ins) (g : Ins → Bool) (p7 : Addr) (p8 : Addr) (w : World) (hl : xs.length = n) (h : Sq insL (· < w.heap.size) w A xs) (hn2 : n ≤ 9223372036854775807)
    (hG : ∀ (w1 : World) (cs : List Value) (x : Ins), Below w.heap.size w w1 → x ∈ xs → insL.R (· < w1.heap.size) w1 cs x → Calls Try.prog 40 #[vAgg cs, .pointer (some p7), .pointer (some p8)] w1 (Tells (g x) w1)) :
    Calls Try.prog 39 #[.slice A n c, .func (.func 40) #[] #[.pointer (some p7), .pointer (some p8)]] w fun e w' => ∃ k : Int, e = .returned (.int .i64 k) ∧ decide (0 ≤ k) = xs.any g ∧ Below w.heap.size w w' := by
  have HL := Lib.hid hl
  have HS := Lib.hid h
  have HP0 := Lib.hid hG
  clear hl h hG
  go_enter Try.func39, Try.ntmps39
  go_wp2_with fail
  go_loopw [8] (fun i wr => ∃ k : Nat, k ≤ n ∧ i = .int .i64 (k : Nat) ∧ (xs.take k).any g = false ∧ Below w.heap.size w wr) (fun i _ => n - (intOf i).toNat)
  case atStart => exact ⟨0, Nat.zero_le _, rfl, by simp, Below.refl _ _⟩
  case round =>
    obtain ⟨k, hk, rfl, hall, hbel⟩ := hrel
    have HA := Lib.hid hall
    have HB := Lib.hid hbel
    have hs := hbel.size
    clear hall hbel
    by_cases hlt : k < n
    · skip
      obtain ⟨x, hx⟩ : ∃ x, xs[k]? = some x := ⟨xs[k]'(by rw [HL.out]; exact hlt), List.getElem?_eq_getElem _⟩
      have hmem : x ∈ xs := List.mem_of_getElem? hx
      obtain ⟨a, cs, rfl, hab, hc, hr⟩ := HS.out.at hx
      have HX := Lib.hid hx
      clear hx
      have HR := Lib.hid hr
      obtain ⟨rfl, -, -, -⟩ := hr
      have c0 := (HB.out.cell (p := a.add (k * 3)) (by rw [addBlock]; exact hab)).trans (hc 0 _ rfl)
      have c1 := (HB.out.cell (p := a.add (k * 3 + 1)) (by rw [addBlock]; exact hab)).trans (hc 1 _ rfl)
      rw [next_cell a (k * 3) 1 (by omega)] at c1
      have c2 := (HB.out.cell (p := a.add (k * 3 + 2)) (by rw [addBlock]; exact hab)).trans (hc 2 _ rfl)
      rw [next_cell a (k * 3) 2 (by omega)] at c2
      have HP : Hid (∀ w1, Below w.heap.size w w1 → Calls Try.prog 40 #[.agg #[.int .i64 x.1, .int .i64 x.2.1, .int .i64 x.2.2], .pointer (some p7), .pointer (some p8)] w1 (Tells (g x) w1)) := fun w1 hb => HP0.out w1 [.int .i64 x.1, .int .i64 x.2.1, .int .i64 x.2.2] x hb hmem (insL.wide (insL.keep HR.out fun b hb1 => hb.block b hb1) fun b hb1 => Nat.lt_of_lt_of_le hb1 hb.size)
      clear hc
      have hk0 : 0 ≤ (k : Int) := by omega
      cases hg : g x
      · rw [hg] at HP
        have HG := Lib.hid hg
        clear hg
        go_wp2_with (first
          | (go_at_call 40
             refine (HP.out _ HB.out).mono ?_
             rintro e w2 ⟨rfl, hb2⟩
             have Hb2 := Lib.hid (HB.out.trans (hb2.mono hs))
             clear hb2))
        refine ⟨⟨k + 1, by omega, by simp, any_take HA.out HX.out HG.out, Hb2.out⟩, by simp [intOf]; omega⟩
      · rw [hg] at HP
        have e : xs.any g = true := any_here hmem hg
        have E := Lib.hid e
        clear e hg
        go_wp2_with (first
          | (go_at_call 40
             refine (HP.out _ HB.out).mono ?_
             rintro e w2 ⟨rfl, hb2⟩
             have Hb2 := Lib.hid (HB.out.trans (hb2.mono hs))
             clear hb2))
        go_ret
        exact ⟨_, rfl, by rw [E.out]; simp, Hb2.out⟩
    · obtain rfl : k = n := by omega
      go_wp2_with fail
      go_ret
      exact ⟨_, rfl, by rw [any_full HA.out HL.out]; rfl, HB.out⟩

set_option maxRecDepth 100000 in
theorem contains_mis (A : Option Addr) (n c : Nat) (xs : List Ins) (g : Ins → Bool) (p7 : Addr) (p8 : Addr) (w : World) (hl : xs.length = n) (h : Sq insL (· < w.heap.size) w A xs) (hn2 : n ≤ 9223372036854775807)
    (hG : ∀ (w1 : World) (cs : List Value) (x : Ins), Below w.heap.size w w1 → x ∈ xs → insL.R (· < w1.heap.size) w1 cs x → Calls Try.prog 40 #[vAgg cs, .pointer (some p7), .pointer (some p8)] w1 (Tells (g x) w1)) :
    Calls Try.prog 18 #[.slice A n c, .func (.func 40) #[] #[.pointer (some p7), .pointer (some p8)]] w (Tells (xs.any g) w) := by
  have HC := Lib.hid (index_mis A n c xs g p7 p8 w hl h hn2 hG)
  clear hl h hG
  generalize xs.any g = ab at *
  go_enter Try.func18, Try.ntmps18
  go_wp2_with (first | (go_at_call 39; refine HC.out.mono ?_; rintro e w1 ⟨k, rfl, hk, hb⟩; have HB := Lib.hid hb; have HK := Lib.hid hk; clear hb hk))
  go_ret
  exact ⟨by rw [← HK.out]; rfl, HB.out⟩
end Go.Proofs.Ytpgfbnilnoopoaa
