/-
  What the document's Type does: the bytes of a type's two numbers.
  Conditions: the two numbers are of 64 bits.
-/
import Derived.Test.YtcogjdpgnahjiaaRvr
import Derived.Test.YtcogjdpgnahjiaaKpt
import Derived.BigQuiet
namespace Go.Proofs.Ytcogjdpgnahjiaa
open Go.RowKit
set_option linter.unusedSimpArgs false

set_option maxHeartbeats 1000000 in
theorem rtype (k n : Int) (w : World) (hk : -9223372036854775808 ≤ k ∧ k ≤ 9223372036854775807) (hn : -9223372036854775808 ≤ n ∧ n ≤ 9223372036854775807) :
    Calls Try.prog 21 #[.agg #[.int .i64 k, .int .i64 n]] w fun e w' => ∃ u, e = .returned u ∧ w'.ownsRow w.heap.size 5 1 u (typB k n).length (Bs (typB k n)) ∧ Below w.heap.size w w' := by
  have hl : (vb k.toNat).length + (vb n.toNat).length ≤ 140737488355328 := by
    have := typB_len k n hk.2 hn.2
    simp [typB] at this
    omega
  have hk64 : k.toNat < B64 := by unfold B64; omega
  have hn64 : n.toNat < B64 := by unfold B64; omega
  unfold typB
  by_cases h1 : k < 0
  · rw [show k.toNat = 0 by omega] at hl hk64 ⊢
    by_cases h2 : n < 0
    · rw [show n.toNat = 0 by omega] at hl hn64 ⊢
      go_enter Try.func21, Try.ntmps21
      go_wp2_with fail
      refine wp_world fun W hW => ?_
      have c0 : W.cell? ⟨w.heap.size, 0, none⟩ = some (.int .i64 k) := by rw [hW]; simp [go_sem]
      have c1 : W.cell? ⟨w.heap.size, 1, none⟩ = some (.int .i64 n) := by rw [hW]; simp [go_sem]
      have HB0 : Hid (Below w.heap.size w W) := by
        show Below w.heap.size w W
        rw [hW]
        exact (Below.refl _ _).alloc (Nat.le_refl _) _
      clear hW
      go_quiet (fail)
      generalize hW1 : World.drewN W _ = W1
      have HB0' : Hid (Below w.heap.size w W1) := by
        show Below w.heap.size w W1
        rw [← hW1]
        exact ⟨HB0.out.os, HB0.out.tape, HB0.out.output, HB0.out.size, HB0.out.block⟩
      clear hW1 c0 c1 HB0
      go_wp2_with (first
        | (at_builtin
           refine walk_append _ rfl (.tmp 15) (.tmp 18) rfl W1.heap.size u1 (vb 0).length (vb 0) rfl HO1.out A2 (vb 0).length c2 (vb 0) rfl rfl _ HY2.out hl HS2.out ?_
           intro v3 w3 hown3 hg3 _
           have HO3 := Lib.hid hown3
           have HB3 := Lib.hid (HB2.out.grown hg3 HS2.out (fun i hi => (HO1.out.lt i hi).1))
           clear hown3 hg3)
        | (go_at_call 27
           have hp := HP1.out
           clear hp
           refine (refVar_any 0 _ (by decide)).mono ?_
           rintro e w2 ⟨u2, rfl, hown2, hb2⟩
           obtain ⟨A2, c2, rfl, -, -, -, hY2⟩ := own_slice hown2
           have HY2 := Lib.hid hY2
           have HB2 := Lib.hid (HB1.out.trans (hb2.mono HB1.out.size))
           have HO1 := Lib.hid (own_below HP1.out hb2 (Nat.le_refl _))
           have HS2 := Lib.hid HB2.out.size
           clear hown2 hY2 hb2)
        | (go_at_call 27
           refine (refVar_any 0 _ (by decide)).mono ?_
           rintro e w1 ⟨u1, rfl, hown1, hb1⟩
           have HP1 := Lib.hid hown1
           have HB1 := Lib.hid (hb1.mono (Nat.le_refl W1.heap.size))
           clear hown1 hb1))
      go_ret
      refine ⟨_, rfl, ?_, HB0'.out.trans (HB3.out.mono HB0'.out.size)⟩
      rw [List.length_append]
      exact own_wide HO3.out HB0'.out.size
    · obtain ⟨b, rfl⟩ : ∃ b : Nat, n = (b : Int) := ⟨n.toNat, by omega⟩
      rw [Int.toNat_natCast] at hl hn64 ⊢
      go_enter Try.func21, Try.ntmps21
      go_wp2_with fail
      refine wp_world fun W hW => ?_
      have c0 : W.cell? ⟨w.heap.size, 0, none⟩ = some (.int .i64 k) := by rw [hW]; simp [go_sem]
      have c1 : W.cell? ⟨w.heap.size, 1, none⟩ = some (.int .i64 (b : Int)) := by rw [hW]; simp [go_sem]
      have HB0 : Hid (Below w.heap.size w W) := by
        show Below w.heap.size w W
        rw [hW]
        exact (Below.refl _ _).alloc (Nat.le_refl _) _
      clear hW
      go_quiet (fail)
      generalize hW1 : World.drewN W _ = W1
      have HB0' : Hid (Below w.heap.size w W1) := by
        show Below w.heap.size w W1
        rw [← hW1]
        exact ⟨HB0.out.os, HB0.out.tape, HB0.out.output, HB0.out.size, HB0.out.block⟩
      clear hW1 c0 c1 HB0
      go_wp2_with (first
        | (at_builtin
           refine walk_append _ rfl (.tmp 15) (.tmp 18) rfl W1.heap.size u1 (vb 0).length (vb 0) rfl HO1.out A2 (vb b).length c2 (vb b) rfl rfl _ HY2.out hl HS2.out ?_
           intro v3 w3 hown3 hg3 _
           have HO3 := Lib.hid hown3
           have HB3 := Lib.hid (HB2.out.grown hg3 HS2.out (fun i hi => (HO1.out.lt i hi).1))
           clear hown3 hg3)
        | (go_at_call 27
           have hp := HP1.out
           clear hp
           refine (refVar_any b _ hn64).mono ?_
           rintro e w2 ⟨u2, rfl, hown2, hb2⟩
           obtain ⟨A2, c2, rfl, -, -, -, hY2⟩ := own_slice hown2
           have HY2 := Lib.hid hY2
           have HB2 := Lib.hid (HB1.out.trans (hb2.mono HB1.out.size))
           have HO1 := Lib.hid (own_below HP1.out hb2 (Nat.le_refl _))
           have HS2 := Lib.hid HB2.out.size
           clear hown2 hY2 hb2)
        | (go_at_call 27
           refine (refVar_any 0 _ (by decide)).mono ?_
           rintro e w1 ⟨u1, rfl, hown1, hb1⟩
           have HP1 := Lib.hid hown1
           have HB1 := Lib.hid (hb1.mono (Nat.le_refl W1.heap.size))
           clear hown1 hb1))
      go_ret
      refine ⟨_, rfl, ?_, HB0'.out.trans (HB3.out.mono HB0'.out.size)⟩
      rw [List.length_append]
      exact own_wide HO3.out HB0'.out.size
  · obtain ⟨a, rfl⟩ : ∃ a : Nat, k = (a : Int) := ⟨k.toNat, by omega⟩
    rw [Int.toNat_natCast] at hl hk64 ⊢
    by_cases h2 : n < 0
    · rw [show n.toNat = 0 by omega] at hl hn64 ⊢
      go_enter Try.func21, Try.ntmps21
      go_wp2_with fail
      refine wp_world fun W hW => ?_
      have c0 : W.cell? ⟨w.heap.size, 0, none⟩ = some (.int .i64 (a : Int)) := by rw [hW]; simp [go_sem]
      have c1 : W.cell? ⟨w.heap.size, 1, none⟩ = some (.int .i64 n) := by rw [hW]; simp [go_sem]
      have HB0 : Hid (Below w.heap.size w W) := by
        show Below w.heap.size w W
        rw [hW]
        exact (Below.refl _ _).alloc (Nat.le_refl _) _
      clear hW
      go_quiet (fail)
      generalize hW1 : World.drewN W _ = W1
      have HB0' : Hid (Below w.heap.size w W1) := by
        show Below w.heap.size w W1
        rw [← hW1]
        exact ⟨HB0.out.os, HB0.out.tape, HB0.out.output, HB0.out.size, HB0.out.block⟩
      clear hW1 c0 c1 HB0
      go_wp2_with (first
        | (at_builtin
           refine walk_append _ rfl (.tmp 15) (.tmp 18) rfl W1.heap.size u1 (vb a).length (vb a) rfl HO1.out A2 (vb 0).length c2 (vb 0) rfl rfl _ HY2.out hl HS2.out ?_
           intro v3 w3 hown3 hg3 _
           have HO3 := Lib.hid hown3
           have HB3 := Lib.hid (HB2.out.grown hg3 HS2.out (fun i hi => (HO1.out.lt i hi).1))
           clear hown3 hg3)
        | (go_at_call 27
           have hp := HP1.out
           clear hp
           refine (refVar_any 0 _ (by decide)).mono ?_
           rintro e w2 ⟨u2, rfl, hown2, hb2⟩
           obtain ⟨A2, c2, rfl, -, -, -, hY2⟩ := own_slice hown2
           have HY2 := Lib.hid hY2
           have HB2 := Lib.hid (HB1.out.trans (hb2.mono HB1.out.size))
           have HO1 := Lib.hid (own_below HP1.out hb2 (Nat.le_refl _))
           have HS2 := Lib.hid HB2.out.size
           clear hown2 hY2 hb2)
        | (go_at_call 27
           refine (refVar_any a _ hk64).mono ?_
           rintro e w1 ⟨u1, rfl, hown1, hb1⟩
           have HP1 := Lib.hid hown1
           have HB1 := Lib.hid (hb1.mono (Nat.le_refl W1.heap.size))
           clear hown1 hb1))
      go_ret
      refine ⟨_, rfl, ?_, HB0'.out.trans (HB3.out.mono HB0'.out.size)⟩
      rw [List.length_append]
      exact own_wide HO3.out HB0'.out.size
    · obtain ⟨b, rfl⟩ : ∃ b : Nat, n = (b : Int) := ⟨n.toNat, by omega⟩
      rw [Int.toNat_natCast] at hl hn64 ⊢
      go_enter Try.func21, Try.ntmps21
      go_wp2_with fail
      refine wp_world fun W hW => ?_
      have c0 : W.cell? ⟨w.heap.size, 0, none⟩ = some (.int .i64 (a : Int)) := by rw [hW]; simp [go_sem]
      have c1 : W.cell? ⟨w.heap.size, 1, none⟩ = some (.int .i64 (b : Int)) := by rw [hW]; simp [go_sem]
      have HB0 : Hid (Below w.heap.size w W) := by
        show Below w.heap.size w W
        rw [hW]
        exact (Below.refl _ _).alloc (Nat.le_refl _) _
      clear hW
      go_quiet (fail)
      generalize hW1 : World.drewN W _ = W1
      have HB0' : Hid (Below w.heap.size w W1) := by
        show Below w.heap.size w W1
        rw [← hW1]
        exact ⟨HB0.out.os, HB0.out.tape, HB0.out.output, HB0.out.size, HB0.out.block⟩
      clear hW1 c0 c1 HB0
      go_wp2_with (first
        | (at_builtin
           refine walk_append _ rfl (.tmp 15) (.tmp 18) rfl W1.heap.size u1 (vb a).length (vb a) rfl HO1.out A2 (vb b).length c2 (vb b) rfl rfl _ HY2.out hl HS2.out ?_
           intro v3 w3 hown3 hg3 _
           have HO3 := Lib.hid hown3
           have HB3 := Lib.hid (HB2.out.grown hg3 HS2.out (fun i hi => (HO1.out.lt i hi).1))
           clear hown3 hg3)
        | (go_at_call 27
           have hp := HP1.out
           clear hp
           refine (refVar_any b _ hn64).mono ?_
           rintro e w2 ⟨u2, rfl, hown2, hb2⟩
           obtain ⟨A2, c2, rfl, -, -, -, hY2⟩ := own_slice hown2
           have HY2 := Lib.hid hY2
           have HB2 := Lib.hid (HB1.out.trans (hb2.mono HB1.out.size))
           have HO1 := Lib.hid (own_below HP1.out hb2 (Nat.le_refl _))
           have HS2 := Lib.hid HB2.out.size
           clear hown2 hY2 hb2)
        | (go_at_call 27
           refine (refVar_any a _ hk64).mono ?_
           rintro e w1 ⟨u1, rfl, hown1, hb1⟩
           have HP1 := Lib.hid hown1
           have HB1 := Lib.hid (hb1.mono (Nat.le_refl W1.heap.size))
           clear hown1 hb1))
      go_ret
      refine ⟨_, rfl, ?_, HB0'.out.trans (HB3.out.mono HB0'.out.size)⟩
      rw [List.length_append]
      exact own_wide HO3.out HB0'.out.size
end Go.Proofs.Ytcogjdpgnahjiaa
