/-
  What kind's Put does: the bytes of a type's two numbers.
  Conditions: the two numbers are of 64 bits.
-/
import Derived.Test.YtcogjdpgnahjiaaNvr
import Derived.Test.YtcogjdpgnahjiaaStp
import Derived.Test.YtcogjdpgnahjiaaKwo
namespace Go.Proofs.Ytcogjdpgnahjiaa
open Go.RowKit
set_option linter.unusedSimpArgs false

/-- The bytes of a type: negative numbers as 0. -/
def typB (k n : Int) : List Nat := vb k.toNat ++ vb n.toNat

theorem typB_len (k n : Int) (hk : k ≤ 9223372036854775807) (hn : n ≤ 9223372036854775807) : (typB k n).length ≤ 20 := by
  have h1 := vb_len 9 k.toNat (by simp; omega)
  have h2 := vb_len 9 n.toNat (by simp; omega)
  simp [typB]
  omega

theorem own_wide {w : World} {b b' : Nat} {v : Value} {n : Nat} {xs : List Value} (h : w.ownsRow b 5 1 v n xs) (hb : b' ≤ b) : w.ownsRow b' 5 1 v n xs := by
  refine ⟨h.1, ?_⟩
  rcases h.2 with h | ⟨g', cap, cur, e, hb2, rest⟩
  · exact .inl h
  · exact .inr ⟨g', cap, cur, e, Nat.le_trans hb hb2, rest⟩

theorem putNumber_any (n : Int) (w : World) (h : -9223372036854775808 ≤ n ∧ n ≤ 9223372036854775807) :
    Calls Try.prog 23 #[.int .i64 n] w fun e w' => ∃ u, e = .returned u ∧ w'.ownsRow w.heap.size 5 1 u (vb n.toNat).length (Bs (vb n.toNat)) ∧ Below w.heap.size w w' := by
  by_cases h0 : 0 ≤ n
  · obtain ⟨m, rfl⟩ : ∃ m : Nat, n = (m : Int) := ⟨n.toNat, by omega⟩
    have hm : m < B64 := by unfold B64; omega
    go_enter Try.func23, Try.ntmps23
    go_wp2_with (first | (go_at_call 28; refine (var_any m _ hm).mono ?_; rintro e w1 ⟨u, rfl, hown, hb⟩))
    go_ret
    exact ⟨_, rfl, hown, hb⟩
  · go_enter Try.func23, Try.ntmps23
    go_wp2_with (first | (go_at_call 28; refine (var_any 0 _ (by decide)).mono ?_; rintro e w1 ⟨u, rfl, hown, hb⟩))
    go_ret
    have e : n.toNat = 0 := by omega
    rw [e]
    exact ⟨_, rfl, hown, hb⟩

set_option maxHeartbeats 1000000 in
theorem kput (k n : Int) (w : World) (hk : -9223372036854775808 ≤ k ∧ k ≤ 9223372036854775807) (hn : -9223372036854775808 ≤ n ∧ n ≤ 9223372036854775807) :
    Calls Try.prog 17 #[.agg #[.int .i64 k, .int .i64 n]] w fun e w' => ∃ u, e = .returned u ∧ w'.ownsRow w.heap.size 5 1 u (typB k n).length (Bs (typB k n)) ∧ Below w.heap.size w w' := by
  have PK := Lib.hid (fun w => putNumber_any k w hk)
  have PN := Lib.hid (fun w => putNumber_any n w hn)
  have hl : (vb k.toNat).length + (vb n.toNat).length ≤ 140737488355328 := by
    have := typB_len k n hk.2 hn.2
    simp [typB] at this
    omega
  clear hk hn
  go_enter Try.func17, Try.ntmps17
  go_wp2_with fail
  refine wp_world fun W hW => ?_
  have c0 : W.cell? ⟨w.heap.size, 0, none⟩ = some (.int .i64 k) := by rw [hW]; simp [go_sem]
  have c1 : W.cell? ⟨w.heap.size, 1, none⟩ = some (.int .i64 n) := by rw [hW]; simp [go_sem]
  have HB0 : Hid (Below w.heap.size w W) := by
    show Below w.heap.size w W
    rw [hW]
    exact (Below.refl _ _).alloc (Nat.le_refl _) _
  have hs : w.heap.size < W.heap.size := by rw [hW]; simp
  clear hW
  have C1 := Lib.hid c1
  go_region_law (first
    | (with_reducible refine step_is (.tmp 5) (.tmp 8) 31 ?_
       refine step_append _ rfl (.tmp 5) (.tmp 8) rfl W.heap.size u1 (vb k.toNat).length (vb k.toNat) rfl HO1.out A2 (vb n.toNat).length c2 (vb n.toNat) rfl rfl _ HY2.out hl HS2.out ?_
       intro v3 w3 hown3 hg3 _
       have HO3 := Lib.hid hown3
       have HB3 := Lib.hid (HB2.out.grown hg3 HS2.out (fun i hi => (HO1.out.lt i hi).1))
       clear hown3 hg3)
    | (with_reducible refine step_call 23 ?_
       go_simp
       go_at_call 23
       with_reducible refine (PK.out _).mono ?_
       rintro e w1 ⟨u1, rfl, hown1, hb1⟩
       have HP1 := Lib.hid hown1
       have HB1 := Lib.hid (hb1.mono (Nat.le_refl W.heap.size))
       have hcell1 : w1.cell? ⟨w.heap.size, 1, none⟩ = some (.int .i64 n) := (hb1.cell (p := ⟨w.heap.size, 1, none⟩) hs).trans C1.out
       clear hown1 hb1)
    | (with_reducible refine step_call 23 ?_
       go_simp
       go_at_call 23
       with_reducible refine (PN.out _).mono ?_
       rintro e w2 ⟨u2, rfl, hown2, hb2⟩
       obtain ⟨A2, c2, rfl, -, -, -, hY2⟩ := own_slice hown2
       have HY2 := Lib.hid hY2
       have HB2 := Lib.hid (HB1.out.trans (hb2.mono HB1.out.size))
       have HO1 := Lib.hid (own_below HP1.out hb2 (Nat.le_refl _))
       have HS2 := Lib.hid HB2.out.size
       clear hown2 hY2 hb2))
  all_goals
    go_wp2_with fail
    go_ret
    refine ⟨_, rfl, ?_, HB0.out.drew.trans (HB3.out.mono HB0.out.size)⟩
    rw [show (typB k n).length = (vb k.toNat).length + (vb n.toNat).length by simp [typB]]
    exact own_wide HO3.out HB0.out.size
end Go.Proofs.Ytcogjdpgnahjiaa
