/-
  The call that every law of layer 3 makes ('answers') hands back true.
  Conditions: none.
-/
import Derived.Test.YtjjfifgkklpkkaaPjn
import Derived.Test.YtjjfifgkklpkkaaPsp
import Derived.Lib.SlBytesConst
import Derived.Shelf.Bytes.SlEqualAll
namespace Go.Proofs.Ytjjfifgkklpkkaa
open Go.RowKit

theorem byt_a (w : World) : Byt (· < (w.alloc (.cells #[.int .u8 97] 5 (1, 2))).heap.size) (w.alloc (.cells #[.int .u8 97] 5 (1, 2))) (some ⟨w.heap.size, 0, none⟩) [97] := fun _ =>
  ⟨_, rfl, by simp, fun j hj => by
    have e : (⟨w.heap.size, 0, none⟩ : Addr).add j = ⟨w.heap.size, j, none⟩ := by unfold Addr.add; split <;> simp_all
    rw [e, World.cell?_alloc_mark]
    obtain rfl : j = 0 := by simp at hj; omega
    rfl⟩
theorem byt_in {S : Nat → Prop} {w : World} {A : Option Addr} {xs : List Nat} (h : Byt S w A xs) : Lib.BytesIn w A xs.length (xs.map fun x : Nat => (x : Int)) := by
  rcases Nat.eq_zero_or_pos xs.length with h0 | h0
  · rw [h0]
    exact Lib.BytesIn.nil _ _ _
  · obtain ⟨a, rfl, _, hc⟩ := h h0
    refine Lib.BytesIn.of_cells fun i hi => ?_
    rw [hc i hi]
    simp [hi, List.getD]
theorem str_a : ((strOfNums [97]).toList == [97]) = true := by decide +kernel

theorem join_a : joinB [[97], []] = [2, 1, 97, 0] := by
  unfold joinB pts
  simp [pt, vb_small]

set_option maxRecDepth 100000 in
set_option maxHeartbeats 1000000 in
theorem answers3 (w : World) : Calls Try.prog 8 #[] w fun e w' => e = .returned (.bool true) ∧ Below w.heap.size w w' := by
  have kc := fun (w : World) (C : Array Value) (n c : Nat) => Lib.run_convert_bytes_const (P := Try.prog) w 24 5 C n c Try.underlying24 Try.underlying5
  go_enter Try.func8, Try.ntmps8
  go_wp2_with fail
  have HR := Lib.hid (rws_two (w.alloc (.cells #[.int .u8 97] 5 (1, 2))) (some ⟨w.heap.size, 0, none⟩) none 1 0 1 0 [97] [] rfl rfl (Nat.le_refl _) (Nat.le_refl _) (byt_a w) (Byt.nil _ _ _))
  simp at HR
  have HB0 : Hid (Below w.heap.size w ((w.alloc (.cells #[.int .u8 97] 5 (1, 2))).alloc (.cells #[.slice (some ⟨w.heap.size, 0, none⟩) 1 1, .slice none 0 0] 24))) := ((Below.refl _ w).alloc (Nat.le_refl _) _).alloc (by simp) _
  refine (join_any _ 2 2 [[97], []] _ rfl (by simpa using HR.out) (by rw [join_a]; simp)).mono ?_
  rintro e w1 ⟨v1, rfl, hown1, hb1⟩
  rw [join_a] at hown1
  obtain ⟨A1, c1, rfl, -, hc1, -, hB1⟩ := own_slice hown1
  have HB1 := Lib.hid hB1
  have Hb1 : Hid (Below w.heap.size w w1) := HB0.out.trans (hb1.mono (by simp; omega))
  clear hown1 hB1 hb1 kc HR HB0
  go_wp2_with fail
  refine (split_any A1 _ c1 [2, 1, 97, 0] 2 w1 rfl (by simp) (HB1.out.wide fun b hb => hb.2) (by simp) (by omega)).mono ?_
  rintro e w2 ⟨hb2, ⟨xss, A2, c2, hj, rfl, -, hR2⟩ | ⟨hno, -⟩⟩
  · obtain rfl : xss = [[97], []] := join_unique (by unfold B64; simp) hj.1 join_a.symm
    have Hb2 : Hid (Below w.heap.size w w2) := Hb1.out.trans (hb2.mono Hb1.out.size)
    obtain ⟨a2, B2, c3, rfl, -, hcell, -, hB3⟩ := hR2.at (k := 0) (by simp)
    have kv := (byt_in hB3).convert (P := Try.prog) (by simp) c3 24 5 9 Try.underlying24 Try.underlying5 Try.underlying9
    simp [Addr.add] at hcell kv
    clear hb2 hj hR2 hB3
    have ks : ((strOfNums [97]).toList == [97]) = true := str_a
    go_wp2_with fail
    go_ret
    exact ⟨rfl, Hb2.out⟩
  · exact absurd ⟨_, join_a.symm, by simp⟩ hno
end Go.Proofs.Ytjjfifgkklpkkaa
