/-
  What num.Fixed does: the lowest bytes of a number.
  Conditions: as each theorem says.
-/
import Derived.Test.YtolofgifcjkaaaaWid
import Derived.Test.YtolofgifcjkaaaaLe
import Derived.Test.YtolofgifcjkaaaaMath
namespace Go.Proofs.Ytolofgifcjkaaaa
open Go.RowKit
/-- The same, of which but the first i stand there yet. -/
def fz (v m i : Nat) : List Nat := (List.range m).map fun j => if j < i then v / 256 ^ j % 256 else 0
theorem fz_length (v m i : Nat) : (fz v m i).length = m := by simp [fz]
theorem fz_all (v m : Nat) : fz v m m = fb v m := by
  unfold fz fb
  refine List.map_congr_left fun j hj => ?_
  rw [if_pos (List.mem_range.1 hj)]
theorem fz_zero (v m : Nat) : Bs (fz v m 0) = List.replicate m (.int .u8 0) := by
  unfold Bs fz
  rw [List.eq_replicate_iff]
  refine ⟨by simp, fun b hb => ?_⟩
  simp at hb
  exact hb.2.symm
theorem fz_set (v m i : Nat) : (Bs (fz v m i)).set i (.int .u8 ((v / 256 ^ i % 256 : Nat) : Int)) = Bs (fz v m (i + 1)) := by
  apply List.ext_getElem
  · simp [Bs, fz]
  · intro j h1 h2
    simp only [Bs, fz, List.getElem_set, List.getElem_map, List.getElem_range]
    by_cases hij : i = j
    · subst hij; simp
    · rw [if_neg hij]
      by_cases hj : j < i
      · rw [if_pos hj, if_pos (by omega)]
      · rw [if_neg hj, if_neg (by omega)]
theorem shr_byte (v k : Nat) : (v : Int) / 2 ^ (8 * k) % 256 = ((v / 256 ^ k % 256 : Nat) : Int) := by
  have : (256 : Nat) ^ k = 2 ^ (8 * k) := by rw [Nat.pow_mul]
  rw [this]
  simp

set_option maxRecDepth 100000 in
set_option maxHeartbeats 1000000 in
theorem fixed_any (v : Nat) (n : Int) (w : World) (hv : v < B64) :
    Calls Try.prog 17 #[.int .u64 (v : Nat), .int .i64 n] w fun e w' => ∃ u, e = .returned u ∧ w'.ownsRow w.heap.size 5 1 u (wid n) (Bs (fb v (wid n))) ∧ Below w.heap.size w w' := by
  obtain ⟨i0, hi0, hz0, hz1, hz2⟩ := info_parts u8_info
  have hw8 := wid_le n
  have HV := Lib.hid hv
  clear hv
  go_enter Try.func17, Try.ntmps17
  go_wp2_with fail
  refine (width_any n w).mono ?_
  rintro e w' ⟨rfl, rfl⟩
  obtain ⟨m, hm⟩ : ∃ m, wid n = m := ⟨_, rfl⟩
  rw [hm] at hw8 ⊢
  have HM := Lib.hid hm
  clear hm
  have hby : i0.bytes * m ≤ 281474976710656 := by rw [hz2]; omega
  have hml : m ≤ maxLen := by simp [maxLen]; omega
  go_wp2_with (at_make
               refine wpList_make_full _ rfl (.tmp 8) (.tmp 8) 24 rfl w.heap.size 5 i0 (.int .u8 0) 1 Try.underlying24 hi0 hz0 hz1 .i64 .i64 m m m rfl rfl rfl rfl hby hml (Nat.le_refl _) ?_
               intro w1 hown1 hg1)
  have hown2 : w1.ownsRow w.heap.size 5 1 (.slice (some ⟨w.heap.size, 0, none⟩) m m) m (Bs (fz v m 0)) := by
    rw [fz_zero]
    have := hown1
    rw [Nat.mul_one] at this
    have e : (madeCells (Value.int .u8 0).cells m).toList = List.replicate m (.int .u8 0) := toList_madeCells_one _ _
    rw [e] at this
    exact this
  have hb1 : Below w.heap.size w w1 := (Below.refl _ w).grown hg1 (Nat.le_refl _) (fun k hk => by cases hk)
  clear hown1 hg1
  go_loopw [12] (fun i wr => ∃ k : Nat, k ≤ m ∧ i = .int .i64 (k : Nat) ∧ wr.ownsRow w.heap.size 5 1 (.slice (some ⟨w.heap.size, 0, none⟩) m m) m (Bs (fz v m k)) ∧ Below w.heap.size w wr) (fun i _ => m - (intOf i).toNat)
  case atStart => exact ⟨0, Nat.zero_le _, rfl, hown2, hb1⟩
  case round =>
    obtain ⟨k, hk, rfl, hown, hbel⟩ := hrel
    have HO := Lib.hid hown
    clear hown2 hb1
    by_cases hlt : k < m
    · have hc := hown.cellAt k (by omega)
      rw [Bs_get _ _ (by rw [fz_length]; exact hlt)] at hc
      have hf := hown.frozenAt k
      clear hown
      go_wp2
      have hst := HO.out.stored k (.int .u8 ((v / 256 ^ k % 256 : Nat) : Int))
      rw [fz_set] at hst
      rw [shr_byte v k]
      exact ⟨⟨k + 1, by omega, by simp, hst.1, hbel.setCell (p := ⟨w.heap.size, k, none⟩) (Nat.le_refl _) _⟩, by simp [intOf]; omega⟩
    · obtain rfl : k = m := by omega
      clear hown
      go_wp2
      go_ret
      refine ⟨_, rfl, ?_, hbel⟩
      rw [HM.out, ← fz_all]
      exact HO.out
end Go.Proofs.Ytolofgifcjkaaaa
