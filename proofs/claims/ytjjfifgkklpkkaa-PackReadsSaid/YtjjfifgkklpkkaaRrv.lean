/-
  What the document's own ReadVar does: the number that bytes begin with, and how many bytes it takes; or that there is none.
  Conditions: as each theorem says.
-/
import Derived.Test.YtjjfifgkklpkkaaSme
import Derived.Test.YtjjfifgkklpkkaaRvr
import Derived.Deep.RegionWith
namespace Go.Proofs.Ytjjfifgkklpkkaa
open Go.RowKit

/-- What ReadVar answers. -/
def RV (xs : List Nat) (w : World) (e : Ending) (w' : World) : Prop :=
  Below w.heap.size w w' ∧ ((∃ v n : Nat, IsVar xs v n ∧ e = .returned (.tuple #[.int .u64 (v : Nat), .int .i64 (n : Nat)])) ∨
    ((¬ ∃ v n, IsVar xs v n) ∧ e = .returned (.tuple #[.int .u64 0, .int .i64 0])))

theorem or_mod (s z k : Nat) (hs : s < 128 ^ k) (hk : k ≤ 9) :
    bits .or .u64 (s : Int) (IntKind.u64.wrap (((z : Nat) : Int) * 2 ^ (7 * k))) = (((s + z * 128 ^ k) % B64 : Nat) : Int) := by
  have e4 : (2 : Nat) ^ (7 * k) = 128 ^ k := by rw [Nat.pow_mul]
  have e2 : (2 : Int) ^ (7 * k) = ((128 ^ k : Nat) : Int) := by rw [← e4, Int.natCast_pow]; rfl
  have eB : B64 = 128 ^ k * 2 ^ (64 - 7 * k) := by
    rw [← e4, ← Nat.pow_add, show 7 * k + (64 - 7 * k) = 64 by omega]; rfl
  obtain ⟨d, hd⟩ : ∃ d : Nat, 128 ^ k = d := ⟨_, rfl⟩
  obtain ⟨f, hf⟩ : ∃ f : Nat, 2 ^ (64 - 7 * k) = f := ⟨_, rfl⟩
  have hf0 : 0 < f := by rw [← hf]; exact Nat.pow_pos (by omega)
  have hpd : d ≤ 9223372036854775808 := by rw [← hd]; exact pow128 k hk
  have ed : (2 : Nat) ^ (7 * k) = d := by rw [e4, hd]
  rw [hd] at hs e2 eB ⊢
  rw [hf] at eB
  have hz : z * d % B64 = d * (z % f) := by rw [eB, Nat.mul_comm z d, Nat.mul_mod_mul_left]
  have hq : z % f < f := Nat.mod_lt _ hf0
  have hle : d * (z % f) + d ≤ B64 := by rw [eB, ← Nat.mul_succ]; exact Nat.mul_le_mul_left d hq
  obtain ⟨y, hy⟩ : ∃ y, d * (z % f) = y := ⟨_, rfl⟩
  have hyd : y % 2 ^ (7 * k) = 0 := by rw [← hy, ed]; exact Nat.mul_mod_right _ _
  have hsum : (s + z * d) % B64 = s + y := by
    rw [Nat.add_mod, hz, hy, Nat.mod_eq_of_lt (show s < B64 by omega), Nat.mod_eq_of_lt (by omega)]
  rw [hy] at hle
  have hB : B64 = 18446744073709551616 := rfl
  have hw : IntKind.u64.wrap ((z : Int) * (d : Int)) = (y : Int) := by
    rw [IntKind.wrap_u64, ← Int.natCast_mul]
    rw [hy, hB] at hz
    omega
  rw [e2, hw, u64_or_nat _ _ (by omega) (by omega), Nat.or_comm, nat_join (7 * k) y s hyd (by rw [ed]; exact hs), hsum, Nat.add_comm]

theorem or_read (xs : List Nat) (k x s : Nat) (hk : k < xs.length) (hk9 : k ≤ 9) (hx : xs[k]?.getD 0 = x) (hs : sv (xs.take k) % B64 = s) :
    bits .or .u64 (s : Int) (IntKind.u64.wrap ((x : Int) % 128 * 2 ^ (7 * k))) = ((sv (xs.take (k + 1)) % B64 : Nat) : Int) := by
  have h1 := take_lt xs k (by omega)
  have h2 := pow128 k hk9
  rw [Nat.mod_eq_of_lt (by unfold B64; omega)] at hs
  rw [sv_take xs k hk, hx, hs, show (x : Int) % 128 = ((x % 128 : Nat) : Int) by omega]
  exact or_mod s (x % 128) k (by rw [← hs]; exact h1) hk9

/-- Where the first byte below 128 stands at k: the row up to it is a number's, or there is none. -/
theorem read_yes {xs : List Nat} {k u : Nat} (hk : k < xs.length) (hu : u < B64) (h : vb u = xs.take (k + 1)) : IsVar xs u (k + 1) := ⟨hk, h.symm, hu⟩

theorem read_no {xs : List Nat} {k u : Nat} (hm : More xs k) (hx : xs[k]?.getD 0 < 128) (hu : sv (xs.take (k + 1)) % B64 = u) (h : ¬ vb u = xs.take (k + 1)) : ¬ ∃ v n, IsVar xs v n := by
  rintro ⟨v, n, hv⟩
  have h1 := hm.past hv
  have h2 : n = k + 1 := by
    rcases Nat.lt_or_ge (k + 1) n with h2 | h2
    · have := hv.init k h2
      omega
    · omega
  subst h2
  apply h
  rw [← hu, hv.2.1, sv_vb, Nat.mod_eq_of_lt hv.2.2]

set_option maxRecDepth 100000 in
set_option maxHeartbeats 2000000 in
theorem readVar_any (A : Option Addr) (c : Nat) (xs : List Nat) (w : World) (hB : Byt (· < w.heap.size) w A xs) (hb : ∀ x ∈ xs, x < 256) (_hc : xs.length ≤ 140737488355328) (hlc : xs.length ≤ c) :
    Calls Try.prog 22 #[.slice A xs.length c] w (RV xs w) := by
  have HB := Lib.hid hB
  have Hb := Lib.hid hb
  clear hB hb
  go_enter Try.func22, Try.ntmps22
  go_wp2
  go_loop [4, 5] (fun v i => ∃ k : Nat, More xs k ∧ k ≤ 10 ∧ i = .int .i64 (k : Nat) ∧ v = .int .u64 ((sv (xs.take k) % B64 : Nat) : Int)) (fun _ i => 10 - (intOf i).toNat)
  case atStart => exact ⟨0, More.zero xs, by omega, rfl, by simp [sv]⟩
  case round =>
    obtain ⟨k, hm, hk10, rfl, rfl⟩ := hrel
    have HM := Lib.hid hm
    have hkl := hm.1
    clear hm
    obtain ⟨s, hs⟩ : ∃ s, sv (xs.take k) % B64 = s := ⟨_, rfl⟩
    rw [hs]
    have HS := Lib.hid hs
    clear hs
    by_cases hlt : k < xs.length ∧ k < 10
    · obtain ⟨hlt1, hlt2⟩ := hlt
      obtain ⟨a, rfl, _, hcell⟩ := HB.out.at (k := k) hlt1
      obtain ⟨x, hx⟩ : ∃ x, xs[k]?.getD 0 = x := ⟨_, rfl⟩
      rw [hx] at hcell
      have HX := Lib.hid hx
      have hx256 : x < 256 := by
        rw [← hx]
        simp only [hlt1, List.getElem?_eq_getElem, Option.getD_some]
        exact Hb.out _ (List.getElem_mem hlt1)
      clear hx
      obtain ⟨u, hu⟩ : ∃ u, sv (xs.take (k + 1)) % B64 = u := ⟨_, rfl⟩
      have eu := or_read xs k x s hlt1 (by omega) HX.out HS.out
      rw [hu] at eu
      have HU := Lib.hid hu
      have hu64 : Hid (u < B64) := by rw [← hu]; exact Nat.mod_lt _ (by unfold B64; omega)
      clear hu
      by_cases h128 : x < 128
      · have d2 : decide ((x : Int) < 128) = true := by simp; omega
        have k1 : IntKind.i64.wrap ((k : Int) + 1) = (k : Int) + 1 := by rw [IntKind.wrap_i64]; omega
        have k2 : 0 ≤ (k : Int) + 1 := by omega
        have k3 : ((k : Int) + 1).toNat = k + 1 := by omega
        have k4 : (k : Int) + 1 ≤ (c : Int) := by omega
        have k5 : k + 1 ≤ c := by omega
        have HT : Hid ((xs.take (k + 1)).length = k + 1) := by show (xs.take (k + 1)).length = k + 1; rw [List.length_take]; omega
        have hvl : (vb u).length ≤ 10 := vb_len 9 _ (by have := hu64.out; unfold B64 at this; omega)
        have HBk : Hid (Byt (· < w.heap.size) w.drew (some a) (xs.take (k + 1))) := (HB.out.take (k + 1)).keep fun _ _ => rfl
        have hvl2 : (vb u).length ≤ 140737488355328 := by omega
        have hk2 : k + 1 ≤ 140737488355328 := by omega
        clear hvl hlc hkl
        go_wp2_with fail
        by_cases hsame : vb u = xs.take (k + 1)
        · have HSm := Lib.hid hsame
          clear hsame
          go_region_with (first
            | (go_at_call 21; refine (refVar_any u _ hu64.out).mono ?_; rintro e w6 ⟨ug, rfl, hown, hb6⟩; obtain ⟨A6, c6, rfl, -, -, -, hB6⟩ := own_slice hown; have HB6 := Lib.hid hB6; clear hown hB6)
            | (go_at_call 11; refine (same_yes A6 (some a) (vb u).length (k + 1) c6 c (vb u) (xs.take (k + 1)) _ _ _ rfl HT.out HSm.out HB6.out (HBk.out.below hb6 (Nat.le_refl _)) hvl2).mono ?_; rintro e w7 ⟨rfl, q, rfl⟩))
          all_goals
            go_wp2
            go_ret2
            exact ⟨below_drewN ((Below.refl _ w).drew.trans hb6) q, .inl ⟨u, k + 1, read_yes hlt1 hu64.out HSm.out, rfl⟩⟩
        · have HSm := Lib.hid hsame
          clear hsame
          go_region_with (first
            | (go_at_call 21; refine (refVar_any u _ hu64.out).mono ?_; rintro e w6 ⟨ug, rfl, hown, hb6⟩; obtain ⟨A6, c6, rfl, -, -, -, hB6⟩ := own_slice hown; have HB6 := Lib.hid hB6; clear hown hB6)
            | (go_at_call 11; refine (same_no A6 (some a) (vb u).length (k + 1) c6 c (vb u) (xs.take (k + 1)) _ _ _ rfl HT.out HSm.out HB6.out (HBk.out.below hb6 (Nat.le_refl _)) hvl2 hk2).mono ?_; rintro e w7 ⟨rfl, q, rfl⟩))
          all_goals
            go_wp2
            go_ret2
            exact ⟨below_drewN ((Below.refl _ w).drew.trans hb6) q, .inr ⟨read_no HM.out (by rw [HX.out]; exact h128) HU.out HSm.out, rfl⟩⟩
      · have d2 : decide ((x : Int) < 128) = false := by simp; omega
        go_wp2
        refine ⟨⟨k + 1, HM.out.succ hlt1 (by rw [HX.out]; omega), by omega, by simp, by rw [HU.out]⟩, by simp [intOf]; omega⟩
    · by_cases h1 : k < xs.length
      · have t2 : ¬ k < 10 := by omega
        go_wp2
        go_ret2
        exact ⟨Below.refl _ _, .inr ⟨no_end HM.out (by omega), rfl⟩⟩
      · go_wp2
        go_ret2
        exact ⟨Below.refl _ _, .inr ⟨no_end HM.out (by omega), rfl⟩⟩
end Go.Proofs.Ytjjfifgkklpkkaa
