/-
  What the document's own Sum and Seal do.
  Conditions: as each theorem says.
-/
import Derived.Test.YtekhboepeajglaaWds
import Derived.Test.YtekhboepeajglaaCrc
import Derived.Test.YtekhboepeajglaaRfx
namespace Go.Proofs.Ytekhboepeajglaa
open Go.RowKit

theorem zk_succ (k n : Nat) : zk (k + 1) n = zs (zk k n) := by rw [zk_add]; rfl
theorem reg_take (n : Nat) (xs : List Nat) (i : Nat) (h : i < xs.length) : reg n (xs.take (i + 1)) = zk 8 (reg n (xs.take i) ^^^ (xs[i]?.getD 0)) := by
  rw [List.take_succ_eq_append_getElem h, reg_snoc]; simp [h]

theorem fb_four (m : Nat) : fb m 4 = four m := by simp [fb, four, List.range_succ]
theorem zs_odd (s : Nat) (h : s < 4294967296) (h1 : s % 2 = 1) : bits .xor .u32 ((s : Int) / 2) 3988292384 = ((zs s : Nat) : Int) := by
  have e := u32_xor_nat (s / 2) 3988292384 (by omega) (by omega)
  unfold zs
  rw [if_pos h1]
  exact e
theorem zs_even (s : Nat) (h1 : ¬ s % 2 = 1) : (s : Int) / 2 = ((zs s : Nat) : Int) := by
  unfold zs
  rw [if_neg h1]
  omega
theorem not32 (r : Nat) (h : r < 4294967296) : bits .xor .u32 IntKind.u32.max (r : Int) = ((r ^^^ O32 : Nat) : Int) := by
  have e := u32_xor_nat 4294967295 r (by omega) h
  rw [Nat.xor_comm]
  exact e

set_option maxRecDepth 100000 in
set_option maxHeartbeats 1000000 in
theorem refSum_any (A : Option Addr) (n c : Nat) (xs : List Nat) (w : World) (S : Nat → Prop) (hl : xs.length = n) (hb : ∀ x ∈ xs, x < 256) (hB : Byt S w A xs) (hn : n ≤ 140737488355328) :
    Calls Try.prog 12 #[.slice A n c] w fun e w' => e = .returned (.int .u32 ((crc xs : Nat) : Int)) ∧ w = w' := by
  have HL := Lib.hid hl
  have HY := Lib.hid hb
  have HB := Lib.hid hB
  clear hl hb hB
  go_enter Try.func12, Try.ntmps12
  go_wp2
  go_loop [3, 4] (fun r i => ∃ k : Nat, k ≤ n ∧ i = .int .i64 (k : Nat) ∧ r = .int .u32 ((reg O32 (xs.take k) : Nat) : Int)) (fun _ i => n - (intOf i).toNat)
  case atStart => exact ⟨0, Nat.zero_le _, rfl, by simp [reg, O32]⟩
  case round =>
    obtain ⟨k, hk, rfl, rfl⟩ := hrel
    obtain ⟨r, hr⟩ : ∃ r, reg O32 (xs.take k) = r := ⟨_, rfl⟩
    have hr32 : r < 4294967296 := by rw [← hr]; exact reg_lt _ _ (by unfold O32; omega) (fun x hx => HY.out x (List.mem_of_mem_take hx))
    rw [hr]
    have HR := Lib.hid hr
    clear hr
    by_cases hlt : k < n
    · obtain ⟨a, rfl, _, hcell⟩ := HB.out.at (k := k) (by rw [HL.out]; exact hlt)
      obtain ⟨x, hx⟩ : ∃ x, xs[k]?.getD 0 = x := ⟨_, rfl⟩
      rw [hx] at hcell
      have HX := Lib.hid hx
      clear hx
      have hx256 : x < 256 := by
        rw [← HX.out]
        simp only [show k < xs.length by rw [HL.out]; exact hlt, List.getElem?_eq_getElem, Option.getD_some]
        exact HY.out _ (List.getElem_mem _)
      obtain ⟨m, hm⟩ : ∃ m, r ^^^ x = m := ⟨_, rfl⟩
      have em : bits .xor .u32 (r : Int) (x : Int) = (m : Int) := by rw [u32_xor_nat _ _ hr32 (by omega), hm]
      have hm32 : m < 4294967296 := by rw [← hm]; exact Nat.xor_lt_two_pow (n := 32) hr32 (by omega)
      have HM := Lib.hid hm
      clear hm
      go_wp2
      go_loop [3, 5] (fun r i => ∃ j : Nat, j ≤ 8 ∧ i = .int .i64 (j : Nat) ∧ r = .int .u32 ((zk j m : Nat) : Int)) (fun _ i => 8 - (intOf i).toNat)
      case atStart => exact ⟨0, by omega, rfl, rfl⟩
      case round =>
        obtain ⟨j, hj, rfl, rfl⟩ := hrel
        obtain ⟨s, hs⟩ : ∃ s, zk j m = s := ⟨_, rfl⟩
        have hs32 : s < 4294967296 := by rw [← hs]; exact zk_lt j m hm32
        rw [hs]
        have HS := Lib.hid hs
        clear hs em
        by_cases hj8 : j < 8
        · by_cases h1 : s % 2 = 1
          · have t1 : ((s : Int) % 2 == 1) = true := by simp; omega
            have H1 := Lib.hid h1
            clear h1
            go_wp2
            refine ⟨⟨j + 1, by omega, by simp, ?_⟩, by simp [intOf]; omega⟩
            rw [zk_succ, HS.out, zs_odd s hs32 H1.out]
          · have t1 : ((s : Int) % 2 == 1) = false := by simp; omega
            have H1 := Lib.hid h1
            clear h1
            go_wp2
            refine ⟨⟨j + 1, by omega, by simp, ?_⟩, by simp [intOf]; omega⟩
            rw [zk_succ, HS.out, zs_even s H1.out]
        · obtain rfl : j = 8 := by omega
          go_wp2
          refine ⟨⟨k + 1, by omega, by simp, ?_⟩, by simp [intOf]; omega⟩
          rw [reg_take _ _ _ (by rw [HL.out]; exact hlt), HR.out, HX.out, HM.out, HS.out]
    · obtain rfl : k = n := by omega
      go_wp2
      go_ret
      refine ⟨ret_int ?_, rfl⟩
      rw [not32 r hr32]
      unfold crc
      rw [← HR.out, List.take_of_length_le (by rw [HL.out]; exact Nat.le_refl _)]

set_option maxHeartbeats 1000000 in
theorem refSeal_any (A : Option Addr) (n c : Nat) (xs : List Nat) (w : World) (hl : xs.length = n) (hb : ∀ x ∈ xs, x < 256) (hB : Byt (· < w.heap.size) w A xs) (hn : n ≤ 1000000) :
    Calls Try.prog 14 #[.slice A n c] w fun e w' => ∃ u, e = .returned u ∧ w'.ownsRow w.heap.size 5 1 u (n + 4) (Bs (sealB xs)) ∧ Below w.heap.size w w' := by
  have HL := Lib.hid hl
  have HY := Lib.hid hb
  have HB := Lib.hid hB
  clear hl hb hB
  go_enter Try.func14, Try.ntmps14
  go_wp2_with (at_builtin
               refine walk_append _ rfl (.tmp 3) (.tmp 4) rfl w.heap.size (.slice (some ⟨w.heap.size, 0, none⟩) 0 0) 0 [] rfl (own_empty w) A n c xs rfl HL.out _ (HB.out.below ((Below.refl w.heap.size w).alloc (Nat.le_refl _) _) (Nat.le_refl _)) (by omega) (by simp) ?_
               intro v1 w1 hown1 hg1 _
               have hb1 : Below w.heap.size w w1 := ((Below.refl _ w).alloc (Nat.le_refl _) _).grown hg1 (by simp) (fun k hk => by simp [Value.ownBlock] at hk; omega)
               rw [Nat.zero_add, List.nil_append] at hown1
               have HO1 := Lib.hid hown1
               clear hown1 hg1)
  have hs1 := hb1.size
  refine (refSum_any A n c xs w1 _ HL.out HY.out (HB.out.below hb1 (Nat.le_refl _)) (by omega)).mono ?_
  rintro e w2 ⟨rfl, rfl⟩
  obtain ⟨m, hm⟩ : ∃ m, crc xs = m := ⟨_, rfl⟩
  have hm32 : m < 4294967296 := by rw [← hm]; exact crc_lt xs HY.out
  have HM := Lib.hid hm
  rw [hm]
  clear hm
  go_wp2_with fail
  refine (refFixed_any m 4 w1 (by unfold B64; omega)).mono ?_
  rintro e w3 ⟨u, rfl, hown3, hb3⟩
  rw [show wid 4 = 4 by rfl, fb_four] at hown3
  obtain ⟨A3, c3, rfl, -, -, -, hB3⟩ := own_slice hown3
  have HB3 := Lib.hid hB3
  have HO3 := Lib.hid (own_below HO1.out hb3 (Nat.le_refl _))
  have hb13 : Below w.heap.size w w3 := hb1.trans (hb3.mono hs1)
  have HLt := Lib.hid HO1.out.lt
  clear hown3 hB3 HO1
  go_wp2_with (at_builtin
               refine walk_append _ rfl (.tmp 5) (.tmp 9) rfl w.heap.size v1 n xs rfl HO3.out A3 4 c3 (four m) rfl rfl _ HB3.out (by omega) hb13.size ?_
               intro v4 w4 hown4 hg4 _)
  go_ret
  refine ⟨v4, rfl, ?_, hb13.grown hg4 hb13.size (fun k hk => (HLt.out k hk).1)⟩
  unfold sealB
  rw [HM.out]
  exact hown4
end Go.Proofs.Ytekhboepeajglaa
