/-
  What the project's sum.tail, sum.Seal and sum.Open do; so package sum does what 'SumOK' says.
  Conditions: as each theorem says.
-/
import Derived.Test.YtekhboepeajglaaSof
import Derived.Test.YtekhboepeajglaaCat
import Derived.Test.YtekhboepeajglaaEql
import Derived.Test.YtekhboepeajglaaCln
import Derived.Test.YtekhboepeajglaaNfx
import Derived.Test.YtekhboepeajglaaSw2
import Derived.Deep.RegionWith
import Derived.Deep.DeepCutAuto
namespace Go.Proofs.Ytekhboepeajglaa
open Go.RowKit

set_option maxRecDepth 100000 in
set_option maxHeartbeats 400000 in
theorem tail_any (A : Option Addr) (n c : Nat) (xs : List Nat) (w : World) (S : Nat → Prop) (hl : xs.length = n) (hb : ∀ x ∈ xs, x < 256) (hB : Byt S w A xs) (hn : n ≤ 1000000) :
    Calls Try.prog 17 #[.slice A n c] w fun e w' => ∃ A' c', e = .returned (.slice A' 4 c') ∧ 4 ≤ c' ∧ Byt (fun b => w.heap.size ≤ b ∧ b < w'.heap.size) w' A' (four (crc xs)) ∧ Below w.heap.size w w' := by
  have HL := Lib.hid hl
  have HY := Lib.hid hb
  have HB := Lib.hid hB
  clear hl hb hB
  go_enter Try.func17, Try.ntmps17
  go_wp2_with fail
  refine (of_any A n c xs w S HL.out HY.out HB.out (by omega)).mono ?_
  rintro e w' ⟨rfl, rfl⟩
  obtain ⟨m, hm⟩ : ∃ m, crc xs = m := ⟨_, rfl⟩
  have hm32 : m < 4294967296 := by rw [← hm]; exact crc_lt xs HY.out
  have HM := Lib.hid hm
  rw [hm]
  clear hm
  go_wp2_with fail
  refine (fixed_any m 4 w (by unfold B64; omega)).mono ?_
  rintro e w1 ⟨u, rfl, hown1, hb1⟩
  rw [show wid 4 = 4 by rfl, fb_four] at hown1
  obtain ⟨A1, c1, rfl, -, hc1, -, hB1⟩ := own_slice hown1
  have HB1 := Lib.hid hB1
  clear hown1 hB1
  go_wp2
  go_ret
  exact ⟨A1, c1, rfl, hc1, by rw [HM.out]; exact HB1.out, hb1⟩

theorem rws_two (w : World) (A B : Option Addr) (c d n m : Nat) (xs ys : List Nat) (hx : xs.length = n) (hy : ys.length = m) (hc : n ≤ c) (hd : m ≤ d) (hA : Byt (· < w.heap.size) w A xs) (hB : Byt (· < w.heap.size) w B ys) :
    Rws (· < (w.alloc (.cells #[.slice A n c, .slice B m d] 22)).heap.size) (w.alloc (.cells #[.slice A n c, .slice B m d] 22)) (some ⟨w.heap.size, 0, none⟩) [xs, ys] := fun _ => by
  subst hx hy
  refine ⟨_, rfl, by simp, fun j hj => ?_⟩
  have hk : ∀ b, b < w.heap.size → (w.alloc (.cells #[.slice A xs.length c, .slice B ys.length d] 22)).heap[b]? = w.heap[b]? := fun b hb => Below.heap_alloc w _ b hb
  have e : (⟨w.heap.size, 0, none⟩ : Addr).add j = ⟨w.heap.size, j, none⟩ := by unfold Addr.add; split <;> simp_all
  rw [e, World.cell?_alloc_mark]
  have : j = 0 ∨ j = 1 := by simp at hj; omega
  rcases this with rfl | rfl
  · exact ⟨A, c, rfl, hc, (hA.keep hk).wide fun b hb => by simp; omega⟩
  · exact ⟨B, d, rfl, hd, (hB.keep hk).wide fun b hb => by simp; omega⟩

set_option maxRecDepth 100000 in
set_option maxHeartbeats 400000 in
theorem seal_any (A : Option Addr) (n c : Nat) (xs : List Nat) (w : World) (hl : xs.length = n) (hb : ∀ x ∈ xs, x < 256) (hB : Byt (· < w.heap.size) w A xs) (hn : n ≤ 1000000) (hc : n ≤ c) :
    Calls Try.prog 9 #[.slice A n c] w fun e w' => ∃ A' c', e = .returned (.slice A' (n + 4) c') ∧ n + 4 ≤ c' ∧ Byt (fun b => w.heap.size ≤ b ∧ b < w'.heap.size) w' A' (sealB xs) ∧ Below w.heap.size w w' := by
  have HL := Lib.hid hl
  have HY := Lib.hid hb
  have HB := Lib.hid hB
  clear hl hb hB
  go_enter Try.func9, Try.ntmps9
  go_wp2_with fail
  refine (tail_any A n c xs w _ HL.out HY.out HB.out hn).mono ?_
  rintro e w1 ⟨A1, c1, rfl, hc1, hB1, hb1⟩
  have HB1 := Lib.hid hB1
  have hs1 := hb1.size
  clear hB1
  go_wp2_with fail
  have HR := Lib.hid (rws_two w1 A A1 c c1 n 4 xs (four (crc xs)) HL.out rfl hc hc1 ((HB.out.below hb1 (Nat.le_refl _)).wide fun b hb => by omega) (HB1.out.wide fun b hb => hb.2))
  have HF : Hid ([xs, four (crc xs)].flatten = sealB xs) := by show [xs, four (crc xs)].flatten = sealB xs; simp [sealB]
  have HS : Hid ((sealB xs).length = n + 4) := by show (sealB xs).length = n + 4; rw [sealB_length, HL.out]
  refine (concat_any _ 2 2 [xs, four (crc xs)] _ rfl HR.out (by rw [HF.out, HS.out]; omega) (by omega)).mono ?_
  rintro e w2 ⟨v, rfl, hown, hb2⟩
  rw [HF.out, HS.out] at hown
  obtain ⟨A2, c2, rfl, -, hc2, -, hB2⟩ := own_slice hown
  have HB2 := Lib.hid hB2
  clear hown hB2
  go_wp2
  go_ret
  refine ⟨A2, c2, rfl, hc2, HB2.out.wide fun b hb => ⟨?_, hb.2⟩, ?_⟩
  · have := hb.1
    simp at this
    omega
  · exact (hb1.alloc hs1 _).trans (hb2.mono (by simp; omega))

set_option maxRecDepth 100000 in
set_option maxHeartbeats 1000000 in
/-- Open of at least four bytes, sealed. -/
theorem open_yes (a : Addr) (n c : Nat) (xs : List Nat) (w : World) (hl : xs.length = n + 4) (hb : ∀ x ∈ xs, x < 256) (hB : Byt (· < w.heap.size) w (some a) xs) (hn : n ≤ 1000000) (hc : n + 4 ≤ c) (h : xs.drop n = four (crc (xs.take n))) :
    Calls Try.prog 10 #[.slice (some a) (n + 4) c] w fun e w' => ∃ A' c', e = .returned (.tuple #[.slice A' n c', .int .i64 0]) ∧ n ≤ c' ∧ Byt (fun b => w.heap.size ≤ b ∧ b < w'.heap.size) w' A' (xs.take n) ∧ Below w.heap.size w w' := by
  have t1 : decide (((n + 4 : Nat) : Int) < 4) = false := by simp; omega
  have t2 : decide ((n : Int) + 4 < 4) = false := by simp; omega
  have e1 : (n : Int) + 4 - 4 = (n : Int) := by omega
  have n0 : n ≤ c := by omega
  have n1 : (n : Int) ≤ (c : Int) := by omega
  have n2 : ¬ c = n := by omega
  have HT : Hid ((xs.take n).length = n) := by show (xs.take n).length = n; rw [List.length_take, hl]; omega
  have HD : Hid ((xs.drop n).length = 4) := by show (xs.drop n).length = 4; rw [List.length_drop, hl]; omega
  have HTb : Hid (∀ x ∈ xs.take n, x < 256) := fun x hx => hb x (List.mem_of_mem_take hx)
  have HDb : Hid (∀ x ∈ xs.drop n, x < 256) := fun x hx => hb x (List.mem_of_mem_drop hx)
  have HB := Lib.hid hB
  have HE := Lib.hid h
  clear hl hb hB h
  go_enter Try.func10, Try.ntmps10
  go_wp2_with fail
  have HTk : Hid (Byt (· < w.heap.size) w.drew (some a) (xs.take n)) := (HB.out.take n).keep fun _ _ => rfl
  have HDk : Hid (Byt (· < w.heap.size) w.drew (some (a.add n)) (xs.drop n)) := (HB.out.drop n).keep fun _ _ => rfl
  have hb0 : Below w.heap.size w w.drew := (Below.refl _ w).drew
  go_region_with (first
    | (go_at_call 17; refine (tail_any (some a) n c (xs.take n) _ (· < w.heap.size) HT.out HTb.out HTk.out hn).mono ?_; rintro e w1 ⟨A1, c1, rfl, hc1, hB1, hb1⟩; have HB1 := Lib.hid hB1; have hb01 : Below w.heap.size w w1 := hb0.trans hb1; have hs1 := hb01.size; clear hB1)
    | (go_at_call 18; refine (equal_yes (some (a.add n)) A1 4 4 (c - n) c1 (xs.drop n) _ (· < w.heap.size) _ HD.out HD.out (HDk.out.below hb1 (Nat.le_refl _)) (by rw [HE.out]; exact HB1.out)).mono ?_; rintro e w2 ⟨rfl, rfl⟩))
  all_goals
    go_wp2_with fail
    refine (clone_any (some a) n c (xs.take n) w1 HT.out (((HTk.out.below hb1 (Nat.le_refl _))).wide fun b hb => by omega) (by omega)).mono ?_
    rintro e w2 ⟨v2, rfl, hown2, hb2⟩
    obtain ⟨A2, c2, rfl, -, hc2, -, hB2⟩ := own_slice hown2
    have HB2 := Lib.hid hB2
    clear hown2 hB2
    go_wp2
    go_ret2
    exact ⟨A2, c2, rfl, hc2, HB2.out.wide fun b hb => ⟨Nat.le_trans hs1 hb.1, hb.2⟩, hb01.trans (hb2.mono hs1)⟩

set_option maxRecDepth 100000 in
set_option maxHeartbeats 1000000 in
/-- Open of at least four bytes, not sealed. -/
theorem open_no (a : Addr) (n c : Nat) (xs : List Nat) (w : World) (hl : xs.length = n + 4) (hb : ∀ x ∈ xs, x < 256) (hB : Byt (· < w.heap.size) w (some a) xs) (hn : n ≤ 1000000) (hc : n + 4 ≤ c) (h : ¬ xs.drop n = four (crc (xs.take n))) :
    Calls Try.prog 10 #[.slice (some a) (n + 4) c] w fun e w' => e = .returned (.tuple #[.slice none 0 0, .int .i64 3]) ∧ Below w.heap.size w w' := by
  have t1 : decide (((n + 4 : Nat) : Int) < 4) = false := by simp; omega
  have t2 : decide ((n : Int) + 4 < 4) = false := by simp; omega
  have e1 : (n : Int) + 4 - 4 = (n : Int) := by omega
  have n0 : n ≤ c := by omega
  have n1 : (n : Int) ≤ (c : Int) := by omega
  have n2 : ¬ c = n := by omega
  have HT : Hid ((xs.take n).length = n) := by show (xs.take n).length = n; rw [List.length_take, hl]; omega
  have HD : Hid ((xs.drop n).length = 4) := by show (xs.drop n).length = 4; rw [List.length_drop, hl]; omega
  have HTb : Hid (∀ x ∈ xs.take n, x < 256) := fun x hx => hb x (List.mem_of_mem_take hx)
  have HDb : Hid (∀ x ∈ xs.drop n, x < 256) := fun x hx => hb x (List.mem_of_mem_drop hx)
  have HB := Lib.hid hB
  have HE := Lib.hid h
  clear hl hb hB h
  go_enter Try.func10, Try.ntmps10
  go_wp2_with fail
  have HTk : Hid (Byt (· < w.heap.size) w.drew (some a) (xs.take n)) := (HB.out.take n).keep fun _ _ => rfl
  have HDk : Hid (Byt (· < w.heap.size) w.drew (some (a.add n)) (xs.drop n)) := (HB.out.drop n).keep fun _ _ => rfl
  have hb0 : Below w.heap.size w w.drew := (Below.refl _ w).drew
  go_region_with (first
    | (go_at_call 17; refine (tail_any (some a) n c (xs.take n) _ (· < w.heap.size) HT.out HTb.out HTk.out hn).mono ?_; rintro e w1 ⟨A1, c1, rfl, hc1, hB1, hb1⟩; have HB1 := Lib.hid hB1; have hb01 : Below w.heap.size w w1 := hb0.trans hb1; have hs1 := hb01.size; clear hB1)
    | (go_at_call 18; refine (equal_no (some (a.add n)) A1 4 4 (c - n) c1 (xs.drop n) (four (crc (xs.take n))) _ (· < w.heap.size) _ HD.out rfl HDb.out (four_bytes _) HE.out (HDk.out.below hb1 (Nat.le_refl _)) HB1.out).mono ?_; rintro e w2 ⟨rfl, rfl⟩))
  all_goals
    go_wp2_with fail
    go_ret2
    exact ⟨rfl, hb01⟩

set_option maxHeartbeats 400000 in
theorem open_short (A : Option Addr) (n c : Nat) (w : World) (hn : n < 4) :
    Calls Try.prog 10 #[.slice A n c] w fun e w' => e = .returned (.tuple #[.slice none 0 0, .int .i64 3]) ∧ w = w' := by
  have t1 : decide ((n : Int) < 4) = true := by simp; omega
  go_enter Try.func10, Try.ntmps10
  go_wp2_with fail
  go_ret2
  exact ⟨rfl, rfl⟩

theorem sumOK : SumOK where
  of A n c xs w hl hb hB hn hc := (of_any A n c xs w _ hl hb hB (by omega)).mono fun e w' ⟨he, hw⟩ => ⟨he, hw ▸ Below.refl _ _⟩
  put A n c xs w hl hb hB hn hc := (seal_any A n c xs w hl hb hB hn hc).mono fun e w' ⟨A', c', he, h1, h2, h3⟩ => ⟨A', c', he, h1, h2.wide fun _ h => h.2, h3⟩
  yes A n c xs w hl hb hB hn hc := by
    obtain ⟨a, rfl, _⟩ := hB (by rw [sealB_length]; omega)
    have e1 : (sealB xs).take n = xs := by rw [← hl, seal_take]
    have e2 : (sealB xs).drop n = four (crc xs) := by rw [← hl]; simp [sealB]
    refine (open_yes a n c (sealB xs) w (by rw [sealB_length, hl]) (sealB_bytes xs hb) hB hn hc (by rw [e1, e2])).mono fun e w' ⟨A', c', he, h1, h2, h3⟩ => ⟨A', c', he, h1, ?_, h3⟩
    rw [e1] at h2
    exact h2.wide fun _ h => h.2
  no A n c xs w hl hb hB hn hc hno := by
    by_cases h4 : n < 4
    · exact (open_short A n c w h4).mono fun e w' ⟨he, hw⟩ => ⟨none, 0, he, hw ▸ Below.refl _ _⟩
    · obtain ⟨m, rfl⟩ : ∃ m, n = m + 4 := ⟨n - 4, by omega⟩
      obtain ⟨a, rfl, _⟩ := hB (by omega)
      refine (open_no a m c xs w hl hb hB (by omega) hc (fun e => hno ⟨xs.take m, ?_⟩)).mono fun e w' ⟨he, hw⟩ => ⟨none, 0, he, hw⟩
      rw [sealB, ← e, List.take_append_drop]
end Go.Proofs.Ytekhboepeajglaa
