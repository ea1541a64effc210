/-
  The law HansFull holds: as many handles are opened as there may be, closed ones among them; the law's function returns true and turns nothing that was there.
  Conditions: none.
-/
import Derived.Test.YthahfhmkgkfoaaaOn0
import Derived.Test.YthahfhmkgkfoaaaHa3
namespace Go.Proofs.Ythahfhmkgkfoaaa.hansFull
open Go.ChangeShapes Go.WideShapes Go.ChangeAt Go.RowKit
set_option linter.unusedVariables false
set_option linter.unusedSimpArgs false

theorem opnB_last (H : List Hnd) (x : Hnd) (n : Nat) (hn : H.length = n) : opnB (H ++ [x]) n = x.opn := by
  subst hn
  simp [opnB]
set_option maxRecDepth 100000 in
set_option maxHeartbeats 4000000 in
theorem walk (n s : Int) (w : World) (hn : 0 ≤ n ∧ n ≤ 255) (hs : 0 ≤ s ∧ s ≤ 65535) :
    Calls Try.prog 5 #[.int .u8 n, .int .u16 s] w fun e w' => e = .returned (.bool true) ∧ Below w.heap.size w w' := by
  have AN := Lib.hid (fun w => answers13 w)
  obtain ⟨N, en, hN⟩ : ∃ k : Nat, n % 24 = (k : Int) ∧ k < 24 := ⟨(n % 24).toNat, by omega, by omega⟩
  have HN := Lib.hid (tnew_any none 0 0 [] w rfl (Sq.nil _ _ _ _) (by omega))
  go_enter Try.func5, Try.ntmps5
  go_upto_region 2 with (first
    | (go_at_call 8
       refine HN.out.mono ?_
       rintro e w1 ⟨g, rfl, hg, hp, hb⟩
       have HP : Hid (IsTb (fun b => w.heap.size ≤ b ∧ b < w1.heap.size) w1 g []) := hp
       have HB := Lib.hid hb
       have hs1 := hb.size
       clear hp hb HN))
  go_wp2_with fail
  try simp only [en]
  clear en hn
  go_loopw [7, 8, 9, 10] (fun vg vi v9 v10 wr => ∃ (k : Nat) (H : List Hnd), k ≤ N ∧ vi = .int .i64 (k : Nat) ∧ vg = .int .i64 ((min k 16 : Nat) : Int) ∧ H.length = min k 16 ∧ Below w.heap.size w wr ∧ IsTb (fun b => w.heap.size ≤ b ∧ b < wr.heap.size) wr g H) (fun _ vi _ _ _ => N - (intOf vi).toNat)
  case atStart => exact ⟨0, [], Nat.zero_le _, rfl, rfl, rfl, HB.out, HP.out⟩
  case round =>
    obtain ⟨k, H, hk, rfl, rfl, hH, hbel, hp⟩ := hrel
    have HBr := Lib.hid hbel
    have HPr := Lib.hid hp
    have HH := Lib.hid hH
    have hsr := hbel.size
    clear hbel hp HP HB
    by_cases hlt : k < N
    · have h0 : 0 ≤ (k : Int) := by omega
      have h1 : (k : Int) < (N : Int) := by omega
      by_cases hf : k < 16
      · rw [Nat.min_eq_left (by omega)] at hH ⊢
        have eH := Lib.hid hH
        clear hH
        go_wp2_with (first
          | (go_at_call 9
             have hof := open_fits g ((k : Int) % 4) k wr HPr.out (by rw [eH.out]; exact hf) ⟨by omega, by omega⟩ (by unfold B64; omega) fun b hb => hb.2
             rw [eH.out] at hof
             refine hof.mono ?_
             rintro e w2 ⟨rfl, hp2, ht2⟩
             have hs2 := ht2.size
             have HP2 : Hid (IsTb (fun b => w.heap.size ≤ b ∧ b < w2.heap.size) w2 g (H ++ [⟨(k : Int) % 4, k, true⟩])) := hp2.wide fun b _ hb => by omega
             have HB2 : Hid (Below w.heap.size w w2) := HBr.out.trans (ht2.below hsr fun b hb => hb.1)
             clear hp2 ht2 hof)
          | (go_at_call 11
             refine (close_yes g k w2 HP2.out (by simp [eH.out]; omega) (by unfold B64; omega) (opnB_last _ _ _ eH.out)).mono ?_
             rintro e w3 ⟨rfl, hp3, ht3, hs3⟩
             have HP3 : Hid (IsTb (fun b => w.heap.size ≤ b ∧ b < w3.heap.size) w3 g (closeH (H ++ [⟨(k : Int) % 4, k, true⟩]) k)) := hp3.wide fun b _ hb => by omega
             have HB3 : Hid (Below w.heap.size w w3) := HB2.out.trans (ht3.below (by omega) fun b hb => hb.1)
             clear hp3 ht3))
        · refine ⟨⟨k + 1, _, by omega, by simp, by simp; omega, ?_, HB3.out, HP3.out⟩, by simp [intOf]; omega⟩
          rw [closeH_len, List.length_append, eH.out]
          simp
          omega
        · refine ⟨⟨k + 1, _, by omega, by simp, by simp; omega, ?_, HB2.out, HP2.out⟩, by simp [intOf]; omega⟩
          rw [List.length_append, eH.out]
          simp
          omega
      · rw [Nat.min_eq_right (by omega)] at hH ⊢
        have eH := Lib.hid hH
        clear hH
        go_wp2_with (first
          | (go_at_call 9
             refine (open_full g ((k : Int) % 4) k wr HPr.out (by rw [eH.out]; omega) (by rw [eH.out]; omega)).mono ?_
             rintro e w2 ⟨rfl, rfl⟩))
        refine ⟨⟨k + 1, _, by omega, by simp, by simp; omega, ?_, HBr.out, HPr.out⟩, by simp [intOf]; omega⟩
        rw [eH.out]
        omega
    · obtain rfl : k = N := by omega
      by_cases hf : 16 < k
      · rw [Nat.min_eq_right (by omega)] at hH ⊢
        have h16 : (16 : Int) < (k : Int) := by omega
        have eH := Lib.hid hH
        clear hH
        go_wp2_with (first
          | (go_at_call 7
             refine (AN.out wr).mono ?_
             rintro e w3 ⟨rfl, hb3⟩
             have HP3 : Hid (IsTb (fun b => w.heap.size ≤ b ∧ b < wr.heap.size) w3 g H) := HPr.out.keep fun b hb _ => hb3.block b hb
             have HB3 : Hid (Below w.heap.size w w3) := HBr.out.trans (hb3.mono hsr)
             clear hb3)
          | (go_at_call 13
             refine (tlist_any g w3 HP3.out (by rw [eH.out]; omega)).mono ?_
             rintro e w5 ⟨v, rfl, ho5, hb5⟩
             obtain ⟨A5, c5, rfl, -, -, -⟩ := hds_sl ho5 HP3.out.ok
             rw [eH.out]
             have HB5 : Hid (Below w.heap.size w w5) := HB3.out.trans (hb5.mono HB3.out.size)
             clear ho5 hb5))
        go_ret
        exact ⟨by simp, HB5.out⟩
      · rw [Nat.min_eq_left (by omega)] at hH ⊢
        have h16 : (k : Int) ≤ 16 := by omega
        have eH := Lib.hid hH
        clear hH
        go_wp2_with (first
          | (go_at_call 7
             refine (AN.out wr).mono ?_
             rintro e w3 ⟨rfl, hb3⟩
             have HP3 : Hid (IsTb (fun b => w.heap.size ≤ b ∧ b < wr.heap.size) w3 g H) := HPr.out.keep fun b hb _ => hb3.block b hb
             have HB3 : Hid (Below w.heap.size w w3) := HBr.out.trans (hb3.mono hsr)
             clear hb3)
          | (go_at_call 13
             refine (tlist_any g w3 HP3.out (by rw [eH.out]; omega)).mono ?_
             rintro e w5 ⟨v, rfl, ho5, hb5⟩
             obtain ⟨A5, c5, rfl, -, -, -⟩ := hds_sl ho5 HP3.out.ok
             rw [eH.out]
             have HB5 : Hid (Below w.heap.size w w5) := HB3.out.trans (hb5.mono HB3.out.size)
             clear ho5 hb5))
        go_ret
        exact ⟨by simp, HB5.out⟩

set_option maxRecDepth 100000 in
theorem lifted (os : Os) (started : os.Started) (H : Type) (enc : TypeId × Value → H) :
    ReturnsInHanded {} Try.checked os 5 .any (Rows.hansFullSpec.pre6 enc Try.prog Try.f5 Rows.hansFullRow.domain false) (Rows.hansFullSpec.post enc Try.prog Try.f5 false true false false) := by
  refine returnsInHanded_of_change (C := Try.checked) own started (by kernel_rfl) Try.func5
    (ChangeSpec.witness6 (enc := enc) (C := Try.checked) false ⟨#[], #[.int .u8 0, .int .u16 0], []⟩ 8 (by kernel_rfl) (by kernel_rfl) (by kernel_rfl) (by kernel_rfl)) ?_
  intro W base args ds gs before hval0 hW hcnd _
  have hval : ∀ (j : Nat) t v, Try.f5.params[j]? = some t → args[j]? = some v → Value.okWide Try.prog W .any base t v := hval0
  have hW' := hW
  obtain ⟨p, q, hA0, hV, rfl, hfz, hnd⟩ := hW
  have hA : DataW.TrodAll enc Try.prog W 0 (fun _ => true) true Try.f5.params.toList args.toList ds p := hA0
  rw [Try.params5] at hA hval
  obtain ⟨v0, vs0, d0, ds0, p0, q0, hargs, rfl, rfl, h0, r0⟩ := trodAll_cons hA
  obtain ⟨v1, vs1, d1, ds1, p1, q1, rfl, rfl, rfl, h1, r1⟩ := trodAll_cons r0
  obtain ⟨rfl, rfl, rfl⟩ := trodAll_nil r1
  obtain rfl : args = #[v0, v1] := by cases args; simp_all
  obtain ⟨rfl, rfl⟩ := trodVars_none hV
  obtain ⟨a0, rfl, rfl, rfl, w0⟩ := open_int Try.underlying5 (hval 0 5 v0 rfl rfl) h0
  obtain ⟨a1, rfl, rfl, rfl, w1⟩ := open_int Try.underlying41 (hval 1 41 v1 rfl rfl) h1
  clear hA0 hval0
  simp only [List.append_nil] at hW'
  refine (walk a0 a1 W (bounds_u8 w0) (bounds_u16 w1)).mono fun e W' ⟨he, bel⟩ => ?_
  subst he
  exact ⟨_, rfl, _, _, _, [], _, [], hW', trodAll_mk1 (shut_bool Try.underlying4 _), (trodAll_cons_mk (shut_int Try.underlying5 w0) (trodAll_cons_mk (shut_int Try.underlying41 w1) trodAll_mk0)), rfl, bel.frame _, fun h => by cases h⟩

theorem over : Rows.hansFullRow.holds Try.pinned (OpenSpec.ofChange Rows.hansFullSpec) :=
  OpenClaim.holds_of_wide 5 Try.f5 rfl rfl rfl rfl rfl rfl rfl ⟨rfl, rfl, rfl, rfl, rfl⟩ rfl rfl rfl rfl rfl (by kernel_rfl) Try.func5 (by kernel_rfl)
    (of_decide_eq_true (by kernel_rfl)) (by unfold Func.isWrapper; first | (rw [if_pos (by decide +kernel)]; kernel_rfl) | (rw [if_neg (by decide +kernel)]; exact ⟨rfl, rfl⟩))
    (fun os started H enc _ => lifted os started H enc)

/-- The statement. -/
theorem proved : Rows.HansFullSaid := over
end Go.Proofs.Ythahfhmkgkfoaaa.hansFull
