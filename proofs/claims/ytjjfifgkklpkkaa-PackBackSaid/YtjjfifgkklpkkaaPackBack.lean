/-
  The law PackBack holds: the bytes of any parts are the document's, and they are split again, if so many may be; the law's function returns true and turns nothing that was there.
  Conditions: none.
-/
import Derived.Test.YtjjfifgkklpkkaaOpn
import Derived.Test.YtjjfifgkklpkkaaPan
import Derived.Test.YtjjfifgkklpkkaaRjn
import Derived.Test.YtjjfifgkklpkkaaPts
namespace Go.Proofs.Ytjjfifgkklpkkaa.packBack
open Go.ChangeShapes Go.WideShapes Go.ChangeAt Go.RowKit
set_option linter.unusedVariables false

set_option maxRecDepth 100000 in
set_option maxHeartbeats 1000000 in
theorem walk (A : Option Addr) (n c : Nat) (xss : List (List Nat)) (most : Int) (w : World) (hx : xss.length = n) (hb : ∀ j, j < n → ∀ x ∈ xss[j]?.getD [], x < 256) (hB : Rws (· < w.heap.size) w A xss) (hcm : c ≤ maxLen) (hmost : -9223372036854775808 ≤ most ∧ most ≤ 9223372036854775807) :
    Calls Try.prog 3 #[.slice A n c, .int .i64 most] w fun e w' => e = .returned (.bool true) ∧ Below w.heap.size w w' := by
  have HX := Lib.hid hx
  have Hb := Lib.hid hb
  have HB := Lib.hid hB
  have Hcm := Lib.hid hcm
  clear hx hb hB hcm
  by_cases hn : n ≤ 300
  · go_enter Try.func3, Try.ntmps3
    go_wp2_with fail
    go_loop [5] (fun i => ∃ k : Nat, k ≤ n ∧ i = .int .i64 (k : Nat) ∧ ∀ j, j < k → (xss[j]?.getD []).length ≤ 1000) (fun i => n - (intOf i).toNat)
    case atStart => exact ⟨0, Nat.zero_le _, rfl, fun j hj => absurd hj (by omega)⟩
    case round =>
      obtain ⟨k, hk, rfl, hall⟩ := hrel
      have HA := Lib.hid hall
      clear hall
      by_cases hlt : k < n
      · obtain ⟨a, B, c2, rfl, hab, hcell, hxc, _⟩ := HB.out.at (k := k) (by rw [HX.out]; exact hlt)
        obtain ⟨x, hx⟩ : ∃ x, xss[k]?.getD [] = x := ⟨_, rfl⟩
        rw [hx] at hcell
        have HXk := Lib.hid hx
        clear hx hab hxc
        by_cases hx1 : x.length ≤ 1000
        · go_wp2_with fail
          refine ⟨⟨k + 1, by omega, by simp, fun j hj => ?_⟩, by simp [intOf]; omega⟩
          rcases Nat.lt_or_ge j k with h | h
          · exact HA.out j h
          · obtain rfl : j = k := by omega
            rw [HXk.out]
            exact hx1
        · go_wp2_with fail
          refine (answers3 w).mono ?_
          rintro e w3 ⟨rfl, hb3⟩
          go_wp2_with fail
          go_ret
          exact ⟨rfl, hb3⟩
      · obtain rfl : k = n := by omega
        have HJ : Hid ((joinB xss).length ≤ 10 + k * 1010) := by
          have := joinB_bound xss 1000 (by unfold B64; omega) (by rw [HX.out]; unfold B64; omega) (by rw [HX.out]; exact HA.out)
          rw [HX.out] at this
          exact this
        have HJb : Hid (∀ x ∈ joinB xss, x < 256) := joinB_bytes xss (by rw [HX.out]; exact Hb.out)
        obtain ⟨J, hJ⟩ : ∃ J, (joinB xss).length = J := ⟨_, rfl⟩
        have hJb : J ≤ 400000 := by have := HJ.out; omega
        have HJl := Lib.hid hJ
        clear hJ
        go_wp2_with fail
        refine (join_any A k c xss w HX.out HB.out (by rw [HJl.out]; omega)).mono ?_
        rintro e w1 ⟨v1, rfl, hown1, hb1⟩
        rw [HJl.out] at hown1
        obtain ⟨A1, c1, rfl, -, hc1, -, hB1⟩ := own_slice hown1
        have HBy1 := Lib.hid (hB1.wide (T := (· < w1.heap.size)) fun b hb => hb.2)
        have Hb1 := Lib.hid hb1
        have hs1 := hb1.size
        clear hown1 hB1 hb1
        go_wp2_with fail
        refine (split_any A1 J c1 (joinB xss) most w1 HJl.out HJb.out HBy1.out (by omega) (by omega)).mono ?_
        rintro e w2 ⟨hb2, hr⟩
        have Hb2 := Lib.hid hb2
        have hs2 := hb2.size
        clear hb2
        have HBw2 : Hid (Below w.heap.size w w2) := Hb1.out.trans (Hb2.out.mono hs1)
        rcases hr with ⟨yss, A2, c2, hj, rfl, -, hR2⟩ | ⟨hno, rfl⟩
        · obtain rfl : xss = yss := join_unique (by rw [HJl.out]; unfold B64; omega) rfl hj.1
          have hkm : (k : Int) ≤ most := by have := hj.2; rw [HX.out] at this; exact this
          have HR2 := Lib.hid hR2
          rw [HX.out]
          clear hj hR2
          go_wp2_with fail
          refine (refJoin_any A k c xss w2 HX.out ((HB.out.below HBw2.out (Nat.le_refl _)).wide fun b hb => by omega) (by rw [HJl.out]; omega)).mono ?_
          rintro e w3 ⟨v3, rfl, hown3, hb3⟩
          rw [HJl.out] at hown3
          obtain ⟨A3, c3, rfl, -, hc3, -, hB3⟩ := own_slice hown3
          have HBy3 := Lib.hid hB3
          have Hb3 := Lib.hid hb3
          have hs3 := hb3.size
          clear hown3 hB3 hb3
          go_wp2_with fail
          refine (same_yes A1 A3 J J c1 c3 (joinB xss) (joinB xss) w3 _ _ HJl.out HJl.out rfl (((HBy1.out.below Hb2.out (Nat.le_refl _))).keep fun b hb => Hb3.out.block b (by omega)) HBy3.out (by omega)).mono ?_
          rintro e w4 ⟨rfl, q, rfl⟩
          have HBw3 : Hid (Below w.heap.size w (w3.drewN q)) := below_drewN (HBw2.out.trans (Hb3.out.mono (by omega))) q
          go_wp2_with fail
          refine (answers3 (w3.drewN q)).mono ?_
          rintro e w5 ⟨rfl, hb5⟩
          have Hb5 := Lib.hid hb5
          have hs5 := hb5.size
          have hsd : (w3.drewN q).heap.size = w3.heap.size := rfl
          rw [hsd] at hs5
          clear hb5
          have HBw5 : Hid (Below w.heap.size w w5) := HBw3.out.trans (Hb5.out.mono (by rw [hsd]; omega))
          go_wp2_with fail
          refine (parts_any A2 A k k c2 c xss xss w5 _ _ HX.out HX.out ((((HR2.out.wide (T := (· < w2.heap.size)) fun b hb => hb.2).below Hb3.out (Nat.le_refl _)).keep (w' := w3.drewN q) fun _ _ => rfl).keep fun b hb => Hb5.out.block b (by rw [hsd]; omega)) (HB.out.below HBw5.out (Nat.le_refl _)) (by omega) (by omega) (fun j hj => by have := HA.out j hj; omega) (fun j hj => by have := HA.out j hj; omega)).mono ?_
          rintro e w6 ⟨rfl, r, rfl⟩
          simp only [decide_true]
          go_wp2_with fail
          go_ret
          exact ⟨rfl, below_drewN HBw5.out r⟩
        · have hkm : most < (k : Int) := by
            by_cases h : most < (k : Int)
            · exact h
            · exact absurd ⟨xss, rfl, by rw [HX.out]; omega⟩ hno
          clear hno
          go_wp2_with fail
          refine (refJoin_any A k c xss w2 HX.out ((HB.out.below HBw2.out (Nat.le_refl _)).wide fun b hb => by omega) (by rw [HJl.out]; omega)).mono ?_
          rintro e w3 ⟨v3, rfl, hown3, hb3⟩
          rw [HJl.out] at hown3
          obtain ⟨A3, c3, rfl, -, hc3, -, hB3⟩ := own_slice hown3
          have HBy3 := Lib.hid hB3
          have Hb3 := Lib.hid hb3
          have hs3 := hb3.size
          clear hown3 hB3 hb3
          go_wp2_with fail
          refine (same_yes A1 A3 J J c1 c3 (joinB xss) (joinB xss) w3 _ _ HJl.out HJl.out rfl (((HBy1.out.below Hb2.out (Nat.le_refl _))).keep fun b hb => Hb3.out.block b (by omega)) HBy3.out (by omega)).mono ?_
          rintro e w4 ⟨rfl, q, rfl⟩
          have HBw3 : Hid (Below w.heap.size w (w3.drewN q)) := below_drewN (HBw2.out.trans (Hb3.out.mono (by omega))) q
          go_wp2_with fail
          refine (answers3 (w3.drewN q)).mono ?_
          rintro e w5 ⟨rfl, hb5⟩
          have hsd : (w3.drewN q).heap.size = w3.heap.size := rfl
          go_wp2_with fail
          go_ret
          exact ⟨rfl, HBw3.out.trans (hb5.mono (by rw [hsd]; omega))⟩
  · have hc1 : Hid (c ≤ 9223372036854775807) := by have := Hcm.out; unfold maxLen at this; show c ≤ 9223372036854775807; omega
    go_enter Try.func3, Try.ntmps3
    go_wp2_with fail
    refine (answers3 w).mono ?_
    rintro e w3 ⟨rfl, hb3⟩
    go_wp2_with fail
    go_ret
    exact ⟨rfl, hb3⟩

set_option maxRecDepth 100000 in
theorem lifted (os : Os) (started : os.Started) (H : Type) (enc : TypeId × Value → H) :
    ReturnsInHanded {} Try.checked os 3 .any (Rows.packBackSpec.pre6 enc Try.prog Try.f3 Rows.packBackRow.domain false) (Rows.packBackSpec.post enc Try.prog Try.f3 false true false false) := by
  refine returnsInHanded_of_change (C := Try.checked) own started (by kernel_rfl) Try.func3
    (ChangeSpec.witness6 (enc := enc) (C := Try.checked) false ⟨#[], #[.slice none 0 0, .int .i64 0], []⟩ 8 (by kernel_rfl) (by kernel_rfl) (by kernel_rfl) (by kernel_rfl)) ?_
  intro W base args ds gs before hval0 hW hcnd _
  have hval : ∀ (j : Nat) t v, Try.f3.params[j]? = some t → args[j]? = some v → Value.okWide Try.prog W .any base t v := hval0
  have hW' := hW
  obtain ⟨p, q, hA0, hV, rfl, hfz, hnd⟩ := hW
  have hA : DataW.TrodAll enc Try.prog W 0 (fun _ => true) true Try.f3.params.toList args.toList ds p := hA0
  rw [Try.params3] at hA hval
  obtain ⟨v0, vs0, d0, ds0, p0, q0, hargs, rfl, rfl, h0, r0⟩ := trodAll_cons hA
  obtain ⟨v1, vs1, d1, ds1, p1, q1, rfl, rfl, rfl, h1, r1⟩ := trodAll_cons r0
  obtain ⟨rfl, rfl, rfl⟩ := trodAll_nil r1
  obtain rfl : args = #[v0, v1] := by cases args; simp_all
  obtain ⟨rfl, rfl⟩ := trodVars_none hV
  obtain ⟨a0, len0, cap0, rfl⟩ := okWide_slice Try.underlying22 (hval 0 22 v0 rfl rfl)
  have lt0 : ∀ x ∈ p0, x.block < W.heap.size := by obtain ⟨m, hm⟩ := h0; exact DataW.trod_lt m _ _ _ hm
  obtain ⟨xss0, hx0, hb0, hB0, hlc0, hcm0⟩ := open_rws h0
  obtain ⟨a1, rfl, rfl, rfl, w1⟩ := open_int Try.underlying3 (hval 1 3 v1 rfl rfl) h1
  clear hA0 hval0
  refine (walk a0 len0 cap0 xss0 a1 W hx0 hb0 hB0 hcm0 (bounds_i64 w1)).mono fun e W' ⟨he, bel⟩ => ?_
  subst he
  exact ⟨_, rfl, _, _, _, [], _, [], hW', trodAll_mk1 (shut_bool Try.underlying4 _), (trodAll_cons_mk (Below.trod laidOut (by kernel_rfl) (of_decide_eq_true (by kernel_rfl)) h0 bel lt0) (trodAll_cons_mk (shut_int Try.underlying3 w1) trodAll_mk0)), rfl, bel.frame _, fun h => by cases h⟩

theorem over : Rows.packBackRow.holds Try.pinned (OpenSpec.ofChange Rows.packBackSpec) :=
  OpenClaim.holds_of_wide 3 Try.f3 rfl rfl rfl rfl rfl rfl rfl ⟨rfl, rfl, rfl, rfl, rfl⟩ rfl rfl rfl rfl rfl (by kernel_rfl) Try.func3 (by kernel_rfl)
    (of_decide_eq_true (by kernel_rfl)) (by unfold Func.isWrapper; first | (rw [if_pos (by decide +kernel)]; kernel_rfl) | (rw [if_neg (by decide +kernel)]; exact ⟨rfl, rfl⟩))
    (fun os started H enc _ => lifted os started H enc)

/-- The statement. -/
theorem proved : Rows.PackBackSaid := over
end Go.Proofs.Ytjjfifgkklpkkaa.packBack
