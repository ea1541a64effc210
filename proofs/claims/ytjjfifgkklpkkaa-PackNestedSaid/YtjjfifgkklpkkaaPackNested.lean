/-
  The law PackNested holds: parts that are Joins themselves come out as they went in; the law's function returns true and turns nothing that was there.
  Conditions: none.
-/
import Derived.Test.YtjjfifgkklpkkaaOpn
import Derived.Test.YtjjfifgkklpkkaaPan
import Derived.Test.YtjjfifgkklpkkaaPts
namespace Go.Proofs.Ytjjfifgkklpkkaa.packNested
open Go.ChangeShapes Go.WideShapes Go.ChangeAt Go.RowKit
set_option linter.unusedVariables false

set_option maxRecDepth 100000 in
set_option maxHeartbeats 2000000 in
theorem walk (A B : Option Addr) (n c m d : Nat) (xss yss : List (List Nat)) (w : World) (hx : xss.length = n) (hy : yss.length = m) (hbx : ∀ j, j < n → ∀ x ∈ xss[j]?.getD [], x < 256) (hby : ∀ j, j < m → ∀ x ∈ yss[j]?.getD [], x < 256) (hA : Rws (· < w.heap.size) w A xss) (hB : Rws (· < w.heap.size) w B yss) (hcm : c ≤ maxLen) (hdm : d ≤ maxLen) :
    Calls Try.prog 6 #[.slice A n c, .slice B m d] w fun e w' => e = .returned (.bool true) ∧ Below w.heap.size w w' := by
  have HX := Lib.hid hx
  have HY := Lib.hid hy
  have Hbx := Lib.hid hbx
  have Hby := Lib.hid hby
  have HA := Lib.hid hA
  have HB := Lib.hid hB
  have Hcm := Lib.hid hcm
  have Hdm := Lib.hid hdm
  clear hx hy hbx hby hA hB hcm hdm
  by_cases hn : n ≤ 20
  · by_cases hm : m ≤ 20
    · go_enter Try.func6, Try.ntmps6
      go_wp2_with fail
      go_loop [5] (fun i => ∃ k : Nat, k ≤ 20 ∧ i = .int .i64 (k : Nat) ∧ (∀ j, j < k → j < n → (xss[j]?.getD []).length ≤ 500) ∧ ∀ j, j < k → j < m → (yss[j]?.getD []).length ≤ 500) (fun i => 20 - (intOf i).toNat)
      case atStart => exact ⟨0, by omega, rfl, fun j hj => absurd hj (by omega), fun j hj => absurd hj (by omega)⟩
      case round =>
        obtain ⟨k, hk, rfl, hall1, hall2⟩ := hrel
        have HA1 := Lib.hid hall1
        have HA2 := Lib.hid hall2
        clear hall1 hall2
        by_cases hkn : k < n
        · obtain ⟨a, A1, c1, rfl, hab, hcell, hxc, _⟩ := HA.out.at (k := k) (by rw [HX.out]; exact hkn)
          obtain ⟨x, hx⟩ : ∃ x, xss[k]?.getD [] = x := ⟨_, rfl⟩
          rw [hx] at hcell
          have HXk := Lib.hid hx
          clear hx hab hxc
          by_cases hx1 : x.length ≤ 500
          · have HN1 : Hid (∀ j, j < k + 1 → j < n → (xss[j]?.getD []).length ≤ 500) := fun j hj hjn => by
              rcases Nat.lt_or_ge j k with h | h
              · exact HA1.out j h hjn
              · obtain rfl : j = k := by omega
                rw [HXk.out]
                exact hx1
            by_cases hkm : k < m
            · obtain ⟨b, B1, d1, rfl, hbb, hcellb, hyc, _⟩ := HB.out.at (k := k) (by rw [HY.out]; exact hkm)
              obtain ⟨y, hy⟩ : ∃ y, yss[k]?.getD [] = y := ⟨_, rfl⟩
              rw [hy] at hcellb
              have HYk := Lib.hid hy
              clear hy hbb hyc
              by_cases hy1 : y.length ≤ 500
              · have HN2 : Hid (∀ j, j < k + 1 → j < m → (yss[j]?.getD []).length ≤ 500) := fun j hj hjn => by
                  rcases Nat.lt_or_ge j k with h | h
                  · exact HA2.out j h hjn
                  · obtain rfl : j = k := by omega
                    rw [HYk.out]
                    exact hy1
                go_wp2_with fail
                exact ⟨⟨k + 1, by omega, by simp, HN1.out, HN2.out⟩, by simp [intOf]; omega⟩
              · go_wp2_with fail
                refine (answers3 w).mono ?_
                rintro e w3 ⟨rfl, hb3⟩
                go_wp2_with fail
                go_ret
                exact ⟨rfl, hb3⟩
            · have HN2 : Hid (∀ j, j < k + 1 → j < m → (yss[j]?.getD []).length ≤ 500) := fun j hj hjn => HA2.out j (by omega) hjn
              go_wp2_with fail
              exact ⟨⟨k + 1, by omega, by simp, HN1.out, HN2.out⟩, by simp [intOf]; omega⟩
          · go_wp2_with fail
            refine (answers3 w).mono ?_
            rintro e w3 ⟨rfl, hb3⟩
            go_wp2_with fail
            go_ret
            exact ⟨rfl, hb3⟩
        · by_cases hkm : k < m
          · have HN1 : Hid (∀ j, j < k + 1 → j < n → (xss[j]?.getD []).length ≤ 500) := fun j hj hjn => HA1.out j (by omega) hjn
            obtain ⟨b, B1, d1, rfl, hbb, hcellb, hyc, _⟩ := HB.out.at (k := k) (by rw [HY.out]; exact hkm)
            obtain ⟨y, hy⟩ : ∃ y, yss[k]?.getD [] = y := ⟨_, rfl⟩
            rw [hy] at hcellb
            have HYk := Lib.hid hy
            clear hy hbb hyc
            by_cases hy1 : y.length ≤ 500
            · have HN2 : Hid (∀ j, j < k + 1 → j < m → (yss[j]?.getD []).length ≤ 500) := fun j hj hjn => by
                rcases Nat.lt_or_ge j k with h | h
                · exact HA2.out j h hjn
                · obtain rfl : j = k := by omega
                  rw [HYk.out]
                  exact hy1
              go_wp2_with fail
              exact ⟨⟨k + 1, by omega, by simp, HN1.out, HN2.out⟩, by simp [intOf]; omega⟩
            · go_wp2_with fail
              refine (answers3 w).mono ?_
              rintro e w3 ⟨rfl, hb3⟩
              go_wp2_with fail
              go_ret
              exact ⟨rfl, hb3⟩
          · have HJ1 : Hid ((joinB xss).length ≤ 20000) := by
              have := joinB_bound xss 500 (by unfold B64; omega) (by rw [HX.out]; unfold B64; omega) (by rw [HX.out]; exact fun j hj => HA1.out j (by omega) hj)
              rw [HX.out] at this
              show (joinB xss).length ≤ 20000
              omega
            have HJ2 : Hid ((joinB yss).length ≤ 20000) := by
              have := joinB_bound yss 500 (by unfold B64; omega) (by rw [HY.out]; unfold B64; omega) (by rw [HY.out]; exact fun j hj => HA2.out j (by omega) hj)
              rw [HY.out] at this
              show (joinB yss).length ≤ 20000
              omega
            have HL1 : Hid (∀ j, j < n → (xss[j]?.getD []).length ≤ 1000000) := fun j hj => by have := HA1.out j (by omega) hj; omega
            have HL2 : Hid (∀ j, j < m → (yss[j]?.getD []).length ≤ 1000000) := fun j hj => by have := HA2.out j (by omega) hj; omega
            have HJb1 : Hid (∀ x ∈ joinB xss, x < 256) := joinB_bytes xss (by rw [HX.out]; exact Hbx.out)
            have HJb2 : Hid (∀ x ∈ joinB yss, x < 256) := joinB_bytes yss (by rw [HY.out]; exact Hby.out)
            clear HA1 HA2
            obtain ⟨X, hX⟩ : ∃ X, joinB xss = X := ⟨_, rfl⟩
            obtain ⟨Y, hY⟩ : ∃ Y, joinB yss = Y := ⟨_, rfl⟩
            rw [hX] at HJ1 HJb1
            rw [hY] at HJ2 HJb2
            have HXX := Lib.hid hX
            have HYY := Lib.hid hY
            have hX1 : X.length ≤ 20000 := HJ1.out
            have hY1 : Y.length ≤ 20000 := HJ2.out
            have HZ : Hid ((joinB [X, Y]).length ≤ 100000) := by
              have := joinB_bound [X, Y] 20000 (by unfold B64; omega) (by unfold B64; simp) (fun j hj => by
                have : j = 0 ∨ j = 1 := by simp at hj; omega
                rcases this with rfl | rfl
                · exact hX1
                · exact hY1)
              show (joinB [X, Y]).length ≤ 100000
              simp at this
              omega
            have HZb : Hid (∀ x ∈ joinB [X, Y], x < 256) := joinB_bytes [X, Y] (fun j hj => by
                have : j = 0 ∨ j = 1 := by simp at hj; omega
                rcases this with rfl | rfl
                · exact HJb1.out
                · exact HJb2.out)
            clear hX hY
            go_wp2_with fail
            refine (join_any A n c xss w HX.out HA.out (by rw [HXX.out]; omega)).mono ?_
            rintro e w1 ⟨v1, rfl, hown1, hb1⟩
            rw [HXX.out] at hown1
            obtain ⟨A1, c1, rfl, -, hc1, -, hB1⟩ := own_slice hown1
            have HBy1 := Lib.hid (hB1.wide (T := (· < w1.heap.size)) fun b hb => hb.2)
            have Hb1 := Lib.hid hb1
            have hs1 := hb1.size
            clear hown1 hB1 hb1
            go_wp2_with fail
            refine (join_any B m d yss w1 HY.out ((HB.out.below Hb1.out (Nat.le_refl _)).wide fun b hb => by omega) (by rw [HYY.out]; omega)).mono ?_
            rintro e w2 ⟨v2, rfl, hown2, hb2⟩
            rw [HYY.out] at hown2
            obtain ⟨A2, c2, rfl, -, hc2, -, hB2⟩ := own_slice hown2
            have HBy2 := Lib.hid (hB2.wide (T := (· < w2.heap.size)) fun b hb => hb.2)
            have Hb2 := Lib.hid hb2
            have hs2 := hb2.size
            have HBw2 : Hid (Below w.heap.size w w2) := Hb1.out.trans (hb2.mono hs1)
            clear hown2 hB2 hb2
            go_wp2_with fail
            have HR := Lib.hid (rws_two w2 A1 A2 c1 c2 X.length Y.length X Y rfl rfl hc1 hc2 ((HBy1.out.below Hb2.out (Nat.le_refl _)).wide fun b hb => by omega) HBy2.out)
            have HBw2' : Hid (Below w.heap.size w (w2.alloc (.cells #[.slice A1 X.length c1, .slice A2 Y.length c2] 24))) := HBw2.out.alloc HBw2.out.size _
            refine (join_any _ 2 2 [X, Y] _ rfl HR.out (by have := HZ.out; omega)).mono ?_
            rintro e w3 ⟨v3, rfl, hown3, hb3⟩
            obtain ⟨Z, hZ⟩ : ∃ Z, joinB [X, Y] = Z := ⟨_, rfl⟩
            rw [hZ] at hown3 HZ HZb
            have HZZ := Lib.hid hZ
            obtain ⟨A3, c3, rfl, -, hc3, -, hB3⟩ := own_slice hown3
            have HBy3 := Lib.hid (hB3.wide (T := (· < w3.heap.size)) fun b hb => hb.2)
            have HBw3 : Hid (Below w.heap.size w w3) := HBw2'.out.trans (hb3.mono (by simp; omega))
            have hs3 := HBw3.out.size
            have hZ1 : Z.length ≤ 100000 := HZ.out
            clear hown3 hB3 hb3 HR hZ
            go_wp2_with fail
            refine (split_any A3 Z.length c3 Z 2 w3 rfl HZb.out HBy3.out (by omega) (by omega)).mono ?_
            rintro e w4 ⟨hb4, ⟨zss, A4, c4, hj, rfl, -, hR4⟩ | ⟨hno, -⟩⟩
            · obtain rfl : zss = [X, Y] := join_unique (by unfold B64; omega) hj.1 HZZ.out.symm
              have HBw4 : Hid (Below w.heap.size w w4) := HBw3.out.trans (hb4.mono hs3)
              have hs4 := HBw4.out.size
              obtain ⟨ad, B4, d4, rfl, -, hce0, -, hBX⟩ := hR4.at (k := 0) (by simp)
              obtain ⟨ad', B5, d5, ead, -, hce1, -, hBY⟩ := hR4.at (k := 1) (by simp)
              injection ead with ead
              subst ead
              obtain ⟨-, -, hadb, -⟩ := hR4 (by simp)
              simp [Addr.add] at hce0
              simp at hce1
              have HBX := Lib.hid (hBX.wide (T := (· < w4.heap.size)) fun b hb => hb.2)
              have HBY := Lib.hid (hBY.wide (T := (· < w4.heap.size)) fun b hb => hb.2)
              simp at HBX HBY
              have hadlt : ad.block < w4.heap.size := by have := World.block_lt_of_cell? w4 _ hce0; exact this
              clear hj hR4 hBX hBY hb4
              go_wp2_with fail
              refine (split_any B4 X.length d4 X (n : Int) w4 rfl HJb1.out HBX.out (by omega) (by omega)).mono ?_
              rintro e w5 ⟨hb5, ⟨zss, A5, c5, hj, rfl, -, hR5⟩ | ⟨hno, -⟩⟩
              · obtain rfl : zss = xss := join_unique (by unfold B64; omega) hj.1 HXX.out.symm
                have hce2 : w5.cell? ⟨ad.block, ad.off + 1, none⟩ = some (.slice B5 Y.length d5) := (hb5.cell (p := ad.add 1) (by rw [addBlock]; exact hadlt)).trans hce1
                have Hb5 := Lib.hid hb5
                have hs5 := hb5.size
                have HR5 := Lib.hid (hR5.wide (T := (· < w5.heap.size)) fun b hb => hb.2)
                have HBw5 : Hid (Below w.heap.size w w5) := HBw4.out.trans (hb5.mono hs4)
                clear hj hR5 hb5 hce1 hce0
                rw [HX.out]
                go_wp2_with fail
                refine (split_any B5 Y.length d5 Y (m : Int) w5 rfl HJb2.out ((HBY.out.below Hb5.out (Nat.le_refl _)).wide fun b hb => by omega) (by omega) (by omega)).mono ?_
                rintro e w6 ⟨hb6, ⟨zss', A6, c6, hj, rfl, -, hR6⟩ | ⟨hno, -⟩⟩
                · obtain rfl : zss' = yss := join_unique (by unfold B64; omega) hj.1 HYY.out.symm
                  have Hb6 := Lib.hid hb6
                  have hs6 := hb6.size
                  have HR6 := Lib.hid (hR6.wide (T := (· < w6.heap.size)) fun b hb => hb.2)
                  have HBw6 : Hid (Below w.heap.size w w6) := HBw5.out.trans (hb6.mono HBw5.out.size)
                  clear hj hR6 hb6 hce2
                  rw [HY.out]
                  go_wp2_with fail
                  refine (answers3 w6).mono ?_
                  rintro e w7 ⟨rfl, hb7⟩
                  have Hb7 := Lib.hid hb7
                  have HBw7 : Hid (Below w.heap.size w w7) := HBw6.out.trans (hb7.mono HBw6.out.size)
                  clear hb7
                  go_wp2_with fail
                  refine (parts_any A5 A n n c5 c zss zss w7 _ _ HX.out HX.out ((HR5.out.below Hb6.out (Nat.le_refl _)).keep fun b hb => Hb7.out.block b (by omega)) (HA.out.below HBw7.out (Nat.le_refl _)) (by omega) (by omega) HL1.out HL1.out).mono ?_
                  rintro e w8 ⟨rfl, q, rfl⟩
                  simp only [decide_true]
                  have HBw8 : Hid (Below w.heap.size w (w7.drewN q)) := below_drewN HBw7.out q
                  go_wp2_with fail
                  refine (parts_any A6 B m m c6 d zss' zss' (w7.drewN q) _ _ HY.out HY.out ((HR6.out.below Hb7.out (Nat.le_refl _)).keep fun _ _ => rfl) (HB.out.below HBw8.out (Nat.le_refl _)) (by omega) (by omega) HL2.out HL2.out).mono ?_
                  rintro e w9 ⟨rfl, q2, rfl⟩
                  simp only [decide_true]
                  go_wp2_with fail
                  go_ret
                  exact ⟨rfl, below_drewN HBw7.out _⟩
                · exact absurd ⟨yss, HYY.out.symm, by rw [HY.out]; omega⟩ hno
              · exact absurd ⟨xss, HXX.out.symm, by rw [HX.out]; omega⟩ hno
            · exact absurd ⟨[X, Y], HZZ.out.symm, by simp⟩ hno
    · have hc1 : Hid (d ≤ 9223372036854775807) := by have := Hdm.out; unfold maxLen at this; show d ≤ 9223372036854775807; omega
      go_enter Try.func6, Try.ntmps6
      go_wp2_with fail
      refine (answers3 w).mono ?_
      rintro e w3 ⟨rfl, hb3⟩
      go_wp2_with fail
      go_ret
      exact ⟨rfl, hb3⟩
  · have hc1 : Hid (c ≤ 9223372036854775807) := by have := Hcm.out; unfold maxLen at this; show c ≤ 9223372036854775807; omega
    go_enter Try.func6, Try.ntmps6
    go_wp2_with fail
    refine (answers3 w).mono ?_
    rintro e w3 ⟨rfl, hb3⟩
    go_wp2_with fail
    go_ret
    exact ⟨rfl, hb3⟩

set_option maxRecDepth 100000 in
theorem lifted (os : Os) (started : os.Started) (H : Type) (enc : TypeId × Value → H) :
    ReturnsInHanded {} Try.checked os 6 .any (Rows.packNestedSpec.pre6 enc Try.prog Try.f6 Rows.packNestedRow.domain false) (Rows.packNestedSpec.post enc Try.prog Try.f6 false true false false) := by
  refine returnsInHanded_of_change (C := Try.checked) own started (by kernel_rfl) Try.func6
    (ChangeSpec.witness6 (enc := enc) (C := Try.checked) false ⟨#[], #[.slice none 0 0, .slice none 0 0], []⟩ 8 (by kernel_rfl) (by kernel_rfl) (by kernel_rfl) (by kernel_rfl)) ?_
  intro W base args ds gs before hval0 hW hcnd _
  have hval : ∀ (j : Nat) t v, Try.f6.params[j]? = some t → args[j]? = some v → Value.okWide Try.prog W .any base t v := hval0
  have hW' := hW
  obtain ⟨p, q, hA0, hV, rfl, hfz, hnd⟩ := hW
  have hA : DataW.TrodAll enc Try.prog W 0 (fun _ => true) true Try.f6.params.toList args.toList ds p := hA0
  rw [Try.params6] at hA hval
  obtain ⟨v0, vs0, d0, ds0, p0, q0, hargs, rfl, rfl, h0, r0⟩ := trodAll_cons hA
  obtain ⟨v1, vs1, d1, ds1, p1, q1, rfl, rfl, rfl, h1, r1⟩ := trodAll_cons r0
  obtain ⟨rfl, rfl, rfl⟩ := trodAll_nil r1
  obtain rfl : args = #[v0, v1] := by cases args; simp_all
  obtain ⟨rfl, rfl⟩ := trodVars_none hV
  obtain ⟨a0, len0, cap0, rfl⟩ := okWide_slice Try.underlying22 (hval 0 22 v0 rfl rfl)
  have lt0 : ∀ x ∈ p0, x.block < W.heap.size := by obtain ⟨m, hm⟩ := h0; exact DataW.trod_lt m _ _ _ hm
  obtain ⟨xss0, hx0, hb0, hB0, hlc0, hcm0⟩ := open_rws h0
  obtain ⟨a1, len1, cap1, rfl⟩ := okWide_slice Try.underlying22 (hval 1 22 v1 rfl rfl)
  have lt1 : ∀ x ∈ p1, x.block < W.heap.size := by obtain ⟨m, hm⟩ := h1; exact DataW.trod_lt m _ _ _ hm
  obtain ⟨xss1, hx1, hb1, hB1, hlc1, hcm1⟩ := open_rws h1
  clear hA0 hval0
  refine (walk a0 a1 len0 cap0 len1 cap1 xss0 xss1 W hx0 hx1 hb0 hb1 hB0 hB1 hcm0 hcm1).mono fun e W' ⟨he, bel⟩ => ?_
  subst he
  exact ⟨_, rfl, _, _, _, [], _, [], hW', trodAll_mk1 (shut_bool Try.underlying4 _), (trodAll_cons_mk (Below.trod laidOut (by kernel_rfl) (of_decide_eq_true (by kernel_rfl)) h0 bel lt0) (trodAll_cons_mk (Below.trod laidOut (by kernel_rfl) (of_decide_eq_true (by kernel_rfl)) h1 bel lt1) trodAll_mk0)), rfl, bel.frame _, fun h => by cases h⟩

theorem over : Rows.packNestedRow.holds Try.pinned (OpenSpec.ofChange Rows.packNestedSpec) :=
  OpenClaim.holds_of_wide 6 Try.f6 rfl rfl rfl rfl rfl rfl rfl ⟨rfl, rfl, rfl, rfl, rfl⟩ rfl rfl rfl rfl rfl (by kernel_rfl) Try.func6 (by kernel_rfl)
    (of_decide_eq_true (by kernel_rfl)) (by unfold Func.isWrapper; first | (rw [if_pos (by decide +kernel)]; kernel_rfl) | (rw [if_neg (by decide +kernel)]; exact ⟨rfl, rfl⟩))
    (fun os started H enc _ => lifted os started H enc)

/-- The statement. -/
theorem proved : Rows.PackNestedSaid := over
end Go.Proofs.Ytjjfifgkklpkkaa.packNested
