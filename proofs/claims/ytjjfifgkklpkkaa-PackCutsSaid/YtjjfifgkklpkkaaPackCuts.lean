/-
  The law PackCuts holds: a Join that is cut off anywhere, or has something behind it, is none; the law's function returns true and turns nothing that was there.
  Conditions: none.
-/
import Derived.Test.YtjjfifgkklpkkaaOpn
import Derived.Test.YtjjfifgkklpkkaaPan
import Derived.Test.YtjjfifgkklpkkaaRjn
namespace Go.Proofs.Ytjjfifgkklpkkaa.packCuts
open Go.ChangeShapes Go.WideShapes Go.ChangeAt Go.RowKit
set_option linter.unusedVariables false

set_option maxRecDepth 100000 in
set_option maxHeartbeats 1000000 in
theorem walk (A : Option Addr) (n c : Nat) (xss : List (List Nat)) (at0 more0 : Int) (w : World) (hx : xss.length = n) (hb : ∀ j, j < n → ∀ x ∈ xss[j]?.getD [], x < 256) (hB : Rws (· < w.heap.size) w A xss) (hcm : c ≤ maxLen) (hat : 0 ≤ at0 ∧ at0 ≤ 65535) (hmo : 0 ≤ more0 ∧ more0 ≤ 255) :
    Calls Try.prog 5 #[.slice A n c, .int .u16 at0, .int .u8 more0] w fun e w' => e = .returned (.bool true) ∧ Below w.heap.size w w' := by
  obtain ⟨a1, rfl⟩ : ∃ a1 : Nat, at0 = (a1 : Int) := ⟨at0.toNat, by omega⟩
  obtain ⟨m1, rfl⟩ : ∃ m1 : Nat, more0 = (m1 : Int) := ⟨more0.toNat, by omega⟩
  have ha1 : a1 ≤ 65535 := by omega
  have hm1 : m1 ≤ 255 := by omega
  have HX := Lib.hid hx
  have Hb := Lib.hid hb
  have HB := Lib.hid hB
  have Hcm := Lib.hid hcm
  clear hx hb hB hcm hat hmo
  by_cases hn : n ≤ 50
  · go_enter Try.func5, Try.ntmps5
    go_wp2_with fail
    go_loop [7] (fun i => ∃ k : Nat, k ≤ n ∧ i = .int .i64 (k : Nat) ∧ ∀ j, j < k → (xss[j]?.getD []).length ≤ 1000) (fun i => n - (intOf i).toNat)
    case atStart => exact ⟨0, Nat.zero_le _, rfl, fun j hj => absurd hj (by omega)⟩
    case round =>
      obtain ⟨k, hk, rfl, hall⟩ := hrel
      have HA := Lib.hid hall
      clear hall
      by_cases hlt : k < n
      · obtain ⟨a, B, c2, rfl, hab, hcell, hxc, _⟩ := HB.out.at (k := k) (by rw [HX.out]; exact hlt)
        obtain ⟨x, hx⟩ : ∃ x, xss[k]?.getD [] = x := ⟨_, rfl⟩
        rw [hx] at hcell
        have HXk := Lib.hid hx
        clear hx hab hxc
        by_cases hx1 : x.length ≤ 1000
        · go_wp2_with fail
          refine ⟨⟨k + 1, by omega, by simp, fun j hj => ?_⟩, by simp [intOf]; omega⟩
          rcases Nat.lt_or_ge j k with h | h
          · exact HA.out j h
          · obtain rfl : j = k := by omega
            rw [HXk.out]
            exact hx1
        · go_wp2_with fail
          refine (answers3 w).mono ?_
          rintro e w3 ⟨rfl, hb3⟩
          go_wp2_with fail
          go_ret
          exact ⟨rfl, hb3⟩
      · obtain rfl : k = n := by omega
        have HJ : Hid ((joinB xss).length ≤ 10 + k * 1010) := by
          have := joinB_bound xss 1000 (by unfold B64; omega) (by rw [HX.out]; unfold B64; omega) (by rw [HX.out]; exact HA.out)
          rw [HX.out] at this
          exact this
        have HJb : Hid (∀ x ∈ joinB xss, x < 256) := joinB_bytes xss (by rw [HX.out]; exact Hb.out)
        obtain ⟨J, hJ⟩ : ∃ J, (joinB xss).length = J := ⟨_, rfl⟩
        have hJb : J ≤ 400000 := by have := HJ.out; omega
        have hJ0 : 0 < J := by rw [← hJ]; exact joinB_pos xss
        have HJl := Lib.hid hJ
        clear hJ
        go_wp2_with fail
        refine (refJoin_any A k c xss w HX.out HB.out (by rw [HJl.out]; omega)).mono ?_
        rintro e w1 ⟨v1, rfl, hown1, hb1⟩
        rw [HJl.out] at hown1
        obtain ⟨A1, c1, rfl, -, hc1, hc1m, hB1⟩ := own_slice hown1
        have HBy1 := Lib.hid (hB1.wide (T := (· < w1.heap.size)) fun b hb => hb.2)
        have Hb1 := Lib.hid hb1
        have hs1 := hb1.size
        clear hown1 hB1 hb1
        unfold maxLen at hc1m
        obtain ⟨ad, rfl, -, -⟩ := HBy1.out.at (k := 0) (by rw [HJl.out]; omega)
        have e0 : ((J : Int) == 0) = false := by simp; omega
        have e1 : (a1 : Int) % (J : Int) = ((a1 % J : Nat) : Int) := by omega
        obtain ⟨r, hr⟩ : ∃ r, a1 % J = r := ⟨_, rfl⟩
        have hrJ : r < J := by rw [← hr]; exact Nat.mod_lt _ hJ0
        rw [hr] at e1
        have e2 : r ≤ c1 := by omega
        have e3 : (r : Int) ≤ (c1 : Int) := by omega
        have HTl : Hid (((joinB xss).take r).length = r) := by show ((joinB xss).take r).length = r; rw [List.length_take, HJl.out]; omega
        clear hr
        go_wp2_with fail
        refine (split_any (some ad) r c1 ((joinB xss).take r) 100 w1 HTl.out (fun x hx => HJb.out x (List.mem_of_mem_take hx)) (HBy1.out.take r) (by omega) (by omega)).mono ?_
        rintro e w2 ⟨hb2, ⟨yss, A2, c2, hj, -⟩ | ⟨-, rfl⟩⟩
        · exact absurd ⟨_, hj⟩ (no_join_take (by rw [HJl.out]; unfold B64; omega) (by rw [HJl.out]; exact hrJ))
        · have Hb2 := Lib.hid hb2
          have hs2 := hb2.size
          clear hb2
          have HBw2 : Hid (Below w.heap.size w w2) := Hb1.out.trans (Hb2.out.mono hs1)
          have HBy2 := Lib.hid (HBy1.out.below Hb2.out (Nat.le_refl _))
          have HB0 : Hid (Below w2.heap.size w2 (w2.alloc (.cells #[] 5))) := (Below.refl _ w2).alloc (Nat.le_refl _) _
          go_wp2_with (first
            | (at_builtin
               refine walk_append _ rfl (.tmp 44) (.tmp 45) rfl w2.heap.size (.slice (some ⟨w2.heap.size, 0, none⟩) 0 0) 0 [] rfl (own_empty w2) (some ad) J c1 (joinB xss) rfl HJl.out (· < w1.heap.size)
                 (HBy2.out.keep fun b hb => Below.heap_alloc w2 _ b (by omega)) (by omega) (by simp) ?_
               intro v3 w3 hown3 hg3 _
               rw [Nat.zero_add, List.nil_append] at hown3
               have HO3 := Lib.hid hown3
               have HB3 : Hid (Below w2.heap.size w2 w3) := HB0.out.grown hg3 (by simp) (fun k hk => by simp [Value.ownBlock] at hk; omega)
               have hs3 := HB3.out.size
               clear hown3 hg3)
            | (at_builtin
               refine walk_append _ rfl (.tmp 46) (.tmp 48) rfl w2.heap.size v3 J (joinB xss) rfl (HO3.out.alloc _) (some ⟨w3.heap.size, 0, none⟩) 1 1 [m1] rfl rfl (· = w3.heap.size) (byt_one w3 _ m1 rfl) (by omega) (by simp; omega) ?_
               intro v4 w4 hown4 hg4 _
               have HO4 := Lib.hid hown4
               have HB4 : Hid (Below w2.heap.size w2 w4) := (HB3.out.alloc hs3 _).grown hg4 (by simp; omega) (fun k hk => (HO3.out.lt k hk).1)
               clear hown4 hg4))
          obtain ⟨A4, c4, rfl, -, hc4, -, hB4⟩ := own_slice HO4.out
          have HBy4 := Lib.hid (hB4.wide (T := (· < w4.heap.size)) fun b hb => hb.2)
          have hs4 := HB4.out.size
          clear hB4
          refine (split_any A4 (J + 1) c4 (joinB xss ++ [m1]) 100 w4 (by rw [List.length_append, HJl.out]; rfl) (fun x hx => ?_) HBy4.out (by omega) (by omega)).mono ?_
          · rcases List.mem_append.1 hx with h | h
            · exact HJb.out x h
            · simp at h
              omega
          · rintro e w5 ⟨hb5, ⟨yss, A5, c5, hj, -⟩ | ⟨-, rfl⟩⟩
            · exact absurd ⟨_, hj⟩ (no_join_more (by rw [HJl.out]; unfold B64; omega))
            · have hs5 := hb5.size
              have HBw5 : Hid (Below w.heap.size w w5) := (HBw2.out.trans (HB4.out.mono (by omega))).trans (hb5.mono (by omega))
              clear hb5 HO4
              go_wp2_with fail
              refine (answers3 w5).mono ?_
              rintro e w6 ⟨rfl, hb6⟩
              go_wp2_with fail
              go_ret
              exact ⟨rfl, HBw5.out.trans (hb6.mono (by omega))⟩
  · have hc1 : Hid (c ≤ 9223372036854775807) := by have := Hcm.out; unfold maxLen at this; show c ≤ 9223372036854775807; omega
    go_enter Try.func5, Try.ntmps5
    go_wp2_with fail
    refine (answers3 w).mono ?_
    rintro e w3 ⟨rfl, hb3⟩
    go_wp2_with fail
    go_ret
    exact ⟨rfl, hb3⟩

set_option maxRecDepth 100000 in
theorem lifted (os : Os) (started : os.Started) (H : Type) (enc : TypeId × Value → H) :
    ReturnsInHanded {} Try.checked os 5 .any (Rows.packCutsSpec.pre6 enc Try.prog Try.f5 Rows.packCutsRow.domain false) (Rows.packCutsSpec.post enc Try.prog Try.f5 false true false false) := by
  refine returnsInHanded_of_change (C := Try.checked) own started (by kernel_rfl) Try.func5
    (ChangeSpec.witness6 (enc := enc) (C := Try.checked) false ⟨#[], #[.slice none 0 0, .int .u16 0, .int .u8 0], []⟩ 8 (by kernel_rfl) (by kernel_rfl) (by kernel_rfl) (by kernel_rfl)) ?_
  intro W base args ds gs before hval0 hW hcnd _
  have hval : ∀ (j : Nat) t v, Try.f5.params[j]? = some t → args[j]? = some v → Value.okWide Try.prog W .any base t v := hval0
  have hW' := hW
  obtain ⟨p, q, hA0, hV, rfl, hfz, hnd⟩ := hW
  have hA : DataW.TrodAll enc Try.prog W 0 (fun _ => true) true Try.f5.params.toList args.toList ds p := hA0
  rw [Try.params5] at hA hval
  obtain ⟨v0, vs0, d0, ds0, p0, q0, hargs, rfl, rfl, h0, r0⟩ := trodAll_cons hA
  obtain ⟨v1, vs1, d1, ds1, p1, q1, rfl, rfl, rfl, h1, r1⟩ := trodAll_cons r0
  obtain ⟨v2, vs2, d2, ds2, p2, q2, rfl, rfl, rfl, h2, r2⟩ := trodAll_cons r1
  obtain ⟨rfl, rfl, rfl⟩ := trodAll_nil r2
  obtain rfl : args = #[v0, v1, v2] := by cases args; simp_all
  obtain ⟨rfl, rfl⟩ := trodVars_none hV
  obtain ⟨a0, len0, cap0, rfl⟩ := okWide_slice Try.underlying22 (hval 0 22 v0 rfl rfl)
  have lt0 : ∀ x ∈ p0, x.block < W.heap.size := by obtain ⟨m, hm⟩ := h0; exact DataW.trod_lt m _ _ _ hm
  obtain ⟨xss0, hx0, hb0, hB0, hlc0, hcm0⟩ := open_rws h0
  obtain ⟨a1, rfl, rfl, rfl, w1⟩ := open_int Try.underlying35 (hval 1 35 v1 rfl rfl) h1
  obtain ⟨a2, rfl, rfl, rfl, w2⟩ := open_int Try.underlying5 (hval 2 5 v2 rfl rfl) h2
  clear hA0 hval0
  refine (walk a0 len0 cap0 xss0 a1 a2 W hx0 hb0 hB0 hcm0 (bounds_u16 w1) (bounds_u8 w2)).mono fun e W' ⟨he, bel⟩ => ?_
  subst he
  exact ⟨_, rfl, _, _, _, [], _, [], hW', trodAll_mk1 (shut_bool Try.underlying4 _), (trodAll_cons_mk (Below.trod laidOut (by kernel_rfl) (of_decide_eq_true (by kernel_rfl)) h0 bel lt0) (trodAll_cons_mk (shut_int Try.underlying35 w1) (trodAll_cons_mk (shut_int Try.underlying5 w2) trodAll_mk0))), rfl, bel.frame _, fun h => by cases h⟩

theorem over : Rows.packCutsRow.holds Try.pinned (OpenSpec.ofChange Rows.packCutsSpec) :=
  OpenClaim.holds_of_wide 5 Try.f5 rfl rfl rfl rfl rfl rfl rfl ⟨rfl, rfl, rfl, rfl, rfl⟩ rfl rfl rfl rfl rfl (by kernel_rfl) Try.func5 (by kernel_rfl)
    (of_decide_eq_true (by kernel_rfl)) (by unfold Func.isWrapper; first | (rw [if_pos (by decide +kernel)]; kernel_rfl) | (rw [if_neg (by decide +kernel)]; exact ⟨rfl, rfl⟩))
    (fun os started H enc _ => lifted os started H enc)

/-- The statement. -/
theorem proved : Rows.PackCutsSaid := over
end Go.Proofs.Ytjjfifgkklpkkaa.packCuts
