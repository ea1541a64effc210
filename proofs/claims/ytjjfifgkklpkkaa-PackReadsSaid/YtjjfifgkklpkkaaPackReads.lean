/-
  The law PackReads holds: which parts any bytes are, or none, is answered as the document's Split has it; the law's function returns true and turns nothing that was there.
  Conditions: none.
-/
import Derived.Test.YtjjfifgkklpkkaaOpn
import Derived.Test.YtjjfifgkklpkkaaPan
import Derived.Test.YtjjfifgkklpkkaaRsp
import Derived.Test.YtjjfifgkklpkkaaPts
namespace Go.Proofs.Ytjjfifgkklpkkaa.packReads
open Go.ChangeShapes Go.WideShapes Go.ChangeAt Go.RowKit
set_option linter.unusedVariables false

theorem part_len {xss : List (List Nat)} {xs : List Nat} (h : xs = joinB xss) : xss.length ≤ xs.length ∧ ∀ j, j < xss.length → (xss[j]?.getD []).length ≤ xs.length := by
  subst h
  have h1 := pts_many xss
  refine ⟨by rw [joinB_length]; omega, fun j hj => ?_⟩
  have h2 := pts_le xss (j + 1)
  rw [pts_take xss j hj, List.length_append, pt_length] at h2
  rw [joinB_length]
  omega

set_option maxRecDepth 100000 in
set_option maxHeartbeats 1000000 in
theorem walk (A : Option Addr) (n c : Nat) (xs : List Nat) (most : Int) (w : World) (hx : xs.length = n) (hb : ∀ x ∈ xs, x < 256) (hB : Byt (· < w.heap.size) w A xs) (hlc : n ≤ c) (hcm : c ≤ maxLen) (hmost : -9223372036854775808 ≤ most ∧ most ≤ 9223372036854775807) :
    Calls Try.prog 4 #[.slice A n c, .int .i64 most] w fun e w' => e = .returned (.bool true) ∧ Below w.heap.size w w' := by
  have HX := Lib.hid hx
  have Hb := Lib.hid hb
  have HB := Lib.hid hB
  have Hcm := Lib.hid hcm
  clear hx hb hB hcm
  by_cases hn : n ≤ 3000
  · go_enter Try.func4, Try.ntmps4
    go_wp2_with fail
    refine (split_any A n c xs most w HX.out Hb.out HB.out (by omega) (by omega)).mono ?_
    rintro e w1 ⟨hb1, hr1⟩
    have Hb1 := Lib.hid hb1
    have hs1 := hb1.size
    have H64 : Hid (xs.length < B64) := by show xs.length < B64; rw [HX.out]; unfold B64; omega
    clear hb1
    rcases hr1 with ⟨xss, A1, c1, hj, rfl, -, hR1⟩ | ⟨hno, rfl⟩
    · have HJ := Lib.hid hj
      have HR1 := Lib.hid hR1
      obtain ⟨hl1, hl2⟩ := part_len hj.1
      rw [HX.out] at hl1 hl2
      have HL2 := Lib.hid hl2
      clear hj hR1 hl2
      go_wp2_with fail
      refine (refSplit_any A n c xs most w1 HX.out Hb.out ((HB.out.below Hb1.out (Nat.le_refl _)).wide fun b hb => by omega) (by omega) hlc Hcm.out (by omega)).mono ?_
      rintro e w2 ⟨hb2, ⟨yss, A2, c2, hj2, rfl, -, hR2⟩ | ⟨hno, -⟩⟩
      · obtain rfl : yss = xss := join_unique H64.out hj2.1 HJ.out.1
        have Hb2 := Lib.hid hb2
        have HR2 := Lib.hid hR2
        have hs2 := hb2.size
        clear hb2 hj2 hR2
        go_wp2_with fail
        refine (answers3 w2).mono ?_
        rintro e w3 ⟨rfl, hb3⟩
        have Hb3 := Lib.hid hb3
        clear hb3
        go_wp2_with fail
        refine (parts_any A1 A2 yss.length yss.length c1 c2 yss yss w3 _ _ rfl rfl (((HR1.out.wide fun b hb => hb.2).below Hb2.out (Nat.le_refl _)).keep fun b hb => Hb3.out.block b (by omega)) (HR2.out.below Hb3.out (Nat.le_refl _)) (by omega) (by omega) (fun j hj => by have := HL2.out j hj; omega) (fun j hj => by have := HL2.out j hj; omega)).mono ?_
        rintro e w4 ⟨rfl, q, rfl⟩
        simp only [decide_true]
        go_wp2_with fail
        go_ret
        exact ⟨rfl, below_drewN ((Hb1.out.trans (Hb2.out.mono hs1)).trans (Hb3.out.mono (by omega))) q⟩
      · exact absurd ⟨_, HJ.out⟩ hno
    · have HNo := Lib.hid hno
      clear hno
      go_wp2_with fail
      refine (refSplit_any A n c xs most w1 HX.out Hb.out ((HB.out.below Hb1.out (Nat.le_refl _)).wide fun b hb => by omega) (by omega) hlc Hcm.out (by omega)).mono ?_
      rintro e w2 ⟨hb2, ⟨yss, A2, c2, hj2, rfl, -, hR2⟩ | ⟨hno, A2, n2, c2, rfl⟩⟩
      · exact absurd ⟨_, hj2⟩ HNo.out
      · have Hb2 := Lib.hid hb2
        have hs2 := hb2.size
        clear hb2 hno
        go_wp2_with fail
        refine (answers3 w2).mono ?_
        rintro e w3 ⟨rfl, hb3⟩
        go_wp2_with fail
        go_ret
        exact ⟨rfl, (Hb1.out.trans (Hb2.out.mono hs1)).trans (hb3.mono (by omega))⟩
  · go_enter Try.func4, Try.ntmps4
    have hc1 : Hid (c ≤ 9223372036854775807) := by have := Hcm.out; unfold maxLen at this; show c ≤ 9223372036854775807; omega
    go_wp2_with fail
    refine (answers3 w).mono ?_
    rintro e w3 ⟨rfl, hb3⟩
    go_wp2_with fail
    go_ret
    exact ⟨rfl, hb3⟩

set_option maxRecDepth 100000 in
theorem lifted (os : Os) (started : os.Started) (H : Type) (enc : TypeId × Value → H) :
    ReturnsInHanded {} Try.checked os 4 .any (Rows.packReadsSpec.pre6 enc Try.prog Try.f4 Rows.packReadsRow.domain false) (Rows.packReadsSpec.post enc Try.prog Try.f4 false true false false) := by
  refine returnsInHanded_of_change (C := Try.checked) own started (by kernel_rfl) Try.func4
    (ChangeSpec.witness6 (enc := enc) (C := Try.checked) false ⟨#[], #[.slice none 0 0, .int .i64 0], []⟩ 8 (by kernel_rfl) (by kernel_rfl) (by kernel_rfl) (by kernel_rfl)) ?_
  intro W base args ds gs before hval0 hW hcnd _
  have hval : ∀ (j : Nat) t v, Try.f4.params[j]? = some t → args[j]? = some v → Value.okWide Try.prog W .any base t v := hval0
  have hW' := hW
  obtain ⟨p, q, hA0, hV, rfl, hfz, hnd⟩ := hW
  have hA : DataW.TrodAll enc Try.prog W 0 (fun _ => true) true Try.f4.params.toList args.toList ds p := hA0
  rw [Try.params4] at hA hval
  obtain ⟨v0, vs0, d0, ds0, p0, q0, hargs, rfl, rfl, h0, r0⟩ := trodAll_cons hA
  obtain ⟨v1, vs1, d1, ds1, p1, q1, rfl, rfl, rfl, h1, r1⟩ := trodAll_cons r0
  obtain ⟨rfl, rfl, rfl⟩ := trodAll_nil r1
  obtain rfl : args = #[v0, v1] := by cases args; simp_all
  obtain ⟨rfl, rfl⟩ := trodVars_none hV
  obtain ⟨a0, len0, cap0, rfl⟩ := okWide_slice Try.underlying24 (hval 0 24 v0 rfl rfl)
  have lt0 : ∀ x ∈ p0, x.block < W.heap.size := by obtain ⟨m, hm⟩ := h0; exact DataW.trod_lt m _ _ _ hm
  obtain ⟨xs0, hx0, hb0, hB0, hlc0, hcm0⟩ := open_byt h0
  obtain ⟨a1, rfl, rfl, rfl, w1⟩ := open_int Try.underlying3 (hval 1 3 v1 rfl rfl) h1
  clear hA0 hval0
  refine (walk a0 len0 cap0 xs0 a1 W hx0 hb0 hB0 hlc0 hcm0 (bounds_i64 w1)).mono fun e W' ⟨he, bel⟩ => ?_
  subst he
  exact ⟨_, rfl, _, _, _, [], _, [], hW', trodAll_mk1 (shut_bool Try.underlying4 _), (trodAll_cons_mk (Below.trod laidOut (by kernel_rfl) (of_decide_eq_true (by kernel_rfl)) h0 bel lt0) (trodAll_cons_mk (shut_int Try.underlying3 w1) trodAll_mk0)), rfl, bel.frame _, fun h => by cases h⟩

theorem over : Rows.packReadsRow.holds Try.pinned (OpenSpec.ofChange Rows.packReadsSpec) :=
  OpenClaim.holds_of_wide 4 Try.f4 rfl rfl rfl rfl rfl rfl rfl ⟨rfl, rfl, rfl, rfl, rfl⟩ rfl rfl rfl rfl rfl (by kernel_rfl) Try.func4 (by kernel_rfl)
    (of_decide_eq_true (by kernel_rfl)) (by unfold Func.isWrapper; first | (rw [if_pos (by decide +kernel)]; kernel_rfl) | (rw [if_neg (by decide +kernel)]; exact ⟨rfl, rfl⟩))
    (fun os started H enc _ => lifted os started H enc)

/-- The statement. -/
theorem proved : Rows.PackReadsSaid := over
end Go.Proofs.Ytjjfifgkklpkkaa.packReads
