/-
  The law NumCuts holds: for every number of 64 bits, and wherever its bytes are cut off, the Reader over what is left is bad behind Var and answers 0 and nothing; the law's function returns true and turns nothing that was there.
  Conditions: none.
-/
import Derived.Test.YtepncmceabkgpaaRows
import Derived.Test.YtepncmceabkgpaaRef
import Derived.WalkKit
import Derived.ProofKit
import Derived.OpenShut
import Derived.ShutString
namespace Go.Proofs.Ytepncmceabkgpaa.numCuts
open Go.ChangeShapes Go.WideShapes Go.ChangeAt Go.RowKit
open Go.ChangeMaps (open_string shut_string)
set_option linter.unusedVariables false      -- a walk need not use every 'w<i>' (that an integer argument fits its kind)

theorem own : ownKnob Try.prog.godebug = none := by kernel_rfl

/-- Of the bytes of a number no shorter row is a number. -/
theorem cut_no (v k : Nat) (hk : k < (vb v).length) : ¬ ∃ u n, IsVar ((vb v).take k) u n := by
  refine no_end (i := k) ⟨by simp; omega, fun j hj => ?_⟩ (.inl (by simp; omega))
  rw [take_get _ _ _ hj]
  exact vb_init v j (by omega)

set_option maxHeartbeats 1000000 in
theorem walk (v t : Nat) (hv : v < B64) (ht : t < 256) (w : World) :
    Calls Try.prog 7 #[.int .u64 (v : Nat), .int .u8 (t : Nat)] w fun e w' => e = .returned (.bool true) ∧ Below w.heap.size w w' := by
  have HV := Lib.hid hv
  clear hv
  go_enter Try.func7, Try.ntmps7
  go_wp2_with fail
  refine (refVar_any v w HV.out).mono ?_
  rintro e w1 ⟨u, rfl, hown, hb1⟩
  obtain ⟨A, c, rfl, _, hlc, hcm, hB⟩ := own_slice hown
  have hpos := vb_pos v
  have hlen : (vb v).length ≤ 10 := vb_len 9 _ (by have := HV.out; unfold B64 at this; omega)
  obtain ⟨n, hn⟩ : ∃ n, (vb v).length = n := ⟨_, rfl⟩
  have hs1 := hb1.size
  have HB := Lib.hid hB
  have HN := Lib.hid hn
  rw [hn] at hpos hlen hlc ⊢
  clear hown hB hn
  have hk1 : t % n < n := Nat.mod_lt _ hpos
  have hk2 : t % n ≤ c := by omega
  have hk3 : (t : Int) % (n : Int) ≤ (c : Int) := by omega
  have hk4 : 0 ≤ (t : Int) % (n : Int) := by omega
  go_wp2_with fail
  have hxl : ((vb v).take (t % n)).length = t % n := by rw [List.length_take, HN.out]; omega
  have hno := cut_no v (t % n) (by rw [HN.out]; exact hk1)
  have hby : ∀ x ∈ (vb v).take (t % n), x < 256 := fun x hx => vb_bytes v x (List.mem_of_mem_take hx)
  refine (newReader_any A (t % n) c _ w1 hxl ((HB.out.take _).wide fun b hb => hb.2) (by omega)).mono ?_
  have HY := Lib.hid hby
  have HN2 := Lib.hid hno
  have HL := Lib.hid hxl
  clear hxl hno hby
  rintro e w2 ⟨g, rfl, hG, hg, hb2⟩
  have HG := Lib.hid hG
  have hs2 := hb2.size
  clear hG
  go_wp2_with fail
  refine (answers_any w2).mono ?_
  rintro e w3 ⟨rfl, hb3⟩
  have hs3 := hb3.size
  have HG3 := Lib.hid (HG.out.below hb3 HG.out.lt)
  go_wp2_with fail
  refine (rvar_no g _ w3 HG3.out HY.out HN2.out (by rw [HL.out]; omega)).mono ?_
  rintro e w4 ⟨rfl, hBad, hO⟩
  have HBad := Lib.hid hBad
  have HO := Lib.hid hO
  clear hBad hO
  go_wp2_with fail
  refine (bad_at g _ _ w4 HBad.out).mono ?_
  rintro e w5 ⟨rfl, rfl⟩
  go_wp2_with fail
  refine (left_bad g w4 HBad.out).mono ?_
  rintro e w5 ⟨rfl, rfl⟩
  go_wp2_with fail
  refine (take_bad g 0 w4 HBad.out).mono ?_
  rintro e w5 ⟨rfl, rfl⟩
  go_wp2
  go_ret
  refine ⟨rfl, ((hb1.trans (hb2.mono hs1)).trans (hb3.mono (by omega))).trans (below_only HO.out (by omega) (by omega))⟩

/-! ### THE ROW's STEP: WRITTEN OUT: LEAVE IT -/
set_option maxRecDepth 100000 in
theorem lifted (os : Os) (started : os.Started) (H : Type) (enc : TypeId × Value → H) :
    ReturnsInHanded {} Try.checked os 7 .any (Rows.numCutsSpec.pre6 enc Try.prog Try.f7 Rows.numCutsRow.domain false) (Rows.numCutsSpec.post enc Try.prog Try.f7 false true false false) := by
  refine returnsInHanded_of_change (C := Try.checked) own started (by kernel_rfl) Try.func7
    (ChangeSpec.witness6 (enc := enc) (C := Try.checked) false ⟨#[], #[.int .u64 0, .int .u8 0], []⟩ 8 (by kernel_rfl) (by kernel_rfl) (by kernel_rfl) (by kernel_rfl)) ?_
  intro W base args ds gs before hval0 hW hcnd _
  have hval : ∀ (j : Nat) t v, Try.f7.params[j]? = some t → args[j]? = some v → Value.okWide Try.prog W .any base t v := hval0
  have hW' := hW
  obtain ⟨p, q, hA0, hV, rfl, hfz, hnd⟩ := hW
  have hA : DataW.TrodAll enc Try.prog W 0 (fun _ => true) true Try.f7.params.toList args.toList ds p := hA0
  rw [Try.params7] at hA hval
  obtain ⟨v0, vs0, d0, ds0, p0, q0, hargs, rfl, rfl, h0, r0⟩ := trodAll_cons hA
  obtain ⟨v1, vs1, d1, ds1, p1, q1, rfl, rfl, rfl, h1, r1⟩ := trodAll_cons r0
  obtain ⟨rfl, rfl, rfl⟩ := trodAll_nil r1
  obtain rfl : args = #[v0, v1] := by cases args; simp_all
  obtain ⟨rfl, rfl⟩ := trodVars_none hV
  obtain ⟨a0, rfl, rfl, rfl, w0⟩ := open_int Try.underlying22 (hval 0 22 v0 rfl rfl) h0
  obtain ⟨a1, rfl, rfl, rfl, w1⟩ := open_int Try.underlying5 (hval 1 5 v1 rfl rfl) h1
  clear hA0 hval0
  simp only [List.append_nil] at hW'
  obtain ⟨v, hv, hv64⟩ : ∃ v : Nat, a0 = (v : Int) ∧ v < B64 := nat_u64 a0 w0
  obtain ⟨t, ht, ht256⟩ : ∃ t : Nat, a1 = (t : Int) ∧ t < 256 := nat_u8 a1 w1
  subst hv ht
  refine (walk v t hv64 ht256 W).mono fun e W' ⟨he, bel⟩ => ?_
  subst he
  exact ⟨_, rfl, _, _, _, [], _, [], hW', trodAll_mk1 (shut_bool Try.underlying4 _), (trodAll_cons_mk (shut_int Try.underlying22 w0) (trodAll_cons_mk (shut_int Try.underlying5 w1) trodAll_mk0)), rfl, bel.frame _, fun h => by cases h⟩

theorem over : Rows.numCutsRow.holds Try.pinned (OpenSpec.ofChange Rows.numCutsSpec) :=
  OpenClaim.holds_of_wide 7 Try.f7 rfl rfl rfl rfl rfl rfl rfl ⟨rfl, rfl, rfl, rfl, rfl⟩ rfl rfl rfl rfl rfl (by kernel_rfl) Try.func7 (by kernel_rfl)
    (of_decide_eq_true (by kernel_rfl)) (by unfold Func.isWrapper; first | (rw [if_pos (by decide +kernel)]; kernel_rfl) | (rw [if_neg (by decide +kernel)]; exact ⟨rfl, rfl⟩))
    (fun os started H enc _ => lifted os started H enc)

/-- ████ THE STATEMENT ████ -/
theorem proved : Rows.NumCutsSaid :=
  over
#print axioms proved
end Go.Proofs.Ytepncmceabkgpaa.numCuts
