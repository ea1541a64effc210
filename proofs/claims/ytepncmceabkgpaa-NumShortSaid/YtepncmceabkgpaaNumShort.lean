/-
  The law NumShort holds: of all bytes that a Reader's Var takes as a number just the bytes that num.Var writes of it are taken; the law's function returns true and turns nothing that was there.
  Conditions: none.
-/
import Derived.Test.YtepncmceabkgpaaRows
import Derived.Test.YtepncmceabkgpaaRef
import Derived.Deep.RegionWith
import Derived.WalkKit
import Derived.ProofKit
import Derived.OpenShut
import Derived.ShutString
import Derived.ChangeOld
import Derived.Below
namespace Go.Proofs.Ytepncmceabkgpaa.numShort
open Go.ChangeShapes Go.WideShapes Go.ChangeAt Go.RowKit
open Go.ChangeMaps (open_string shut_string)
set_option linter.unusedVariables false

theorem own : ownKnob Try.prog.godebug = none := by kernel_rfl
theorem laidOut : laidOutB Try.prog = true := by kernel_rfl

set_option maxHeartbeats 2000000 in
theorem walk (a0 : Option Addr) (len0 cap0 : Nat) (z0 : List Int) (w : World) (w0 : IsRow .u8 w a0 len0 cap0 z0) :
    Calls Try.prog 5 #[.slice a0 len0 cap0] w fun e w' => e = .returned (.bool true) ∧ Below w.heap.size w w' := by
  obtain ⟨xs, hx, hb, hB, hlc, hcm⟩ := row_bytes w0
  clear w0
  have HX := Lib.hid hx
  have HY := Lib.hid hb
  have HB := Lib.hid hB
  clear hx hb hB
  by_cases hbig : 30 < len0
  · have t1 : decide ((30 : Int) < (len0 : Int)) = true := by simp; omega
    go_enter Try.func5, Try.ntmps5
    go_wp2_with fail
    refine (answers_any w).mono ?_
    rintro e w1 ⟨rfl, hb1⟩
    go_wp2
    go_ret
    exact ⟨rfl, hb1⟩
  · have t1 : decide ((30 : Int) < (len0 : Int)) = false := by simp; omega
    by_cases hv : ∃ v n, IsVar xs v n
    · obtain ⟨v, n, hv⟩ := hv
      have hn : n ≤ len0 := by rw [← HX.out]; exact hv.1
      have HV := Lib.hid hv
      clear hv
      go_enter Try.func5, Try.ntmps5
      go_wp2_with fail
      refine (newReader_any a0 len0 cap0 xs w HX.out HB.out (by omega)).mono ?_
      rintro e w1 ⟨g, rfl, hG, hg, hb1⟩
      have HG := Lib.hid hG
      have hs1 := hb1.size
      clear hG
      go_wp2_with fail
      refine (rvar_ok g xs v n w1 HG.out HY.out HV.out (by rw [HX.out]; omega)).mono ?_
      rintro e w2 ⟨rfl, hG2, hO2⟩
      have HG2 := Lib.hid hG2
      have HO2 := Lib.hid hO2
      clear hG2 hO2
      go_wp2_with fail
      obtain ⟨A2, c2, hBlk, _⟩ := HG2.out
      refine (bad_at g _ _ w2 hBlk).mono ?_
      clear hBlk
      rintro e w3 ⟨rfl, rfl⟩
      go_wp2_with fail
      refine (left_good g _ w2 HG2.out).mono ?_
      rintro e w3 ⟨rfl, rfl⟩
      have hdl : (xs.drop n).length = len0 - n := by rw [List.length_drop, HX.out]
      rw [hdl]
      clear hdl
      have hb2 : Below w.heap.size w w2 := hb1.trans (below_only HO2.out hg hs1)
      have hs2 := hb2.size
      have kk : (len0 : Int) - ((len0 - n : Nat) : Int) = (n : Int) := by omega
      go_wp2_with fail
      clear kk
      have n0 : 0 ≤ (n : Int) := by omega
      have n1 : (n : Int) ≤ (cap0 : Int) := by omega
      have n2 : n ≤ cap0 := by omega
      have HT : Hid ((xs.take n).length = n) := by rw [List.length_take, HX.out]; show min n len0 = n; omega
      have HVL : (vb v).length ≤ 140737488355328 := by rw [← HV.out.len]; omega
      have HB2 : Hid (Byt (· < w.heap.size) w2.drew a0 (xs.take n)) := (HB.out.take n).below hb2.drew (Nat.le_refl _)
      clear HG HG2 HO2 hb1 HB HX HY hcm
      go_region_with (first
        | (go_at_call 9; refine (answers_any _).mono ?_; rintro e w5 ⟨rfl, hb5⟩)
        | (go_at_call 11; refine (var_any v _ HV.out.2.2).mono ?_; rintro e w6 ⟨u, rfl, hown, hb6⟩; obtain ⟨A6, c6, rfl, _, _, _, hB6⟩ := own_slice hown; have HB6 := Lib.hid hB6; clear hown hB6)
        | (go_at_call 15; refine (same_yes A6 a0 (vb v).length n c6 cap0 (vb v) (xs.take n) _ _ _ rfl HT.out HV.out.2.1.symm HB6.out ((HB2.out.below hb5 hs2).below hb6 (Nat.le_trans hs2 hb5.size)) HVL).mono ?_; rintro e w7 ⟨rfl, q, rfl⟩))
      all_goals
        go_wp2
        go_ret
        exact ⟨rfl, below_drewN (((hb2.drew).trans (hb5.mono hs2)).trans (hb6.mono (Nat.le_trans hs2 hb5.size))) q⟩
    · have HN := Lib.hid hv
      clear hv
      go_enter Try.func5, Try.ntmps5
      go_wp2_with fail
      refine (newReader_any a0 len0 cap0 xs w HX.out HB.out (by omega)).mono ?_
      rintro e w1 ⟨g, rfl, hG, hg, hb1⟩
      have HG := Lib.hid hG
      have hs1 := hb1.size
      clear hG
      go_wp2_with fail
      refine (rvar_no g xs w1 HG.out HY.out HN.out (by rw [HX.out]; omega)).mono ?_
      rintro e w2 ⟨rfl, hG2, hO2⟩
      have HG2 := Lib.hid hG2
      have HO2 := Lib.hid hO2
      clear hG2 hO2
      go_wp2_with fail
      refine (bad_at g _ _ w2 HG2.out).mono ?_
      rintro e w3 ⟨rfl, rfl⟩
      have hb2 : Below w.heap.size w w2 := hb1.trans (below_only HO2.out hg hs1)
      go_wp2_with fail
      refine (answers_any w2).mono ?_
      rintro e w3 ⟨rfl, hb3⟩
      go_wp2
      go_ret
      exact ⟨rfl, hb2.trans (hb3.mono hb2.size)⟩

/-! ### THE ROW's STEP: WRITTEN OUT: LEAVE IT -/
set_option maxRecDepth 100000 in
theorem lifted (os : Os) (started : os.Started) (H : Type) (enc : TypeId × Value → H) :
    ReturnsInHanded {} Try.checked os 5 .any (Rows.numShortSpec.pre6 enc Try.prog Try.f5 Rows.numShortRow.domain false) (Rows.numShortSpec.post enc Try.prog Try.f5 false true false false) := by
  refine returnsInHanded_of_change (C := Try.checked) own started (by kernel_rfl) Try.func5
    (ChangeSpec.witness6 (enc := enc) (C := Try.checked) false ⟨#[], #[.slice none 0 0], []⟩ 8 (by kernel_rfl) (by kernel_rfl) (by kernel_rfl) (by kernel_rfl)) ?_
  intro W base args ds gs before hval0 hW hcnd _
  have hval : ∀ (j : Nat) t v, Try.f5.params[j]? = some t → args[j]? = some v → Value.okWide Try.prog W .any base t v := hval0
  have hW' := hW
  obtain ⟨p, q, hA0, hV, rfl, hfz, hnd⟩ := hW
  have hA : DataW.TrodAll enc Try.prog W 0 (fun _ => true) true Try.f5.params.toList args.toList ds p := hA0
  rw [Try.params5] at hA hval
  obtain ⟨v0, vs0, d0, ds0, p0, q0, hargs, rfl, rfl, h0, r0⟩ := trodAll_cons hA
  obtain ⟨rfl, rfl, rfl⟩ := trodAll_nil r0
  obtain rfl : args = #[v0] := by cases args; simp_all
  obtain ⟨rfl, rfl⟩ := trodVars_none hV
  obtain ⟨a0, len0, cap0, rfl⟩ := okWide_slice Try.underlying23 (hval 0 23 v0 rfl rfl)
  have k0 := h0
  have lt0 : ∀ x ∈ p0, x.block < W.heap.size := by obtain ⟨m, hm⟩ := k0; exact DataW.trod_lt m _ _ _ hm
  obtain ⟨z0, w0⟩ : ∃ zs, IsRow .u8 W a0 len0 cap0 zs := by
    obtain ⟨fuel, hf⟩ := h0
    rcases open_ints Try.underlying23 Try.underlying5 (by kernel_rfl) hf with ⟨hcs, _⟩ | ⟨x, l, c, zs, hcs, _, hl, hm, hz, _, hcell, hwz⟩
    · simp [Value.cells] at hcs
      obtain ⟨rfl, rfl, rfl⟩ := hcs
      exact ⟨[], .inl ⟨rfl, rfl, rfl, rfl⟩⟩
    · simp [Value.cells] at hcs
      obtain ⟨rfl, rfl, rfl⟩ := hcs
      exact ⟨zs, .inr ⟨_, rfl, hl, hm, by simpa using hz, hcell, hwz⟩⟩
  clear hA0 hval0
  refine (walk a0 len0 cap0 z0 W w0).mono fun e W' ⟨he, bel⟩ => ?_
  subst he
  exact ⟨_, rfl, _, _, _, [], _, [], hW', trodAll_mk1 (shut_bool Try.underlying4 _), (trodAll_cons_mk (Below.trod laidOut (by kernel_rfl) (of_decide_eq_true (by kernel_rfl)) k0 bel lt0) trodAll_mk0), rfl, bel.frame _, fun h => by cases h⟩

theorem over : Rows.numShortRow.holds Try.pinned (OpenSpec.ofChange Rows.numShortSpec) :=
  OpenClaim.holds_of_wide 5 Try.f5 rfl rfl rfl rfl rfl rfl rfl ⟨rfl, rfl, rfl, rfl, rfl⟩ rfl rfl rfl rfl rfl (by kernel_rfl) Try.func5 (by kernel_rfl)
    (of_decide_eq_true (by kernel_rfl)) (by unfold Func.isWrapper; first | (rw [if_pos (by decide +kernel)]; kernel_rfl) | (rw [if_neg (by decide +kernel)]; exact ⟨rfl, rfl⟩))
    (fun os started H enc _ => lifted os started H enc)

/-- ████ THE STATEMENT ████ -/
theorem proved : Rows.NumShortSaid := over
#print axioms proved
end Go.Proofs.Ytepncmceabkgpaa.numShort
