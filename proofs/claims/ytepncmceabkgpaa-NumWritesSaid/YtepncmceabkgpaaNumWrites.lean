/-
  The law NumWrites holds: what num.Fixed and num.Var write of any number are the document's bytes, as few as can be, and a Reader takes them again; the law's function returns true and turns nothing that was there.
  Conditions: none.
-/
import Derived.Test.YtepncmceabkgpaaRows
import Derived.Test.YtepncmceabkgpaaFix
import Derived.WalkKit
import Derived.ProofKit
import Derived.OpenShut
import Derived.ShutString
import Derived.ChangeOld
import Derived.Below
namespace Go.Proofs.Ytepncmceabkgpaa.numWrites
open Go.ChangeShapes Go.WideShapes Go.ChangeAt Go.RowKit
open Go.ChangeMaps (open_string shut_string)
set_option linter.unusedVariables false

theorem own : ownKnob Try.prog.godebug = none := by kernel_rfl
theorem laidOut : laidOutB Try.prog = true := by kernel_rfl

set_option maxRecDepth 100000 in
set_option maxHeartbeats 4000000 in
theorem walkN (v : Nat) (n : Int) (a2 : Option Addr) (len2 cap2 : Nat) (xs : List Nat) (w : World) (hv : v < B64) (hx : xs.length = len2) (hb : ∀ x ∈ xs, x < 256) (hB : Byt (· < w.heap.size) w a2 xs) :
    Calls Try.prog 3 #[.int .u64 (v : Nat), .int .i64 n, .slice a2 len2 cap2] w fun e w' => e = .returned (.bool true) ∧ Below w.heap.size w w' := by
  have HX := Lib.hid hx
  have HY := Lib.hid hb
  have HB := Lib.hid hB
  have HV := Lib.hid hv
  clear hx hb hB hv
  by_cases hbig : 100 < len2
  · have t1 : decide ((100 : Int) < (len2 : Int)) = true := by simp; omega
    go_enter Try.func3, Try.ntmps3
    go_wp2_with fail
    refine (answers_any w).mono ?_
    rintro e w1 ⟨rfl, hb1⟩
    go_wp2
    go_ret
    exact ⟨rfl, hb1⟩
  · have t1 : decide ((100 : Int) < (len2 : Int)) = false := by simp; omega
    have hvl : (vb v).length ≤ 10 := vb_len 9 _ (by have := HV.out; unfold B64 at this; omega)
    have hw8 := wid_le n
    obtain ⟨k, hk⟩ : ∃ k, wid n = k := ⟨_, rfl⟩
    have HK := Lib.hid hk
    rw [hk] at hw8
    clear hk
    obtain ⟨m, hm⟩ : ∃ m, (vb v).length = m := ⟨_, rfl⟩
    have HM := Lib.hid hm
    rw [hm] at hvl
    clear hm
    go_enter Try.func3, Try.ntmps3
    go_wp2_with fail
    refine (fixed_any v n w HV.out).mono ?_
    rintro e w1 ⟨ua, rfl, howna, hb1⟩
    rw [HK.out] at howna
    obtain ⟨Aa, ca, rfl, -, -, -, hBa⟩ := own_slice howna
    have HA := Lib.hid hBa
    clear howna hBa
    have hs1 := hb1.size
    go_wp2_with fail
    refine (var_any v w1 HV.out).mono ?_
    rintro e w2 ⟨ub, rfl, hownb, hb2⟩
    rw [HM.out] at hownb
    obtain ⟨Ab, cb, rfl, -, -, -, hBb⟩ := own_slice hownb
    have hs2 := hb2.size
    have HA2 : Hid (Byt (· < w2.heap.size) w2 Aa (fb v k)) := (HA.out.keep fun b hb => hb2.block b hb.2).wide fun b hb => by omega
    have HB2 : Hid (Byt (· < w2.heap.size) w2 Ab (vb v)) := hBb.wide fun b hb => hb.2
    have HM2 : Hid (Byt (· < w2.heap.size) w2 a2 xs) := ((HB.out.below hb1 (Nat.le_refl _)).below hb2 hs1).wide fun b hb => by omega
    have hb02 : Below w.heap.size w w2 := hb1.trans (hb2.mono hs1)
    clear hownb hBb HA HB
    go_wp2_with (first
      | (at_builtin
         refine walk_append _ rfl (.tmp 25) (.tmp 26) rfl w2.heap.size (.slice (some ⟨w2.heap.size, 0, none⟩) 0 0) 0 [] rfl (own_empty w2) Aa k ca (fb v k) rfl (fb_length v k) _ (HA2.out.below ((Below.refl w2.heap.size w2).alloc (Nat.le_refl _) _) (Nat.le_refl _)) (by omega) (by simp) ?_
         intro v3 w3 hown3 hg3 _
         have hb3 : Below w2.heap.size w2 w3 := ((Below.refl _ w2).alloc (Nat.le_refl _) _).grown hg3 (by simp) (fun k hk => by simp [Value.ownBlock] at hk; omega))
      | (at_builtin
         refine walk_append _ rfl (.tmp 27) (.tmp 28) rfl w2.heap.size v3 (0 + k) ([] ++ fb v k) rfl hown3 Ab m cb (vb v) rfl HM.out _ (HB2.out.below hb3 (Nat.le_refl _)) (by omega) hb3.size ?_
         intro v4 w4 hown4 hg4 _
         have hb4 : Below w2.heap.size w2 w4 := hb3.grown hg4 hb3.size (fun k hk => (hown3.lt k hk).1))
      | (at_builtin
         refine walk_append _ rfl (.tmp 29) (.tmp 30) rfl w2.heap.size v4 (0 + k + m) ([] ++ fb v k ++ vb v) rfl hown4 a2 len2 cap2 xs rfl HX.out _ (HM2.out.below hb4 (Nat.le_refl _)) (by omega) hb4.size ?_
         intro v5 w5 hown5 hg5 _
         have hb5 : Below w2.heap.size w2 w5 := hb4.grown hg5 hb4.size (fun k hk => (hown4.lt k hk).1)
         obtain ⟨A5, c5, rfl, hl5, -, -, hB5⟩ := own_slice hown5
         have HL5 := Lib.hid hl5
         have HB5 := Lib.hid hB5
         clear hl5 hB5))
    have hs5 := hb5.size
    have hb05 : Below w.heap.size w w5 := hb02.trans (hb5.mono (by omega))
    have HA5 : Hid (Byt (· < w5.heap.size) w5 Aa (fb v k)) := (HA2.out.below hb5 (Nat.le_refl _)).wide fun b hb => by omega
    have HV5 : Hid (Byt (· < w5.heap.size) w5 Ab (vb v)) := (HB2.out.below hb5 (Nat.le_refl _)).wide fun b hb => by omega
    have HBy : Hid (∀ x ∈ fb v k ++ (vb v ++ xs), x < 256) := fun x hx => by
      rcases List.mem_append.1 hx with h | h
      · exact fb_bytes v k x h
      · rcases List.mem_append.1 h with h | h
        · exact vb_bytes v x h
        · exact HY.out x h
    have hL : (fb v k ++ (vb v ++ xs)).length = k + m + len2 := by rw [List.length_append, List.length_append, fb_length, HM.out, HX.out]; omega
    have hR5 : Byt (· < w5.heap.size) w5 A5 (fb v k ++ (vb v ++ xs)) := by
      have := HB5.out.wide (T := (· < w5.heap.size)) fun b hb => hb.2
      simpa using this
    refine (newReader_any A5 (k + m + len2) c5 _ w5 hL hR5 (by omega)).mono ?_
    have HL := Lib.hid hL
    clear hL hR5 HB5 HL5 hown3 hown4 hown5 hg3 hg4 hg5 hb3 hb4 HA2 HB2 HM2 hb1 hb2
    rintro e w6 ⟨g, rfl, hG, hg, hb6⟩
    have hs6 := hb6.size
    have HG := Lib.hid hG
    clear hG
    go_wp2_with fail
    refine (fixed_ok g n _ w6 HG.out HBy.out (by rw [HL.out, HK.out]; omega)).mono ?_
    rintro e w7 ⟨he, hG7, hO7⟩
    rw [HK.out, List.take_left' (fb_length v k), le_fb] at he
    rw [HK.out, List.drop_left' (fb_length v k)] at hG7
    have HG7 := Lib.hid hG7
    have hb7 : Below w5.heap.size w5 w7 := hb6.trans (below_only hO7 hg hs6)
    obtain ⟨x, hx⟩ : ∃ x, v % 256 ^ k = x := ⟨_, rfl⟩
    rw [hx] at he
    have HXX := Lib.hid hx
    subst he
    clear hG7 hO7 hx HG
    go_wp2_with fail
    refine (rvar_ok g _ v m w7 HG7.out (fun y hy => HBy.out y (List.mem_append.2 (.inr hy))) (by have := isVar_app v HV.out xs; rw [HM.out] at this; exact this) (by have := HL.out; simp at this ⊢; omega)).mono ?_
    rintro e w8 ⟨rfl, hG8, hO8⟩
    rw [List.drop_left' HM.out] at hG8
    have HG8 := Lib.hid hG8
    have hs7 := hb7.size
    have hb8 : Below w5.heap.size w5 w8 := hb7.trans (below_only hO8 hg hs7)
    clear hG8 hO8 HG7
    by_cases hk8 : k < 8
    · have t2 : decide ((k : Int) < 8) = true := by simp; omega
      obtain ⟨P, hP⟩ : ∃ P : Nat, 256 ^ k = P := ⟨_, rfl⟩
      have hP0 : 0 < P := by rw [← hP]; exact Nat.pow_pos (by omega)
      have hP1 : P ≤ 72057594037927936 := by rw [← hP]; exact pow_le7 k (by omega)
      have eP : IntKind.u64.wrap ((2 : Int) ^ (8 * k)) = (P : Int) := by
        have e : (2 : Int) ^ (8 * k) = (P : Int) := by
          rw [← hP, show (256 : Nat) ^ k = 2 ^ (8 * k) by rw [Nat.pow_mul], Int.natCast_pow]; rfl
        rw [e, IntKind.wrap_u64]
        omega
      have hxP : x = v % P := by rw [← hP]; exact HXX.out.symm
      have ew : ((x : Int) == (v : Int) % (P : Int)) = true := by simp; omega
      have hP2 : ¬ (P : Int) = 0 := by omega
      clear hP hxP hP1
      go_wp2_with fail
      refine (answers_any w8).mono ?_
      rintro e w9 ⟨rfl, hb9⟩
      have hb59 : Below w5.heap.size w5 w9 := hb8.trans (hb9.mono hb8.size)
      have HG9 := Lib.hid (HG8.out.below hb9 HG8.out.lt)
      clear hb9 HG8
      go_wp2_with fail
      refine (refFixed_any v n w9 HV.out).mono ?_
      rintro e w10 ⟨uf, rfl, hownf, hb10⟩
      rw [HK.out] at hownf
      obtain ⟨Af, cf, rfl, -, -, -, hBf⟩ := own_slice hownf
      have HBf := Lib.hid hBf
      have hb510 : Below w5.heap.size w5 w10 := hb59.trans (hb10.mono hb59.size)
      have HG10 := Lib.hid (HG9.out.below hb10 HG9.out.lt)
      clear hownf hBf hb10 HG9
      go_wp2_with fail
      refine (same_yes Aa Af k k ca cf (fb v k) (fb v k) w10 _ _ (fb_length v k) (fb_length v k) rfl (HA5.out.below hb510 (Nat.le_refl _)) HBf.out (by omega)).mono ?_
      rintro e w11 ⟨rfl, q, rfl⟩
      go_wp2_with fail
      refine (refVar_any v _ HV.out).mono ?_
      rintro e w12 ⟨ug, rfl, howng, hb12⟩
      rw [HM.out] at howng
      obtain ⟨Ag, cg, rfl, -, -, -, hBg⟩ := own_slice howng
      have HBg := Lib.hid hBg
      have hb512 : Below w5.heap.size w5 w12 := (below_drewN hb510 q).trans (hb12.mono hb510.size)
      have HG12 : Hid (Good w12 g xs) := Good.below (w := w10.drewN q) HG10.out hb12 HG10.out.lt
      clear howng hBg hb12 HG10
      go_wp2_with fail
      refine (same_yes Ab Ag m m cb cg (vb v) (vb v) w12 _ _ HM.out HM.out rfl (HV5.out.below hb512 (Nat.le_refl _)) HBg.out (by omega)).mono ?_
      rintro e w13 ⟨rfl, q2, rfl⟩
      go_wp2_with fail
      refine (left_good g xs (w12.drewN q2) HG12.out).mono ?_
      rintro e w14 ⟨he, rfl⟩
      rw [HX.out] at he
      subst he
      go_wp2_with fail
      obtain ⟨A2, c2, hBlk, _⟩ := HG12.out
      refine (bad_at g _ _ (w12.drewN q2) hBlk).mono ?_
      clear hBlk
      rintro e w14 ⟨rfl, rfl⟩
      go_wp2
      go_ret
      exact ⟨rfl, hb05.trans (below_drewN (hb512.mono hb05.size) q2)⟩
    · have t2 : decide ((k : Int) < 8) = false := by simp; omega
      have ew : ((x : Int) == (v : Int)) = true := by
        have h1 := HXX.out
        have h2 := HV.out
        unfold B64 at h2
        rw [show k = 8 by omega, Nat.mod_eq_of_lt (by omega)] at h1
        simp; omega
      go_wp2_with fail
      refine (answers_any w8).mono ?_
      rintro e w9 ⟨rfl, hb9⟩
      have hb59 : Below w5.heap.size w5 w9 := hb8.trans (hb9.mono hb8.size)
      have HG9 := Lib.hid (HG8.out.below hb9 HG8.out.lt)
      clear hb9 HG8
      go_wp2_with fail
      refine (refFixed_any v n w9 HV.out).mono ?_
      rintro e w10 ⟨uf, rfl, hownf, hb10⟩
      rw [HK.out] at hownf
      obtain ⟨Af, cf, rfl, -, -, -, hBf⟩ := own_slice hownf
      have HBf := Lib.hid hBf
      have hb510 : Below w5.heap.size w5 w10 := hb59.trans (hb10.mono hb59.size)
      have HG10 := Lib.hid (HG9.out.below hb10 HG9.out.lt)
      clear hownf hBf hb10 HG9
      go_wp2_with fail
      refine (same_yes Aa Af k k ca cf (fb v k) (fb v k) w10 _ _ (fb_length v k) (fb_length v k) rfl (HA5.out.below hb510 (Nat.le_refl _)) HBf.out (by omega)).mono ?_
      rintro e w11 ⟨rfl, q, rfl⟩
      go_wp2_with fail
      refine (refVar_any v _ HV.out).mono ?_
      rintro e w12 ⟨ug, rfl, howng, hb12⟩
      rw [HM.out] at howng
      obtain ⟨Ag, cg, rfl, -, -, -, hBg⟩ := own_slice howng
      have HBg := Lib.hid hBg
      have hb512 : Below w5.heap.size w5 w12 := (below_drewN hb510 q).trans (hb12.mono hb510.size)
      have HG12 : Hid (Good w12 g xs) := Good.below (w := w10.drewN q) HG10.out hb12 HG10.out.lt
      clear howng hBg hb12 HG10
      go_wp2_with fail
      refine (same_yes Ab Ag m m cb cg (vb v) (vb v) w12 _ _ HM.out HM.out rfl (HV5.out.below hb512 (Nat.le_refl _)) HBg.out (by omega)).mono ?_
      rintro e w13 ⟨rfl, q2, rfl⟩
      go_wp2_with fail
      refine (left_good g xs (w12.drewN q2) HG12.out).mono ?_
      rintro e w14 ⟨he, rfl⟩
      rw [HX.out] at he
      subst he
      go_wp2_with fail
      obtain ⟨A2, c2, hBlk, _⟩ := HG12.out
      refine (bad_at g _ _ (w12.drewN q2) hBlk).mono ?_
      clear hBlk
      rintro e w14 ⟨rfl, rfl⟩
      go_wp2
      go_ret
      exact ⟨rfl, hb05.trans (below_drewN (hb512.mono hb05.size) q2)⟩

theorem walk (a0 : Int) (a1 : Int) (a2 : Option Addr) (len2 cap2 : Nat) (z2 : List Int) (w : World) (w0 : (Lit.int .u64 a0).wf = true) (w1 : (Lit.int .i64 a1).wf = true) (w2 : IsRow .u8 w a2 len2 cap2 z2) :
    Calls Try.prog 3 #[.int .u64 a0, .int .i64 a1, .slice a2 len2 cap2] w fun e w' => e = .returned (.bool true) ∧ Below w.heap.size w w' := by
  obtain ⟨v, rfl, hv⟩ := nat_u64 a0 w0
  obtain ⟨xs, hx, hb, hB, _, _⟩ := row_bytes w2
  exact walkN v a1 a2 len2 cap2 xs w hv hx hb hB

/-! ### THE ROW's STEP: WRITTEN OUT: LEAVE IT -/
set_option maxRecDepth 100000 in
theorem lifted (os : Os) (started : os.Started) (H : Type) (enc : TypeId × Value → H) :
    ReturnsInHanded {} Try.checked os 3 .any (Rows.numWritesSpec.pre6 enc Try.prog Try.f3 Rows.numWritesRow.domain false) (Rows.numWritesSpec.post enc Try.prog Try.f3 false true false false) := by
  refine returnsInHanded_of_change (C := Try.checked) own started (by kernel_rfl) Try.func3
    (ChangeSpec.witness6 (enc := enc) (C := Try.checked) false ⟨#[], #[.int .u64 0, .int .i64 0, .slice none 0 0], []⟩ 8 (by kernel_rfl) (by kernel_rfl) (by kernel_rfl) (by kernel_rfl)) ?_
  intro W base args ds gs before hval0 hW hcnd _
  have hval : ∀ (j : Nat) t v, Try.f3.params[j]? = some t → args[j]? = some v → Value.okWide Try.prog W .any base t v := hval0
  have hW' := hW
  obtain ⟨p, q, hA0, hV, rfl, hfz, hnd⟩ := hW
  have hA : DataW.TrodAll enc Try.prog W 0 (fun _ => true) true Try.f3.params.toList args.toList ds p := hA0
  rw [Try.params3] at hA hval
  obtain ⟨v0, vs0, d0, ds0, p0, q0, hargs, rfl, rfl, h0, r0⟩ := trodAll_cons hA
  obtain ⟨v1, vs1, d1, ds1, p1, q1, rfl, rfl, rfl, h1, r1⟩ := trodAll_cons r0
  obtain ⟨v2, vs2, d2, ds2, p2, q2, rfl, rfl, rfl, h2, r2⟩ := trodAll_cons r1
  obtain ⟨rfl, rfl, rfl⟩ := trodAll_nil r2
  obtain rfl : args = #[v0, v1, v2] := by cases args; simp_all
  obtain ⟨rfl, rfl⟩ := trodVars_none hV
  obtain ⟨a0, rfl, rfl, rfl, w0⟩ := open_int Try.underlying22 (hval 0 22 v0 rfl rfl) h0
  obtain ⟨a1, rfl, rfl, rfl, w1⟩ := open_int Try.underlying3 (hval 1 3 v1 rfl rfl) h1
  obtain ⟨a2, len2, cap2, rfl⟩ := okWide_slice Try.underlying23 (hval 2 23 v2 rfl rfl)
  have k2 := h2
  have lt2 : ∀ x ∈ p2, x.block < W.heap.size := by obtain ⟨m, hm⟩ := k2; exact DataW.trod_lt m _ _ _ hm
  obtain ⟨z2, w2⟩ : ∃ zs, IsRow .u8 W a2 len2 cap2 zs := by
    obtain ⟨fuel, hf⟩ := h2
    rcases open_ints Try.underlying23 Try.underlying5 (by kernel_rfl) hf with ⟨hcs, _⟩ | ⟨x, l, c, zs, hcs, _, hl, hm, hz, _, hcell, hwz⟩
    · simp [Value.cells] at hcs
      obtain ⟨rfl, rfl, rfl⟩ := hcs
      exact ⟨[], .inl ⟨rfl, rfl, rfl, rfl⟩⟩
    · simp [Value.cells] at hcs
      obtain ⟨rfl, rfl, rfl⟩ := hcs
      exact ⟨zs, .inr ⟨_, rfl, hl, hm, by simpa using hz, hcell, hwz⟩⟩
  clear hA0 hval0
  refine (walk a0 a1 a2 len2 cap2 z2 W w0 w1 w2).mono fun e W' ⟨he, bel⟩ => ?_
  subst he
  exact ⟨_, rfl, _, _, _, [], _, [], hW', trodAll_mk1 (shut_bool Try.underlying4 _), (trodAll_cons_mk (shut_int Try.underlying22 w0) (trodAll_cons_mk (shut_int Try.underlying3 w1) (trodAll_cons_mk (Below.trod laidOut (by kernel_rfl) (of_decide_eq_true (by kernel_rfl)) k2 bel lt2) trodAll_mk0))), rfl, bel.frame _, fun h => by cases h⟩

theorem over : Rows.numWritesRow.holds Try.pinned (OpenSpec.ofChange Rows.numWritesSpec) :=
  OpenClaim.holds_of_wide 3 Try.f3 rfl rfl rfl rfl rfl rfl rfl ⟨rfl, rfl, rfl, rfl, rfl⟩ rfl rfl rfl rfl rfl (by kernel_rfl) Try.func3 (by kernel_rfl)
    (of_decide_eq_true (by kernel_rfl)) (by unfold Func.isWrapper; first | (rw [if_pos (by decide +kernel)]; kernel_rfl) | (rw [if_neg (by decide +kernel)]; exact ⟨rfl, rfl⟩))
    (fun os started H enc _ => lifted os started H enc)

/-- ████ THE STATEMENT ████ -/
theorem proved : Rows.NumWritesSaid := over
#print axioms proved
end Go.Proofs.Ytepncmceabkgpaa.numWrites
