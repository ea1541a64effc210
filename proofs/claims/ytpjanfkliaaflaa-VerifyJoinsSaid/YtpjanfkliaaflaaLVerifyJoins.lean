/-
  The law VerifyJoins holds: where two ways meet stands what both have in common, and what is never come to is not seen; the law's function returns true and turns nothing that was there.
  Conditions: none.
-/
import Derived.Test.YtpjanfkliaaflaaR01
import Derived.Test.YtpjanfkliaaflaaR27
import Derived.Deep.RegionHeld3
import Derived.Deep.DeepCutAuto
namespace Go.Proofs.Ytpjanfkliaaflaa.verifyJoins
open Go.ChangeShapes Go.WideShapes Go.ChangeAt Go.RowKit
set_option linter.unusedVariables false
set_option linter.unusedSimpArgs false

set_option maxRecDepth 100000 in
set_option maxHeartbeats 8000000 in
theorem walk (a b : Int) (w : World) (ha : 0 ≤ a ∧ a ≤ 255) (hb : 0 ≤ b ∧ b ≤ 255) :
    Calls Try.prog 4 #[.int .u8 a, .int .u8 b] w fun e w' => e = .returned (.bool true) ∧ Below w.heap.size w w' := by
  have AN := Lib.hid (fun w => answers9 w)
  obtain ⟨x, ex, hx⟩ : ∃ x : Nat, a % 5 = (x : Int) ∧ x < 5 := ⟨(a % 5).toNat, by omega, by omega⟩
  obtain ⟨y, ey, hy⟩ : ∃ y : Nat, b % 5 = (y : Int) ∧ y < 5 := ⟨(b % 5).toNat, by omega, by omega⟩
  have HX := Lib.hid hx
  have HY := Lib.hid hy
  have x0 : (0 : Int) ≤ (x : Int) := by omega
  have x1 : (x : Int) < 5 := by omega
  have y0 : (0 : Int) ≤ (y : Int) := by omega
  have y1 : (y : Int) < 5 := by omega
  go_enter Try.func4, Try.ntmps4
  go_upto_region 4 with (fail)
  refine wp_world fun W hW => ?_
  have HI : Hid (∀ i, i < 5 → W.cell? ⟨w.heap.size, i * 3, none⟩ = some (.int .i64 (opL i).1) ∧ W.cell? ⟨w.heap.size, i * 3 + 1, none⟩ = some (.int .i64 (opL i).2.1) ∧ W.cell? ⟨w.heap.size, i * 3 + 2, none⟩ = some (.int .i64 (opL i).2.2)) := by
    intro i hi
    rw [hW]
    match i, hi with
    | 0, _ | 1, _ | 2, _ | 3, _ | 4, _ => simp [go_sem, opL]
  have HT : Hid (Blk W (w.heap.size + 1) 23 #[.int .i64 1, .int .i64 0, .int .i64 2, .int .i64 0, .int .i64 6, .int .i64 0, .int .i64 4, .int .i64 0, .int .i64 4, .int .i64 1]) := by show Blk _ _ _ _; rw [hW]; repeat (first | (refine blk_at ?_; simp; done) | refine blk_keep ?_)
  have HB : Hid (Below w.heap.size w W) := by
    show Below w.heap.size w W
    rw [hW]
    exact (below_new w _).alloc (by simp) _
  have hs : w.heap.size + 2 ≤ W.heap.size := by rw [hW]; simp
  clear hW
  go_cut [9] (fun s9 wx => s9 = .slice (some ⟨W.heap.size, 0, none⟩) 9 9 ∧ Blk wx W.heap.size 25 (I3 (joinCode x y)).toArray ∧ Below W.heap.size W wx)
  case first =>
    obtain ⟨c0, c1, c2⟩ := HI.out x HX.out
    obtain ⟨c3, c4, c5⟩ := HI.out y HY.out
    go_region_held3 (fun w' => w'.cell? ⟨w.heap.size, x * 3, none⟩ = some (.int .i64 (opL x).1) ∧ w'.cell? ⟨w.heap.size, x * 3 + 1, none⟩ = some (.int .i64 (opL x).2.1) ∧ w'.cell? ⟨w.heap.size, x * 3 + 2, none⟩ = some (.int .i64 (opL x).2.2) ∧ w'.cell? ⟨w.heap.size, y * 3, none⟩ = some (.int .i64 (opL y).1) ∧ w'.cell? ⟨w.heap.size, y * 3 + 1, none⟩ = some (.int .i64 (opL y).2.1) ∧ w'.cell? ⟨w.heap.size, y * 3 + 2, none⟩ = some (.int .i64 (opL y).2.2)) (refine ⟨jn_bc c0 ?_, jn_bc c1 ?_, jn_bc c2 ?_, jn_bc c3 ?_, jn_bc c4 ?_, jn_bc c5 ?_⟩ <;> (repeat' (first | exact Below.refl _ _ | apply Below.drew | apply Below.alloc | apply Below.setCell)) <;> (simp <;> omega)) (fail)
    all_goals
      go_wp2_with fail
      go_meet
      exact ⟨rfl, blk_at rfl, (below_new W _).drew⟩
  case rest =>
    obtain ⟨rfl, hk, hb⟩ := hcut
    have HK := Lib.hid hk
    have hsx := hk.lt
    have HTx := Lib.hid (blk_below HT.out hb (by omega))
    have HBx := Lib.hid (HB.out.trans (hb.mono (by omega)))
    have n0 : ∀ o1 o2 o3, (((wc.alloc o1).alloc o2).alloc o3).cell? ⟨w.heap.size + 1, 0, none⟩ = some (.int .i64 1) := fun o1 o2 o3 => (blk_keep (o := o3) (blk_keep (o := o2) (blk_keep (o := o1) HTx.out))).cell 0
    have n1 : ∀ o1 o2 o3, (((wc.alloc o1).alloc o2).alloc o3).cell? ⟨w.heap.size + 1, 1, none⟩ = some (.int .i64 0) := fun o1 o2 o3 => (blk_keep (o := o3) (blk_keep (o := o2) (blk_keep (o := o1) HTx.out))).cell 1
    clear hk hb HI HT HB
    go_wp2_with fail
    clear n0 n1
    refine calls_world fun W9 hW9 => ?_
    have b0 : Blk W9 wc.heap.size 29 #[.slice none 0 0, .slice none 0 0] := by rw [hW9]; repeat (first | (refine blk_at ?_; simp; done) | refine blk_keep ?_)
    have b1 : Blk W9 (wc.heap.size + 1) 27 #[.int .u64 1] := by rw [hW9]; repeat (first | (refine blk_at ?_; simp; done) | refine blk_keep ?_)
    have b2 : Blk W9 (wc.heap.size + 1 + 1) 9 #[.string ⟨#[]⟩] := by rw [hW9]; repeat (first | (refine blk_at ?_; simp; done) | refine blk_keep ?_)
    have b3 : Blk W9 (wc.heap.size + 1 + 1 + 1) 31 #[.slice none 0 0, .int .i64 1, .int .i64 0, .slice none 0 0, .slice (some ⟨W.heap.size, 0, none⟩) 9 9] := by rw [hW9]; repeat (first | (refine blk_at ?_; simp; done) | refine blk_keep ?_)
    have hb9 : Below wc.heap.size wc W9 := by rw [hW9]; exact ((((below_new wc _).alloc (by simp) _).alloc (by simp <;> omega) _).alloc (by simp <;> omega) _).alloc (by simp <;> omega) _
    obtain ⟨hck, hmn, h64⟩ := jn_all x HX.out y HY.out
    obtain ⟨A7, c7, e7, hcod⟩ := own_cod (blk_own (base := 0) (n := 9) (k := 3) (blk_below HK.out hb9 hsx) (Nat.zero_le _) (by omega) rfl (by simp [maxLen])) h64
    simp only [Value.slice.injEq, true_and] at e7
    obtain ⟨rfl, rfl⟩ := e7
    have HL := Lib.hid (jn_lies HX.out HY.out b0 b1 b2 b3 hcod)
    have HT9 := Lib.hid (blk_below HTx.out hb9 (by omega))
    have HB9 := Lib.hid (HBx.out.trans (hb9.mono HBx.out.size))
    have hs9 : w.heap.size + 1 < W9.heap.size := by have := hb9.size; omega
    clear hW9 b0 b1 b2 b3 hb9 hcod h64
    refine (vcheck_any _ (joinMod x y) W9 HL.out).mono ?_
    intro e w10 hch
    obtain ⟨hb10, U, A, cm, rfl, hsl, -, -⟩ := checked_least hch hck hmn (jn_least HX.out HY.out)
    have HB10 := Lib.hid (HB9.out.trans (hb10.mono HB9.out.size))
    have HT10 := Lib.hid (blk_below HT9.out hb10 hs9)
    have hs10 := Nat.lt_of_lt_of_le hs9 hb10.size
    obtain ⟨A', c', e1, -, -, hsq⟩ := hsl
    simp only [List.cons.injEq, Value.slice.injEq, and_true, true_and] at e1
    obtain ⟨rfl, rfl⟩ := e1
    obtain ⟨p, D, d, rfl, hp, hc0, hle, hcm, hsq2⟩ := row_at (hsq.turn (L' := rowL) rfl (fun _ _ h => h) fun cs x _ h => rowU_plain h) (k := 0) (l := joinShapes x y) rfl
    obtain ⟨p2, G, g, rfl, hp2, z0, z1, -, -, -, hst⟩ := shp_at hsq2 (jn_five HX.out HY.out)
    obtain ⟨p3, G3, g3, e3, -, z2, z3, -, -, -, -⟩ := shp_at hsq2 (jn_eight HX.out HY.out)
    simp only [Option.some.injEq] at e3
    subst e3
    obtain ⟨q, cs, rfl, hq, hqc, hcs, -⟩ := hst.at (k := 0) rfl
    subst hcs
    have z4 := hqc 0 _ rfl
    have z5 := hqc 1 _ rfl
    rw [jn_yes4 x HX.out y HY.out] at hc0 hle
    simp only [List.length_cons, List.length_nil, Nat.zero_add] at z1 z3
    rw [show p.add 0 = p by simp [Addr.add]] at hc0
    rw [show p2.add (5 * 2) = ⟨p2.block, p2.off + 10, none⟩ by simp [Addr.add]] at z0 z1
    rw [show p2.add (8 * 2) = ⟨p2.block, p2.off + 16, none⟩ by simp [Addr.add]] at z2 z3
    rw [show q.add (0 * typL.k + 0) = q by simp [Addr.add]] at z4
    rw [show q.add (0 * typL.k + 1) = ⟨q.block, q.off + 1, none⟩ by simp [Addr.add]] at z5
    have HF := Lib.hid (fun v (hb : Below w10.heap.size w10 v) => And.intro ((hb.cell hp.2).trans hc0) (And.intro ((hb.cell (p := ⟨p2.block, p2.off + 10 + 1, none⟩) hp2.2).trans z1) (And.intro ((hb.cell (p := ⟨p2.block, p2.off + 16, none⟩) hp2.2).trans z2) (And.intro ((hb.cell (p := ⟨p2.block, p2.off + 16 + 1, none⟩) hp2.2).trans z3) (And.intro ((hb.cell hq.2).trans z4) ((hb.cell (p := ⟨q.block, q.off + 1, none⟩) hq.2).trans z5))))))
    have HTP := Lib.hid (fun v (hb : Below w10.heap.size w10 v) i (hi : i < 5) => jn_tp (blk_below HT10.out hb hs10) hi)
    have RJ : Hid (∀ o, Calls Try.prog 8 #[.agg #[.int .i64 (tpL x).1, .int .i64 (tpL x).2], .agg #[.int .i64 (tpL y).1, .int .i64 (tpL y).2]] o fun e w' => e = .returned (.agg #[.int .i64 (joinT (tpL x) (tpL y)).1, .int .i64 (joinT (tpL x) (tpL y)).2]) ∧ Below o.heap.size o w') := fun o => rjoin2 _ _ _ _ o
    have hd : d ≤ 9223372036854775807 := by unfold maxLen at hcm; omega
    clear hch hb10 hsq hsq2 hc0 z0 z1 z2 z3 z4 z5 hqc hst hck hmn hcm
    have HC : Hid (∀ v, Below w10.heap.size w10 v → (fun v => v.cell? p = some (.slice (some p2) 9 d) ∧ v.cell? ⟨p2.block, p2.off + 10 + 1, none⟩ = some (.slice (some q) 1 g) ∧ v.cell? ⟨p2.block, p2.off + 16, none⟩ = some (.bool false) ∧ v.cell? ⟨p2.block, p2.off + 16 + 1, none⟩ = some (.slice G3 0 g3) ∧ v.cell? q = some (.int .i64 (joinT (tpL x) (tpL y)).1) ∧ v.cell? ⟨q.block, q.off + 1, none⟩ = some (.int .i64 (joinT (tpL x) (tpL y)).2) ∧ v.cell? ⟨w.heap.size + 1, x * 2, none⟩ = some (.int .i64 (tpL x).1) ∧ v.cell? ⟨w.heap.size + 1, x * 2 + 1, none⟩ = some (.int .i64 (tpL x).2) ∧ v.cell? ⟨w.heap.size + 1, y * 2, none⟩ = some (.int .i64 (tpL y).1) ∧ v.cell? ⟨w.heap.size + 1, y * 2 + 1, none⟩ = some (.int .i64 (tpL y).2)) v) := fun v hb => by
      obtain ⟨f0, f1, f2, f3, f4, f5⟩ := HF.out v hb
      obtain ⟨t0, t1⟩ := HTP.out v hb x HX.out
      obtain ⟨t2, t3⟩ := HTP.out v hb y HY.out
      exact ⟨f0, f1, f2, f3, f4, f5, t0, t1, t2, t3⟩
    clear HF HTP
    go_wp2_with fail
    simp only [List.append_eq, List.cons_append, List.nil_append]
    go_region_held3 (fun v => v.cell? p = some (.slice (some p2) 9 d) ∧ v.cell? ⟨p2.block, p2.off + 10 + 1, none⟩ = some (.slice (some q) 1 g) ∧ v.cell? ⟨p2.block, p2.off + 16, none⟩ = some (.bool false) ∧ v.cell? ⟨p2.block, p2.off + 16 + 1, none⟩ = some (.slice G3 0 g3) ∧ v.cell? q = some (.int .i64 (joinT (tpL x) (tpL y)).1) ∧ v.cell? ⟨q.block, q.off + 1, none⟩ = some (.int .i64 (joinT (tpL x) (tpL y)).2) ∧ v.cell? ⟨w.heap.size + 1, x * 2, none⟩ = some (.int .i64 (tpL x).1) ∧ v.cell? ⟨w.heap.size + 1, x * 2 + 1, none⟩ = some (.int .i64 (tpL x).2) ∧ v.cell? ⟨w.heap.size + 1, y * 2, none⟩ = some (.int .i64 (tpL y).1) ∧ v.cell? ⟨w.heap.size + 1, y * 2 + 1, none⟩ = some (.int .i64 (tpL y).2))
      (first | exact SS12.out | exact SS11.out | exact HC.out _ (Below.refl _ w10) | exact HC.out _ (Below.refl _ w10).drew)
      (first
      | (go_at_call 7
         refine (AN.out _).mono ?_
         rintro e w11 ⟨rfl, hb11⟩
         have HB11 : Hid (Below w10.heap.size w10 w11) := (by show Below _ _ _; first | exact hb11 | exact (Below.refl _ w10).drew.trans (hb11.mono (by simp)))
         have SS11 := Lib.hid (HC.out _ HB11.out)
         clear hb11)
      | (go_at_call 8
         refine (RJ.out _).mono ?_
         rintro e w12 ⟨rfl, hb12⟩
         have HB12 := Lib.hid (HB11.out.trans (hb12.mono HB11.out.size))
         have SS12 := Lib.hid (HC.out _ HB12.out)
         clear hb12))
    all_goals
      go_wp2_with fail
      go_ret
      exact ⟨by simp, HB10.out.trans (HB12.out.mono HB10.out.size)⟩

set_option maxRecDepth 100000 in
theorem lifted (os : Os) (started : os.Started) (H : Type) (enc : TypeId × Value → H) :
    ReturnsInHanded {} Try.checked os 4 .any (Rows.verifyJoinsSpec.pre6 enc Try.prog Try.f4 Rows.verifyJoinsRow.domain false) (Rows.verifyJoinsSpec.post enc Try.prog Try.f4 false true false false) := by
  refine returnsInHanded_of_change (C := Try.checked) own started (by kernel_rfl) Try.func4
    (ChangeSpec.witness6 (enc := enc) (C := Try.checked) false ⟨#[], #[.int .u8 0, .int .u8 0], []⟩ 8 (by kernel_rfl) (by kernel_rfl) (by kernel_rfl) (by kernel_rfl)) ?_
  intro W base args ds gs before hval0 hW hcnd _
  have hval : ∀ (j : Nat) t v, Try.f4.params[j]? = some t → args[j]? = some v → Value.okWide Try.prog W .any base t v := hval0
  have hW' := hW
  obtain ⟨p, q, hA0, hV, rfl, hfz, hnd⟩ := hW
  have hA : DataW.TrodAll enc Try.prog W 0 (fun _ => true) true Try.f4.params.toList args.toList ds p := hA0
  rw [Try.params4] at hA hval
  obtain ⟨v0, vs0, d0, ds0, p0, q0, hargs, rfl, rfl, h0, r0⟩ := trodAll_cons hA
  obtain ⟨v1, vs1, d1, ds1, p1, q1, rfl, rfl, rfl, h1, r1⟩ := trodAll_cons r0
  obtain ⟨rfl, rfl, rfl⟩ := trodAll_nil r1
  obtain rfl : args = #[v0, v1] := by cases args; simp_all
  obtain ⟨rfl, rfl⟩ := trodVars_none hV
  obtain ⟨a0, rfl, rfl, rfl, w0⟩ := open_int Try.underlying5 (hval 0 5 v0 rfl rfl) h0
  obtain ⟨a1, rfl, rfl, rfl, w1⟩ := open_int Try.underlying5 (hval 1 5 v1 rfl rfl) h1
  clear hA0 hval0
  simp only [List.append_nil] at hW'
  refine (walk a0 a1 W (bounds_u8 w0) (bounds_u8 w1)).mono fun e W' ⟨he, bel⟩ => ?_
  subst he
  exact ⟨_, rfl, _, _, _, [], _, [], hW', trodAll_mk1 (shut_bool Try.underlying4 _), (trodAll_cons_mk (shut_int Try.underlying5 w0) (trodAll_cons_mk (shut_int Try.underlying5 w1) trodAll_mk0)), rfl, bel.frame _, fun h => by cases h⟩

theorem over : Rows.verifyJoinsRow.holds Try.pinned (OpenSpec.ofChange Rows.verifyJoinsSpec) :=
  OpenClaim.holds_of_wide 4 Try.f4 rfl rfl rfl rfl rfl rfl rfl ⟨rfl, rfl, rfl, rfl, rfl⟩ rfl rfl rfl rfl rfl (by kernel_rfl) Try.func4 (by kernel_rfl)
    (of_decide_eq_true (by kernel_rfl)) (by unfold Func.isWrapper; first | (rw [if_pos (by decide +kernel)]; kernel_rfl) | (rw [if_neg (by decide +kernel)]; exact ⟨rfl, rfl⟩))
    (fun os started H enc _ => lifted os started H enc)

/-- The statement. -/
theorem proved : Rows.VerifyJoinsSaid := over
end Go.Proofs.Ytpjanfkliaaflaa.verifyJoins
