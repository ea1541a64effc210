/-
  The law KindThree holds: what three have in common does not hang on which two come first; the law's function returns true and turns nothing that was there.
  Conditions: none.
-/
import Derived.Test.YtcogjdpgnahjiaaOpn
import Derived.Test.YtcogjdpgnahjiaaOty
import Derived.Test.YtcogjdpgnahjiaaKan
import Derived.Deep.RegionHeld3
import Derived.Deep.DeepCutAuto
namespace Go.Proofs.Ytcogjdpgnahjiaa.kindThree
open Go.ChangeShapes Go.WideShapes Go.ChangeAt Go.RowKit
set_option linter.unusedVariables false
set_option linter.unusedSimpArgs false

def tk (i : Nat) : Int := [1, 2, 3, 4, 4, 5, 5, 6, 7, 8].getD i 0
def tn (i : Nat) : Int := [0, 0, 0, 0, 1, 0, 1, 0, 0, 0].getD i 0

set_option maxRecDepth 100000 in
theorem table : ∀ i : Fin 10, ∀ j : Fin 10, joinK (tk i) (tn i) (tk j) (tn j) = joinK (tk j) (tn j) (tk i) (tn i) ∧ joinN (tk i) (tn i) (tk j) (tn j) = joinN (tk j) (tn j) (tk i) (tn i) ∧
    ∀ k : Fin 10, joinK (tk i) (tn i) (joinK (tk j) (tn j) (tk k) (tn k)) (joinN (tk j) (tn j) (tk k) (tn k)) = joinK (joinK (tk i) (tn i) (tk j) (tn j)) (joinN (tk i) (tn i) (tk j) (tn j)) (tk k) (tn k) ∧
      joinN (tk i) (tn i) (joinK (tk j) (tn j) (tk k) (tn k)) (joinN (tk j) (tn j) (tk k) (tn k)) = joinN (joinK (tk i) (tn i) (tk j) (tn j)) (joinN (tk i) (tn i) (tk j) (tn j)) (tk k) (tn k) := by
  decide +kernel

theorem bc {W W' : World} {p : Addr} {v : Value} (c : W.cell? p = some v) (h : Below W.heap.size W W') : W'.cell? p = some v := by
  rw [h.cell (World.block_lt_of_cell? W p c)]
  exact c

set_option maxRecDepth 100000 in
set_option maxHeartbeats 2000000 in
theorem walk (a b c : Int) (w : World) (ha : 0 ≤ a ∧ a ≤ 255) (hb : 0 ≤ b ∧ b ≤ 255) (hc : 0 ≤ c ∧ c ≤ 255) : Calls Try.prog 7 #[.int .u8 a, .int .u8 b, .int .u8 c] w fun e w' => e = .returned (.bool true) ∧ Below w.heap.size w w' := by
  obtain ⟨i, ei, hi⟩ : ∃ i : Nat, a.tmod 10 = (i : Int) ∧ i < 10 := ⟨(a % 10).toNat, by rw [Int.tmod_eq_emod_of_nonneg ha.1]; omega, by omega⟩
  obtain ⟨j, ej, hj⟩ : ∃ j : Nat, b.tmod 10 = (j : Int) ∧ j < 10 := ⟨(b % 10).toNat, by rw [Int.tmod_eq_emod_of_nonneg hb.1]; omega, by omega⟩
  obtain ⟨k, ek, hk⟩ : ∃ k : Nat, c.tmod 10 = (k : Int) ∧ k < 10 := ⟨(c % 10).toNat, by rw [Int.tmod_eq_emod_of_nonneg hc.1]; omega, by omega⟩
  have hi1 : (i : Int) < 10 := by omega
  have hj1 : (j : Int) < 10 := by omega
  have hk1 : (k : Int) < 10 := by omega
  go_enter Try.func7, Try.ntmps7
  go_upto_region 2 with fail
  refine wp_world fun W hW => ?_
  have HC : Hid (∀ i, i < 10 → W.cell? ⟨w.heap.size, i * 2, none⟩ = some (.int .i64 (tk i)) ∧ W.cell? ⟨w.heap.size, i * 2 + 1, none⟩ = some (.int .i64 (tn i))) := by
    intro i hi
    rw [hW]
    match i, hi with
    | 0, _ | 1, _ | 2, _ | 3, _ | 4, _ | 5, _ | 6, _ | 7, _ | 8, _ | 9, _ => simp [go_sem, tk, tn]
  have HB : Hid (Below w.heap.size w W) := by
    show Below w.heap.size w W
    rw [hW]
    exact (Below.refl _ _).alloc (Nat.le_refl _) _
  have hs : W.heap.size = w.heap.size + 1 := by rw [hW]; simp
  clear hW
  go_cut [8, 9, 10] (fun s8 s9 s10 wx => ∃ x y z : Nat, s8 = .pointer (some ⟨x, 0, none⟩) ∧ s9 = .pointer (some ⟨y, 0, none⟩) ∧ s10 = .pointer (some ⟨z, 0, none⟩) ∧
    wx.cell? ⟨x, 0, none⟩ = some (.int .i64 (tk i)) ∧ wx.cell? ⟨x, 1, none⟩ = some (.int .i64 (tn i)) ∧ wx.cell? ⟨y, 0, none⟩ = some (.int .i64 (tk j)) ∧ wx.cell? ⟨y, 1, none⟩ = some (.int .i64 (tn j)) ∧
    wx.cell? ⟨z, 0, none⟩ = some (.int .i64 (tk k)) ∧ wx.cell? ⟨z, 1, none⟩ = some (.int .i64 (tn k)) ∧ Below w.heap.size w wx)
  case first =>
    obtain ⟨c0, c1⟩ := HC.out i hi
    obtain ⟨c2, c3⟩ := HC.out j hj
    obtain ⟨c4, c5⟩ := HC.out k hk
    go_region_held3 (fun w' => w'.cell? ⟨w.heap.size, i * 2, none⟩ = some (.int .i64 (tk i)) ∧ w'.cell? ⟨w.heap.size, i * 2 + 1, none⟩ = some (.int .i64 (tn i)) ∧ w'.cell? ⟨w.heap.size, j * 2, none⟩ = some (.int .i64 (tk j)) ∧ w'.cell? ⟨w.heap.size, j * 2 + 1, none⟩ = some (.int .i64 (tn j)) ∧ w'.cell? ⟨w.heap.size, k * 2, none⟩ = some (.int .i64 (tk k)) ∧ w'.cell? ⟨w.heap.size, k * 2 + 1, none⟩ = some (.int .i64 (tn k))) (refine ⟨bc c0 ?_, bc c1 ?_, bc c2 ?_, bc c3 ?_, bc c4 ?_, bc c5 ?_⟩ <;> (repeat' (first | exact Below.refl _ _ | apply Below.drew | apply Below.alloc | apply Below.setCell)) <;> (simp <;> omega)) (fail)
    all_goals
      go_wp2_with fail
      go_meet
      refine ⟨_, _, _, rfl, rfl, rfl, ?_, ?_, ?_, ?_, ?_, ?_, ?_⟩
    any_goals (refine Below.drew (HB.out.trans (Below.alloc (Below.alloc (Below.alloc (Below.refl _ _) ?_ _) ?_ _) ?_ _)) <;> ((try simp) <;> omega))
    all_goals simp [go_sem, hs]
  case rest =>
    obtain ⟨x, y, z, rfl, rfl, rfl, c0, c1, c2, c3, c4, c5, hB⟩ := hcut
    obtain ⟨e1, e2, e3⟩ := table ⟨i, hi⟩ ⟨j, hj⟩
    obtain ⟨e4, e5⟩ := e3 ⟨k, hk⟩
    have A := Lib.hid (fun w => answers4 w)
    have J1 := Lib.hid (fun w => kjoin (tk j) (tn j) (tk k) (tn k) w)
    have J2 := Lib.hid (fun w => kjoin (tk i) (tn i) (joinK (tk j) (tn j) (tk k) (tn k)) (joinN (tk j) (tn j) (tk k) (tn k)) w)
    have J3 := Lib.hid (fun w => kjoin (tk i) (tn i) (tk j) (tn j) w)
    have J4 := Lib.hid (fun w => kjoin (joinK (tk i) (tn i) (tk j) (tn j)) (joinN (tk i) (tn i) (tk j) (tn j)) (tk k) (tn k) w)
    have J5 := Lib.hid (fun w => kjoin (tk j) (tn j) (tk i) (tn i) w)
    dsimp only at e1 e2 e4 e5
    rw [e4, e5] at J2
    rw [← e1, ← e2] at J5
    clear e1 e2 e3 e4 e5 HC
    generalize joinK (joinK (tk i) (tn i) (tk j) (tn j)) (joinN (tk i) (tn i) (tk j) (tn j)) (tk k) (tn k) = rk at J2 J4
    generalize joinN (joinK (tk i) (tn i) (tk j) (tn j)) (joinN (tk i) (tn i) (tk j) (tn j)) (tk k) (tn k) = rn at J2 J4
    generalize joinK (tk i) (tn i) (tk j) (tn j) = qk at J3 J4 J5
    generalize joinN (tk i) (tn i) (tk j) (tn j) = qn at J3 J4 J5
    generalize joinK (tk j) (tn j) (tk k) (tn k) = pk at J1 J2
    generalize joinN (tk j) (tn j) (tk k) (tn k) = pn at J1 J2
    have HBc := Lib.hid hB
    clear hB
    have k0 := cell_regrown c0
    have k1 := cell_regrown c1
    have k2 := cell_regrown c2
    have k3 := cell_regrown c3
    have k4 := cell_regrown c4
    have k5 := cell_regrown c5
    clear c0 c1 c2 c3 c4 c5
    generalize tk i = ik at *
    generalize tn i = i2 at *
    generalize tk j = jk at *
    generalize tn j = j2 at *
    generalize tk k = kk at *
    generalize tn k = kn at *
    go_wp2_with fail
    refine wp_region_quiet_below (by kernel_rfl) (by kernel_rfl) ?_
    repeat (quiet_step (first | with_reducible exact Calls.regrown_of (A.out _) | with_reducible exact Calls.regrown_of (J1.out _) | with_reducible exact Calls.regrown_of (J2.out _) | with_reducible exact Calls.regrown_of (J3.out _) | with_reducible exact Calls.regrown_of (J4.out _) | with_reducible exact Calls.regrown_of (J5.out _)))
    refine wpQuiet_nil ?_
    intro _ hw'
    obtain ⟨⟨dq, osq⟩, hw''⟩ := hw'
    subst hw''
    go_wp2_with fail
    go_ret
    exact ⟨rfl, HBc.out.trans ((below_regrown _ dq osq).mono HBc.out.size)⟩

set_option maxRecDepth 100000 in
theorem lifted (os : Os) (started : os.Started) (H : Type) (enc : TypeId × Value → H) :
    ReturnsInHanded {} Try.checked os 7 .any (Rows.kindThreeSpec.pre6 enc Try.prog Try.f7 Rows.kindThreeRow.domain false) (Rows.kindThreeSpec.post enc Try.prog Try.f7 false true false false) := by
  refine returnsInHanded_of_change (C := Try.checked) own started (by kernel_rfl) Try.func7
    (ChangeSpec.witness6 (enc := enc) (C := Try.checked) false ⟨#[], #[.int .u8 0, .int .u8 0, .int .u8 0], []⟩ 8 (by kernel_rfl) (by kernel_rfl) (by kernel_rfl) (by kernel_rfl)) ?_
  intro W base args ds gs before hval0 hW hcnd _
  have hval : ∀ (j : Nat) t v, Try.f7.params[j]? = some t → args[j]? = some v → Value.okWide Try.prog W .any base t v := hval0
  have hW' := hW
  obtain ⟨p, q, hA0, hV, rfl, hfz, hnd⟩ := hW
  have hA : DataW.TrodAll enc Try.prog W 0 (fun _ => true) true Try.f7.params.toList args.toList ds p := hA0
  rw [Try.params7] at hA hval
  obtain ⟨v0, vs0, d0, ds0, p0, q0, hargs, rfl, rfl, h0, r0⟩ := trodAll_cons hA
  obtain ⟨v1, vs1, d1, ds1, p1, q1, rfl, rfl, rfl, h1, r1⟩ := trodAll_cons r0
  obtain ⟨v2, vs2, d2, ds2, p2, q2, rfl, rfl, rfl, h2, r2⟩ := trodAll_cons r1
  obtain ⟨rfl, rfl, rfl⟩ := trodAll_nil r2
  obtain rfl : args = #[v0, v1, v2] := by cases args; simp_all
  obtain ⟨rfl, rfl⟩ := trodVars_none hV
  obtain ⟨a0, rfl, rfl, rfl, w0⟩ := open_int Try.underlying5 (hval 0 5 v0 rfl rfl) h0
  obtain ⟨a1, rfl, rfl, rfl, w1⟩ := open_int Try.underlying5 (hval 1 5 v1 rfl rfl) h1
  obtain ⟨a2, rfl, rfl, rfl, w2⟩ := open_int Try.underlying5 (hval 2 5 v2 rfl rfl) h2
  clear hA0 hval0
  simp only [List.append_nil] at hW'
  refine (walk a0 a1 a2 W (bounds_u8 w0) (bounds_u8 w1) (bounds_u8 w2)).mono fun e W' ⟨he, bel⟩ => ?_
  subst he
  exact ⟨_, rfl, _, _, _, [], _, [], hW', trodAll_mk1 (shut_bool Try.underlying4 _), (trodAll_cons_mk (shut_int Try.underlying5 w0) (trodAll_cons_mk (shut_int Try.underlying5 w1) (trodAll_cons_mk (shut_int Try.underlying5 w2) trodAll_mk0))), rfl, bel.frame _, fun h => by cases h⟩

theorem over : Rows.kindThreeRow.holds Try.pinned (OpenSpec.ofChange Rows.kindThreeSpec) :=
  OpenClaim.holds_of_wide 7 Try.f7 rfl rfl rfl rfl rfl rfl rfl ⟨rfl, rfl, rfl, rfl, rfl⟩ rfl rfl rfl rfl rfl (by kernel_rfl) Try.func7 (by kernel_rfl)
    (of_decide_eq_true (by kernel_rfl)) (by unfold Func.isWrapper; first | (rw [if_pos (by decide +kernel)]; kernel_rfl) | (rw [if_neg (by decide +kernel)]; exact ⟨rfl, rfl⟩))
    (fun os started H enc _ => lifted os started H enc)

/-- The statement. -/
theorem proved : Rows.KindThreeSaid := over
end Go.Proofs.Ytcogjdpgnahjiaa.kindThree
