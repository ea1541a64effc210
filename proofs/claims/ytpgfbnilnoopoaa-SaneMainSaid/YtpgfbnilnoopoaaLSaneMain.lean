/-
  The law SaneMain holds: it begins where there are no arguments, and a number comes of it; the law's function returns true and turns nothing that was there.
  Conditions: none.
-/
import Derived.Test.YtpgfbnilnoopoaaQ01
import Derived.Test.YtpgfbnilnoopoaaQ16
namespace Go.Proofs.Ytpgfbnilnoopoaa.saneMain
open Go.ChangeShapes Go.WideShapes Go.ChangeAt Go.RowKit
set_option linter.unusedVariables false
set_option linter.unusedSimpArgs false

set_option maxRecDepth 100000 in
set_option maxHeartbeats 4000000 in
theorem walk (k n : Int) (A : Option Addr) (l c : Nat) (ts : List Typ) (w : World) (hk : I64 k) (hn : I64 n) (hl : ts.length = l) (hT : tysL.R (· < w.heap.size) w [.slice A l c] ts) :
    Calls Try.prog 6 #[.agg #[.int .i64 k, .int .i64 n], .slice A l c] w fun e w' => e = .returned (.bool true) ∧ Below w.heap.size w w' := by
  have AN := Lib.hid (fun w => answers7 w)
  by_cases h10 : 10 < l
  · have h10' : (10 : Int) < (l : Int) := by omega
    clear hT hl
    have HB0 : Hid (∀ o : Obj, Below w.heap.size w (w.alloc o)) := fun o => (Below.refl _ _).alloc (Nat.le_refl _) _
    go_enter Try.func6, Try.ntmps6
    go_wp2_with (first | (go_at_call 8; refine (AN.out _).mono ?_; rintro e w2 ⟨rfl, hb2⟩; have HB2 := Lib.hid ((HB0.out _).trans (hb2.mono (by simp))); clear hb2))
    go_ret
    exact ⟨rfl, HB2.out⟩
  have h10' : ¬ (10 : Int) < (l : Int) := by omega
  have HT := Lib.hid hT
  have HL := Lib.hid hl
  have HK := Lib.hid (And.intro hk hn)
  clear hT hl hk hn
  go_enter Try.func6, Try.ntmps6
  go_wp2_with fail
  refine calls_world fun W hW => ?_
  have bt : Blk W w.heap.size 34 #[.int .i64 k, .int .i64 n] := by rw [hW]; repeat (first | exact blk_at (by simp) | refine blk_keep ?_)
  have b0 : Blk W (w.heap.size + 1) 35 #[.slice none 0 0] := by rw [hW]; repeat (first | exact blk_at (by simp) | refine blk_keep ?_)
  have b1 : Blk W (w.heap.size + 2) 44 iA := by rw [hW]; repeat (first | exact blk_at (by simp) | refine blk_keep ?_)
  have b2 : Blk W (w.heap.size + 3) 38 #[.slice A l c, .int .i64 k, .int .i64 n, .slice none 0 0, .slice (some ⟨w.heap.size + 2, 0, none⟩) 1 1] := by rw [hW]; repeat (first | exact blk_at (by simp) | refine blk_keep ?_)
  have b3 : Blk W (w.heap.size + 4) 28 #[.slice (some ⟨w.heap.size + 1, 0, none⟩) 1 1, .slice (some ⟨w.heap.size + 3, 0, none⟩) 1 1, .slice none 0 0, .slice none 0 0, .slice none 0 0] := by rw [hW]; repeat (first | exact blk_at (by simp) | refine blk_keep ?_)
  have HB0 : Hid (Below w.heap.size w W) := by show Below _ _ _; rw [hW]; exact (((((Below.refl _ _).alloc (Nat.le_refl _) _).alloc (by simp) _).alloc (by simp; omega) _).alloc (by simp; omega) _).alloc (by simp; omega) _
  clear hW
  have HL0 : Hid (modL.R (· < W.heap.size) W [.slice (some ⟨w.heap.size + 1, 0, none⟩) 1 1, .slice (some ⟨w.heap.size + 3, 0, none⟩) 1 1, .slice none 0 0, .slice none 0 0, .slice none 0 0] (mm (k, n) ts)) :=
    ⟨_, _, _, _, _, rfl, one_sl (x := ([] : List Typ)) b0 b0.lt (nil_sl _ _ _), one_sl b2 b2.lt ⟨_, _, _, rfl, HK.out.1, HK.out.2, tysL.wide (tysL.keep HT.out fun b hb => HB0.out.block b hb) fun b hb => Nat.lt_of_lt_of_le hb HB0.out.size, nil_sl _ _ _, one_sl (x := (26, 0, 0)) b1 b1.lt ⟨rfl, by unfold I64; simp, by unfold I64; simp, by unfold I64; simp⟩⟩, nil_sl _ _ _, nil_sl _ _ _, nil_sl _ _ _⟩
  refine (AN.out W).mono ?_
  rintro e w1 ⟨rfl, hb1⟩
  have ct := blk_below bt hb1 bt.lt
  have cm := blk_below b3 hb1 b3.lt
  have HB1 := Lib.hid (HB0.out.trans (hb1.mono HB0.out.size))
  have HL1 := Lib.hid (mod_at HL0.out hb1)
  clear hb1 bt b0 b1 b2 b3
  have x0 : w1.cell? ⟨w.heap.size + 1 + 1 + 1 + 1, 0, none⟩ = some (.slice (some ⟨w.heap.size + 1, 0, none⟩) 1 1) := cm.cell 0
  have x1 : w1.cell? ⟨w.heap.size + 1 + 1 + 1 + 1, 1, none⟩ = some (.slice (some ⟨w.heap.size + 3, 0, none⟩) 1 1) := cm.cell 1
  have x2 : w1.cell? ⟨w.heap.size + 1 + 1 + 1 + 1, 2, none⟩ = some (.slice none 0 0) := cm.cell 2
  have x3 : w1.cell? ⟨w.heap.size + 1 + 1 + 1 + 1, 3, none⟩ = some (.slice none 0 0) := cm.cell 3
  have x4 : w1.cell? ⟨w.heap.size + 1 + 1 + 1 + 1, 4, none⟩ = some (.slice none 0 0) := cm.cell 4
  clear cm
  go_wp2_with fail
  refine (main_any _ (mm (k, n) ts) w1 HL1.out).mono ?_
  rintro e w2 ⟨he, hb2⟩
  rw [mm_main, HL.out] at he
  have ct2 := blk_below ct hb2 ct.lt
  have HB2 := Lib.hid (HB1.out.trans (hb2.mono HB1.out.size))
  have y0 : w2.cell? ⟨w.heap.size, 0, none⟩ = some (.int .i64 k) := ct2.cell 0
  have y1 : w2.cell? ⟨w.heap.size, 1, none⟩ = some (.int .i64 n) := ct2.cell 1
  clear hb2 ct ct2 x0 x1 x2 x3 x4
  rcases Nat.eq_zero_or_pos l with hl0 | hl0
  · subst hl0
    simp only [decide_true, Bool.true_and] at he
    rcases hr1 : (k == 1) with _ | _ <;> rcases hr2 : (n == 0) with _ | _
    all_goals
      rw [hr1, hr2] at he
      subst he
      go_wp2_with fail
      go_ret
      exact ⟨rfl, HB2.out⟩
  · have q1 : ((l : Int) == 0) = false := by simp; omega
    have q2 : (l == 0) = false := by simp; omega
    rw [decide_eq_false (show ¬ l = 0 by omega), Bool.false_and] at he
    subst he
    go_wp2_with fail
    go_ret
    exact ⟨rfl, HB2.out⟩

set_option maxRecDepth 100000 in
theorem lifted (os : Os) (started : os.Started) (H : Type) (enc : TypeId × Value → H) :
    ReturnsInHanded {} Try.checked os 6 .any (Rows.saneMainSpec.pre6 enc Try.prog Try.f6 Rows.saneMainRow.domain false) (Rows.saneMainSpec.post enc Try.prog Try.f6 false true false false) := by
  refine returnsInHanded_of_change (C := Try.checked) own started (by kernel_rfl) Try.func6
    (ChangeSpec.witness6 (enc := enc) (C := Try.checked) false ⟨#[], #[.agg #[.int .i64 0, .int .i64 0], .slice none 0 0], []⟩ 8 (by kernel_rfl) (by kernel_rfl) (by kernel_rfl) (by kernel_rfl)) ?_
  intro W base args ds gs before hval0 hW hcnd _
  have hval : ∀ (j : Nat) t v, Try.f6.params[j]? = some t → args[j]? = some v → Value.okWide Try.prog W .any base t v := hval0
  have hW' := hW
  obtain ⟨p, q, hA0, hV, rfl, hfz, hnd⟩ := hW
  have hA : DataW.TrodAll enc Try.prog W 0 (fun _ => true) true Try.f6.params.toList args.toList ds p := hA0
  rw [Try.params6] at hA hval
  obtain ⟨v0, vs0, d0, ds0, p0, q0, hargs, rfl, rfl, h0, r0⟩ := trodAll_cons hA
  obtain ⟨v1, vs1, d1, ds1, p1, q1, rfl, rfl, rfl, h1, r1⟩ := trodAll_cons r0
  obtain ⟨rfl, rfl, rfl⟩ := trodAll_nil r1
  obtain rfl : args = #[v0, v1] := by cases args; simp_all
  obtain ⟨rfl, rfl⟩ := trodVars_none hV
  have lt0 : ∀ x ∈ p0, x.block < W.heap.size := by obtain ⟨m, hm⟩ := h0; exact DataW.trod_lt m _ _ _ hm
  obtain ⟨k0, n0, rfl, wk0, wn0⟩ := open_typ (hval 0 34 v0 rfl rfl) h0
  obtain ⟨a1, len1, cap1, rfl⟩ := okWide_slice Try.underlying35 (hval 1 35 v1 rfl rfl)
  have lt1 : ∀ x ∈ p1, x.block < W.heap.size := by obtain ⟨m, hm⟩ := h1; exact DataW.trod_lt m _ _ _ hm
  obtain ⟨ts1, hx1, hT1⟩ := open_tys h1
  clear hA0 hval0
  refine (walk k0 n0 a1 len1 cap1 ts1 W (i64_of wk0) (i64_of wn0) hx1 hT1).mono fun e W' ⟨he, bel⟩ => ?_
  subst he
  exact ⟨_, rfl, _, _, _, [], _, [], hW', trodAll_mk1 (shut_bool Try.underlying4 _), (trodAll_cons_mk (Below.trod laidOut (by kernel_rfl) (of_decide_eq_true (by kernel_rfl)) h0 bel lt0) (trodAll_cons_mk (Below.trod laidOut (by kernel_rfl) (of_decide_eq_true (by kernel_rfl)) h1 bel lt1) trodAll_mk0)), rfl, bel.frame _, fun h => by cases h⟩

theorem over : Rows.saneMainRow.holds Try.pinned (OpenSpec.ofChange Rows.saneMainSpec) :=
  OpenClaim.holds_of_wide 6 Try.f6 rfl rfl rfl rfl rfl rfl rfl ⟨rfl, rfl, rfl, rfl, rfl⟩ rfl rfl rfl rfl rfl (by kernel_rfl) Try.func6 (by kernel_rfl)
    (of_decide_eq_true (by kernel_rfl)) (by unfold Func.isWrapper; first | (rw [if_pos (by decide +kernel)]; kernel_rfl) | (rw [if_neg (by decide +kernel)]; exact ⟨rfl, rfl⟩))
    (fun os started H enc _ => lifted os started H enc)

/-- The statement. -/
theorem proved : Rows.SaneMainSaid := over
end Go.Proofs.Ytpgfbnilnoopoaa.saneMain
