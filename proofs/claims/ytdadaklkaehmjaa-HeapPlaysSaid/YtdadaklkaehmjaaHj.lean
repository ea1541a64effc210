/-
  What a heap's Add does.
  Conditions: as each theorem says.
-/
import Derived.Test.YtdadaklkaehmjaaHi
import Derived.Test.YtdadaklkaehmjaaStp
import Derived.Lib.QuietBelow
import Derived.BigQuiet
namespace Go.Proofs.Ytdadaklkaehmjaa
open Go.RowKit
set_option linter.unusedSimpArgs false
set_option linter.unusedVariables false

theorem wrap_in {x : Int} (h : I64 x) : IntKind.i64.wrap x = x := (IntWalk.i64_left x).trans (IntWalk.wrap64_in x (by unfold I64 at h; omega))

/-- There is no room for it. -/
def Full (O : List Ob) (q u k : Int) : Prop := q - k < u ∨ 4096 ≤ O.length

set_option maxRecDepth 100000 in
set_option maxHeartbeats 4000000 in
theorem add_full {S : Nat → Prop} {O : List Ob} {q u : Int} (cs : List Value) (o : Ob) (g : Nat) (w : World) (h : IsHp S w g O q u) (ho : obL.R (· < w.heap.size) w cs o) (hz : o.small) (hO : O.length ≤ 1000000) (hq : -4000000000000 ≤ q ∧ q ≤ 4000000000000) (hu : -4000000000000 ≤ u ∧ u ≤ 4000000000000) (hS : ∀ b, S b → b < w.heap.size) (hf : Full O q u o.cost) :
    Calls Try.prog 11 #[.pointer (some ⟨g, 0, none⟩), vAgg cs] w fun e w' => e = .returned (.tuple #[.int .u64 0, .bool false]) ∧ Below w.heap.size w w' := by
  obtain ⟨A, c, B, d, rfl, -⟩ := ob_parts ho
  have hk : 16 ≤ o.cost ∧ o.cost ≤ 1000000 := by obtain ⟨z0, z1⟩ := hz; unfold Ob.cost; omega
  have HCo : Hid (∀ V, Below w.heap.size w V → Calls Try.prog 13 #[.agg #[.int .i64 o.kind, .int .i64 o.n, .slice A o.words.length c, .slice B o.bytes.length d]] V fun e w' => e = .returned (.int .i64 o.cost) ∧ Below V.heap.size V w') := fun V hV => cost_any _ o V (obL.keep ho fun b hb => hV.block b hb) hz
  obtain ⟨v, css, tag, hb, hg, htg, hr⟩ := h
  obtain ⟨A1, c1, rfl, hc1, hc2⟩ := hr.shape
  have hgl := hb.lt
  show Calls Try.prog 11 #[.pointer (some ⟨g, 0, none⟩), .agg #[.int .i64 o.kind, .int .i64 o.n, .slice A o.words.length c, .slice B o.bytes.length d]] w _
  unfold Full at hf
  clear hr hg htg ho hz
  generalize O.length = n at *
  generalize o.cost = k at *
  generalize o.kind = kk at *
  generalize o.n = nn at *
  generalize o.words.length = pp at *
  generalize o.bytes.length = qq at *
  have wk := wrap_in (x := q - k) ⟨by omega, by omega⟩
  go_enter Try.func11, Try.ntmps11
  go_upto_region 1 with (fail)
  refine wp_world fun W hW => ?_
  have HBW : Hid (Below w.heap.size w W) := by show Below _ _ _; rw [hW]; exact (Below.refl _ _).alloc (Nat.le_refl _) _
  have b0 : Blk W w.heap.size 28 #[.int .i64 kk, .int .i64 nn, .slice A pp c, .slice B qq d] := by rw [hW]; exact blk_at rfl
  have bg := blk_below hb HBW.out hgl
  have e0 := cell_regrown (b0.cell 0)
  have e1 := cell_regrown (b0.cell 1)
  have e2 := cell_regrown (b0.cell 2)
  have e3 := cell_regrown (b0.cell 3)
  have g0 := cell_regrown (bg.cell 0)
  have g1 := cell_regrown (bg.cell 1)
  have g2 := cell_regrown (bg.cell 2)
  have HCr : Hid (∀ dq osq, Below w.heap.size w (Go.Sort.grow (redrawn W dq) osq)) := fun dq osq => HBW.out.trans ((below_regrown W dq osq).mono HBW.out.size)
  clear hW b0 bg hb
  by_cases h1 : q - k < u
  · have d1 : decide (q - k < u) = true := by simpa using h1
    clear hf
    refine wp_region_quiet_below (by kernel_rfl) (by kernel_rfl) ?_
    repeat (quiet_step (first | with_reducible exact Calls.regrown_of (HCo.out _ (HCr.out _ _))))
    refine wpQuiet_nil ?_
    intro _ hw'
    obtain ⟨⟨dq, osq⟩, hw''⟩ := hw'
    subst hw''
    go_wp2_with fail
    go_ret2
    exact ⟨rfl, HCr.out dq osq⟩
  · have d1 : decide (q - k < u) = false := by simpa using h1
    have h2 : (4096 : Int) ≤ (n : Int) := by rcases hf with h | h <;> omega
    have d2 : decide ((4096 : Int) ≤ (n : Int)) = true := by simpa using h2
    clear hf
    refine wp_region_quiet_below (by kernel_rfl) (by kernel_rfl) ?_
    repeat (quiet_step (first | with_reducible exact Calls.regrown_of (HCo.out _ (HCr.out _ _))))
    refine wpQuiet_nil ?_
    intro _ hw'
    obtain ⟨⟨dq, osq⟩, hw''⟩ := hw'
    subst hw''
    go_wp2_with fail
    go_ret2
    exact ⟨rfl, HCr.out dq osq⟩
end Go.Proofs.Ytdadaklkaehmjaa
