/-
  The law InstReads holds: what any bytes begin with is an instruction, whose bytes these are, or none; the law's function returns true and turns nothing that was there.
  Conditions: none.
-/
import Derived.Test.YtolofgifcjkaaaaOpn
import Derived.Test.YtolofgifcjkaaaaIan
import Derived.Test.YtolofgifcjkaaaaIun
import Derived.Test.YtolofgifcjkaaaaRin
import Derived.Test.YtolofgifcjkaaaaSme
namespace Go.Proofs.Ytolofgifcjkaaaa.instReads
open Go.ChangeShapes Go.WideShapes Go.ChangeAt Go.RowKit
set_option linter.unusedVariables false
set_option linter.unusedSimpArgs false

theorem blk_at {b B : Nat} {w w' : World} {t : TypeId} {cs : Array Value} (h : Blk w b t cs) (hb : Below B w w') (hlt : b < B) : Blk w' b t cs := (hb.block b hlt).trans h

set_option maxRecDepth 100000 in
set_option maxHeartbeats 2000000 in
theorem walk_yes (a : Addr) (m c o x y L : Nat) (rest xs : List Nat) (w : World) (hx : xs.length = m) (hb : ∀ x ∈ xs, x < 256) (hB : Byt (· < w.heap.size) w (some a) xs) (hlc : m ≤ c) (hcm : c ≤ maxLen) (hm : m ≤ 50) (hgd : goodI o x y = true) (hL : (insB o x y).length = L) (he : xs = insB o x y ++ rest) :
    Calls Try.prog 4 #[.slice (some a) m c] w fun e w' => e = .returned (.bool true) ∧ Below w.heap.size w w' := by
  have hR : m = L + rest.length := by rw [← hx, he, List.length_append, hL]
  obtain ⟨R, hR2⟩ : ∃ R, rest.length = R := ⟨_, rfl⟩
  rw [hR2] at hR
  have HR2 := Lib.hid hR2
  have es : (m : Int) - (R : Int) = (L : Nat) := by omega
  have e1 : L ≤ c := by omega
  have e2 : (L : Int) ≤ (c : Int) := by omega
  have HX := Lib.hid hx
  have HB := Lib.hid hB
  have HL := Lib.hid hL
  have HT : Hid (xs.take L = insB o x y) := by show xs.take L = insB o x y; rw [he, ← hL, List.take_left]
  have HE := Lib.hid he
  have Hg := Lib.hid hgd
  have Hb : Hid (∀ z ∈ rest, z < 256) := fun z hz => hb z (by rw [he]; simp [hz])
  have RT := Lib.hid (fun w => rins_any o x y w)
  rw [hL] at RT
  have hR50 : R ≤ 50 := by omega
  clear hx hB hL he hgd hb hR2 hR
  unfold maxLen at hcm
  go_enter Try.func4, Try.ntmps4
  go_wp2_with (first
    | (go_at_call 13
       refine (newReader_any (some a) m c xs w HX.out HB.out (by omega)).mono ?_
       rintro e w1 ⟨g, rfl, hG1, hg1, hb1⟩
       have HG1 := Lib.hid hG1
       have HB1 := Lib.hid hb1
       clear hG1 hb1)
    | (go_at_call 14
       refine (iget_yes g o x y rest w1 Hg.out (by rw [← HE.out]; exact HG1.out) Hb.out (by rw [HR2.out]; omega)).mono ?_
       rintro e w2 ⟨rfl, hG2, ho2⟩
       have HG2 := Lib.hid hG2
       have HB2 : Hid (Below w.heap.size w w2) := HB1.out.trans (below_only ho2 hg1 HB1.out.size)
       clear hG2 ho2
       unfold insV)
    | (go_at_call 7
       refine (answers5 _).mono ?_
       rintro e w3 ⟨rfl, hb3⟩
       have HB3 : Hid (Below w.heap.size w w3) := (HB2.out.alloc HB2.out.size _).trans (hb3.mono (by simp; have := HB2.out.size; omega))
       have HG3 := Lib.hid ((HG2.out.alloc _).below hb3 (by simp; have := HG2.out.lt; omega))
       have hk3 := (hb3.block w2.heap.size (by simp)).trans (blk_new w2 23 #[.int .i64 (o : Nat), .int .i64 (x : Nat), .int .i64 (y : Nat)])
       have k30 := Blk.cell hk3 0
       have k31 := Blk.cell hk3 1
       have k32 := Blk.cell hk3 2
       simp at k30 k31 k32
       clear hb3 hk3)
    | (go_at_call 10
       refine (RT.out _).mono ?_
       rintro e w4 ⟨u4, rfl, hown4, hb4⟩
       obtain ⟨A4, c4, rfl, -, -, -, hY4⟩ := own_slice hown4
       have HY4 := Lib.hid hY4
       have HB4 : Hid (Below w.heap.size w w4) := HB3.out.trans (hb4.mono HB3.out.size)
       have HG4 := Lib.hid (HG3.out.below hb4 HG3.out.lt)
       clear hown4 hY4 hb4)
    | (go_at_call 15
       refine (left_good g rest w4 HG4.out).mono ?_
       rw [HR2.out]
       rintro e w5 ⟨rfl, rfl⟩)
    | (go_at_call 9
       refine (same_yes A4 (some a) L L c4 c (insB o x y) (xs.take L) w4 _ _ HL.out (by rw [HT.out]; exact HL.out) HT.out.symm HY4.out ((HB.out.take L).below HB4.out (Nat.le_refl _)) (by omega)).mono ?_
       rintro e w6 ⟨rfl, q, rfl⟩))
  go_ret
  exact ⟨rfl, ⟨HB4.out.os, HB4.out.tape, HB4.out.output, HB4.out.size, HB4.out.block⟩⟩

set_option maxRecDepth 100000 in
set_option maxHeartbeats 2000000 in
theorem walk_empty (A : Option Addr) (c : Nat) (w : World) :
    Calls Try.prog 4 #[.slice A 0 c] w fun e w' => e = .returned (.bool true) ∧ Below w.heap.size w w' := by
  go_enter Try.func4, Try.ntmps4
  go_wp2_with (first
    | (go_at_call 13
       refine (newReader_any A 0 c [] w rfl (Byt.nil _ _ _) (by omega)).mono ?_
       rintro e w1 ⟨g, rfl, hG1, hg1, hb1⟩
       have HG1 := Lib.hid hG1
       have HB1 := Lib.hid hb1
       clear hG1 hb1)
    | (go_at_call 14
       refine (iget_no g [] w1 HG1.out (by simp) (by simp) hasI_nil).mono ?_
       rintro e w2 ⟨rfl, ho2⟩
       have HB2 : Hid (Below w.heap.size w w2) := HB1.out.trans (below_only ho2 hg1 HB1.out.size)
       clear ho2
       unfold insV)
    | (go_at_call 7
       refine (answers5 _).mono ?_
       rintro e w3 ⟨rfl, hb3⟩
       have HB3 : Hid (Below w.heap.size w w3) := (HB2.out.alloc HB2.out.size _).trans (hb3.mono (by simp; have := HB2.out.size; omega))
       have hk3 := (hb3.block w2.heap.size (by simp)).trans (blk_new w2 23 #[.int .i64 0, .int .i64 0, .int .i64 0])
       have k30 := Blk.cell hk3 0
       have k31 := Blk.cell hk3 1
       have k32 := Blk.cell hk3 2
       simp at k30 k31 k32
       clear hb3 hk3))
  go_ret
  exact ⟨rfl, HB3.out⟩

set_option maxRecDepth 100000 in
set_option maxHeartbeats 2000000 in
theorem walk_no (a : Addr) (m c o : Nat) (n : Int) (xs : List Nat) (w : World) (hx : xs.length = m) (hb : ∀ x ∈ xs, x < 256) (hB : Byt (· < w.heap.size) w (some a) xs) (hcm : c ≤ maxLen) (hm : m ≤ 50) (hm0 : 0 < m) (hno : ¬ HasI xs) (ho : xs[0]?.getD 0 = o) (ho2 : o < 256) (hn : argN o = n) (hn0 : n ≠ 0) :
    Calls Try.prog 4 #[.slice (some a) m c] w fun e w' => e = .returned (.bool true) ∧ Below w.heap.size w w' := by
  have HX := Lib.hid hx
  have HB := Lib.hid hB
  have Hb := Lib.hid hb
  have HN := Lib.hid hno
  have hcell : w.cell? a = some (.int .u8 (o : Nat)) := by
    obtain ⟨a', e, -, hc⟩ := hB.at (k := 0) (by omega)
    injection e with e
    subst e
    rw [ho] at hc
    simpa [Addr.add] using hc
  have hablk : a.block < w.heap.size := by
    obtain ⟨a', e, hlt, -⟩ := hB.at (k := 0) (by omega)
    injection e with e
    subst e
    exact hlt
  have HC := Lib.hid hcell
  have RA := Lib.hid (fun w => refArgs_any o w)
  rw [hn] at RA
  have hn1 : (n == 0) = false := by simp [hn0]
  unfold maxLen at hcm
  clear hx hB hb hno ho hn hcell
  go_enter Try.func4, Try.ntmps4
  go_wp2_with (first
    | (go_at_call 13
       refine (newReader_any (some a) m c xs w HX.out HB.out (by omega)).mono ?_
       rintro e w1 ⟨g, rfl, hG1, hg1, hb1⟩
       have HG1 := Lib.hid hG1
       have HB1 := Lib.hid hb1
       clear hG1 hb1)
    | (go_at_call 14
       refine (iget_no g xs w1 HG1.out Hb.out (by rw [HX.out]; omega) HN.out).mono ?_
       rintro e w2 ⟨rfl, ho2⟩
       have HB2 : Hid (Below w.heap.size w w2) := HB1.out.trans (below_only ho2 hg1 HB1.out.size)
       have hc2 : ∀ ob, (w2.alloc ob).cell? a = some (.int .u8 (o : Nat)) := fun ob => ((HB2.out.alloc HB2.out.size ob).cell (p := a) hablk).trans HC.out
       clear ho2
       unfold insV)
    | (go_at_call 12
       refine (RA.out _).mono ?_
       rintro e w3 ⟨rfl, hb3⟩
       have HB3 : Hid (Below w.heap.size w w3) := (HB2.out.alloc HB2.out.size _).trans (hb3.mono (by simp; have := HB2.out.size; omega))
       have HK3 := Lib.hid ((hb3.block w2.heap.size (by simp)).trans (blk_new w2 23 #[.int .i64 0, .int .i64 0, .int .i64 0]))
       clear hb3)
    | (go_at_call 7
       refine (answers5 _).mono ?_
       rintro e w4 ⟨rfl, hb4⟩
       have HB4 : Hid (Below w.heap.size w w4) := HB3.out.trans (hb4.mono HB3.out.size)
       have hk4 := blk_at HK3.out hb4 (Blk.lt HK3.out)
       have k40 := Blk.cell hk4 0
       have k41 := Blk.cell hk4 1
       have k42 := Blk.cell hk4 2
       simp at k40 k41 k42
       clear hb4 hk4))
  go_ret
  exact ⟨rfl, HB4.out⟩

theorem walk (A : Option Addr) (m c : Nat) (xs : List Nat) (w : World) (hx : xs.length = m) (hb : ∀ x ∈ xs, x < 256) (hB : Byt (· < w.heap.size) w A xs) (hlc : m ≤ c) (hcm : c ≤ maxLen) :
    Calls Try.prog 4 #[.slice A m c] w fun e w' => e = .returned (.bool true) ∧ Below w.heap.size w w' := by
  by_cases hm : m ≤ 50
  · rcases Nat.eq_zero_or_pos m with h0 | h0
    · subst h0
      exact walk_empty A c w
    · obtain ⟨a, rfl, -, -⟩ := hB.at (k := 0) (by omega)
      by_cases hh : HasI xs
      · obtain ⟨o, x, y, rest, hgd, he⟩ := hh
        exact walk_yes a m c o x y _ rest xs w hx hb hB hlc hcm hm hgd rfl he
      · cases xs with
        | nil => simp at hx; omega
        | cons o ys =>
          have ho : o < 256 := hb o (by simp)
          refine walk_no a m c o (argN o) (o :: ys) w hx hb hB hcm hm h0 hh rfl ho rfl fun hn => hh ?_
          have hg : goodI o (0 : Nat) (0 : Nat) = true := goodI_mk (by omega) (by omega) (by omega) (fun _ => rfl) (fun _ => rfl)
          refine ⟨o, 0, 0, ys, hg, ?_⟩
          rw [insB_good hg, hn]
          simp [bodyB]
  · unfold maxLen at hcm
    go_enter Try.func4, Try.ntmps4
    go_wp2_with fail
    refine (answers5 w).mono ?_
    rintro e w3 ⟨rfl, hb3⟩
    go_wp2_with fail
    go_ret
    exact ⟨rfl, hb3⟩

set_option maxRecDepth 100000 in
theorem lifted (os : Os) (started : os.Started) (H : Type) (enc : TypeId × Value → H) :
    ReturnsInHanded {} Try.checked os 4 .any (Rows.instReadsSpec.pre6 enc Try.prog Try.f4 Rows.instReadsRow.domain false) (Rows.instReadsSpec.post enc Try.prog Try.f4 false true false false) := by
  refine returnsInHanded_of_change (C := Try.checked) own started (by kernel_rfl) Try.func4
    (ChangeSpec.witness6 (enc := enc) (C := Try.checked) false ⟨#[], #[.slice none 0 0], []⟩ 8 (by kernel_rfl) (by kernel_rfl) (by kernel_rfl) (by kernel_rfl)) ?_
  intro W base args ds gs before hval0 hW hcnd _
  have hval : ∀ (j : Nat) t v, Try.f4.params[j]? = some t → args[j]? = some v → Value.okWide Try.prog W .any base t v := hval0
  have hW' := hW
  obtain ⟨p, q, hA0, hV, rfl, hfz, hnd⟩ := hW
  have hA : DataW.TrodAll enc Try.prog W 0 (fun _ => true) true Try.f4.params.toList args.toList ds p := hA0
  rw [Try.params4] at hA hval
  obtain ⟨v0, vs0, d0, ds0, p0, q0, hargs, rfl, rfl, h0, r0⟩ := trodAll_cons hA
  obtain ⟨rfl, rfl, rfl⟩ := trodAll_nil r0
  obtain rfl : args = #[v0] := by cases args; simp_all
  obtain ⟨rfl, rfl⟩ := trodVars_none hV
  obtain ⟨a0, len0, cap0, rfl⟩ := okWide_slice Try.underlying24 (hval 0 24 v0 rfl rfl)
  have lt0 : ∀ x ∈ p0, x.block < W.heap.size := by obtain ⟨m, hm⟩ := h0; exact DataW.trod_lt m _ _ _ hm
  obtain ⟨xs0, hx0, hb0, hB0, hlc0, hcm0⟩ := open_byt h0
  clear hA0 hval0
  refine (walk a0 len0 cap0 xs0 W hx0 hb0 hB0 hlc0 hcm0).mono fun e W' ⟨he, bel⟩ => ?_
  subst he
  exact ⟨_, rfl, _, _, _, [], _, [], hW', trodAll_mk1 (shut_bool Try.underlying4 _), (trodAll_cons_mk (Below.trod laidOut (by kernel_rfl) (of_decide_eq_true (by kernel_rfl)) h0 bel lt0) trodAll_mk0), rfl, bel.frame _, fun h => by cases h⟩

theorem over : Rows.instReadsRow.holds Try.pinned (OpenSpec.ofChange Rows.instReadsSpec) :=
  OpenClaim.holds_of_wide 4 Try.f4 rfl rfl rfl rfl rfl rfl rfl ⟨rfl, rfl, rfl, rfl, rfl⟩ rfl rfl rfl rfl rfl (by kernel_rfl) Try.func4 (by kernel_rfl)
    (of_decide_eq_true (by kernel_rfl)) (by unfold Func.isWrapper; first | (rw [if_pos (by decide +kernel)]; kernel_rfl) | (rw [if_neg (by decide +kernel)]; exact ⟨rfl, rfl⟩))
    (fun os started H enc _ => lifted os started H enc)

/-- The statement. -/
theorem proved : Rows.InstReadsSaid := over
end Go.Proofs.Ytolofgifcjkaaaa.instReads
