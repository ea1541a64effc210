/-
  The law InstBack holds: the bytes of any instruction, or that it has none, are the document's, and they are read again; the law's function returns true and turns nothing that was there.
  Conditions: none.
-/
import Derived.Test.YtolofgifcjkaaaaOpn
import Derived.Test.YtolofgifcjkaaaaOin
import Derived.Test.YtolofgifcjkaaaaIan
import Derived.Test.YtolofgifcjkaaaaIun
import Derived.Test.YtolofgifcjkaaaaRin
import Derived.Test.YtolofgifcjkaaaaSme
import Derived.Deep.RegionWith
namespace Go.Proofs.Ytolofgifcjkaaaa.instBack
open Go.ChangeShapes Go.WideShapes Go.ChangeAt Go.RowKit
set_option linter.unusedVariables false
set_option linter.unusedSimpArgs false

theorem blk_at {b B : Nat} {w w' : World} {t : TypeId} {cs : Array Value} (h : Blk w b t cs) (hb : Below B w w') (hlt : b < B) : Blk w' b t cs := (hb.block b hlt).trans h
theorem below_drew {B q : Nat} {w w1 w2 : World} (h : Below B w w1) (k : Below (w1.drewN q).heap.size (w1.drewN q) w2) (hB : B ≤ w1.heap.size) : Below B w w2 :=
  ⟨k.os.trans h.os, k.tape.trans h.tape, k.output.trans h.output, Nat.le_trans h.size k.size, fun i hi => (k.block i (Nat.lt_of_lt_of_le hi hB)).trans (h.block i hi)⟩

set_option maxRecDepth 100000 in
set_option maxHeartbeats 4000000 in
theorem walk_good (o x y : Nat) (A : Option Addr) (m c L : Nat) (n : Int) (xs : List Nat) (w : World) (hx : xs.length = m) (hb : ∀ x ∈ xs, x < 256) (hB : Byt (· < w.heap.size) w A xs) (hcm : c ≤ maxLen) (hm : m ≤ 50) (hgd : goodI o x y = true) (hL : (insB o x y).length = L) (hn : argN o = n) :
    Calls Try.prog 3 #[.agg #[.int .i64 (o : Nat), .int .i64 (x : Nat), .int .i64 (y : Nat)], .slice A m c] w fun e w' => e = .returned (.bool true) ∧ Below w.heap.size w w' := by
  have hL5 : L ≤ 5 := by rw [← hL]; exact insB_len _ _ _
  have hL0 : 0 < L := by rw [← hL]; exact insB_pos hgd
  have HL := Lib.hid hL
  have HX := Lib.hid hx
  have HB := Lib.hid hB
  have Hb := Lib.hid hb
  have Hg := Lib.hid hgd
  have PT := Lib.hid (fun w => iput_any o x y w)
  have RT := Lib.hid (fun w => rins_any o x y w)
  have AR := Lib.hid (fun w => args_any o w)
  have RA := Lib.hid (fun w => refArgs_any o w)
  rw [hL] at PT RT
  rw [hn] at AR RA
  clear hx hB hb hL hgd hn
  go_enter Try.func3, Try.ntmps3
  go_wp2_with (first
    | (go_at_call 8
       refine (PT.out _).mono ?_
       rintro e w1 ⟨u1, rfl, hown1, hb1⟩
       obtain ⟨A1, c1, rfl, -, hc1, hc1m, hY1⟩ := own_slice hown1
       have HY1 := Lib.hid (hY1.wide (T := (· < w1.heap.size)) fun b hb => hb.2)
       have HW1 : Hid (Below w.heap.size w w1) := ((Below.refl _ w).alloc (Nat.le_refl _) _).trans (hb1.mono (by simp))
       have hk1 : Blk w1 w.heap.size 23 #[.int .i64 (o : Nat), .int .i64 (x : Nat), .int .i64 (y : Nat)] := (hb1.block w.heap.size (by simp)).trans (blk_new w 23 #[.int .i64 (o : Nat), .int .i64 (x : Nat), .int .i64 (y : Nat)])
       have HK1 := Lib.hid hk1
       have k10 := hk1.cell 0
       have k11 := hk1.cell 1
       have k12 := hk1.cell 2
       simp at k10 k11 k12
       have hs1 : w.heap.size < w1.heap.size := hk1.lt
       unfold maxLen at hc1m
       clear hown1 hb1 hY1 hk1))
  go_region_with (first
    | (go_at_call 10
       refine (RT.out _).mono ?_
       rintro e w2 ⟨u2, rfl, hown2, hb2⟩
       obtain ⟨A2, c2, rfl, -, -, -, hY2⟩ := own_slice hown2
       have HY2 := Lib.hid hY2
       have HB2 : Hid (Below w1.heap.size w1 w2) := ⟨hb2.os, hb2.tape, hb2.output, hb2.size, hb2.block⟩
       have hk2 := blk_at HK1.out HB2.out HK1.out.lt
       have HK2 := Lib.hid hk2
       have k20 := hk2.cell 0
       simp at k20
       clear hown2 hb2 hY2 hk2)
    | (go_at_call 9
       refine (same_yes A1 A2 L L c1 c2 (insB o x y) (insB o x y) w2 _ _ HL.out HL.out rfl (HY1.out.below HB2.out (Nat.le_refl _)) HY2.out (by omega)).mono ?_
       rintro e w3 ⟨rfl, q, rfl⟩)
    | (go_at_call 11
       refine (AR.out _).mono ?_
       rintro e w4 ⟨rfl, rfl⟩)
    | (go_at_call 12
       refine (RA.out _).mono ?_
       rintro e w5 ⟨rfl, hb5⟩
       have HB5 : Hid (Below w1.heap.size w1 w5) := ⟨hb5.os.trans HB2.out.os, hb5.tape.trans HB2.out.tape, hb5.output.trans HB2.out.output, Nat.le_trans HB2.out.size hb5.size, fun i hi => (hb5.block i (Nat.lt_of_lt_of_le hi HB2.out.size)).trans (HB2.out.block i hi)⟩
       have HK5 := Lib.hid (blk_at HK1.out HB5.out HK1.out.lt)
       clear hb5))
  all_goals
    go_wp2_with (first
      | (at_builtin
         refine walk_append _ rfl (.tmp 33) (.tmp 34) rfl w5.heap.size (.slice (some ⟨w5.heap.size, 0, none⟩) 0 0) 0 [] rfl (own_empty w5) A1 L c1 (insB o x y) rfl HL.out (· < w1.heap.size)
           ((HY1.out.below HB5.out (Nat.le_refl _)).keep fun b hb => Below.heap_alloc w5 _ b (by have := HB5.out.size; omega)) (by omega) (by simp) ?_
         intro v6 w6 hown6 hg6 _
         rw [Nat.zero_add, List.nil_append] at hown6
         have HO6 := Lib.hid hown6
         have HC6 : Hid (Below w5.heap.size w5 w6) := ((Below.refl _ w5).alloc (Nat.le_refl _) _).grown hg6 (by simp) (fun i hi => by simp [Value.ownBlock] at hi; omega)
         have hs6 := HC6.out.size
         clear hown6 hg6)
      | (at_builtin
         refine walk_append _ rfl (.tmp 35) (.tmp 36) rfl w5.heap.size v6 L (insB o x y) rfl HO6.out A m c xs rfl HX.out (· < w.heap.size) (((HB.out.below HW1.out (Nat.le_refl _)).below HB5.out (by omega)).below HC6.out (by have := HB5.out.size; omega)) (by omega) hs6 ?_
         intro v7 w7 hown7 hg7 _
         obtain ⟨A7, c7, rfl, -, hc7, hc7m, hY7⟩ := own_slice hown7
         have HY7 := Lib.hid (hY7.wide (T := (· < w7.heap.size)) fun b hb => hb.2)
         have HC7 : Hid (Below w5.heap.size w5 w7) := HC6.out.grown hg7 hs6 (fun i hi => (HO6.out.lt i hi).1)
         have hs7 := HC7.out.size
         clear hown7 hg7 hY7 hc7 hc7m)
      | (go_at_call 13
         refine (newReader_any A7 (L + m) c7 (insB o x y ++ xs) w7 (by rw [List.length_append, HL.out, HX.out]) HY7.out (by omega)).mono ?_
         rintro e w8 ⟨g, rfl, hG8, hg8, hb8⟩
         have HG8 := Lib.hid hG8
         have HC8 := Lib.hid (HC7.out.trans (hb8.mono hs7))
         have hg8' : w5.heap.size ≤ g := (by omega)
         clear hG8 hb8)
      | (go_at_call 14
         refine (iget_yes g o x y xs w8 Hg.out HG8.out Hb.out (by rw [HX.out]; omega)).mono ?_
         rintro e w9 ⟨rfl, hG9, ho9⟩
         have HG9 := Lib.hid hG9
         have HC9 : Hid (Below w5.heap.size w5 w9) := HC8.out.trans (below_only ho9 hg8' HC8.out.size)
         clear hG9 ho9
         unfold insV)
      | (go_at_call 7
         refine (answers5 _).mono ?_
         rintro e w10 ⟨rfl, hb10⟩
         have HC10 : Hid (Below w5.heap.size w5 w10) := (HC9.out.alloc HC9.out.size _).trans (hb10.mono (by simp; have := HC9.out.size; omega))
         have HG10 := Lib.hid ((HG9.out.alloc _).below hb10 (by simp; have := HG9.out.lt; omega))
         have hk10 := (hb10.block w9.heap.size (by simp)).trans (blk_new w9 23 #[.int .i64 (o : Nat), .int .i64 (x : Nat), .int .i64 (y : Nat)])
         have x100 := Blk.cell hk10 0
         have x101 := Blk.cell hk10 1
         have x102 := Blk.cell hk10 2
         have hi10 := blk_at HK5.out HC10.out HK5.out.lt
         have i100 := Blk.cell hi10 0
         have i101 := Blk.cell hi10 1
         have i102 := Blk.cell hi10 2
         simp at x100 x101 x102 i100 i101 i102
         clear hb10 hk10 hi10)
      | (go_at_call 15
         refine (left_good g xs w10 HG10.out).mono ?_
         rw [HX.out]
         rintro e w11 ⟨rfl, rfl⟩))
    go_ret
    exact ⟨rfl, (HW1.out.trans (HB5.out.mono (by omega))).trans (HC10.out.mono (by have := HB5.out.size; omega))⟩

set_option maxRecDepth 100000 in
set_option maxHeartbeats 4000000 in
theorem walk_none (op a b : Int) (A : Option Addr) (m c L : Nat) (n : Int) (w : World) (hcm : c ≤ maxLen) (hm : m ≤ 50) (hL : L = 0) (hgd : ¬ goodI op a b = true) (hn : argN op = n) :
    Calls Try.prog 3 #[.agg #[.int .i64 op, .int .i64 a, .int .i64 b], .slice A m c] w fun e w' => e = .returned (.bool true) ∧ Below w.heap.size w w' := by
  have PT := Lib.hid (fun w => iput_any op a b w)
  have RT := Lib.hid (fun w => rins_any op a b w)
  have AR := Lib.hid (fun w => args_any op w)
  have RA := Lib.hid (fun w => refArgs_any op w)
  have HL : Hid (([] : List Nat).length = 0) := rfl
  rw [insB_none hgd, List.length_nil] at PT RT
  rw [hn] at AR RA
  clear hgd hn
  subst hL
  go_enter Try.func3, Try.ntmps3
  go_wp2_with (first
    | (go_at_call 8
       refine (PT.out _).mono ?_
       rintro e w1 ⟨u1, rfl, hown1, hb1⟩
       obtain ⟨A1, c1, rfl, -, hc1, hc1m, hY1⟩ := own_slice hown1
       have HY1 := Lib.hid (hY1.wide (T := (· < w1.heap.size)) fun b hb => hb.2)
       have HW1 : Hid (Below w.heap.size w w1) := ((Below.refl _ w).alloc (Nat.le_refl _) _).trans (hb1.mono (by simp))
       have hk1 : Blk w1 w.heap.size 23 #[.int .i64 op, .int .i64 a, .int .i64 b] := (hb1.block w.heap.size (by simp)).trans (blk_new w 23 #[.int .i64 op, .int .i64 a, .int .i64 b])
       have HK1 := Lib.hid hk1
       have k10 := hk1.cell 0
       have k11 := hk1.cell 1
       have k12 := hk1.cell 2
       simp at k10 k11 k12
       have hs1 : w.heap.size < w1.heap.size := hk1.lt
       unfold maxLen at hc1m
       clear hown1 hb1 hY1 hk1))
  go_region_with (first
    | (go_at_call 10
       refine (RT.out _).mono ?_
       rintro e w2 ⟨u2, rfl, hown2, hb2⟩
       obtain ⟨A2, c2, rfl, -, -, -, hY2⟩ := own_slice hown2
       have HY2 := Lib.hid hY2
       have HB2 : Hid (Below w1.heap.size w1 w2) := ⟨hb2.os, hb2.tape, hb2.output, hb2.size, hb2.block⟩
       have hk2 := blk_at HK1.out HB2.out HK1.out.lt
       have HK2 := Lib.hid hk2
       have k20 := hk2.cell 0
       simp at k20
       clear hown2 hb2 hY2 hk2)
    | (go_at_call 9
       refine (same_yes A1 A2 0 0 c1 c2 (([] : List Nat)) (([] : List Nat)) w2 _ _ HL.out HL.out rfl (HY1.out.below HB2.out (Nat.le_refl _)) HY2.out (by omega)).mono ?_
       rintro e w3 ⟨rfl, q, rfl⟩)
    | (go_at_call 11
       refine (AR.out _).mono ?_
       rintro e w4 ⟨rfl, rfl⟩)
    | (go_at_call 12
       refine (RA.out _).mono ?_
       rintro e w5 ⟨rfl, hb5⟩
       have HB5 : Hid (Below w1.heap.size w1 w5) := ⟨hb5.os.trans HB2.out.os, hb5.tape.trans HB2.out.tape, hb5.output.trans HB2.out.output, Nat.le_trans HB2.out.size hb5.size, fun i hi => (hb5.block i (Nat.lt_of_lt_of_le hi HB2.out.size)).trans (HB2.out.block i hi)⟩
       have HK5 := Lib.hid (blk_at HK1.out HB5.out HK1.out.lt)
       clear hb5))
  all_goals
    go_wp2_with (first
      | (go_at_call 7
         refine (answers5 _).mono ?_
         rintro e w10 ⟨rfl, hb10⟩
         have HC10 := Lib.hid hb10
         clear hb10))
    go_ret
    exact ⟨rfl, (HW1.out.trans (HB5.out.mono (by omega))).trans (HC10.out.mono (by have := HB5.out.size; omega))⟩

theorem walk (op a b : Int) (A : Option Addr) (m c : Nat) (xs : List Nat) (w : World) (hx : xs.length = m) (hb : ∀ x ∈ xs, x < 256) (hB : Byt (· < w.heap.size) w A xs) (hcm : c ≤ maxLen) :
    Calls Try.prog 3 #[.agg #[.int .i64 op, .int .i64 a, .int .i64 b], .slice A m c] w fun e w' => e = .returned (.bool true) ∧ Below w.heap.size w w' := by
  by_cases hm : m ≤ 50
  · by_cases hg : goodI op a b = true
    · obtain ⟨o, x, y, rfl, rfl, rfl, -⟩ := goodI_parts hg
      exact walk_good o x y A m c _ _ xs w hx hb hB hcm hm hg rfl rfl
    · exact walk_none op a b A m c 0 _ w hcm hm rfl hg rfl
  · have hl := hx
    unfold maxLen at hcm
    go_enter Try.func3, Try.ntmps3
    go_wp2_with fail
    refine (answers5 _).mono ?_
    rintro e w3 ⟨rfl, hb3⟩
    have HB3 : Hid (Below w.heap.size w w3) := ((Below.refl _ w).alloc (Nat.le_refl _) _).trans (hb3.mono (by simp))
    clear hb3
    go_wp2_with fail
    go_ret
    exact ⟨rfl, HB3.out⟩

set_option maxRecDepth 100000 in
theorem lifted (os : Os) (started : os.Started) (H : Type) (enc : TypeId × Value → H) :
    ReturnsInHanded {} Try.checked os 3 .any (Rows.instBackSpec.pre6 enc Try.prog Try.f3 Rows.instBackRow.domain false) (Rows.instBackSpec.post enc Try.prog Try.f3 false true false false) := by
  refine returnsInHanded_of_change (C := Try.checked) own started (by kernel_rfl) Try.func3
    (ChangeSpec.witness6 (enc := enc) (C := Try.checked) false ⟨#[], #[.agg #[.int .i64 0, .int .i64 0, .int .i64 0], .slice none 0 0], []⟩ 8 (by kernel_rfl) (by kernel_rfl) (by kernel_rfl) (by kernel_rfl)) ?_
  intro W base args ds gs before hval0 hW hcnd _
  have hval : ∀ (j : Nat) t v, Try.f3.params[j]? = some t → args[j]? = some v → Value.okWide Try.prog W .any base t v := hval0
  have hW' := hW
  obtain ⟨p, q, hA0, hV, rfl, hfz, hnd⟩ := hW
  have hA : DataW.TrodAll enc Try.prog W 0 (fun _ => true) true Try.f3.params.toList args.toList ds p := hA0
  rw [Try.params3] at hA hval
  obtain ⟨v0, vs0, d0, ds0, p0, q0, hargs, rfl, rfl, h0, r0⟩ := trodAll_cons hA
  obtain ⟨v1, vs1, d1, ds1, p1, q1, rfl, rfl, rfl, h1, r1⟩ := trodAll_cons r0
  obtain ⟨rfl, rfl, rfl⟩ := trodAll_nil r1
  obtain rfl : args = #[v0, v1] := by cases args; simp_all
  obtain ⟨rfl, rfl⟩ := trodVars_none hV
  have lt0 : ∀ x ∈ p0, x.block < W.heap.size := by obtain ⟨m, hm⟩ := h0; exact DataW.trod_lt m _ _ _ hm
  obtain ⟨o0, x0, y0, rfl, wo0, wx0, wy0⟩ := open_ins (hval 0 23 v0 rfl rfl) h0
  obtain ⟨a1, len1, cap1, rfl⟩ := okWide_slice Try.underlying24 (hval 1 24 v1 rfl rfl)
  have lt1 : ∀ x ∈ p1, x.block < W.heap.size := by obtain ⟨m, hm⟩ := h1; exact DataW.trod_lt m _ _ _ hm
  obtain ⟨xs1, hx1, hb1, hB1, hlc1, hcm1⟩ := open_byt h1
  clear hA0 hval0
  refine (walk o0 x0 y0 a1 len1 cap1 xs1 W hx1 hb1 hB1 hcm1).mono fun e W' ⟨he, bel⟩ => ?_
  subst he
  exact ⟨_, rfl, _, _, _, [], _, [], hW', trodAll_mk1 (shut_bool Try.underlying4 _), (trodAll_cons_mk (Below.trod laidOut (by kernel_rfl) (of_decide_eq_true (by kernel_rfl)) h0 bel lt0) (trodAll_cons_mk (Below.trod laidOut (by kernel_rfl) (of_decide_eq_true (by kernel_rfl)) h1 bel lt1) trodAll_mk0)), rfl, bel.frame _, fun h => by cases h⟩

theorem over : Rows.instBackRow.holds Try.pinned (OpenSpec.ofChange Rows.instBackSpec) :=
  OpenClaim.holds_of_wide 3 Try.f3 rfl rfl rfl rfl rfl rfl rfl ⟨rfl, rfl, rfl, rfl, rfl⟩ rfl rfl rfl rfl rfl (by kernel_rfl) Try.func3 (by kernel_rfl)
    (of_decide_eq_true (by kernel_rfl)) (by unfold Func.isWrapper; first | (rw [if_pos (by decide +kernel)]; kernel_rfl) | (rw [if_neg (by decide +kernel)]; exact ⟨rfl, rfl⟩))
    (fun os started H enc _ => lifted os started H enc)

/-- The statement. -/
theorem proved : Rows.InstBackSaid := over
end Go.Proofs.Ytolofgifcjkaaaa.instBack
