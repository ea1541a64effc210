/-
  The law VerifyLoops holds: a loop that leaves the stack as it was is right, one that leaves something more, or less, is not; the law's function returns true and turns nothing that was there.
  Conditions: none.
-/
import Derived.Test.YtpjanfkliaaflaaR01
import Derived.Test.YtpjanfkliaaflaaR26
import Derived.Deep.RegionHeld3
import Derived.Deep.DeepCutAuto
namespace Go.Proofs.Ytpjanfkliaaflaa.verifyLoops
open Go.ChangeShapes Go.WideShapes Go.ChangeAt Go.RowKit
set_option linter.unusedVariables false
set_option linter.unusedSimpArgs false

set_option maxRecDepth 100000 in
set_option maxHeartbeats 8000000 in
theorem walk0 (t n : Int) (w : World) (ht : 0 ≤ t ∧ t ≤ 255) (hn : 0 ≤ n ∧ n ≤ 255) (ek : t % 3 = 0) :
    Calls Try.prog 3 #[.int .u8 t, .int .u8 n] w fun e w' => e = .returned (.bool true) ∧ Below w.heap.size w w' := by
  have AN := Lib.hid (fun w => answers9 w)
  obtain ⟨c, ec, hc⟩ : ∃ c : Nat, n % 4 = (c : Int) ∧ c < 4 := ⟨(n % 4).toNat, by omega, by omega⟩
  have HC := Lib.hid hc
  go_enter Try.func3, Try.ntmps3
  go_upto_region 4 with (fail)
  try simp only [ek]
  clear ek
  refine wp_world fun W0 hW0 => ?_
  have HN0 : Hid (Blk W0 w.heap.size 23 #[.int .i64 1, .int .i64 0]) := by show Blk _ _ _ _; rw [hW0]; repeat (first | (refine blk_at ?_; simp; done) | refine blk_keep ?_)
  have HBd0 : Hid (W0.ownsRow w.heap.size 25 3 (.slice (some ⟨w.heap.size + 1, 0, none⟩) 2 2) 2 (I3 [(0, 0, 0), (5, 0, 0)])) := by
    show World.ownsRow _ _ _ _ _ _ _
    rw [hW0]
    have := World.ownsRow_lit (base := w.heap.size) (e := 25) (size := 3) (w.alloc (.cells #[.int .i64 1, .int .i64 0] 23)) #[.int .i64 0, .int .i64 0, .int .i64 0, .int .i64 5, .int .i64 0, .int .i64 0] 2 (by simp) (by simp [maxLen]) rfl
    rw [World.size_alloc] at this
    exact this
  have HB0 : Hid (Below w.heap.size w W0) := by show Below _ _ _; rw [hW0]; exact (below_new w _).alloc (by simp) _
  have hs0 : w.heap.size + 2 ≤ W0.heap.size := by rw [hW0]; simp
  clear hW0
  go_upto_region 8 with (fail)
  refine wp_world fun W3 hW3 => ?_
  have HN3 : Hid (Blk W3 w.heap.size 23 #[.int .i64 1, .int .i64 0]) := by
    show Blk _ _ _ _
    rw [hW3]
    exact HN0.out
  have HB3 : Hid (Below w.heap.size w W3) := by
    show Below _ _ _
    rw [hW3]
    exact HB0.out
  have hs3 : w.heap.size + 2 ≤ W3.heap.size := by
    rw [hW3]
    exact hs0
  have HBy : Hid (W3.ownsRow w.heap.size 25 3 (.slice (some ⟨w.heap.size + 1, 0, none⟩) 2 2) 2 (I3 (loopBody 0))) := by show World.ownsRow _ _ _ _ _ _ _; rw [hW3]; exact HBd0.out
  have HBl : Hid ((loopBody 0).length = 2) := rfl
  have hby := HBy.out.lt _ rfl
  have HBc := Lib.hid (fun v (hb : Below W3.heap.size W3 v) => (row_keep HBy.out (hb.block _ hby.2)).cells rfl)
  clear hW3 hby HN0 HBd0 HB0 hs0
  have hcn : (c : Int) < 4 := by omega
  go_wp2_with fail
  go_loopw [8, 9] (fun v i wr => ∃ j : Nat, j ≤ c + 1 ∧ i = .int .i64 (j : Nat) ∧ Below W3.heap.size W3 wr ∧ wr.ownsRow W3.heap.size 25 3 v j (I3 (List.replicate j (0, 0, 0)))) (fun _ i _ => c + 1 - (intOf i).toNat)
  case atStart => exact ⟨0, Nat.zero_le _, rfl, below_new W3 _, own_ins_none W3⟩
  case round =>
    obtain ⟨j, hj, rfl, hbj, hown⟩ := hrel
    have HBj := Lib.hid hbj
    have HOj := Lib.hid hown
    have hsj := hbj.size
    clear hbj hown
    by_cases hlt : j < c + 1
    · have hlt' : (j : Int) < (c : Int) + 1 := by omega
      go_wp2_with (at_builtin
                   refine walk_append_inss _ rfl (.tmp 45) (.tmp 47) rfl W3.heap.size u8 j (List.replicate j (0, 0, 0)) rfl (HOj.out.alloc _) ⟨wr.heap.size, 0, none⟩ 1 1 [(0, 0, 0)] rfl rfl (cell_new wr 25 [.int .i64 0, .int .i64 0, .int .i64 0]) (by omega) (by simp; omega) ?_
                   intro v1 w1 hown1 hg1 _
                   have HO1 := Lib.hid hown1
                   have HG1 := Lib.hid hg1
                   clear hown1 hg1)
      refine ⟨⟨j + 1, by omega, by simp, HBj.out.trans (((below_new wr _).mono hsj).grown HG1.out (by simp; omega) fun i hi => (HOj.out.lt i hi).1), ?_⟩, by simp [intOf]; omega⟩
      rw [List.replicate_succ']
      exact HO1.out
    obtain rfl : j = c + 1 := by omega
    obtain ⟨gc, cc, rfl⟩ : ∃ gc cc, u8 = .slice (some ⟨gc, 0, none⟩) (c + 1) cc := by
      rcases HOj.out.2 with ⟨_, h0⟩ | ⟨gc, cc, cur, rfl, _⟩
      · omega
      · exact ⟨gc, cc, rfl⟩
    have hge : ¬ ((c + 1 : Nat) : Int) < (c : Int) + 1 := by omega
    go_upto_region 15 with (fail)
    obtain ⟨E, hE⟩ : ∃ E : Int, (c : Int) + 1 + 2 + 2 + 1 = E := ⟨_, rfl⟩
    rw [hE]
    have HE := Lib.hid hE
    clear hE
    go_upto_region 17 with (first
      | (at_builtin
         refine walk_append_inss _ rfl (.tmp 57) (.tmp 61) rfl W3.heap.size (.slice (some ⟨gc, 0, none⟩) (c + 1) cc) (c + 1) (List.replicate (c + 1) (0, 0, 0)) rfl (HOj.out.alloc _) ⟨wr.heap.size, 0, none⟩ 2 2 [(0, 0, 0), (24, E, 0)] rfl rfl (cell_new wr 25 [.int .i64 0, .int .i64 0, .int .i64 0, .int .i64 24, .int .i64 E, .int .i64 0]) (by omega) (by simp; omega) ?_
         intro v5 w5 hown5 hg5 _
         have HO5 := Lib.hid hown5
         have HB5 : Hid (Below W3.heap.size W3 w5) := HBj.out.trans (((below_new wr _).mono hsj).grown hg5 (by simp; omega) fun i hi => (HOj.out.lt i hi).1)
         have hs5 := HB5.out.size
         clear hown5 hg5)
      | (at_builtin
         refine walk_append_inss _ rfl (.tmp 63) (.tmp 64) rfl W3.heap.size v5 (c + 1 + 2) _ rfl HO5.out _ _ _ _ rfl HBl.out (HBc.out _ HB5.out) (by omega) hs5 ?_
         intro v6 w6 hown6 hg6 _
         have HO6 := Lib.hid hown6
         have HB6 : Hid (Below W3.heap.size W3 w6) := HB5.out.grown hg6 hs5 fun i hi => (HO5.out.lt i hi).1
         have hs6 := HB6.out.size
         clear hown6 hg6)
      | (at_builtin
         refine walk_append_inss _ rfl (.tmp 65) (.tmp 69) rfl W3.heap.size v6 _ _ rfl (HO6.out.alloc _) ⟨w6.heap.size, 0, none⟩ 2 2 [(23, (c : Int) + 1, 0), (26, 0, 0)] rfl rfl (cell_new w6 25 [.int .i64 23, .int .i64 ((c : Int) + 1), .int .i64 0, .int .i64 26, .int .i64 0, .int .i64 0]) (by omega) (by simp; omega) ?_
         intro v7 w7 hown7 hg7 _
         have HO7 := Lib.hid hown7
         have HB7 : Hid (Below W3.heap.size W3 w7) := HB6.out.trans (((below_new w6 _).mono hs6).grown hg7 (by simp; omega) fun i hi => (HO6.out.lt i hi).1)
         have hs7 := HB7.out.size
         clear hown7 hg7))
    have hlist : List.replicate (c + 1) (0, 0, 0) ++ [(0, 0, 0), (24, E, 0)] ++ loopBody 0 ++ [(23, (c : Int) + 1, 0), (26, 0, 0)] = loopCode c 0 := by
      rw [← HE.out]
      simp [loopCode, loopEnd, loopBody]
    obtain ⟨hck, hmn, -, h64⟩ := loop_all c HC.out 0 (by omega)
    have hk7 := HO7.out
    rw [hlist] at hk7
    obtain ⟨A7, c7, rfl, hcod⟩ := own_cod hk7 h64
    have HCod := Lib.hid hcod
    have HN7 := Lib.hid (blk_below HN3.out HB7.out (by omega))
    have n0 : ∀ ob, (w7.alloc ob).cell? ⟨w.heap.size, 0, none⟩ = some (.int .i64 1) := fun ob => (blk_keep (o := ob) HN7.out).cell 0
    have n1 : ∀ ob, (w7.alloc ob).cell? ⟨w.heap.size, 1, none⟩ = some (.int .i64 0) := fun ob => (blk_keep (o := ob) HN7.out).cell 1
    clear hlist h64 hk7 hcod
    go_wp2_with fail
    refine calls_world fun W9 hW9 => ?_
    have b1 : Blk W9 w7.heap.size 27 #[.int .u64 1] := by rw [hW9]; repeat (first | (refine blk_at ?_; simp; done) | refine blk_keep ?_)
    have b2 : Blk W9 (w7.heap.size + 1) 31 #[.slice none 0 0, .int .i64 1, .int .i64 0, .slice none 0 0, .slice A7 (c + 1 + 2 + 2 + 2) c7] := by rw [hW9]; repeat (first | (refine blk_at ?_; simp; done) | refine blk_keep ?_)
    have hb9 : Below w7.heap.size w7 W9 := by rw [hW9]; exact ((below_new w7 _).alloc (by simp) _).alloc (by simp <;> omega) _
    have i64 : ∀ k : Int, 0 ≤ k → k ≤ 1000 → I64 k := fun k h1 h2 => ⟨by omega, by omega⟩
    have hcod9 : codL.R (· < W9.heap.size) W9 [.slice A7 (c + 1 + 2 + 2 + 2) c7] (loopFn c 0).code := codL.wide (codL.keep HCod.out fun b h1 => hb9.block b h1) fun b h1 => Nat.lt_of_lt_of_le h1 hb9.size
    have HL : Hid (modL.R (· < W9.heap.size) W9 [.slice none 0 0, .slice (some ⟨w7.heap.size + 1, 0, none⟩) 1 1, .slice none 0 0, .slice (some ⟨w7.heap.size, 0, none⟩) 1 1, .slice none 0 0] (loopMod c 0)) :=
      ⟨_, _, _, _, _, rfl, nil_sl _ _ _, one_sl (L := fnL) (x := loopFn c 0) b2 b2.lt ⟨_, _, _, rfl, i64 1 (by decide) (by decide), i64 0 (by decide) (by decide), nil_sl _ _ _, nil_sl _ _ _, hcod9⟩, nil_sl _ _ _, one_sl (L := numL) (x := 1) b1 b1.lt ⟨rfl, by decide⟩, nil_sl _ _ _⟩
    have HB9 : Hid (Below w.heap.size w W9) := HB3.out.trans ((HB7.out.trans (hb9.mono hs7)).mono HB3.out.size)
    clear hW9 b1 b2 hb9 hcod9
    refine (vcheck_any _ (loopMod c 0) W9 HL.out).mono ?_
    intro e w10 hch
    obtain ⟨hb10, U, A, cm, rfl, hsl, -, -⟩ := checked_least hch hck hmn (loop_least HC.out)
    have HB10 := Lib.hid (HB9.out.trans (hb10.mono HB9.out.size))
    obtain ⟨A', c', e1, -, -, hsq⟩ := hsl
    simp only [List.cons.injEq, Value.slice.injEq, and_true, true_and] at e1
    obtain ⟨rfl, rfl⟩ := e1
    obtain ⟨s, hend, hsl2⟩ := loop_end HC.out
    obtain ⟨a, Dr, dr, rfl, har, hc0, hle, hcm, hsq2⟩ := row_at (hsq.turn (L' := rowL) rfl (fun _ _ h => h) fun cs x _ h => rowU_plain h) (k := 0) (l := loopShapes c) rfl
    obtain ⟨a2, G, g, rfl, har2, x0, x1, hx2, hx3, -, -⟩ := shp_at hsq2 hend
    have hen := (List.getElem?_eq_some_iff.1 hend).1
    simp only at x0 x1 hx2
    rw [hsl2] at x1 hx2
    rw [show a.add 0 = a by simp [Addr.add]] at hc0
    obtain ⟨en, hE2⟩ : ∃ en, loopEnd c 0 = en := ⟨_, rfl⟩
    rw [hE2] at x0 x1 hen
    have hEe : E = (en : Int) := by
      rw [← HE.out, ← hE2]
      simp [loopEnd, loopBody]
    subst hEe
    obtain ⟨ns, hns⟩ : ∃ ns, (loopShapes c).length = ns := ⟨_, rfl⟩
    rw [hns] at hc0 hen hle
    have hc1 := fun v (hb : Below w10.heap.size w10 v) => (hb.cell (p := a) har.2).trans hc0
    have hx0 := fun v (hb : Below w10.heap.size w10 v) => (hb.cell (p := a2.add (en * 2)) (by rw [addBlock]; exact har2.2)).trans x0
    have hx1 := fun v (hb : Below w10.heap.size w10 v) => (hb.cell (p := ⟨(a2.add (en * 2)).block, (a2.add (en * 2)).off + 1, none⟩) (by show (a2.add (en * 2)).block < _; rw [addBlock]; exact har2.2)).trans x1
    have HC1 := Lib.hid hc1
    have HX0 := Lib.hid hx0
    have HX1 := Lib.hid hx1
    have en0 : (0 : Int) ≤ (en : Int) := by omega
    have en1 : (en : Int) < (ns : Int) := by omega
    have hdr : dr ≤ 9223372036854775807 := by unfold maxLen at hcm; omega
    have hfin : (((c + 1 : Nat) : Int) == (c : Int) + 1) = true := by simp
    clear hch hb10 hsq hsq2 hend hc0 x0 x1 hc1 hx0 hx1 hns hE2 hcm
    simp only [List.length_cons, List.length_nil, Nat.zero_add]
    go_wp2_with (first
      | (go_at_call 7
         refine (AN.out _).mono ?_
         rintro e w11 ⟨rfl, hb11⟩
         have HB11 := Lib.hid (HB10.out.trans (hb11.mono HB10.out.size))
         have y0 := HC1.out w11 hb11
         have y1 := HX0.out w11 hb11
         have y2 := HX1.out w11 hb11
         clear hb11))
    go_ret
    exact ⟨by simp, HB11.out⟩
set_option maxRecDepth 100000 in
set_option maxHeartbeats 8000000 in
theorem walk1 (t n : Int) (w : World) (ht : 0 ≤ t ∧ t ≤ 255) (hn : 0 ≤ n ∧ n ≤ 255) (ek : t % 3 = 1) :
    Calls Try.prog 3 #[.int .u8 t, .int .u8 n] w fun e w' => e = .returned (.bool true) ∧ Below w.heap.size w w' := by
  have AN := Lib.hid (fun w => answers9 w)
  obtain ⟨c, ec, hc⟩ : ∃ c : Nat, n % 4 = (c : Int) ∧ c < 4 := ⟨(n % 4).toNat, by omega, by omega⟩
  have HC := Lib.hid hc
  go_enter Try.func3, Try.ntmps3
  go_upto_region 4 with (fail)
  try simp only [ek]
  clear ek
  refine wp_world fun W0 hW0 => ?_
  have HN0 : Hid (Blk W0 w.heap.size 23 #[.int .i64 1, .int .i64 0]) := by show Blk _ _ _ _; rw [hW0]; repeat (first | (refine blk_at ?_; simp; done) | refine blk_keep ?_)
  have HBd0 : Hid (W0.ownsRow w.heap.size 25 3 (.slice (some ⟨w.heap.size + 1, 0, none⟩) 2 2) 2 (I3 [(0, 0, 0), (5, 0, 0)])) := by
    show World.ownsRow _ _ _ _ _ _ _
    rw [hW0]
    have := World.ownsRow_lit (base := w.heap.size) (e := 25) (size := 3) (w.alloc (.cells #[.int .i64 1, .int .i64 0] 23)) #[.int .i64 0, .int .i64 0, .int .i64 0, .int .i64 5, .int .i64 0, .int .i64 0] 2 (by simp) (by simp [maxLen]) rfl
    rw [World.size_alloc] at this
    exact this
  have HB0 : Hid (Below w.heap.size w W0) := by show Below _ _ _; rw [hW0]; exact (below_new w _).alloc (by simp) _
  have hs0 : w.heap.size + 2 ≤ W0.heap.size := by rw [hW0]; simp
  clear hW0
  go_upto_region 8 with (first
      | (at_builtin
         refine walk_append_inss _ rfl (.tmp 26) (.tmp 28) rfl w.heap.size (.slice (some ⟨w.heap.size + 1, 0, none⟩) 2 2) 2 [(0, 0, 0), (5, 0, 0)] rfl (HBd0.out.alloc _) ⟨W0.heap.size, 0, none⟩ 1 1 [(0, 0, 0)] rfl rfl (cell_new W0 25 [.int .i64 0, .int .i64 0, .int .i64 0]) (by omega) (by simp; omega) ?_
         intro v1 w1 hown1 hg1 _
         have HO1 := Lib.hid hown1
         have HG1 := Lib.hid hg1
         clear hown1 hg1))
  obtain ⟨gb, cb, rfl⟩ : ∃ gb cb, v1 = .slice (some ⟨gb, 0, none⟩) 3 cb := by
    rcases HO1.out.2 with ⟨_, h0⟩ | ⟨gb, cb, cur, rfl, _⟩
    · omega
    · exact ⟨gb, cb, rfl⟩
  refine wp_world fun W3 hW3 => ?_
  have HN3 : Hid (Blk W3 w.heap.size 23 #[.int .i64 1, .int .i64 0]) := by
    show Blk _ _ _ _
    rw [hW3]
    exact (HG1.out.block w.heap.size (by simp; omega) (by intro e; simp [Value.ownBlock] at e)).trans ((Below.heap_alloc W0 _ _ (by omega)).trans HN0.out)
  have HB3 : Hid (Below w.heap.size w W3) := by
    show Below _ _ _
    rw [hW3]
    exact HB0.out.trans ((((below_new W0 _).mono (by omega)).grown HG1.out (by simp; omega) (fun i hi => by simp [Value.ownBlock] at hi; omega)))
  have hs3 : w.heap.size + 2 ≤ W3.heap.size := by
    rw [hW3]
    have := HG1.out.size; simp at this; omega
  have HBy : Hid (W3.ownsRow w.heap.size 25 3 (.slice (some ⟨gb, 0, none⟩) 3 cb) 3 (I3 (loopBody 1))) := by show World.ownsRow _ _ _ _ _ _ _; rw [hW3]; exact HO1.out
  have HBl : Hid ((loopBody 1).length = 3) := rfl
  have hby := HBy.out.lt _ rfl
  have HBc := Lib.hid (fun v (hb : Below W3.heap.size W3 v) => (row_keep HBy.out (hb.block _ hby.2)).cells rfl)
  clear hW3 hby HO1 HG1 HN0 HBd0 HB0 hs0
  have hcn : (c : Int) < 4 := by omega
  go_wp2_with fail
  go_loopw [8, 9] (fun v i wr => ∃ j : Nat, j ≤ c + 1 ∧ i = .int .i64 (j : Nat) ∧ Below W3.heap.size W3 wr ∧ wr.ownsRow W3.heap.size 25 3 v j (I3 (List.replicate j (0, 0, 0)))) (fun _ i _ => c + 1 - (intOf i).toNat)
  case atStart => exact ⟨0, Nat.zero_le _, rfl, below_new W3 _, own_ins_none W3⟩
  case round =>
    obtain ⟨j, hj, rfl, hbj, hown⟩ := hrel
    have HBj := Lib.hid hbj
    have HOj := Lib.hid hown
    have hsj := hbj.size
    clear hbj hown
    by_cases hlt : j < c + 1
    · have hlt' : (j : Int) < (c : Int) + 1 := by omega
      go_wp2_with (at_builtin
                   refine walk_append_inss _ rfl (.tmp 45) (.tmp 47) rfl W3.heap.size u8 j (List.replicate j (0, 0, 0)) rfl (HOj.out.alloc _) ⟨wr.heap.size, 0, none⟩ 1 1 [(0, 0, 0)] rfl rfl (cell_new wr 25 [.int .i64 0, .int .i64 0, .int .i64 0]) (by omega) (by simp; omega) ?_
                   intro v1 w1 hown1 hg1 _
                   have HO1 := Lib.hid hown1
                   have HG1 := Lib.hid hg1
                   clear hown1 hg1)
      refine ⟨⟨j + 1, by omega, by simp, HBj.out.trans (((below_new wr _).mono hsj).grown HG1.out (by simp; omega) fun i hi => (HOj.out.lt i hi).1), ?_⟩, by simp [intOf]; omega⟩
      rw [List.replicate_succ']
      exact HO1.out
    obtain rfl : j = c + 1 := by omega
    obtain ⟨gc, cc, rfl⟩ : ∃ gc cc, u8 = .slice (some ⟨gc, 0, none⟩) (c + 1) cc := by
      rcases HOj.out.2 with ⟨_, h0⟩ | ⟨gc, cc, cur, rfl, _⟩
      · omega
      · exact ⟨gc, cc, rfl⟩
    have hge : ¬ ((c + 1 : Nat) : Int) < (c : Int) + 1 := by omega
    go_upto_region 15 with (fail)
    obtain ⟨E, hE⟩ : ∃ E : Int, (c : Int) + 1 + 2 + 3 + 1 = E := ⟨_, rfl⟩
    rw [hE]
    have HE := Lib.hid hE
    clear hE
    go_upto_region 17 with (first
      | (at_builtin
         refine walk_append_inss _ rfl (.tmp 57) (.tmp 61) rfl W3.heap.size (.slice (some ⟨gc, 0, none⟩) (c + 1) cc) (c + 1) (List.replicate (c + 1) (0, 0, 0)) rfl (HOj.out.alloc _) ⟨wr.heap.size, 0, none⟩ 2 2 [(0, 0, 0), (24, E, 0)] rfl rfl (cell_new wr 25 [.int .i64 0, .int .i64 0, .int .i64 0, .int .i64 24, .int .i64 E, .int .i64 0]) (by omega) (by simp; omega) ?_
         intro v5 w5 hown5 hg5 _
         have HO5 := Lib.hid hown5
         have HB5 : Hid (Below W3.heap.size W3 w5) := HBj.out.trans (((below_new wr _).mono hsj).grown hg5 (by simp; omega) fun i hi => (HOj.out.lt i hi).1)
         have hs5 := HB5.out.size
         clear hown5 hg5)
      | (at_builtin
         refine walk_append_inss _ rfl (.tmp 63) (.tmp 64) rfl W3.heap.size v5 (c + 1 + 2) _ rfl HO5.out _ _ _ _ rfl HBl.out (HBc.out _ HB5.out) (by omega) hs5 ?_
         intro v6 w6 hown6 hg6 _
         have HO6 := Lib.hid hown6
         have HB6 : Hid (Below W3.heap.size W3 w6) := HB5.out.grown hg6 hs5 fun i hi => (HO5.out.lt i hi).1
         have hs6 := HB6.out.size
         clear hown6 hg6)
      | (at_builtin
         refine walk_append_inss _ rfl (.tmp 65) (.tmp 69) rfl W3.heap.size v6 _ _ rfl (HO6.out.alloc _) ⟨w6.heap.size, 0, none⟩ 2 2 [(23, (c : Int) + 1, 0), (26, 0, 0)] rfl rfl (cell_new w6 25 [.int .i64 23, .int .i64 ((c : Int) + 1), .int .i64 0, .int .i64 26, .int .i64 0, .int .i64 0]) (by omega) (by simp; omega) ?_
         intro v7 w7 hown7 hg7 _
         have HO7 := Lib.hid hown7
         have HB7 : Hid (Below W3.heap.size W3 w7) := HB6.out.trans (((below_new w6 _).mono hs6).grown hg7 (by simp; omega) fun i hi => (HO6.out.lt i hi).1)
         have hs7 := HB7.out.size
         clear hown7 hg7))
    have hlist : List.replicate (c + 1) (0, 0, 0) ++ [(0, 0, 0), (24, E, 0)] ++ loopBody 1 ++ [(23, (c : Int) + 1, 0), (26, 0, 0)] = loopCode c 1 := by
      rw [← HE.out]
      simp [loopCode, loopEnd, loopBody]
    obtain ⟨hck, hmn, -, h64⟩ := loop_all c HC.out 1 (by omega)
    have hk7 := HO7.out
    rw [hlist] at hk7
    obtain ⟨A7, c7, rfl, hcod⟩ := own_cod hk7 h64
    have HCod := Lib.hid hcod
    have HN7 := Lib.hid (blk_below HN3.out HB7.out (by omega))
    have n0 : ∀ ob, (w7.alloc ob).cell? ⟨w.heap.size, 0, none⟩ = some (.int .i64 1) := fun ob => (blk_keep (o := ob) HN7.out).cell 0
    have n1 : ∀ ob, (w7.alloc ob).cell? ⟨w.heap.size, 1, none⟩ = some (.int .i64 0) := fun ob => (blk_keep (o := ob) HN7.out).cell 1
    clear hlist h64 hk7 hcod
    go_wp2_with fail
    refine calls_world fun W9 hW9 => ?_
    have b1 : Blk W9 w7.heap.size 27 #[.int .u64 1] := by rw [hW9]; repeat (first | (refine blk_at ?_; simp; done) | refine blk_keep ?_)
    have b2 : Blk W9 (w7.heap.size + 1) 31 #[.slice none 0 0, .int .i64 1, .int .i64 0, .slice none 0 0, .slice A7 (c + 1 + 2 + 3 + 2) c7] := by rw [hW9]; repeat (first | (refine blk_at ?_; simp; done) | refine blk_keep ?_)
    have hb9 : Below w7.heap.size w7 W9 := by rw [hW9]; exact ((below_new w7 _).alloc (by simp) _).alloc (by simp <;> omega) _
    have i64 : ∀ k : Int, 0 ≤ k → k ≤ 1000 → I64 k := fun k h1 h2 => ⟨by omega, by omega⟩
    have hcod9 : codL.R (· < W9.heap.size) W9 [.slice A7 (c + 1 + 2 + 3 + 2) c7] (loopFn c 1).code := codL.wide (codL.keep HCod.out fun b h1 => hb9.block b h1) fun b h1 => Nat.lt_of_lt_of_le h1 hb9.size
    have HL : Hid (modL.R (· < W9.heap.size) W9 [.slice none 0 0, .slice (some ⟨w7.heap.size + 1, 0, none⟩) 1 1, .slice none 0 0, .slice (some ⟨w7.heap.size, 0, none⟩) 1 1, .slice none 0 0] (loopMod c 1)) :=
      ⟨_, _, _, _, _, rfl, nil_sl _ _ _, one_sl (L := fnL) (x := loopFn c 1) b2 b2.lt ⟨_, _, _, rfl, i64 1 (by decide) (by decide), i64 0 (by decide) (by decide), nil_sl _ _ _, nil_sl _ _ _, hcod9⟩, nil_sl _ _ _, one_sl (L := numL) (x := 1) b1 b1.lt ⟨rfl, by decide⟩, nil_sl _ _ _⟩
    have HB9 : Hid (Below w.heap.size w W9) := HB3.out.trans ((HB7.out.trans (hb9.mono hs7)).mono HB3.out.size)
    clear hW9 b1 b2 hb9 hcod9
    refine (vcheck_any _ (loopMod c 1) W9 HL.out).mono ?_
    intro e w10 hch
    obtain ⟨hb10, f, pc, fn, -, -, rfl⟩ := checked_never hch hck hmn (loop_never HC.out (by omega) (by omega))
    have HB10 := Lib.hid (HB9.out.trans (hb10.mono HB9.out.size))
    clear hch hb10
    go_wp2_with (first
      | (go_at_call 7
         refine (AN.out _).mono ?_
         rintro e w11 ⟨rfl, hb11⟩
         have HB11 := Lib.hid (HB10.out.trans (hb11.mono HB10.out.size))
         clear hb11))
    go_ret
    exact ⟨by simp, HB11.out⟩
set_option maxRecDepth 100000 in
set_option maxHeartbeats 8000000 in
theorem walk2 (t n : Int) (w : World) (ht : 0 ≤ t ∧ t ≤ 255) (hn : 0 ≤ n ∧ n ≤ 255) (ek : t % 3 = 2) :
    Calls Try.prog 3 #[.int .u8 t, .int .u8 n] w fun e w' => e = .returned (.bool true) ∧ Below w.heap.size w w' := by
  have AN := Lib.hid (fun w => answers9 w)
  obtain ⟨c, ec, hc⟩ : ∃ c : Nat, n % 4 = (c : Int) ∧ c < 4 := ⟨(n % 4).toNat, by omega, by omega⟩
  have HC := Lib.hid hc
  go_enter Try.func3, Try.ntmps3
  go_upto_region 4 with (fail)
  try simp only [ek]
  clear ek
  refine wp_world fun W0 hW0 => ?_
  have HN0 : Hid (Blk W0 w.heap.size 23 #[.int .i64 1, .int .i64 0]) := by show Blk _ _ _ _; rw [hW0]; repeat (first | (refine blk_at ?_; simp; done) | refine blk_keep ?_)
  have HBd0 : Hid (W0.ownsRow w.heap.size 25 3 (.slice (some ⟨w.heap.size + 1, 0, none⟩) 2 2) 2 (I3 [(0, 0, 0), (5, 0, 0)])) := by
    show World.ownsRow _ _ _ _ _ _ _
    rw [hW0]
    have := World.ownsRow_lit (base := w.heap.size) (e := 25) (size := 3) (w.alloc (.cells #[.int .i64 1, .int .i64 0] 23)) #[.int .i64 0, .int .i64 0, .int .i64 0, .int .i64 5, .int .i64 0, .int .i64 0] 2 (by simp) (by simp [maxLen]) rfl
    rw [World.size_alloc] at this
    exact this
  have HB0 : Hid (Below w.heap.size w W0) := by show Below _ _ _; rw [hW0]; exact (below_new w _).alloc (by simp) _
  have hs0 : w.heap.size + 2 ≤ W0.heap.size := by rw [hW0]; simp
  clear hW0
  go_upto_region 8 with (first
      | (at_builtin
         refine walk_append_inss _ rfl (.tmp 32) (.tmp 34) rfl w.heap.size (.slice (some ⟨w.heap.size + 1, 0, none⟩) 2 2) 2 [(0, 0, 0), (5, 0, 0)] rfl (HBd0.out.alloc _) ⟨W0.heap.size, 0, none⟩ 1 1 [(5, 0, 0)] rfl rfl (cell_new W0 25 [.int .i64 5, .int .i64 0, .int .i64 0]) (by omega) (by simp; omega) ?_
         intro v1 w1 hown1 hg1 _
         have HO1 := Lib.hid hown1
         have HG1 := Lib.hid hg1
         clear hown1 hg1))
  obtain ⟨gb, cb, rfl⟩ : ∃ gb cb, v1 = .slice (some ⟨gb, 0, none⟩) 3 cb := by
    rcases HO1.out.2 with ⟨_, h0⟩ | ⟨gb, cb, cur, rfl, _⟩
    · omega
    · exact ⟨gb, cb, rfl⟩
  refine wp_world fun W3 hW3 => ?_
  have HN3 : Hid (Blk W3 w.heap.size 23 #[.int .i64 1, .int .i64 0]) := by
    show Blk _ _ _ _
    rw [hW3]
    exact (HG1.out.block w.heap.size (by simp; omega) (by intro e; simp [Value.ownBlock] at e)).trans ((Below.heap_alloc W0 _ _ (by omega)).trans HN0.out)
  have HB3 : Hid (Below w.heap.size w W3) := by
    show Below _ _ _
    rw [hW3]
    exact HB0.out.trans ((((below_new W0 _).mono (by omega)).grown HG1.out (by simp; omega) (fun i hi => by simp [Value.ownBlock] at hi; omega)))
  have hs3 : w.heap.size + 2 ≤ W3.heap.size := by
    rw [hW3]
    have := HG1.out.size; simp at this; omega
  have HBy : Hid (W3.ownsRow w.heap.size 25 3 (.slice (some ⟨gb, 0, none⟩) 3 cb) 3 (I3 (loopBody 2))) := by show World.ownsRow _ _ _ _ _ _ _; rw [hW3]; exact HO1.out
  have HBl : Hid ((loopBody 2).length = 3) := rfl
  have hby := HBy.out.lt _ rfl
  have HBc := Lib.hid (fun v (hb : Below W3.heap.size W3 v) => (row_keep HBy.out (hb.block _ hby.2)).cells rfl)
  clear hW3 hby HO1 HG1 HN0 HBd0 HB0 hs0
  have hcn : (c : Int) < 4 := by omega
  go_wp2_with fail
  go_loopw [8, 9] (fun v i wr => ∃ j : Nat, j ≤ c + 1 ∧ i = .int .i64 (j : Nat) ∧ Below W3.heap.size W3 wr ∧ wr.ownsRow W3.heap.size 25 3 v j (I3 (List.replicate j (0, 0, 0)))) (fun _ i _ => c + 1 - (intOf i).toNat)
  case atStart => exact ⟨0, Nat.zero_le _, rfl, below_new W3 _, own_ins_none W3⟩
  case round =>
    obtain ⟨j, hj, rfl, hbj, hown⟩ := hrel
    have HBj := Lib.hid hbj
    have HOj := Lib.hid hown
    have hsj := hbj.size
    clear hbj hown
    by_cases hlt : j < c + 1
    · have hlt' : (j : Int) < (c : Int) + 1 := by omega
      go_wp2_with (at_builtin
                   refine walk_append_inss _ rfl (.tmp 45) (.tmp 47) rfl W3.heap.size u8 j (List.replicate j (0, 0, 0)) rfl (HOj.out.alloc _) ⟨wr.heap.size, 0, none⟩ 1 1 [(0, 0, 0)] rfl rfl (cell_new wr 25 [.int .i64 0, .int .i64 0, .int .i64 0]) (by omega) (by simp; omega) ?_
                   intro v1 w1 hown1 hg1 _
                   have HO1 := Lib.hid hown1
                   have HG1 := Lib.hid hg1
                   clear hown1 hg1)
      refine ⟨⟨j + 1, by omega, by simp, HBj.out.trans (((below_new wr _).mono hsj).grown HG1.out (by simp; omega) fun i hi => (HOj.out.lt i hi).1), ?_⟩, by simp [intOf]; omega⟩
      rw [List.replicate_succ']
      exact HO1.out
    obtain rfl : j = c + 1 := by omega
    obtain ⟨gc, cc, rfl⟩ : ∃ gc cc, u8 = .slice (some ⟨gc, 0, none⟩) (c + 1) cc := by
      rcases HOj.out.2 with ⟨_, h0⟩ | ⟨gc, cc, cur, rfl, _⟩
      · omega
      · exact ⟨gc, cc, rfl⟩
    have hge : ¬ ((c + 1 : Nat) : Int) < (c : Int) + 1 := by omega
    go_upto_region 15 with (fail)
    obtain ⟨E, hE⟩ : ∃ E : Int, (c : Int) + 1 + 2 + 3 + 1 = E := ⟨_, rfl⟩
    rw [hE]
    have HE := Lib.hid hE
    clear hE
    go_upto_region 17 with (first
      | (at_builtin
         refine walk_append_inss _ rfl (.tmp 57) (.tmp 61) rfl W3.heap.size (.slice (some ⟨gc, 0, none⟩) (c + 1) cc) (c + 1) (List.replicate (c + 1) (0, 0, 0)) rfl (HOj.out.alloc _) ⟨wr.heap.size, 0, none⟩ 2 2 [(0, 0, 0), (24, E, 0)] rfl rfl (cell_new wr 25 [.int .i64 0, .int .i64 0, .int .i64 0, .int .i64 24, .int .i64 E, .int .i64 0]) (by omega) (by simp; omega) ?_
         intro v5 w5 hown5 hg5 _
         have HO5 := Lib.hid hown5
         have HB5 : Hid (Below W3.heap.size W3 w5) := HBj.out.trans (((below_new wr _).mono hsj).grown hg5 (by simp; omega) fun i hi => (HOj.out.lt i hi).1)
         have hs5 := HB5.out.size
         clear hown5 hg5)
      | (at_builtin
         refine walk_append_inss _ rfl (.tmp 63) (.tmp 64) rfl W3.heap.size v5 (c + 1 + 2) _ rfl HO5.out _ _ _ _ rfl HBl.out (HBc.out _ HB5.out) (by omega) hs5 ?_
         intro v6 w6 hown6 hg6 _
         have HO6 := Lib.hid hown6
         have HB6 : Hid (Below W3.heap.size W3 w6) := HB5.out.grown hg6 hs5 fun i hi => (HO5.out.lt i hi).1
         have hs6 := HB6.out.size
         clear hown6 hg6)
      | (at_builtin
         refine walk_append_inss _ rfl (.tmp 65) (.tmp 69) rfl W3.heap.size v6 _ _ rfl (HO6.out.alloc _) ⟨w6.heap.size, 0, none⟩ 2 2 [(23, (c : Int) + 1, 0), (26, 0, 0)] rfl rfl (cell_new w6 25 [.int .i64 23, .int .i64 ((c : Int) + 1), .int .i64 0, .int .i64 26, .int .i64 0, .int .i64 0]) (by omega) (by simp; omega) ?_
         intro v7 w7 hown7 hg7 _
         have HO7 := Lib.hid hown7
         have HB7 : Hid (Below W3.heap.size W3 w7) := HB6.out.trans (((below_new w6 _).mono hs6).grown hg7 (by simp; omega) fun i hi => (HO6.out.lt i hi).1)
         have hs7 := HB7.out.size
         clear hown7 hg7))
    have hlist : List.replicate (c + 1) (0, 0, 0) ++ [(0, 0, 0), (24, E, 0)] ++ loopBody 2 ++ [(23, (c : Int) + 1, 0), (26, 0, 0)] = loopCode c 2 := by
      rw [← HE.out]
      simp [loopCode, loopEnd, loopBody]
    obtain ⟨hck, hmn, -, h64⟩ := loop_all c HC.out 2 (by omega)
    have hk7 := HO7.out
    rw [hlist] at hk7
    obtain ⟨A7, c7, rfl, hcod⟩ := own_cod hk7 h64
    have HCod := Lib.hid hcod
    have HN7 := Lib.hid (blk_below HN3.out HB7.out (by omega))
    have n0 : ∀ ob, (w7.alloc ob).cell? ⟨w.heap.size, 0, none⟩ = some (.int .i64 1) := fun ob => (blk_keep (o := ob) HN7.out).cell 0
    have n1 : ∀ ob, (w7.alloc ob).cell? ⟨w.heap.size, 1, none⟩ = some (.int .i64 0) := fun ob => (blk_keep (o := ob) HN7.out).cell 1
    clear hlist h64 hk7 hcod
    go_wp2_with fail
    refine calls_world fun W9 hW9 => ?_
    have b1 : Blk W9 w7.heap.size 27 #[.int .u64 1] := by rw [hW9]; repeat (first | (refine blk_at ?_; simp; done) | refine blk_keep ?_)
    have b2 : Blk W9 (w7.heap.size + 1) 31 #[.slice none 0 0, .int .i64 1, .int .i64 0, .slice none 0 0, .slice A7 (c + 1 + 2 + 3 + 2) c7] := by rw [hW9]; repeat (first | (refine blk_at ?_; simp; done) | refine blk_keep ?_)
    have hb9 : Below w7.heap.size w7 W9 := by rw [hW9]; exact ((below_new w7 _).alloc (by simp) _).alloc (by simp <;> omega) _
    have i64 : ∀ k : Int, 0 ≤ k → k ≤ 1000 → I64 k := fun k h1 h2 => ⟨by omega, by omega⟩
    have hcod9 : codL.R (· < W9.heap.size) W9 [.slice A7 (c + 1 + 2 + 3 + 2) c7] (loopFn c 2).code := codL.wide (codL.keep HCod.out fun b h1 => hb9.block b h1) fun b h1 => Nat.lt_of_lt_of_le h1 hb9.size
    have HL : Hid (modL.R (· < W9.heap.size) W9 [.slice none 0 0, .slice (some ⟨w7.heap.size + 1, 0, none⟩) 1 1, .slice none 0 0, .slice (some ⟨w7.heap.size, 0, none⟩) 1 1, .slice none 0 0] (loopMod c 2)) :=
      ⟨_, _, _, _, _, rfl, nil_sl _ _ _, one_sl (L := fnL) (x := loopFn c 2) b2 b2.lt ⟨_, _, _, rfl, i64 1 (by decide) (by decide), i64 0 (by decide) (by decide), nil_sl _ _ _, nil_sl _ _ _, hcod9⟩, nil_sl _ _ _, one_sl (L := numL) (x := 1) b1 b1.lt ⟨rfl, by decide⟩, nil_sl _ _ _⟩
    have HB9 : Hid (Below w.heap.size w W9) := HB3.out.trans ((HB7.out.trans (hb9.mono hs7)).mono HB3.out.size)
    clear hW9 b1 b2 hb9 hcod9
    refine (vcheck_any _ (loopMod c 2) W9 HL.out).mono ?_
    intro e w10 hch
    obtain ⟨hb10, f, pc, fn, -, -, rfl⟩ := checked_never hch hck hmn (loop_never HC.out (by omega) (by omega))
    have HB10 := Lib.hid (HB9.out.trans (hb10.mono HB9.out.size))
    clear hch hb10
    go_wp2_with (first
      | (go_at_call 7
         refine (AN.out _).mono ?_
         rintro e w11 ⟨rfl, hb11⟩
         have HB11 := Lib.hid (HB10.out.trans (hb11.mono HB10.out.size))
         clear hb11))
    go_ret
    exact ⟨by simp, HB11.out⟩
theorem walk (t n : Int) (w : World) (ht : 0 ≤ t ∧ t ≤ 255) (hn : 0 ≤ n ∧ n ≤ 255) :
    Calls Try.prog 3 #[.int .u8 t, .int .u8 n] w fun e w' => e = .returned (.bool true) ∧ Below w.heap.size w w' := by
  have : t % 3 = 0 ∨ t % 3 = 1 ∨ t % 3 = 2 := by omega
  rcases this with h | h | h
  · exact walk0 t n w ht hn h
  · exact walk1 t n w ht hn h
  · exact walk2 t n w ht hn h

set_option maxRecDepth 100000 in
theorem lifted (os : Os) (started : os.Started) (H : Type) (enc : TypeId × Value → H) :
    ReturnsInHanded {} Try.checked os 3 .any (Rows.verifyLoopsSpec.pre6 enc Try.prog Try.f3 Rows.verifyLoopsRow.domain false) (Rows.verifyLoopsSpec.post enc Try.prog Try.f3 false true false false) := by
  refine returnsInHanded_of_change (C := Try.checked) own started (by kernel_rfl) Try.func3
    (ChangeSpec.witness6 (enc := enc) (C := Try.checked) false ⟨#[], #[.int .u8 0, .int .u8 0], []⟩ 8 (by kernel_rfl) (by kernel_rfl) (by kernel_rfl) (by kernel_rfl)) ?_
  intro W base args ds gs before hval0 hW hcnd _
  have hval : ∀ (j : Nat) t v, Try.f3.params[j]? = some t → args[j]? = some v → Value.okWide Try.prog W .any base t v := hval0
  have hW' := hW
  obtain ⟨p, q, hA0, hV, rfl, hfz, hnd⟩ := hW
  have hA : DataW.TrodAll enc Try.prog W 0 (fun _ => true) true Try.f3.params.toList args.toList ds p := hA0
  rw [Try.params3] at hA hval
  obtain ⟨v0, vs0, d0, ds0, p0, q0, hargs, rfl, rfl, h0, r0⟩ := trodAll_cons hA
  obtain ⟨v1, vs1, d1, ds1, p1, q1, rfl, rfl, rfl, h1, r1⟩ := trodAll_cons r0
  obtain ⟨rfl, rfl, rfl⟩ := trodAll_nil r1
  obtain rfl : args = #[v0, v1] := by cases args; simp_all
  obtain ⟨rfl, rfl⟩ := trodVars_none hV
  obtain ⟨a0, rfl, rfl, rfl, w0⟩ := open_int Try.underlying5 (hval 0 5 v0 rfl rfl) h0
  obtain ⟨a1, rfl, rfl, rfl, w1⟩ := open_int Try.underlying5 (hval 1 5 v1 rfl rfl) h1
  clear hA0 hval0
  simp only [List.append_nil] at hW'
  refine (walk a0 a1 W (bounds_u8 w0) (bounds_u8 w1)).mono fun e W' ⟨he, bel⟩ => ?_
  subst he
  exact ⟨_, rfl, _, _, _, [], _, [], hW', trodAll_mk1 (shut_bool Try.underlying4 _), (trodAll_cons_mk (shut_int Try.underlying5 w0) (trodAll_cons_mk (shut_int Try.underlying5 w1) trodAll_mk0)), rfl, bel.frame _, fun h => by cases h⟩

theorem over : Rows.verifyLoopsRow.holds Try.pinned (OpenSpec.ofChange Rows.verifyLoopsSpec) :=
  OpenClaim.holds_of_wide 3 Try.f3 rfl rfl rfl rfl rfl rfl rfl ⟨rfl, rfl, rfl, rfl, rfl⟩ rfl rfl rfl rfl rfl (by kernel_rfl) Try.func3 (by kernel_rfl)
    (of_decide_eq_true (by kernel_rfl)) (by unfold Func.isWrapper; first | (rw [if_pos (by decide +kernel)]; kernel_rfl) | (rw [if_neg (by decide +kernel)]; exact ⟨rfl, rfl⟩))
    (fun os started H enc _ => lifted os started H enc)

/-- The statement. -/
theorem proved : Rows.VerifyLoopsSaid := over
end Go.Proofs.Ytpjanfkliaaflaa.verifyLoops
