/-
  What module's reader does with one type, one number, one text. Conditions: as each theorem says.
  What module's reader does with one number and one text. Conditions: as each theorem says.
  Lists that are read one by one: what appending one to a list of the call's own does, and what is known in between. Conditions: as each theorem says.
  What module's listOf does over elements of one kind (chrysalis/api.Type): as many as are asked for, each read by the reader. Conditions: as the theorem says.
  What module's listOf does over elements of one kind (chrysalis/api.Instr): as many as are asked for, each read by the reader. Conditions: as the theorem says.
-/
import Derived.Test.YtngjnkkdhjholaaGreatQ11
import Derived.Laws.Strings
import Derived.Shelf.Bytes.SlEqualAll
import Derived.Maps.AppendAt
namespace Go.Proofs.YtngjnkkdhjholaaGreat
open Go.RowKit
set_option linter.unusedSimpArgs false
set_option linter.unusedVariables false

/-- Two cells of one block. -/
def C2 (b i j : Nat) (u v : Value) (w : World) : Prop := w.cell? ⟨b, i, none⟩ = some u ∧ w.cell? ⟨b, j, none⟩ = some v
theorem C2.below {b i j B : Nat} {u v : Value} {w w' : World} (h : C2 b i j u v w) (hb : Below B w w') (hB : b < B) : C2 b i j u v w' := ⟨(hb.cell (p := ⟨b, i, none⟩) hB).trans h.1, (hb.cell (p := ⟨b, j, none⟩) hB).trans h.2⟩

set_option maxRecDepth 100000 in
set_option maxHeartbeats 2000000 in
theorem oneType_any (rb g : Nat) (v0 v1 v2 v3 v4 : Value) (r : Int) (hr8 : r ≤ 8) (s : Option (List Nat)) (w : World) (h : Mrd w rb g v0 v1 v2 v3 v4 r) (hs : St w g s) :
    Calls Tryz.prog 104 #[.pointer (some ⟨rb, 0, none⟩)] w (Reads typL vAgg tB (fun t => goodT r t = true) g s w) := by
  have HM := Lib.hid h
  have HS := Lib.hid hs
  have hg := hs.lt
  have hrb := h.2.lt
  have hgw : w.heap.size ≠ g := by omega
  have hrw : rb ≠ w.heap.size := by omega
  by_cases hyes : ∃ xs, s = some xs ∧ Has tB (fun t => goodT r t = true) xs
  · obtain ⟨xs, rfl, t, rest, hgt, rfl⟩ := hyes
    have HC : Hid (∀ w1, Below w.heap.size w w1 → Calls Tryz.prog 109 #[.pointer (some ⟨g, 0, none⟩), .int .i64 r] w1 fun e w' => e = .returned (.tuple #[.agg #[.int .i64 t.1, .int .i64 t.2], .bool true]) ∧ St w' g (some rest) ∧ Only g w1 w') := fun w1 hb => kget_yes g t rest r hr8 w1 (HS.out.below hb) hgt
    have HI : Hid (I64 t.1 ∧ I64 t.2) := by
      obtain ⟨a, b, rfl, h1, h2⟩ := goodT_nat hr8 hgt
      show I64 _ ∧ I64 _
      refine ⟨⟨?_, ?_⟩, ⟨?_, ?_⟩⟩ <;> simp <;> omega
    have HGT := Lib.hid hgt
    obtain ⟨t1, t2⟩ := t
    simp only at HC HI
    clear h hs hgt
    go_enter Tryz.func104, Tryz.ntmps104
    go_wp2_with fail
    refine wp_world fun W hW => ?_
    have HB0 : Hid (Below w.heap.size w W) := by
      show Below w.heap.size w W
      rw [hW]
      exact (Below.refl _ _).alloc (Nat.le_refl _) _
    have HR0 : Hid (Blk W w.heap.size 49 #[.int .i64 0, .int .i64 0]) := by show Blk W _ _ _; rw [hW]; exact heap_alloc_new w _
    have HO0 : Hid (Only g w W) := by show Only g w W; rw [hW]; exact only_alloc _
    clear hW
    have HK0 : Hid (C2 rb 0 6 (.pointer (some ⟨g, 0, none⟩)) (.int .i64 r) W) := ⟨(HM.out.below HB0.out).ptr, (HM.out.below HB0.out).recs⟩
    obtain ⟨z0, z6⟩ := HK0.out
    have hWs := HR0.out.lt
    have hrW : rb < W.heap.size := by omega
    have hgW : W.heap.size ≠ g := by omega
    go_region_held3 (fun w' => w'.cell? ⟨rb, 0, none⟩ = some (.pointer (some ⟨g, 0, none⟩)) ∧ w'.cell? ⟨rb, 6, none⟩ = some (.int .i64 r))
      (first | exact HK0.out | exact HK0.out.below (((Below.refl W.heap.size W).alloc (Nat.le_refl _) _).drew) hrW | exact HK1.out | (have hz := HK1.out; clear hz; first | exact HK1.out.below ((Below.refl W.heap.size w1).alloc HW1.out _) hrW | exact HK1.out.below (((Below.refl W.heap.size w1).setCell (Nat.le_refl _) _).setCell (Nat.le_refl _) _) hrW | exact HK1.out.below ((Below.refl W.heap.size w1).setCell (Nat.le_refl _) _) hrW))
      (first
      | (go_at_call 109
         (with_reducible refine (HC.out W.drew HB0.out.drew).mono ?_)
         rintro e w1 ⟨rfl, hs1, ho1⟩
         have HS1 := Lib.hid hs1
         have hr1 := only_blk (w := W.drew) ho1 HR0.out hgw
         have HO1 := Lib.hid (only_trans (only_trans' HO0.out ((Below.refl _ W).drew)) ho1)
         have HK1 : Hid (C2 rb 0 6 (.pointer (some ⟨g, 0, none⟩)) (.int .i64 r) w1) := ⟨(HM.out.only HO1.out).ptr, (HM.out.only HO1.out).recs⟩
         have r0 := Blk.cell hr1 0
         have r1 := Blk.cell hr1 1
         have f0 := Blk.frozen hr1 0
         have f1 := Blk.frozen hr1 1
         have rlt := hr1.lt
         have HW1 : Hid (W.heap.size ≤ w1.heap.size) := ho1.size
         simp at r0 r1
         clear hs1 ho1 hr1)
      | (go_at_call 109
         refine (HC.out _ (HB0.out.alloc HB0.out.size _).drew).mono ?_
         rintro e w1 ⟨rfl, hs1, ho1⟩
         have HS1 := Lib.hid hs1
         have hr1 := only_blk (w := (W.alloc (.cells #[.int .i64 0, .int .i64 0] 49)).drew) ho1 ((Below.heap_alloc _ _ _ HR0.out.lt).trans HR0.out) hgw
         have hx1 := only_blk (w := (W.alloc (.cells #[.int .i64 0, .int .i64 0] 49)).drew) ho1 (heap_alloc_new W (.cells #[.int .i64 0, .int .i64 0] 49)) hgW
         have HO1 := Lib.hid (only_trans (only_trans' HO0.out (((Below.refl _ W).alloc HB0.out.size _).drew)) ho1)
         have HK1 : Hid (C2 rb 0 6 (.pointer (some ⟨g, 0, none⟩)) (.int .i64 r) w1) := ⟨(HM.out.only HO1.out).ptr, (HM.out.only HO1.out).recs⟩
         have r0 := Blk.cell hr1 0
         have r1 := Blk.cell hr1 1
         have f0 := Blk.frozen hr1 0
         have f1 := Blk.frozen hr1 1
         have x0 := Blk.cell hx1 0
         have x1 := Blk.cell hx1 1
         have y0 := Blk.frozen hx1 0
         have y1 := Blk.frozen hx1 1
         have rlt := hr1.lt
         have HW1 : Hid (W.heap.size ≤ w1.heap.size) := (Nat.le_of_lt hx1.lt)
         simp at r0 r1 x0 x1
         clear hs1 ho1 hr1 hx1))
    all_goals go_wp2_with fail
    · have hF : Below w.heap.size w1 (((w1.setCell ⟨w.heap.size, 0, none⟩ (.int .i64 t1)).setCell ⟨w.heap.size, 1, none⟩ (.int .i64 t2)).alloc (.cells #[.int .i64 t1, .int .i64 t2] 49)) :=
        (((Below.refl _ _).setCell (p := ⟨w.heap.size, 0, none⟩) (Nat.le_refl _) _).setCell (p := ⟨w.heap.size, 1, none⟩) (Nat.le_refl _) _).alloc (by simp; omega) _
      refine bodyPost_ret (v := .agg #[.int .i64 t1, .int .i64 t2]) (by simp [results, Tryz.results104, go_sem, r0, r1, rlt, Nat.ne_of_lt rlt]) rfl ?_
      exact ⟨only_trans' HO1.out hF, _, (t1, t2), rfl, ⟨rfl, HI.out⟩, .inl ⟨HGT.out, _, rest, rfl, rfl, HS1.out.low hF hg⟩⟩
    · have hF : Below w.heap.size w1 ((((w1.setCell ⟨W.heap.size, 0, none⟩ (.int .i64 t1)).setCell ⟨W.heap.size, 1, none⟩ (.int .i64 t2)).setCell ⟨w.heap.size, 0, none⟩ (.int .i64 t1)).setCell ⟨w.heap.size, 1, none⟩ (.int .i64 t2)) :=
        ((((Below.refl _ _).setCell (p := ⟨W.heap.size, 0, none⟩) HB0.out.size _).setCell (p := ⟨W.heap.size, 1, none⟩) HB0.out.size _).setCell (p := ⟨w.heap.size, 0, none⟩) (Nat.le_refl _) _).setCell (p := ⟨w.heap.size, 1, none⟩) (Nat.le_refl _) _
      refine bodyPost_ret (v := .agg #[.int .i64 t1, .int .i64 t2]) (by simp [results, Tryz.results104, go_sem, r0, r1, rlt, hWs, Nat.ne_of_lt hWs]) rfl ?_
      exact ⟨only_trans' HO1.out hF, _, (t1, t2), rfl, ⟨rfl, HI.out⟩, .inl ⟨HGT.out, _, rest, rfl, rfl, HS1.out.low hF hg⟩⟩
  · have HNO : Hid (∀ xs, s = some xs → ¬ Has tB (fun t => goodT r t = true) xs) := fun xs e hh => hyes ⟨xs, e, hh⟩
    have HC : Hid (∀ w1, Below w.heap.size w w1 → Calls Tryz.prog 109 #[.pointer (some ⟨g, 0, none⟩), .int .i64 r] w1 fun e w' => e = .returned (.tuple #[.agg #[.int .i64 0, .int .i64 0], .bool false]) ∧ Rdy w' g ∧ Only g w1 w') := fun w1 hb => kget_not g r hr8 s w1 (HS.out.below hb) HNO.out
    have HR : Hid (∀ w1, Only g w w1 → Rdy w1 g → Calls Tryz.prog 102 #[.pointer (some ⟨rb, 0, none⟩)] w1 fun e w' => e = .returned (.tuple #[]) ∧ Bad w' g ∧ Only g w1 w') := fun w1 ho hr => refuse_any rb g v0 v1 v2 v3 v4 r w1 (HM.out.only ho) hr
    clear h hs hyes
    go_enter Tryz.func104, Tryz.ntmps104
    go_wp2_with fail
    refine wp_world fun W hW => ?_
    have HB0 : Hid (Below w.heap.size w W) := by
      show Below w.heap.size w W
      rw [hW]
      exact (Below.refl _ _).alloc (Nat.le_refl _) _
    have HR0 : Hid (Blk W w.heap.size 49 #[.int .i64 0, .int .i64 0]) := by show Blk W _ _ _; rw [hW]; exact heap_alloc_new w _
    have HO0 : Hid (Only g w W) := by show Only g w W; rw [hW]; exact only_alloc _
    clear hW
    have HK0 : Hid (C2 rb 0 6 (.pointer (some ⟨g, 0, none⟩)) (.int .i64 r) W) := ⟨(HM.out.below HB0.out).ptr, (HM.out.below HB0.out).recs⟩
    obtain ⟨z0, z6⟩ := HK0.out
    have hWs := HR0.out.lt
    have hrW : rb < W.heap.size := by omega
    have hgW : W.heap.size ≠ g := by omega
    go_region_held3 (fun w' => w'.cell? ⟨rb, 0, none⟩ = some (.pointer (some ⟨g, 0, none⟩)) ∧ w'.cell? ⟨rb, 6, none⟩ = some (.int .i64 r))
      (first | exact HK0.out | exact HK0.out.below (((Below.refl W.heap.size W).alloc (Nat.le_refl _) _).drew) hrW | exact HK1.out | (have hz := HK1.out; clear hz; first | exact HK1.out.below ((Below.refl W.heap.size w1).alloc HW1.out _) hrW | exact HK1.out.below (((Below.refl W.heap.size w1).setCell (Nat.le_refl _) _).setCell (Nat.le_refl _) _) hrW | exact HK1.out.below ((Below.refl W.heap.size w1).setCell (Nat.le_refl _) _) hrW))
      (first
      | (go_at_call 109
         (with_reducible refine (HC.out W.drew HB0.out.drew).mono ?_)
         rintro e w1 ⟨rfl, hs1, ho1⟩
         have HS1 := Lib.hid hs1
         have hr1 := only_blk (w := W.drew) ho1 HR0.out hgw
         have HO1 := Lib.hid (only_trans (only_trans' HO0.out ((Below.refl _ W).drew)) ho1)
         have HK1 : Hid (C2 rb 0 6 (.pointer (some ⟨g, 0, none⟩)) (.int .i64 r) w1) := ⟨(HM.out.only HO1.out).ptr, (HM.out.only HO1.out).recs⟩
         have r0 := Blk.cell hr1 0
         have r1 := Blk.cell hr1 1
         have f0 := Blk.frozen hr1 0
         have f1 := Blk.frozen hr1 1
         have rlt := hr1.lt
         have HW1 : Hid (W.heap.size ≤ w1.heap.size) := ho1.size
         simp at r0 r1
         have HX1 := Lib.hid hr1
         clear hs1 ho1 hr1)
      | (go_at_call 109
         refine (HC.out _ (HB0.out.alloc HB0.out.size _).drew).mono ?_
         rintro e w1 ⟨rfl, hs1, ho1⟩
         have HS1 := Lib.hid hs1
         have hr1 := only_blk (w := (W.alloc (.cells #[.int .i64 0, .int .i64 0] 49)).drew) ho1 ((Below.heap_alloc _ _ _ HR0.out.lt).trans HR0.out) hgw
         have hx1 := only_blk (w := (W.alloc (.cells #[.int .i64 0, .int .i64 0] 49)).drew) ho1 (heap_alloc_new W (.cells #[.int .i64 0, .int .i64 0] 49)) hgW
         have HO1 := Lib.hid (only_trans (only_trans' HO0.out (((Below.refl _ W).alloc HB0.out.size _).drew)) ho1)
         have HK1 : Hid (C2 rb 0 6 (.pointer (some ⟨g, 0, none⟩)) (.int .i64 r) w1) := ⟨(HM.out.only HO1.out).ptr, (HM.out.only HO1.out).recs⟩
         have r0 := Blk.cell hr1 0
         have r1 := Blk.cell hr1 1
         have f0 := Blk.frozen hr1 0
         have f1 := Blk.frozen hr1 1
         have x0 := Blk.cell hx1 0
         have x1 := Blk.cell hx1 1
         have y0 := Blk.frozen hx1 0
         have y1 := Blk.frozen hx1 1
         have rlt := hr1.lt
         have HW1 : Hid (W.heap.size ≤ w1.heap.size) := (Nat.le_of_lt hx1.lt)
         simp at r0 r1 x0 x1
         have HX1 := Lib.hid hr1
         have HY1 := Lib.hid hx1
         clear hs1 ho1 hr1 hx1))
    · have hg1 : w1.heap.size ≠ g := by have := HW1.out; omega
      have hgz : g < w1.heap.size := by have := HW1.out; omega
      go_wp2_with (first
        | (go_at_call 102
           refine (HR.out _ (only_trans HO1.out (only_alloc _)) (HS1.out.low ((Below.refl _ _).alloc (Nat.le_refl _) _) hgz)).mono ?_
           rintro e w2 ⟨rfl, hb2, ho2⟩
           have HB2 := Lib.hid hb2
           have hr2 := only_blk ho2 ((Below.heap_alloc _ _ _ HX1.out.lt).trans HX1.out) hgw
           have hx2 := only_blk ho2 (heap_alloc_new w1 (.cells #[.int .i64 0, .int .i64 0] 49)) hg1
           have HO2 := Lib.hid (only_trans (only_trans HO1.out (only_alloc _)) ho2)
           have q0 := Blk.cell hr2 0
           have q1 := Blk.cell hr2 1
           have p0 := Blk.frozen hr2 0
           have p1 := Blk.frozen hr2 1
           have k0 := Blk.cell hx2 0
           have k1 := Blk.cell hx2 1
           simp at q0 q1 k0 k1
           clear hb2 ho2 hr2 hx2))
      have hF : Below w.heap.size w2 ((w2.setCell ⟨w.heap.size, 0, none⟩ (.int .i64 0)).setCell ⟨w.heap.size, 1, none⟩ (.int .i64 0)) :=
        ((Below.refl _ _).setCell (p := ⟨w.heap.size, 0, none⟩) (Nat.le_refl _) _).setCell (p := ⟨w.heap.size, 1, none⟩) (Nat.le_refl _) _
      refine bodyPost_ret (v := .agg #[.int .i64 0, .int .i64 0]) (by simp [results, Tryz.results104, go_sem, q0, q1]) rfl ?_
      exact ⟨only_trans' HO2.out hF, _, (0, 0), rfl, ⟨rfl, I64_zero, I64_zero⟩, .inr ⟨HB2.out.below hF hg, HNO.out⟩⟩
    · have hgz : g < W.heap.size := by omega
      have hF1 : Below W.heap.size w1 ((w1.setCell ⟨W.heap.size, 0, none⟩ (.int .i64 0)).setCell ⟨W.heap.size, 1, none⟩ (.int .i64 0)) := ((Below.refl _ _).setCell (p := ⟨W.heap.size, 0, none⟩) (Nat.le_refl _) _).setCell (p := ⟨W.heap.size, 1, none⟩) (Nat.le_refl _) _
      have HF1 := Lib.hid hF1
      clear hF1
      go_wp2_with (first
        | (go_at_call 102
           refine (HR.out _ (only_trans' HO1.out (HF1.out.mono HB0.out.size)) (HS1.out.low HF1.out hgz)).mono ?_
           rintro e w2 ⟨rfl, hb2, ho2⟩
           have HB2 := Lib.hid hb2
           have hr2 := only_blk ho2 (set_blk (set_blk HX1.out _ (Nat.ne_of_lt hWs)) _ (Nat.ne_of_lt hWs)) hgw
           have hx2 := only_blk ho2 ((HY1.out.set 0 (.int .i64 0)).set 1 (.int .i64 0)) hgW
           have HO2 := Lib.hid (only_trans (only_trans' HO1.out (HF1.out.mono HB0.out.size)) ho2)
           have q0 := Blk.cell hr2 0
           have q1 := Blk.cell hr2 1
           have p0 := Blk.frozen hr2 0
           have p1 := Blk.frozen hr2 1
           have k0 := Blk.cell hx2 0
           have k1 := Blk.cell hx2 1
           simp at q0 q1 k0 k1
           clear hb2 ho2 hr2 hx2))
      have hF : Below w.heap.size w2 ((w2.setCell ⟨w.heap.size, 0, none⟩ (.int .i64 0)).setCell ⟨w.heap.size, 1, none⟩ (.int .i64 0)) :=
        ((Below.refl _ _).setCell (p := ⟨w.heap.size, 0, none⟩) (Nat.le_refl _) _).setCell (p := ⟨w.heap.size, 1, none⟩) (Nat.le_refl _) _
      refine bodyPost_ret (v := .agg #[.int .i64 0, .int .i64 0]) (by simp [results, Tryz.results104, go_sem, q0, q1]) rfl ?_
      exact ⟨only_trans' HO2.out hF, _, (0, 0), rfl, ⟨rfl, I64_zero, I64_zero⟩, .inr ⟨HB2.out.below hF hg, HNO.out⟩⟩
end Go.Proofs.YtngjnkkdhjholaaGreat
namespace Go.Proofs.YtngjnkkdhjholaaGreat
open Go.RowKit
set_option linter.unusedSimpArgs false
set_option linter.unusedVariables false

theorem count_yes (rb g : Nat) (v0 v1 v2 v3 v4 : Value) (r : Int) (lo hi v : Nat) (rest : List Nat) (w : World) (h : Mrd w rb g v0 v1 v2 v3 v4 r) (hs : St w g (some (vb v ++ rest))) (hlo : lo ≤ 1) (hhi : hi ≤ 1000) (h1 : lo ≤ v) (h2 : v ≤ hi) :
    Calls Tryz.prog 79 #[.pointer (some ⟨rb, 0, none⟩), .int .i64 (lo : Int), .int .i64 (hi : Int)] w fun e w' => e = .returned (.int .i64 (v : Int)) ∧ St w' g (some rest) ∧ Only g w w' := by
  refine (count_any rb g v0 v1 v2 v3 v4 r lo hi _ w h hs hlo hhi).mono ?_
  rintro e w' ⟨ho, u, rfl, hu, ⟨_, xs, rest', e1, e2, hs'⟩ | ⟨_, _, hno⟩⟩
  · injection e1 with e1
    subst e1
    obtain ⟨rfl, rfl⟩ := vb_unique (by unfold B64; omega) (by unfold B64; omega) e2
    exact ⟨rfl, hs', ho⟩
  · exact absurd ⟨v, rest, h1, h2, rfl⟩ (hno _ rfl)
theorem count_not (rb g : Nat) (v0 v1 v2 v3 v4 : Value) (r : Int) (lo hi : Nat) (s : Option (List Nat)) (w : World) (h : Mrd w rb g v0 v1 v2 v3 v4 r) (hs : St w g s) (hlo : lo ≤ 1) (hhi : hi ≤ 1000) (hno : ∀ xs, s = some xs → ¬ ∃ v rest, lo ≤ v ∧ v ≤ hi ∧ xs = vb v ++ rest) :
    Calls Tryz.prog 79 #[.pointer (some ⟨rb, 0, none⟩), .int .i64 (lo : Int), .int .i64 (hi : Int)] w fun e w' => e = .returned (.int .i64 0) ∧ Bad w' g ∧ Only g w w' := by
  refine (count_any rb g v0 v1 v2 v3 v4 r lo hi _ w h hs hlo hhi).mono ?_
  rintro e w' ⟨ho, u, rfl, hu, ⟨h1, xs, rest', e1, e2, hs'⟩ | ⟨rfl, hs', _⟩⟩
  · exact absurd ⟨u, rest', h1, hu, e2⟩ (hno _ e1)
  · exact ⟨rfl, hs', ho⟩

theorem fb_le : ∀ (xs : List Nat), (∀ x ∈ xs, x < 256) → fb (le xs) xs.length = xs := by
  intro xs
  induction xs with
  | nil => intro _; rfl
  | cons x xs ih =>
    intro h
    have hx := h x (by simp)
    have e := ih fun y hy => h y (by simp [hy])
    simp only [fb, le, List.length_cons, List.range_succ_eq_map, List.map_cons, List.map_map] at e ⊢
    refine List.cons_eq_cons.2 ⟨by simp; omega, ?_⟩
    rw [← e]
    simp only [List.length_map, List.length_range]
    refine List.map_congr_left fun j _ => ?_
    simp only [Function.comp_apply, Nat.pow_succ]
    rw [e, Nat.mul_comm (256 ^ j) 256, ← Nat.div_div_eq_div_mul]
    congr 2
    omega

set_option maxHeartbeats 1000000 in
theorem number_any (rb g : Nat) (v0 v1 v2 v3 v4 : Value) (r : Int) (s : Option (List Nat)) (w : World) (h : Mrd w rb g v0 v1 v2 v3 v4 r) (hs : St w g s) :
    Calls Tryz.prog 87 #[.pointer (some ⟨rb, 0, none⟩)] w (Reads numL vOne numB (fun n => n < B64) g s w) := by
  have hp := h.ptr
  have e8 : wid 8 = 8 := by decide
  by_cases hyes : ∃ xs, s = some xs ∧ 8 ≤ xs.length
  · obtain ⟨xs, rfl, h8⟩ := hyes
    have HC := Lib.hid (rfixed_ok g 8 xs w hs.1 hs.2.1 (by rw [e8]; exact h8))
    rw [e8] at HC
    have hb : ∀ x ∈ xs.take 8, x < 256 := fun x hx => hs.2.1 x (List.mem_of_mem_take hx)
    have hfb := fb_le (xs.take 8) hb
    have hlt := le_lt (xs.take 8) hb
    have hl8 : (xs.take 8).length = 8 := by simp; omega
    rw [hl8] at hfb hlt
    have h64 : (256 : Nat) ^ 8 = B64 := by decide
    have HF : Hid (xs = numB (le (xs.take 8)) ++ xs.drop 8) := by show xs = _; rw [numB, hfb, List.take_append_drop]
    have HL : Hid (le (xs.take 8) < B64) := by show _ < B64; rw [← h64]; exact hlt
    have HS := Lib.hid hs
    clear h e8 hb hfb hlt hl8 h64 hs
    generalize le (xs.take 8) = n at *
    go_enter Tryz.func87, Tryz.ntmps87
    go_wp2_with (first | (go_at_call 107; refine HC.out.mono ?_; rintro e w1 ⟨rfl, hg1, ho1⟩))
    go_ret
    exact ⟨ho1, [.int .u64 (n : Int)], n, rfl, ⟨rfl, HL.out⟩, .inl ⟨HL.out, xs, xs.drop 8, rfl, HF.out, HS.out.rest HF.out hg1⟩⟩
  · have HC : Hid (Calls Tryz.prog 107 #[.pointer (some ⟨g, 0, none⟩), .int .i64 8] w fun e w' => e = .returned (.int .u64 0) ∧ Bad w' g ∧ Only g w w') := by
      cases s with
      | none => exact (rfixed_bad g 8 w hs).mono fun e w' ⟨h1, h2⟩ => ⟨h1, Bad.below hs h2 (Bad.lt hs), only_below h2⟩
      | some xs => exact rfixed_short g 8 xs w hs.1 (by rw [e8]; exact Nat.lt_of_not_le fun h => hyes ⟨xs, rfl, h⟩)
    have HNO : Hid (∀ xs, s = some xs → ¬ Has numB (fun n => n < B64) xs) := by
      rintro xs rfl ⟨y, rest, _, rfl⟩
      exact hyes ⟨_, rfl, by simp [numB, fb_length]⟩
    clear h e8 hyes
    go_enter Tryz.func87, Tryz.ntmps87
    go_wp2_with (first | (go_at_call 107; refine HC.out.mono ?_; rintro e w1 ⟨rfl, hg1, ho1⟩))
    go_ret
    exact ⟨ho1, [.int .u64 0], 0, rfl, ⟨rfl, by unfold B64; omega⟩, .inr ⟨hg1, HNO.out⟩⟩

theorem byt_in {S : Nat → Prop} {w : World} {A : Option Addr} {xs : List Nat} (h : Byt S w A xs) : Lib.BytesIn w A xs.length (xs.map fun x : Nat => (x : Int)) := by
  rcases Nat.eq_zero_or_pos xs.length with h0 | h0
  · rw [h0]
    exact Lib.BytesIn.nil _ _ _
  · obtain ⟨a, rfl, _, hc⟩ := h h0
    refine Lib.BytesIn.of_cells fun i hi => ?_
    rw [hc i hi]
    simp [hi, List.getD]
theorem strB_of (xs : List Nat) (h : ∀ x ∈ xs, x < 256) : strB (strOfNums (xs.map fun x : Nat => (x : Int))) = xs := by
  simp only [strB, strOfNums_data, List.map_map]
  conv => rhs; rw [← List.map_id xs]
  refine List.map_congr_left fun z hz => ?_
  have := h z hz
  simp
  omega
theorem conv_any {S : Nat → Prop} {w : World} {A : Option Addr} {n c : Nat} {xs : List Nat} (hn : xs.length = n) (h : Byt S w A xs) (hb : ∀ x ∈ xs, x < 256) :
    ∃ s, strB s = xs ∧ (convert 31 9 (.slice A n c)).run Tryz.prog w = .ok (.string s) w := by
  subst hn
  exact ⟨_, strB_of xs hb, (byt_in h).convert (P := Tryz.prog) (by simp) c 31 5 9 Tryz.underlying31 Tryz.underlying5 Tryz.underlying9⟩
end Go.Proofs.YtngjnkkdhjholaaGreat
namespace Go.Proofs.YtngjnkkdhjholaaGreat
open Go.RowKit
set_option linter.unusedSimpArgs false
set_option linter.unusedVariables false

theorem Owns.push {α : Type} {L : Lay α} {ty base : Nat} {w w' : World} {v v' : Value} {xs : List α} {css : List (List Value)} {cs : List Value} {x : α} (hl : css.length = xs.length)
    (hR : ∀ (j : Nat) (x : α) (cs : List Value), xs[j]? = some x → css[j]? = some cs → L.R (fun b => base ≤ b ∧ b < w.heap.size ∧ v.ownBlock ≠ some b) w cs x)
    (hx : L.R (fun b => base ≤ b ∧ b < w.heap.size ∧ v.ownBlock ≠ some b) w cs x) (hown : w'.ownsRow base ty L.k v' (xs.length + 1) (css.flatten ++ cs)) (hg : w.grownBy w' v.ownBlock)
    (hv : v'.ownBlock = v.ownBlock ∨ v'.ownBlock = some w.heap.size) : Owns L ty base w' v' (xs ++ [x]) := by
  have hk : ∀ {cs : List Value} {x : α}, L.R (fun b => base ≤ b ∧ b < w.heap.size ∧ v.ownBlock ≠ some b) w cs x → L.R (fun b => base ≤ b ∧ b < w'.heap.size ∧ v'.ownBlock ≠ some b) w' cs x := fun h =>
    L.wide (L.keep h fun b hb => hg.block b hb.2.1 (fun e => hb.2.2 e.symm)) fun b hb => ⟨hb.1, Nat.lt_of_lt_of_le hb.2.1 hg.size, by
      rcases hv with e | e
      · rw [e]; exact hb.2.2
      · rw [e]; intro e2; injection e2 with e2; omega⟩
  refine ⟨css ++ [cs], by simp [hl], by simpa using hown, fun j y ds h1 h2 => ?_⟩
  rcases Nat.lt_or_ge j xs.length with hj | hj
  · rw [List.getElem?_append_left hj] at h1
    rw [List.getElem?_append_left (by omega)] at h2
    exact hk (hR j y ds h1 h2)
  · rw [List.getElem?_append_right hj] at h1
    rw [List.getElem?_append_right (by omega), hl] at h2
    have e0 : j - xs.length = 0 := by
      rcases Nat.eq_zero_or_pos (j - xs.length) with h | h
      · exact h
      · rw [List.getElem?_eq_none (by simp; omega)] at h1
        cases h1
    rw [e0] at h1 h2
    simp at h1 h2
    subst h1 h2
    exact hk hx

set_option maxRecDepth 100000 in
theorem walk_append_el {α : Type} (L : Lay α) (w : World) {ops : Array Oper} {rest : List Oper} {o : Oper} {a : Act} {Q : Exit → Act → World → Prop} (hgd : o.guard = none) (s x : Operand) (T E : TypeId)
    (ho : o.op = .call { callee := .builtin .append, args := #[s, x], argTypes := #[T, T] })
    (z : Value) (B : Nat) (hT : Tryz.prog.underlying T = some (.slice E)) (hI : (Tryz.prog.info? E).map (fun i => (i.zero, i.size, i.bytes)) = some (some z, L.k, B)) (hz : z.cells.size = L.k) (hk : 0 < L.k) (hB : B ≤ 100)
    (base : Nat) (v : Value) (xs : List α) (hs : a.eval s = v) (hO : Owns L E base w v xs) (ad : Addr) (d : Nat) (hx : a.eval x = .slice (some ad) 1 d) (cs : List Value) (y : α)
    (hc : ∀ j u, cs[j]? = some u → w.cell? (ad.add j) = some u) (hR : L.R (fun b => base ≤ b ∧ b < w.heap.size ∧ v.ownBlock ≠ some b) w cs y) (hbig : xs.length ≤ 1000000) (hbase : base ≤ w.heap.size)
    (h : ∀ v' w', Owns L E base w' v' (xs ++ [y]) → w.grownBy w' v.ownBlock → wpList Tryz.prog ops Q rest (a.put o.dst v') w') : wpList Tryz.prog ops Q (o :: rest) a w := by
  refine wpList_plain hgd fun _ hK => ?_
  obtain ⟨i0, hi0, hz0, hz1, hz2⟩ := info_parts hI
  obtain ⟨css, hl, hown, hRs⟩ := hO
  have hBx : (xs.length + 1) * B ≤ 140737488355328 := by
    have := Nat.mul_le_mul (show xs.length + 1 ≤ 1000001 by omega) hB
    omega
  obtain ⟨v', w', hrun, h2, h3, _, h5⟩ := run_append_own_at (P := Tryz.prog) w base T o.type E i0 z L.k B hT hi0 hz0 hz1 hz2 hz hk v xs.length css.flatten hown ad 1 d cs (by rw [L.len hR, Nat.one_mul]) hc (L.one hR)
    (by simp only [maxLen]; omega) hBx hbase
  unfold Oper.wp execOp
  simp only [ho, resolve, invoke, builtin, Sem.run_bind, Sem.run_pure, Result.andThen_ok, List.map_toArray, List.map_cons, List.map_nil, hs, hx, hrun]
  exact hK _ _ (h v' w' (Owns.push hl hRs hR h2 h3 h5) h3)

theorem cell_new (w : World) (t : TypeId) (cs : List Value) : ∀ j u, cs[j]? = some u → (w.alloc (.cells cs.toArray t)).cell? ((⟨w.heap.size, 0, none⟩ : Addr).add j) = some u := fun j u hu => by
  have e : (⟨w.heap.size, 0, none⟩ : Addr).add j = ⟨w.heap.size, j, none⟩ := by unfold Addr.add; split <;> simp_all
  rw [e, World.cell?_alloc_mark]
  simpa using hu

theorem only_grown {g : Nat} {w0 w w' : World} {row : Option Nat} (h : Only g w0 w) (hg : w.grownBy w' row) (hr : ∀ i, row = some i → w0.heap.size ≤ i) : Only g w0 w' :=
  ⟨hg.os.trans h.os, hg.tape.trans h.tape, hg.output.trans h.output, Nat.le_trans h.size hg.size, fun i hi hne => (hg.block i (Nat.lt_of_lt_of_le hi h.size) (fun e => by have := hr i e.symm; omega)).trans (h.block i hi hne)⟩
theorem below_grown {B : Nat} {w w' : World} {row : Option Nat} (hg : w.grownBy w' row) (hB : B ≤ w.heap.size) (hr : ∀ i, row = some i → B ≤ i) : Below B w w' := (Below.refl B w).grown hg hB hr

/-- What listOf answers: as many as were asked for, each as it stands there; else something, and the Reader is bad. -/
def ReadsN {α : Type} (L : Lay α) (ty : Nat) (f : α → List Nat) (gd : α → Prop) (n g : Nat) (s : Option (List Nat)) (w : World) (e : Ending) (w' : World) : Prop :=
  Only g w w' ∧ ∃ v xs, e = .returned v ∧ Owns L ty w.heap.size w' v xs ∧ xs.length = n ∧
    (((∀ x ∈ xs, gd x) ∧ ∃ zs rest, s = some zs ∧ zs = (xs.map f).flatten ++ rest ∧ St w' g (some rest)) ∨ (St w' g none ∧ ∀ zs, s = some zs → ¬ HasN f gd n zs))

/-- What is known behind k of them; t: what the Reader is then. -/
def Upto {α : Type} (f : α → List Nat) (gd : α → Prop) (n : Nat) (s t : Option (List Nat)) (xs : List α) : Prop :=
  ((∀ x ∈ xs, gd x) ∧ ∃ zs rest, s = some zs ∧ zs = (xs.map f).flatten ++ rest ∧ t = some rest) ∨ (t = none ∧ ∀ zs, s = some zs → ¬ HasN f gd n zs)
theorem Upto.start {α : Type} (f : α → List Nat) (gd : α → Prop) (n : Nat) (s : Option (List Nat)) : Upto f gd n s s ([] : List α) := by
  cases s with
  | none => exact .inr ⟨rfl, fun zs h => by cases h⟩
  | some zs => exact .inl ⟨by simp, zs, zs, rfl, by simp, rfl⟩
theorem Upto.step {α : Type} {f : α → List Nat} {gd : α → Prop} (hPF : PF f gd) {n : Nat} {s t : Option (List Nat)} {xs : List α} {x : α} (h : Upto f gd n s t xs) (hk : xs.length < n) {w' : World} {g : Nat}
    (hx : (gd x ∧ ∃ ys rest, t = some ys ∧ ys = f x ++ rest ∧ St w' g (some rest)) ∨ (St w' g none ∧ ∀ ys, t = some ys → ¬ Has f gd ys)) : ∃ t', St w' g t' ∧ Upto f gd n s t' (xs ++ [x]) := by
  rcases h with ⟨hg, zs, rest, rfl, hz, rfl⟩ | ⟨rfl, hno⟩
  · rcases hx with ⟨hgx, ys, rest', e1, e2, hs⟩ | ⟨hs, hn⟩
    · injection e1 with e1
      subst e1 e2
      refine ⟨some rest', hs, .inl ⟨fun y hy => ?_, zs, rest', rfl, ?_, rfl⟩⟩
      · rcases List.mem_append.1 hy with h | h
        · exact hg y h
        · simp at h; subst h; exact hgx
      · rw [hz]; simp
    · refine ⟨none, hs, .inr ⟨rfl, fun zs' e => ?_⟩⟩
      injection e with e
      subst e
      exact hPF.row_no hz hg hk (hn rest rfl)
  · rcases hx with ⟨hgx, ys, rest', e1, _⟩ | ⟨hs, hn⟩
    · cases e1
    · exact ⟨none, hs, .inr ⟨rfl, hno⟩⟩
end Go.Proofs.YtngjnkkdhjholaaGreat
namespace Go.Proofs.YtngjnkkdhjholaaGreat
open Go.RowKit
set_option linter.unusedSimpArgs false
set_option linter.unusedVariables false

theorem info_typ : (Tryz.prog.info? 49).map (fun i => (i.zero, i.size, i.bytes)) = some (some (.agg #[.int .i64 0, .int .i64 0]), typL.k, 16) := by kernel_rfl

set_option maxRecDepth 100000 in
set_option maxHeartbeats 1000000 in
theorem listOf_typ (rb g n : Nat) (gd : Typ → Prop) (hPF : PF tB gd) (s : Option (List Nat)) (w : World) (hs : St w g s) (hn : n ≤ 1000000)
    (hE : ∀ (w1 : World) (s1 : Option (List Nat)), Only g w w1 → St w1 g s1 → Calls Tryz.prog 104 #[.pointer (some ⟨rb, 0, none⟩)] w1 (Reads typL vAgg tB gd g s1 w1)) :
    Calls Tryz.prog 108 #[.int .i64 (n : Int), .func (.func 104) #[.pointer (some ⟨rb, 0, none⟩)] #[]] w (ReadsN typL 49 tB gd n g s w) := by
  have hg := hs.lt
  have HS := Lib.hid hs
  have HE := Lib.hid hE
  have HPF := Lib.hid hPF
  clear hs hE hPF
  go_enter Tryz.func108, Tryz.ntmps108
  go_wp2_with fail
  go_loopw [5, 7] (fun v i wr => ∃ k : Nat, k ≤ n ∧ i = .int .i64 (k : Nat) ∧ ∃ xs : List Typ, xs.length = k ∧ Owns typL 49 w.heap.size wr v xs ∧ Only g w wr ∧ ∃ t, St wr g t ∧ Upto tB gd n s t xs) (fun _ i _ => n - (intOf i).toNat)
  case atStart => exact ⟨0, Nat.zero_le _, rfl, [], rfl, Owns.nil _ _ _ _, only_refl _ _, s, HS.out, Upto.start _ _ _ _⟩
  case round =>
    obtain ⟨k, hk, rfl, xs, hxl, hown, honly, t, ht, hup⟩ := hrel
    have HX := Lib.hid hxl
    have HO := Lib.hid hown
    have HY := Lib.hid honly
    have HT := Lib.hid ht
    have HU := Lib.hid hup
    have hsz := honly.size
    clear hxl hown honly ht hup
    by_cases hlt : k < n
    · have HC := Lib.hid (HE.out wr t HY.out HT.out)
      go_wp2_with (first
        | (go_at_call 104
           refine HC.out.mono ?_
           rintro e w1 ⟨ho1, cs, x, he, hr, hx⟩
           have HR := Lib.hid hr
           have HXX := Lib.hid hx
           have HO1 := Lib.hid ho1
           have HW1 := Lib.hid (HO.out.kept hg ho1)
           have hs1 := ho1.size
           obtain ⟨rfl, -, -⟩ := hr
           obtain rfl : e = .returned (.agg #[.int .i64 x.1, .int .i64 x.2]) := he
           clear hx ho1)
        | (at_builtin
           refine walk_append_el typL _ rfl (.tmp 9) (.tmp 12) 47 49 rfl (.agg #[.int .i64 0, .int .i64 0]) 16 Tryz.underlying47 info_typ rfl (by decide) (by decide) w.heap.size u5 xs rfl (HW1.out.kept hg (only_alloc _)) ⟨w1.heap.size, 0, none⟩ 1 rfl [.int .i64 x.1, .int .i64 x.2] x (cell_new w1 49 [.int .i64 x.1, .int .i64 x.2]) ?_ (by rw [HX.out]; omega) (by simp; omega) ?_
           · exact typL.wide (typL.keep HR.out fun b hb => Below.heap_alloc _ _ _ hb.2) fun b hb => ⟨by omega, by simp; omega, fun e => by have := HO.out.lt b e; omega⟩
           intro v2 w2 hown2 hg2
           have HO2 := Lib.hid hown2
           have HG2 := Lib.hid hg2
           clear hown2 hg2))
      have hrow : ∀ i, u5.ownBlock = some i → w.heap.size ≤ i := fun i hi => (HO.out.lt i hi).1
      have hO3 : Only g w w2 := only_grown (only_trans HY.out (only_trans HO1.out (only_alloc _))) HG2.out hrow
      have hB3 : Below w.heap.size w1 w2 := ((Below.refl _ _).alloc (by omega) _).trans (below_grown HG2.out (by simp; omega) hrow)
      obtain ⟨t', ht', hu'⟩ := HU.out.step HPF.out (by rw [HX.out]; exact hlt) HXX.out
      exact ⟨⟨k + 1, by omega, by simp, xs ++ [x], by simp [HX.out], HO2.out, hO3, t', ht'.low hB3 hg, hu'⟩, by simp [intOf]; omega⟩
    · obtain rfl : k = n := by omega
      go_wp2_with fail
      go_ret
      refine ⟨HY.out, _, xs, rfl, HO.out, HX.out, ?_⟩
      rcases HU.out with ⟨h1, zs, rest, h2, h3, rfl⟩ | ⟨rfl, h1⟩
      · exact .inl ⟨h1, zs, rest, h2, h3, HT.out⟩
      · exact .inr ⟨HT.out, h1⟩
end Go.Proofs.YtngjnkkdhjholaaGreat
namespace Go.Proofs.YtngjnkkdhjholaaGreat
open Go.RowKit
set_option linter.unusedSimpArgs false
set_option linter.unusedVariables false

theorem info_ins : (Tryz.prog.info? 56).map (fun i => (i.zero, i.size, i.bytes)) = some (some (.agg #[.int .i64 0, .int .i64 0, .int .i64 0]), insL.k, 24) := by kernel_rfl

set_option maxRecDepth 100000 in
set_option maxHeartbeats 1000000 in
theorem listOf_ins (rb g n : Nat) (gd : Ins → Prop) (hPF : PF iB gd) (s : Option (List Nat)) (w : World) (hs : St w g s) (hn : n ≤ 1000000)
    (hE : ∀ (w1 : World) (s1 : Option (List Nat)), Only g w w1 → St w1 g s1 → Calls Tryz.prog 106 #[.pointer (some ⟨rb, 0, none⟩)] w1 (Reads insL vAgg iB gd g s1 w1)) :
    Calls Tryz.prog 105 #[.int .i64 (n : Int), .func (.func 106) #[.pointer (some ⟨rb, 0, none⟩)] #[]] w (ReadsN insL 56 iB gd n g s w) := by
  have hg := hs.lt
  have HS := Lib.hid hs
  have HE := Lib.hid hE
  have HPF := Lib.hid hPF
  clear hs hE hPF
  go_enter Tryz.func105, Tryz.ntmps105
  go_wp2_with fail
  go_loopw [5, 7] (fun v i wr => ∃ k : Nat, k ≤ n ∧ i = .int .i64 (k : Nat) ∧ ∃ xs : List Ins, xs.length = k ∧ Owns insL 56 w.heap.size wr v xs ∧ Only g w wr ∧ ∃ t, St wr g t ∧ Upto iB gd n s t xs) (fun _ i _ => n - (intOf i).toNat)
  case atStart => exact ⟨0, Nat.zero_le _, rfl, [], rfl, Owns.nil _ _ _ _, only_refl _ _, s, HS.out, Upto.start _ _ _ _⟩
  case round =>
    obtain ⟨k, hk, rfl, xs, hxl, hown, honly, t, ht, hup⟩ := hrel
    have HX := Lib.hid hxl
    have HO := Lib.hid hown
    have HY := Lib.hid honly
    have HT := Lib.hid ht
    have HU := Lib.hid hup
    have hsz := honly.size
    clear hxl hown honly ht hup
    by_cases hlt : k < n
    · have HC := Lib.hid (HE.out wr t HY.out HT.out)
      go_wp2_with (first
        | (go_at_call 106
           refine HC.out.mono ?_
           rintro e w1 ⟨ho1, cs, x, he, hr, hx⟩
           have HR := Lib.hid hr
           have HXX := Lib.hid hx
           have HO1 := Lib.hid ho1
           have HW1 := Lib.hid (HO.out.kept hg ho1)
           have hs1 := ho1.size
           obtain ⟨rfl, -, -, -⟩ := hr
           obtain rfl : e = .returned (.agg #[.int .i64 x.1, .int .i64 x.2.1, .int .i64 x.2.2]) := he
           clear hx ho1)
        | (at_builtin
           refine walk_append_el insL _ rfl (.tmp 9) (.tmp 12) 50 56 rfl (.agg #[.int .i64 0, .int .i64 0, .int .i64 0]) 24 Tryz.underlying50 info_ins rfl (by decide) (by decide) w.heap.size u5 xs rfl (HW1.out.kept hg (only_alloc _)) ⟨w1.heap.size, 0, none⟩ 1 rfl [.int .i64 x.1, .int .i64 x.2.1, .int .i64 x.2.2] x (cell_new w1 56 [.int .i64 x.1, .int .i64 x.2.1, .int .i64 x.2.2]) ?_ (by rw [HX.out]; omega) (by simp; omega) ?_
           · exact insL.wide (insL.keep HR.out fun b hb => Below.heap_alloc _ _ _ hb.2) fun b hb => ⟨by omega, by simp; omega, fun e => by have := HO.out.lt b e; omega⟩
           intro v2 w2 hown2 hg2
           have HO2 := Lib.hid hown2
           have HG2 := Lib.hid hg2
           clear hown2 hg2))
      have hrow : ∀ i, u5.ownBlock = some i → w.heap.size ≤ i := fun i hi => (HO.out.lt i hi).1
      have hO3 : Only g w w2 := only_grown (only_trans HY.out (only_trans HO1.out (only_alloc _))) HG2.out hrow
      have hB3 : Below w.heap.size w1 w2 := ((Below.refl _ _).alloc (by omega) _).trans (below_grown HG2.out (by simp; omega) hrow)
      obtain ⟨t', ht', hu'⟩ := HU.out.step HPF.out (by rw [HX.out]; exact hlt) HXX.out
      exact ⟨⟨k + 1, by omega, by simp, xs ++ [x], by simp [HX.out], HO2.out, hO3, t', ht'.low hB3 hg, hu'⟩, by simp [intOf]; omega⟩
    · obtain rfl : k = n := by omega
      go_wp2_with fail
      go_ret
      refine ⟨HY.out, _, xs, rfl, HO.out, HX.out, ?_⟩
      rcases HU.out with ⟨h1, zs, rest, h2, h3, rfl⟩ | ⟨rfl, h1⟩
      · exact .inl ⟨h1, zs, rest, h2, h3, HT.out⟩
      · exact .inr ⟨HT.out, h1⟩
end Go.Proofs.YtngjnkkdhjholaaGreat
