/-
  The law SaneNames holds: what an instruction names has to be there, one less is right, one more is not; the law's function returns true and turns nothing that was there.
  Conditions: none.
-/
import Derived.Test.YtpgfbnilnoopoaaR01
import Derived.Test.YtpgfbnilnoopoaaR12
import Derived.Deep.RegionLaw
import Derived.Deep.DeepCutAuto
namespace Go.Proofs.Ytpgfbnilnoopoaa.saneNames
open Go.ChangeShapes Go.WideShapes Go.ChangeAt Go.RowKit
set_option linter.unusedVariables false
set_option linter.unusedSimpArgs false

theorem op_i64 : ∀ op ∈ nops, I64 op := by unfold I64; decide
set_option maxRecDepth 100000 in
set_option maxHeartbeats 8000000 in
theorem walk (t n : Int) (w : World) (ht : 0 ≤ t ∧ t ≤ 255) (hn : 0 ≤ n ∧ n ≤ 255) :
    Calls Try.prog 4 #[.int .u8 t, .int .u8 n] w fun e w' => e = .returned (.bool true) ∧ Below w.heap.size w w' := by
  have AN := Lib.hid (fun w => answers7 w)
  obtain ⟨k, ek, hk⟩ : ∃ k : Nat, n % 8 = (k : Int) ∧ k < 8 := ⟨(n % 8).toNat, by omega, by omega⟩
  obtain ⟨i, ei, hi⟩ : ∃ i : Nat, t % 6 = (i : Int) ∧ i < 6 := ⟨(t % 6).toNat, by omega, by omega⟩
  obtain ⟨op, hop⟩ : ∃ op, nops[i]? = some op := ⟨nops[i]'(by simp [nops]; omega), List.getElem?_eq_getElem _⟩
  have HI := Lib.hid (op_i64 op (List.mem_of_getElem? hop))
  have HN := Lib.hid (nmod_check k hk op (List.mem_of_getElem? hop))
  have hld : ∀ a b c : Obj, ((((w.alloc a).alloc b).alloc c).alloc (.cells #[.int .i64 0, .int .i64 1, .int .i64 3, .int .i64 25, .int .i64 27, .int .i64 28] 3)).cell? ((⟨w.heap.size + 1 + 1 + 1, 0, none⟩ : Addr).add i) = some (.int .i64 op) := fun a b c =>
    cell_at _ 3 (nops.map (.int .i64)) _ (by simp) i _ (by rw [List.getElem?_map, hop]; rfl)
  have hi0 : (0 : Int) ≤ (i : Int) := by omega
  have hi6 : (i : Int) < 6 := by omega
  have HOp := Lib.hid hop
  clear hop
  go_enter Try.func4, Try.ntmps4
  go_wp2_with fail
  rw [nops_val HOp.out]
  try simp only [ek, ei]
  clear ek ei ht hn
  refine wp_world fun W0 hW0 => ?_
  have b0 : Blk W0 w.heap.size 34 tA := by rw [hW0]; repeat (first | (refine blk_at ?_; simp; done) | refine blk_keep ?_)
  have b1 : Blk W0 (w.heap.size + 1) 38 #[.slice none 0 0, .int .i64 1, .int .i64 0, .slice none 0 0, .slice none 0 0] := by rw [hW0]; repeat (first | (refine blk_at ?_; simp; done) | refine blk_keep ?_)
  have b2 : Blk W0 (w.heap.size + 2) 28 #[.slice none 0 0, .slice (some ⟨w.heap.size + 1, 0, none⟩) 1 1, .slice none 0 0, .slice none 0 0, .slice none 0 0] := by rw [hW0]; repeat (first | (refine blk_at ?_; simp; done) | refine blk_keep ?_)
  have HB0 : Hid (Below w.heap.size w W0) := by show Below _ _ _; rw [hW0]; exact ((((Below.refl _ _).alloc (Nat.le_refl _) _).alloc (by simp) _).alloc (by simp; omega) _).alloc (by simp; omega) _
  have hz0 : w.heap.size + 4 ≤ W0.heap.size := by rw [hW0]; simp
  clear hW0 hld
  have H0 : Hid (Nm w.heap.size w (fun b => if b = w.heap.size then 8 else if b = w.heap.size + 2 then 9 else if b = w.heap.size + 1 then 1 else 10) (vec .nilFunc (.slice none 0 0) (.slice (some ⟨w.heap.size + 1, 0, none⟩) 1 1) (.slice none 0 0) (.slice none 0 0) (.slice none 0 0) (.slice none 0 0)) (vec [] ([]) ([fC (.slice none 0 0) (.slice none 0 0)]) ([]) ([]) ([]) ([])) #[.slice none 0 0, .slice (some ⟨w.heap.size + 1, 0, none⟩) 1 1, .slice none 0 0, .slice none 0 0, .slice none 0 0] W0) := by
    refine ⟨HB0.out, hz0, by simp, by simp, b0, b2, fun i hi => ?_, fun b _ h => ?_, fun b _ h => ?_, fun cs h => (by simp [vec] at h), fun cs h => (by simp [vec] at h)⟩
    · match i, hi with
      | 0, _ => exact ⟨World.ownsRow_nil _ _ _ _, fun b h => by cases h⟩
      | 1, _ =>
        refine ⟨raw_one b1 (Nat.le_refl _) rfl, fun b h => ?_⟩
        obtain rfl : w.heap.size + 1 = b := Option.some.inj h
        simp
      | 2, _ => exact ⟨World.ownsRow_nil _ _ _ _, fun b h => by cases h⟩
      | 3, _ => exact ⟨World.ownsRow_nil _ _ _ _, fun b h => by cases h⟩
      | 4, _ => exact ⟨World.ownsRow_nil _ _ _ _, fun b h => by cases h⟩
      | 5, _ => exact ⟨World.ownsRow_nil _ _ _ _, fun b h => by cases h⟩
      | i + 6, hi => omega
    · split at h <;> (try omega); split at h <;> (try omega); split at h <;> omega
    · split at h <;> (try omega); split at h <;> (try omega); split at h <;> omega
  clear b0 b1 b2 HB0 hz0
  go_loopw [9] (fun i wr => ∃ j : Nat, j ≤ k + 1 ∧ i = .int .i64 (j : Nat) ∧ ∃ tg v0 v1 v2 v3 v4 v5 cR cF, cR.length = j ∧ cF.length = j - 1 ∧ Nm w.heap.size w tg (vec .nilFunc (v0) (v1) (v2) (v3) (v4) (v5)) (vec [] (cR) (fC v5 (.slice none 0 0) :: cF) (List.replicate j iC) (List.replicate j nC) (List.replicate j sC) (List.replicate j tC)) #[v0, v1, v2, v3, v4] wr) (fun i _ => k + 1 - (intOf i).toNat)
  case atStart => exact ⟨0, Nat.zero_le _, rfl, _, _, _, _, _, _, _, _, _, rfl, rfl, H0.out⟩
  case round =>
    obtain ⟨j, hj, rfl, tg, v0, v1, v2, v3, v4, v5, cR, cF, hcR, hcF, hst⟩ := hrel
    clear H0
    have HcR := Lib.hid hcR
    have HcF := Lib.hid hcF
    obtain ⟨g, m1, q1, hv1, hm1⟩ := hst.fst rfl
    obtain rfl : v1 = _ := hv1
    obtain ⟨A0, m0, q0, rfl⟩ := raw_shape (v := v0) (hst.row 0 (by omega)).1
    obtain ⟨A2, m2, q2, rfl⟩ := raw_shape (v := v2) (hst.row 2 (by omega)).1
    obtain ⟨A3, m3, q3, rfl⟩ := raw_shape (v := v3) (hst.row 3 (by omega)).1
    obtain ⟨A4, m4, q4, rfl⟩ := raw_shape (v := v4) (hst.row 4 (by omega)).1
    obtain ⟨A5, m5, q5, rfl⟩ := raw_shape (v := v5) (hst.row 5 (by omega)).1
    have HS := Lib.hid hst
    have hz := hst.sz
    have hm1' : (0 : Int) < (m1 : Int) := by omega
    have xr0 : wr.cell? ⟨w.heap.size + 1 + 1, 0, none⟩ = some (.slice A0 m0 q0) := hst.mod.cell 0
    have xr1 : wr.cell? ⟨w.heap.size + 1 + 1, 1, none⟩ = some (.slice (some ⟨g, 0, none⟩) m1 q1) := hst.mod.cell 1
    have xr2 : wr.cell? ⟨w.heap.size + 1 + 1, 2, none⟩ = some (.slice A2 m2 q2) := hst.mod.cell 2
    have xr3 : wr.cell? ⟨w.heap.size + 1 + 1, 3, none⟩ = some (.slice A3 m3 q3) := hst.mod.cell 3
    have xr4 : wr.cell? ⟨w.heap.size + 1 + 1, 4, none⟩ = some (.slice A4 m4 q4) := hst.mod.cell 4
    have fr0 : wr.frozen? ⟨w.heap.size + 1 + 1, 0, none⟩ = false := hst.mod.frozen 0
    have fr1 : wr.frozen? ⟨w.heap.size + 1 + 1, 1, none⟩ = false := hst.mod.frozen 1
    have fr2 : wr.frozen? ⟨w.heap.size + 1 + 1, 2, none⟩ = false := hst.mod.frozen 2
    have fr3 : wr.frozen? ⟨w.heap.size + 1 + 1, 3, none⟩ = false := hst.mod.frozen 3
    have fr4 : wr.frozen? ⟨w.heap.size + 1 + 1, 4, none⟩ = false := hst.mod.frozen 4
    have hzr := hst.sz
    have yr0 : wr.cell? ⟨w.heap.size, 0, none⟩ = some (.int .i64 1) := hst.num.cell 0
    have yr1 : wr.cell? ⟨w.heap.size, 1, none⟩ = some (.int .i64 0) := hst.num.cell 1
    clear hst hcF
    by_cases hlt : j ≤ k
    · have hlt' : (j : Int) ≤ (k : Int) := by omega
      have hj9 : j ≤ 8 := by omega
      have H8 := Lib.hid ((HS.out.alloc 6 (.cells tA 34) (fun _ => rfl) (fun h => by cases h)).alloc 10 (.cells #[.slice (some ⟨wr.heap.size, 0, none⟩) 1 1] 35) (fun h => by cases h) (fun h => by cases h))
      have hcR9 : cR.length ≤ 1000 := by omega
      go_wp2_with (first
        | (at_builtin
           refine walk_append_raw 1 _ rfl (.tmp 31) (.tmp 34) 22 35 rfl (.slice none 0 0) 24 Try.underlying22 inf_rec rfl (by decide) (by decide) (w.heap.size + 1) (.slice A0 m0 q0) (cR).length (cR).flatten rfl
             (H8.out.row 0 (by omega)).1 ⟨wr.heap.size + 1, 0, none⟩ 1 rfl [.slice (some ⟨wr.heap.size, 0, none⟩) 1 1] rfl (cell_at (wr.alloc _) 35 [.slice (some ⟨wr.heap.size, 0, none⟩) 1 1] _ (by simp)) (by simp [Value.oneCell']) (by first | omega | (simp; omega)) (by first | omega | (simp; omega)) ?_
           intro va wa howna hga h5a
           have hsa := H8.out.app (i := 0) (by omega) howna hga h5a (fun _ => ⟨wr.heap.size, (by simp; omega), (by simp), rfl⟩) (fun h => by cases h)
           rw [upd_vec0, upd_vec0] at hsa
           obtain ⟨Aa, ma, qa, rfl⟩ := raw_shape howna
           obtain ⟨tga, hsa⟩ : ∃ tg', Nm w.heap.size w tg' (vec .nilFunc (.slice Aa ma qa) (.slice (some ⟨g, 0, none⟩) m1 q1) (.slice A2 m2 q2) (.slice A3 m3 q3) (.slice A4 m4 q4) (.slice A5 m5 q5)) (vec [] ((cR) ++ [[.slice (some ⟨wr.heap.size, 0, none⟩) 1 1]]) (fC (.slice A5 m5 q5) (.slice none 0 0) :: cF) (List.replicate j iC) (List.replicate j nC) (List.replicate j sC) (List.replicate j tC)) #[.slice A0 m0 q0, .slice (some ⟨g, 0, none⟩) m1 q1, .slice A2 m2 q2, .slice A3 m3 q3, .slice A4 m4 q4] wa := ⟨_, hsa⟩
           have Sa := Lib.hid hsa
           have xa0 : wa.cell? ⟨w.heap.size + 1 + 1, 0, none⟩ = some (.slice A0 m0 q0) := hsa.mod.cell 0
           have xa1 : wa.cell? ⟨w.heap.size + 1 + 1, 1, none⟩ = some (.slice (some ⟨g, 0, none⟩) m1 q1) := hsa.mod.cell 1
           have xa2 : wa.cell? ⟨w.heap.size + 1 + 1, 2, none⟩ = some (.slice A2 m2 q2) := hsa.mod.cell 2
           have xa3 : wa.cell? ⟨w.heap.size + 1 + 1, 3, none⟩ = some (.slice A3 m3 q3) := hsa.mod.cell 3
           have xa4 : wa.cell? ⟨w.heap.size + 1 + 1, 4, none⟩ = some (.slice A4 m4 q4) := hsa.mod.cell 4
           have fa0 : wa.frozen? ⟨w.heap.size + 1 + 1, 0, none⟩ = false := hsa.mod.frozen 0
           have fa1 : wa.frozen? ⟨w.heap.size + 1 + 1, 1, none⟩ = false := hsa.mod.frozen 1
           have fa2 : wa.frozen? ⟨w.heap.size + 1 + 1, 2, none⟩ = false := hsa.mod.frozen 2
           have fa3 : wa.frozen? ⟨w.heap.size + 1 + 1, 3, none⟩ = false := hsa.mod.frozen 3
           have fa4 : wa.frozen? ⟨w.heap.size + 1 + 1, 4, none⟩ = false := hsa.mod.frozen 4
           have hza := hsa.sz
           have ya0 : wa.cell? ⟨w.heap.size, 0, none⟩ = some (.int .i64 1) := hsa.num.cell 0
           have ya1 : wa.cell? ⟨w.heap.size, 1, none⟩ = some (.int .i64 0) := hsa.num.cell 1
           clear howna hga h5a hsa)
        | (at_builtin
           refine walk_append_raw 1 _ rfl (.tmp 38) (.tmp 39) 25 40 rfl (.int .u64 0) 8 Try.underlying25 inf_num rfl (by decide) (by decide) (w.heap.size + 1) (.slice A3 m3 q3) (List.replicate j nC).length (List.replicate j nC).flatten rfl
             (((Sa.out.put0 (.slice Aa ma qa)).alloc 10 (.cells #[.int .u64 7] 40) (fun h => by cases h) (fun h => by cases h)).row 3 (by omega)).1 ⟨wa.heap.size, 0, none⟩ 1 rfl [.int .u64 7] rfl (cell_at (wa.setCell _ _) 40 [.int .u64 7] _ (by simp)) (by simp [Value.oneCell']) (by first | omega | (simp; omega)) (by first | omega | (simp; omega)) ?_
           intro vb wb hownb hgb h5b
           have hsb := ((Sa.out.put0 (.slice Aa ma qa)).alloc 10 (.cells #[.int .u64 7] 40) (fun h => by cases h) (fun h => by cases h)).app (i := 3) (by omega) hownb hgb h5b (fun h => by cases h) (fun h => by cases h)
           rw [upd_vec3, upd_vec3] at hsb
           obtain ⟨Ab, mb, qb, rfl⟩ := raw_shape hownb
           obtain ⟨tgb, hsb⟩ : ∃ tg', Nm w.heap.size w tg' (vec .nilFunc (.slice Aa ma qa) (.slice (some ⟨g, 0, none⟩) m1 q1) (.slice A2 m2 q2) (.slice Ab mb qb) (.slice A4 m4 q4) (.slice A5 m5 q5)) (vec [] ((cR) ++ [[.slice (some ⟨wr.heap.size, 0, none⟩) 1 1]]) (fC (.slice A5 m5 q5) (.slice none 0 0) :: cF) (List.replicate j iC) ((List.replicate j nC) ++ [[.int .u64 7]]) (List.replicate j sC) (List.replicate j tC)) #[.slice Aa ma qa, .slice (some ⟨g, 0, none⟩) m1 q1, .slice A2 m2 q2, .slice A3 m3 q3, .slice A4 m4 q4] wb := ⟨_, hsb⟩
           have Sb := Lib.hid hsb
           have xb0 : wb.cell? ⟨w.heap.size + 1 + 1, 0, none⟩ = some (.slice Aa ma qa) := hsb.mod.cell 0
           have xb1 : wb.cell? ⟨w.heap.size + 1 + 1, 1, none⟩ = some (.slice (some ⟨g, 0, none⟩) m1 q1) := hsb.mod.cell 1
           have xb2 : wb.cell? ⟨w.heap.size + 1 + 1, 2, none⟩ = some (.slice A2 m2 q2) := hsb.mod.cell 2
           have xb3 : wb.cell? ⟨w.heap.size + 1 + 1, 3, none⟩ = some (.slice A3 m3 q3) := hsb.mod.cell 3
           have xb4 : wb.cell? ⟨w.heap.size + 1 + 1, 4, none⟩ = some (.slice A4 m4 q4) := hsb.mod.cell 4
           have fb0 : wb.frozen? ⟨w.heap.size + 1 + 1, 0, none⟩ = false := hsb.mod.frozen 0
           have fb1 : wb.frozen? ⟨w.heap.size + 1 + 1, 1, none⟩ = false := hsb.mod.frozen 1
           have fb2 : wb.frozen? ⟨w.heap.size + 1 + 1, 2, none⟩ = false := hsb.mod.frozen 2
           have fb3 : wb.frozen? ⟨w.heap.size + 1 + 1, 3, none⟩ = false := hsb.mod.frozen 3
           have fb4 : wb.frozen? ⟨w.heap.size + 1 + 1, 4, none⟩ = false := hsb.mod.frozen 4
           have hzb := hsb.sz
           have yb0 : wb.cell? ⟨w.heap.size, 0, none⟩ = some (.int .i64 1) := hsb.num.cell 0
           have yb1 : wb.cell? ⟨w.heap.size, 1, none⟩ = some (.int .i64 0) := hsb.num.cell 1
           clear hownb hgb h5b hsb)
        | (at_builtin
           refine walk_append_raw 1 _ rfl (.tmp 43) (.tmp 44) 26 9 rfl (.string ⟨#[]⟩) 16 Try.underlying26 inf_str rfl (by decide) (by decide) (w.heap.size + 1) (.slice A4 m4 q4) (List.replicate j sC).length (List.replicate j sC).flatten rfl
             (((Sb.out.put3 (.slice Ab mb qb)).alloc 10 (.cells #[.string ⟨#[120]⟩] 9) (fun h => by cases h) (fun h => by cases h)).row 4 (by omega)).1 ⟨wb.heap.size, 0, none⟩ 1 rfl [.string ⟨#[120]⟩] rfl (cell_at (wb.setCell _ _) 9 [.string ⟨#[120]⟩] _ (by simp)) (by simp [Value.oneCell']) (by first | omega | (simp; omega)) (by first | omega | (simp; omega)) ?_
           intro vc wc hownc hgc h5c
           have hsc := ((Sb.out.put3 (.slice Ab mb qb)).alloc 10 (.cells #[.string ⟨#[120]⟩] 9) (fun h => by cases h) (fun h => by cases h)).app (i := 4) (by omega) hownc hgc h5c (fun h => by cases h) (fun h => by cases h)
           rw [upd_vec4, upd_vec4] at hsc
           obtain ⟨Ac, mc, qc, rfl⟩ := raw_shape hownc
           obtain ⟨tgc, hsc⟩ : ∃ tg', Nm w.heap.size w tg' (vec .nilFunc (.slice Aa ma qa) (.slice (some ⟨g, 0, none⟩) m1 q1) (.slice A2 m2 q2) (.slice Ab mb qb) (.slice Ac mc qc) (.slice A5 m5 q5)) (vec [] ((cR) ++ [[.slice (some ⟨wr.heap.size, 0, none⟩) 1 1]]) (fC (.slice A5 m5 q5) (.slice none 0 0) :: cF) (List.replicate j iC) ((List.replicate j nC) ++ [[.int .u64 7]]) ((List.replicate j sC) ++ [[.string ⟨#[120]⟩]]) (List.replicate j tC)) #[.slice Aa ma qa, .slice (some ⟨g, 0, none⟩) m1 q1, .slice A2 m2 q2, .slice Ab mb qb, .slice A4 m4 q4] wc := ⟨_, hsc⟩
           have Sc := Lib.hid hsc
           have xc0 : wc.cell? ⟨w.heap.size + 1 + 1, 0, none⟩ = some (.slice Aa ma qa) := hsc.mod.cell 0
           have xc1 : wc.cell? ⟨w.heap.size + 1 + 1, 1, none⟩ = some (.slice (some ⟨g, 0, none⟩) m1 q1) := hsc.mod.cell 1
           have xc2 : wc.cell? ⟨w.heap.size + 1 + 1, 2, none⟩ = some (.slice A2 m2 q2) := hsc.mod.cell 2
           have xc3 : wc.cell? ⟨w.heap.size + 1 + 1, 3, none⟩ = some (.slice Ab mb qb) := hsc.mod.cell 3
           have xc4 : wc.cell? ⟨w.heap.size + 1 + 1, 4, none⟩ = some (.slice A4 m4 q4) := hsc.mod.cell 4
           have fc0 : wc.frozen? ⟨w.heap.size + 1 + 1, 0, none⟩ = false := hsc.mod.frozen 0
           have fc1 : wc.frozen? ⟨w.heap.size + 1 + 1, 1, none⟩ = false := hsc.mod.frozen 1
           have fc2 : wc.frozen? ⟨w.heap.size + 1 + 1, 2, none⟩ = false := hsc.mod.frozen 2
           have fc3 : wc.frozen? ⟨w.heap.size + 1 + 1, 3, none⟩ = false := hsc.mod.frozen 3
           have fc4 : wc.frozen? ⟨w.heap.size + 1 + 1, 4, none⟩ = false := hsc.mod.frozen 4
           have hzc := hsc.sz
           have yc0 : wc.cell? ⟨w.heap.size, 0, none⟩ = some (.int .i64 1) := hsc.num.cell 0
           have yc1 : wc.cell? ⟨w.heap.size, 1, none⟩ = some (.int .i64 0) := hsc.num.cell 1
           clear hownc hgc h5c hsc)
        | (at_builtin
           refine walk_append_raw 3 _ rfl (.tmp 48) (.tmp 51) 24 42 rfl (.agg #[.slice none 0 0, .int .i64 0, .int .i64 0]) 40 Try.underlying24 inf_imp rfl (by decide) (by decide) (w.heap.size + 1) (.slice A2 m2 q2) (List.replicate j iC).length (List.replicate j iC).flatten rfl
             (((Sc.out.put4 (.slice Ac mc qc)).alloc 10 (.cells #[.slice none 0 0, .int .i64 1, .int .i64 0] 42) (fun h => by cases h) (fun h => by cases h)).row 2 (by omega)).1 ⟨wc.heap.size, 0, none⟩ 1 rfl [.slice none 0 0, .int .i64 1, .int .i64 0] rfl (cell_at (wc.setCell _ _) 42 [.slice none 0 0, .int .i64 1, .int .i64 0] _ (by simp)) (by simp [Value.oneCell']) (by first | omega | (simp; omega)) (by first | omega | (simp; omega)) ?_
           intro vd wd hownd hgd h5d
           have hsd := ((Sc.out.put4 (.slice Ac mc qc)).alloc 10 (.cells #[.slice none 0 0, .int .i64 1, .int .i64 0] 42) (fun h => by cases h) (fun h => by cases h)).app (i := 2) (by omega) hownd hgd h5d (fun h => by cases h) (fun h => by cases h)
           rw [upd_vec2, upd_vec2] at hsd
           obtain ⟨Ad, md, qd, rfl⟩ := raw_shape hownd
           obtain ⟨tgd, hsd⟩ : ∃ tg', Nm w.heap.size w tg' (vec .nilFunc (.slice Aa ma qa) (.slice (some ⟨g, 0, none⟩) m1 q1) (.slice Ad md qd) (.slice Ab mb qb) (.slice Ac mc qc) (.slice A5 m5 q5)) (vec [] ((cR) ++ [[.slice (some ⟨wr.heap.size, 0, none⟩) 1 1]]) (fC (.slice A5 m5 q5) (.slice none 0 0) :: cF) ((List.replicate j iC) ++ [[.slice none 0 0, .int .i64 1, .int .i64 0]]) ((List.replicate j nC) ++ [[.int .u64 7]]) ((List.replicate j sC) ++ [[.string ⟨#[120]⟩]]) (List.replicate j tC)) #[.slice Aa ma qa, .slice (some ⟨g, 0, none⟩) m1 q1, .slice A2 m2 q2, .slice Ab mb qb, .slice Ac mc qc] wd := ⟨_, hsd⟩
           have Sd := Lib.hid hsd
           have xd0 : wd.cell? ⟨w.heap.size + 1 + 1, 0, none⟩ = some (.slice Aa ma qa) := hsd.mod.cell 0
           have xd1 : wd.cell? ⟨w.heap.size + 1 + 1, 1, none⟩ = some (.slice (some ⟨g, 0, none⟩) m1 q1) := hsd.mod.cell 1
           have xd2 : wd.cell? ⟨w.heap.size + 1 + 1, 2, none⟩ = some (.slice A2 m2 q2) := hsd.mod.cell 2
           have xd3 : wd.cell? ⟨w.heap.size + 1 + 1, 3, none⟩ = some (.slice Ab mb qb) := hsd.mod.cell 3
           have xd4 : wd.cell? ⟨w.heap.size + 1 + 1, 4, none⟩ = some (.slice Ac mc qc) := hsd.mod.cell 4
           have fd0 : wd.frozen? ⟨w.heap.size + 1 + 1, 0, none⟩ = false := hsd.mod.frozen 0
           have fd1 : wd.frozen? ⟨w.heap.size + 1 + 1, 1, none⟩ = false := hsd.mod.frozen 1
           have fd2 : wd.frozen? ⟨w.heap.size + 1 + 1, 2, none⟩ = false := hsd.mod.frozen 2
           have fd3 : wd.frozen? ⟨w.heap.size + 1 + 1, 3, none⟩ = false := hsd.mod.frozen 3
           have fd4 : wd.frozen? ⟨w.heap.size + 1 + 1, 4, none⟩ = false := hsd.mod.frozen 4
           have hzd := hsd.sz
           have yd0 : wd.cell? ⟨w.heap.size, 0, none⟩ = some (.int .i64 1) := hsd.num.cell 0
           have yd1 : wd.cell? ⟨w.heap.size, 1, none⟩ = some (.int .i64 0) := hsd.num.cell 1
           clear hownd hgd h5d hsd))
      refine wp_world fun X hX => ?_
      have SX : Hid (Nm w.heap.size w tgd (vec .nilFunc (.slice Aa ma qa) (.slice (some ⟨g, 0, none⟩) m1 q1) (.slice Ad md qd) (.slice Ab mb qb) (.slice Ac mc qc) (.slice A5 m5 q5)) (vec [] ((cR) ++ [[.slice (some ⟨wr.heap.size, 0, none⟩) 1 1]]) (fC (.slice A5 m5 q5) (.slice none 0 0) :: cF) ((List.replicate j iC) ++ [[.slice none 0 0, .int .i64 1, .int .i64 0]]) ((List.replicate j nC) ++ [[.int .u64 7]]) ((List.replicate j sC) ++ [[.string ⟨#[120]⟩]]) (List.replicate j tC)) #[.slice Aa ma qa, .slice (some ⟨g, 0, none⟩) m1 q1, .slice Ad md qd, .slice Ab mb qb, .slice Ac mc qc] X) := by show Nm _ _ _ _ _ _ _; rw [hX]; exact Sd.out.put2 _
      clear hX xa0 xa1 xa2 xa3 xa4 fa0 fa1 fa2 fa3 fa4 ya0 ya1 xb0 xb1 xb2 xb3 xb4 fb0 fb1 fb2 fb3 fb4 yb0 yb1 xc0 xc1 xc2 xc3 xc4 fc0 fc1 fc2 fc3 fc4 yc0 yc1 xd0 xd1 xd2 xd3 xd4 fd0 fd1 fd2 fd3 fd4 yd0 yd1 xr0 xr1 xr2 xr3 xr4 fr0 fr1 fr2 fr3 fr4 yr0 yr1
      have hC1 : Hid (∀ {tg' V' Y}, Nm w.heap.size w tg' (vec .nilFunc (.slice Aa ma qa) (.slice (some ⟨g, 0, none⟩) m1 q1) (.slice Ad md qd) (.slice Ab mb qb) (.slice Ac mc qc) V') (vec [] ((cR) ++ [[.slice (some ⟨wr.heap.size, 0, none⟩) 1 1]]) (fC (.slice A5 m5 q5) (.slice none 0 0) :: cF) ((List.replicate j iC) ++ [[.slice none 0 0, .int .i64 1, .int .i64 0]]) ((List.replicate j nC) ++ [[.int .u64 7]]) ((List.replicate j sC) ++ [[.string ⟨#[120]⟩]]) (List.replicate j tC)) #[.slice Aa ma qa, .slice (some ⟨g, 0, none⟩) m1 q1, .slice Ad md qd, .slice Ab mb qb, .slice Ac mc qc] Y → Y.cell? ⟨w.heap.size + 1 + 1, 1, none⟩ = some (.slice (some ⟨g, 0, none⟩) m1 q1) ∧ Y.cell? ⟨g, 3, none⟩ = some (.slice A5 m5 q5) ∧ Y.cell? ⟨w.heap.size, 0, none⟩ = some (.int .i64 1) ∧ Y.cell? ⟨w.heap.size, 1, none⟩ = some (.int .i64 0) ∧ Y.frozen? ⟨g, 3, none⟩ = false) := fun {tg' V' Y} h => ⟨h.mod.cell 1, (h.fcell rfl rfl (p := 3) rfl).1, h.num.cell 0, h.num.cell 1, (h.fcell rfl rfl (p := 3) rfl).2⟩
      have k0 : Hid (X.cell? ⟨w.heap.size + 1 + 1, 1, none⟩ = some (.slice (some ⟨g, 0, none⟩) m1 q1) ∧ X.cell? ⟨g, 3, none⟩ = some (.slice A5 m5 q5) ∧ X.cell? ⟨w.heap.size, 0, none⟩ = some (.int .i64 1) ∧ X.cell? ⟨w.heap.size, 1, none⟩ = some (.int .i64 0)) := ⟨(hC1.out SX.out).1, (hC1.out SX.out).2.1, (hC1.out SX.out).2.2.1, (hC1.out SX.out).2.2.2.1⟩
      obtain ⟨kx1, kx3, ky0, ky1⟩ := k0.out
      have HY := Lib.hid ((SX.out.alloc 10 (.cells #[.int .i64 1, .int .i64 0] 34) (fun h => by cases h) (fun h => by cases h)).drew)
      have KA : Hid (∀ o : Obj, ((X.alloc o).cell? ⟨w.heap.size + 1 + 1, 1, none⟩ = some (.slice (some ⟨g, 0, none⟩) m1 q1) ∧ (X.alloc o).cell? ⟨g, 3, none⟩ = some (.slice A5 m5 q5) ∧ (X.alloc o).cell? ⟨w.heap.size, 0, none⟩ = some (.int .i64 1) ∧ (X.alloc o).cell? ⟨w.heap.size, 1, none⟩ = some (.int .i64 0)) ∧ (X.alloc o).frozen? ⟨g, 3, none⟩ = false) := fun o => by
        have h := hC1.out (SX.out.alloc 10 o (fun h => by cases h) (fun h => by cases h))
        exact ⟨⟨h.1, h.2.1, h.2.2.1, h.2.2.2.1⟩, h.2.2.2.2⟩
      have KB : Hid (∀ o : Obj, (X.alloc o).cell? ⟨w.heap.size + 1 + 1, 1, none⟩ = some (.slice (some ⟨g, 0, none⟩) m1 q1) ∧ (X.alloc o).cell? ⟨w.heap.size, 0, none⟩ = some (.int .i64 1) ∧ (X.alloc o).cell? ⟨w.heap.size, 1, none⟩ = some (.int .i64 0)) := fun o => ⟨(KA.out o).1.1, (KA.out o).1.2.2.1, (KA.out o).1.2.2.2⟩
      have k1 : Hid (X.cell? ⟨w.heap.size + 1 + 1, 1, none⟩ = some (.slice (some ⟨g, 0, none⟩) m1 q1) ∧ X.cell? ⟨w.heap.size, 0, none⟩ = some (.int .i64 1) ∧ X.cell? ⟨w.heap.size, 1, none⟩ = some (.int .i64 0)) := ⟨kx1, ky0, ky1⟩
      have ka1 := fun o => (KA.out o).1.1
      have ka3 := fun o => (KA.out o).1.2.1
      have hzX := SX.out.sz
      go_cut [9] (fun s9 wx => s9 = .int .i64 (j : Nat) ∧ ∃ tge Ae me qe, Nm w.heap.size w tge (vec .nilFunc (.slice Aa ma qa) (.slice (some ⟨g, 0, none⟩) m1 q1) (.slice Ad md qd) (.slice Ab mb qb) (.slice Ac mc qc) (.slice Ae me qe)) (vec [] ((cR) ++ [[.slice (some ⟨wr.heap.size, 0, none⟩) 1 1]]) (fC (.slice Ae me qe) (.slice none 0 0) :: cF) ((List.replicate j iC) ++ [[.slice none 0 0, .int .i64 1, .int .i64 0]]) ((List.replicate j nC) ++ [[.int .u64 7]]) ((List.replicate j sC) ++ [[.string ⟨#[120]⟩]]) ((List.replicate j tC) ++ [[.int .i64 1, .int .i64 0]])) #[.slice Aa ma qa, .slice (some ⟨g, 0, none⟩) m1 q1, .slice Ad md qd, .slice Ab mb qb, .slice Ac mc qc] wx)
      case first =>
        clear Sa Sb Sc Sd HS H8 KB k0 k1 HcR HcF HN AN hC1 KA
        go_region_law (first
          | (with_reducible refine step_is (.tmp 60) (.tmp 62) 35 ?_
             refine step_append_raw 2 _ (by rfl) (.tmp 60) (.tmp 62) 35 34 (by rfl) (.agg #[.int .i64 0, .int .i64 0]) 16 Try.underlying35 inf_typ rfl (by decide) (by decide) (w.heap.size + 1) (.slice A5 m5 q5) (List.replicate j tC).length (List.replicate j tC).flatten (by rfl)
               (HY.out.row 5 (by omega)).1 ⟨X.heap.size, 0, none⟩ 1 (by rfl) [.int .i64 1, .int .i64 0] rfl (cell_at _ 34 [.int .i64 1, .int .i64 0] _ (by simp [World.drew])) (by simp [Value.oneCell']) (by first | omega | (simp; omega)) (by first | omega | (simp; omega)) ?_
             intro ve we howne hge h5e
             have hse := HY.out.app (i := 5) (by omega) howne hge h5e (fun h => by cases h) (fun h => by cases h)
             rw [upd_vec5, upd_vec5] at hse
             obtain ⟨Ae, me, qe, rfl⟩ := raw_shape howne
             obtain ⟨tge, hse⟩ : ∃ tg', Nm w.heap.size w tg' (vec .nilFunc (.slice Aa ma qa) (.slice (some ⟨g, 0, none⟩) m1 q1) (.slice Ad md qd) (.slice Ab mb qb) (.slice Ac mc qc) (.slice Ae me qe)) (vec [] ((cR) ++ [[.slice (some ⟨wr.heap.size, 0, none⟩) 1 1]]) (fC (.slice A5 m5 q5) (.slice none 0 0) :: cF) ((List.replicate j iC) ++ [[.slice none 0 0, .int .i64 1, .int .i64 0]]) ((List.replicate j nC) ++ [[.int .u64 7]]) ((List.replicate j sC) ++ [[.string ⟨#[120]⟩]]) ((List.replicate j tC) ++ [[.int .i64 1, .int .i64 0]])) #[.slice Aa ma qa, .slice (some ⟨g, 0, none⟩) m1 q1, .slice Ad md qd, .slice Ab mb qb, .slice Ac mc qc] we := ⟨_, hse⟩
             have Se := Lib.hid hse
             have xe0 : we.cell? ⟨w.heap.size + 1 + 1, 0, none⟩ = some (.slice Aa ma qa) := hse.mod.cell 0
             have xe1 : we.cell? ⟨w.heap.size + 1 + 1, 1, none⟩ = some (.slice (some ⟨g, 0, none⟩) m1 q1) := hse.mod.cell 1
             have xe2 : we.cell? ⟨w.heap.size + 1 + 1, 2, none⟩ = some (.slice Ad md qd) := hse.mod.cell 2
             have xe3 : we.cell? ⟨w.heap.size + 1 + 1, 3, none⟩ = some (.slice Ab mb qb) := hse.mod.cell 3
             have xe4 : we.cell? ⟨w.heap.size + 1 + 1, 4, none⟩ = some (.slice Ac mc qc) := hse.mod.cell 4
             have fe0 : we.frozen? ⟨w.heap.size + 1 + 1, 0, none⟩ = false := hse.mod.frozen 0
             have fe1 : we.frozen? ⟨w.heap.size + 1 + 1, 1, none⟩ = false := hse.mod.frozen 1
             have fe2 : we.frozen? ⟨w.heap.size + 1 + 1, 2, none⟩ = false := hse.mod.frozen 2
             have fe3 : we.frozen? ⟨w.heap.size + 1 + 1, 3, none⟩ = false := hse.mod.frozen 3
             have fe4 : we.frozen? ⟨w.heap.size + 1 + 1, 4, none⟩ = false := hse.mod.frozen 4
             have hze := hse.sz
             have ye0 : we.cell? ⟨w.heap.size, 0, none⟩ = some (.int .i64 1) := hse.num.cell 0
             have ye1 : we.cell? ⟨w.heap.size, 1, none⟩ = some (.int .i64 0) := hse.num.cell 1
             have ze3 : we.cell? ⟨g, 3, none⟩ = some (.slice A5 m5 q5) := (hse.fcell rfl rfl (p := 3) rfl).1
             have ze4 : we.frozen? ⟨g, 3, none⟩ = false := (hse.fcell rfl rfl (p := 3) rfl).2
             have hsf := hse.cell (g := g) (n := m1) (cap := q1) (p := 3) (u := .slice Ae me qe) rfl rfl rfl (by omega)
             rw [upd_vec1] at hsf
             have Sf : Hid (Nm w.heap.size w tge (vec .nilFunc (.slice Aa ma qa) (.slice (some ⟨g, 0, none⟩) m1 q1) (.slice Ad md qd) (.slice Ab mb qb) (.slice Ac mc qc) (.slice Ae me qe)) (vec [] ((cR) ++ [[.slice (some ⟨wr.heap.size, 0, none⟩) 1 1]]) (fC (.slice Ae me qe) (.slice none 0 0) :: cF) ((List.replicate j iC) ++ [[.slice none 0 0, .int .i64 1, .int .i64 0]]) ((List.replicate j nC) ++ [[.int .u64 7]]) ((List.replicate j sC) ++ [[.string ⟨#[120]⟩]]) ((List.replicate j tC) ++ [[.int .i64 1, .int .i64 0]])) #[.slice Aa ma qa, .slice (some ⟨g, 0, none⟩) m1 q1, .slice Ad md qd, .slice Ab mb qb, .slice Ac mc qc] (we.setCell ⟨g, 3, none⟩ (.slice Ae me qe))) := hsf
             clear hsf
             clear howne hge h5e hse))
        all_goals
          go_wp2_with fail
          go_meet
          exact ⟨rfl, _, _, _, _, Sf.out⟩
      case rest =>
        obtain ⟨rfl, tge, Ae, me, qe, hsf⟩ := hcut
        have Sf := Lib.hid hsf
        have xf0 : wc.cell? ⟨w.heap.size + 1 + 1, 0, none⟩ = some (.slice Aa ma qa) := hsf.mod.cell 0
        have xf1 : wc.cell? ⟨w.heap.size + 1 + 1, 1, none⟩ = some (.slice (some ⟨g, 0, none⟩) m1 q1) := hsf.mod.cell 1
        have xf2 : wc.cell? ⟨w.heap.size + 1 + 1, 2, none⟩ = some (.slice Ad md qd) := hsf.mod.cell 2
        have xf3 : wc.cell? ⟨w.heap.size + 1 + 1, 3, none⟩ = some (.slice Ab mb qb) := hsf.mod.cell 3
        have xf4 : wc.cell? ⟨w.heap.size + 1 + 1, 4, none⟩ = some (.slice Ac mc qc) := hsf.mod.cell 4
        have ff0 : wc.frozen? ⟨w.heap.size + 1 + 1, 0, none⟩ = false := hsf.mod.frozen 0
        have ff1 : wc.frozen? ⟨w.heap.size + 1 + 1, 1, none⟩ = false := hsf.mod.frozen 1
        have ff2 : wc.frozen? ⟨w.heap.size + 1 + 1, 2, none⟩ = false := hsf.mod.frozen 2
        have ff3 : wc.frozen? ⟨w.heap.size + 1 + 1, 3, none⟩ = false := hsf.mod.frozen 3
        have ff4 : wc.frozen? ⟨w.heap.size + 1 + 1, 4, none⟩ = false := hsf.mod.frozen 4
        have hzf := hsf.sz
        have yf0 : wc.cell? ⟨w.heap.size, 0, none⟩ = some (.int .i64 1) := hsf.num.cell 0
        have yf1 : wc.cell? ⟨w.heap.size, 1, none⟩ = some (.int .i64 0) := hsf.num.cell 1
        clear hsf kx1 kx3 ky0 ky1 ka1 ka3 KA KB k0 k1 HY SX hC1 Sa Sb Sc Sd H8 HS
        have hcF9 : cF.length ≤ 8 := by have := HcF.out; omega
        by_cases hj0 : 0 < j
        · have hj0' : (0 : Int) < (j : Int) := by omega
          have H14 := Lib.hid ((Sf.out.alloc 7 (.cells iA 44) (fun h => by cases h) (fun _ => rfl)).alloc 10 (.cells #[.slice none 0 0, .int .i64 1, .int .i64 0, .slice none 0 0, .slice (some ⟨wc.heap.size, 0, none⟩) 1 1] 38) (fun h => by cases h) (fun h => by cases h))
          go_wp2_with (first
            | (at_builtin
               refine walk_append_raw 5 _ rfl (.tmp 69) (.tmp 74) 23 38 rfl (.agg #[.slice none 0 0, .int .i64 0, .int .i64 0, .slice none 0 0, .slice none 0 0]) 88 Try.underlying23 inf_fn rfl (by decide) (by decide) (w.heap.size + 1) (.slice (some ⟨g, 0, none⟩) m1 q1) (fC (.slice Ae me qe) (.slice none 0 0) :: cF).length (fC (.slice Ae me qe) (.slice none 0 0) :: cF).flatten rfl
                 (H14.out.row 1 (by omega)).1 ⟨wc.heap.size + 1, 0, none⟩ 1 rfl [.slice none 0 0, .int .i64 1, .int .i64 0, .slice none 0 0, .slice (some ⟨wc.heap.size, 0, none⟩) 1 1] rfl (cell_at (wc.alloc _) 38 [.slice none 0 0, .int .i64 1, .int .i64 0, .slice none 0 0, .slice (some ⟨wc.heap.size, 0, none⟩) 1 1] _ (by simp)) (by simp [Value.oneCell']) (by first | omega | (simp; omega)) (by first | omega | (simp; omega)) ?_
               intro vh wh hownh hgh h5h
               have hsh := H14.out.app (i := 1) (by omega) hownh hgh h5h (fun h => by cases h) (fun _ => ⟨wc.heap.size, (by simp; omega), (by simp), rfl⟩)
               rw [upd_vec1, upd_vec1] at hsh
               obtain ⟨Ah, mh, qh, rfl⟩ := raw_shape hownh
               obtain ⟨tgh, hsh⟩ : ∃ tg', Nm w.heap.size w tg' (vec .nilFunc (.slice Aa ma qa) (.slice Ah mh qh) (.slice Ad md qd) (.slice Ab mb qb) (.slice Ac mc qc) (.slice Ae me qe)) (vec [] ((cR) ++ [[.slice (some ⟨wr.heap.size, 0, none⟩) 1 1]]) ((fC (.slice Ae me qe) (.slice none 0 0) :: cF) ++ [[.slice none 0 0, .int .i64 1, .int .i64 0, .slice none 0 0, .slice (some ⟨wc.heap.size, 0, none⟩) 1 1]]) ((List.replicate j iC) ++ [[.slice none 0 0, .int .i64 1, .int .i64 0]]) ((List.replicate j nC) ++ [[.int .u64 7]]) ((List.replicate j sC) ++ [[.string ⟨#[120]⟩]]) ((List.replicate j tC) ++ [[.int .i64 1, .int .i64 0]])) #[.slice Aa ma qa, .slice (some ⟨g, 0, none⟩) m1 q1, .slice Ad md qd, .slice Ab mb qb, .slice Ac mc qc] wh := ⟨_, hsh⟩
               have Sh := Lib.hid hsh
               have xh0 : wh.cell? ⟨w.heap.size + 1 + 1, 0, none⟩ = some (.slice Aa ma qa) := hsh.mod.cell 0
               have xh1 : wh.cell? ⟨w.heap.size + 1 + 1, 1, none⟩ = some (.slice (some ⟨g, 0, none⟩) m1 q1) := hsh.mod.cell 1
               have xh2 : wh.cell? ⟨w.heap.size + 1 + 1, 2, none⟩ = some (.slice Ad md qd) := hsh.mod.cell 2
               have xh3 : wh.cell? ⟨w.heap.size + 1 + 1, 3, none⟩ = some (.slice Ab mb qb) := hsh.mod.cell 3
               have xh4 : wh.cell? ⟨w.heap.size + 1 + 1, 4, none⟩ = some (.slice Ac mc qc) := hsh.mod.cell 4
               have fh0 : wh.frozen? ⟨w.heap.size + 1 + 1, 0, none⟩ = false := hsh.mod.frozen 0
               have fh1 : wh.frozen? ⟨w.heap.size + 1 + 1, 1, none⟩ = false := hsh.mod.frozen 1
               have fh2 : wh.frozen? ⟨w.heap.size + 1 + 1, 2, none⟩ = false := hsh.mod.frozen 2
               have fh3 : wh.frozen? ⟨w.heap.size + 1 + 1, 3, none⟩ = false := hsh.mod.frozen 3
               have fh4 : wh.frozen? ⟨w.heap.size + 1 + 1, 4, none⟩ = false := hsh.mod.frozen 4
               have hzh := hsh.sz
               have yh0 : wh.cell? ⟨w.heap.size, 0, none⟩ = some (.int .i64 1) := hsh.num.cell 0
               have yh1 : wh.cell? ⟨w.heap.size, 1, none⟩ = some (.int .i64 0) := hsh.num.cell 1
               clear hownh hgh h5h hsh))
          refine ⟨⟨j + 1, by omega, by simp, tgh, .slice Aa ma qa, .slice Ah mh qh, .slice Ad md qd, .slice Ab mb qb, .slice Ac mc qc, .slice Ae me qe, cR ++ [[.slice (some ⟨wr.heap.size, 0, none⟩) 1 1]], cF ++ [[.slice none 0 0, .int .i64 1, .int .i64 0, .slice none 0 0, .slice (some ⟨wc.heap.size, 0, none⟩) 1 1]], ?_, ?_, ?_⟩, by simp [intOf]; omega⟩
          · simp [HcR.out]
          · have := HcF.out
            simp
            omega
          · rw [List.replicate_succ', List.replicate_succ', List.replicate_succ', List.replicate_succ']
            exact Sh.out.put1 _
        · have hj0' : ¬ (0 : Int) < (j : Int) := by omega
          have hj0d : decide ((0 : Int) < (j : Int)) = false := by simp; omega
          go_wp2_with fail
          refine ⟨⟨j + 1, by omega, by simp, tge, .slice Aa ma qa, .slice (some ⟨g, 0, none⟩) m1 q1, .slice Ad md qd, .slice Ab mb qb, .slice Ac mc qc, .slice Ae me qe, cR ++ [[.slice (some ⟨wr.heap.size, 0, none⟩) 1 1]], cF, ?_, ?_, ?_⟩, by simp [intOf]; omega⟩
          · simp [HcR.out]
          · have := HcF.out
            omega
          · rw [List.replicate_succ', List.replicate_succ', List.replicate_succ', List.replicate_succ']
            exact Sf.out
    · obtain rfl : j = k + 1 := by omega
      have hlt' : ¬ ((k + 1 : Nat) : Int) ≤ (k : Int) := by omega
      have hltd : decide (((k + 1 : Nat) : Int) ≤ (k : Int)) = false := by simp; omega
      have hk8 : (k : Int) ≤ 7 := by omega
      have hk0 : (0 : Int) ≤ (k : Int) := by omega
      have HcF2 : Hid (cF.length = k) := by show cF.length = k; have := HcF.out; omega
      replace HcF := HcF2
      clear HcF2
      have cr : ∀ o : Obj, (wr.alloc o).cell? ⟨g, 4, none⟩ = some (.slice none 0 0) := fun o => ((HS.out.alloc 10 o (fun h => by cases h) (fun h => by cases h)).fcell (g := g) (m := m1) (q := q1) rfl rfl (p := 4) rfl).1
      have dr : ∀ o : Obj, (wr.alloc o).frozen? ⟨g, 4, none⟩ = false := fun o => ((HS.out.alloc 10 o (fun h => by cases h) (fun h => by cases h)).fcell (g := g) (m := m1) (q := q1) rfl rfl (p := 4) rfl).2
      have zr0 : ∀ (t : Nat) (o : Array Value) (u : Value), ((wr.alloc (.cells o t)).setCell ⟨g, 4, none⟩ u).cell? ⟨w.heap.size + 1 + 1, 0, none⟩ = some (.slice A0 m0 q0) := fun t o u => (by obtain ⟨tg', h1, -⟩ := HS.out.code1 (u := u) t o; exact h1.mod.cell 0)
      have zzr0 : ∀ (t : Nat) (o : Array Value) (u : Value), ((wr.setCell ⟨g, 4, none⟩ u).alloc (.cells o t)).cell? ⟨w.heap.size + 1 + 1, 0, none⟩ = some (.slice A0 m0 q0) := fun t o u => (by obtain ⟨tg', h1, -⟩ := HS.out.code2 (u := u) t o; exact h1.mod.cell 0)
      have zr1 : ∀ (t : Nat) (o : Array Value) (u : Value), ((wr.alloc (.cells o t)).setCell ⟨g, 4, none⟩ u).cell? ⟨w.heap.size + 1 + 1, 1, none⟩ = some (.slice (some ⟨g, 0, none⟩) m1 q1) := fun t o u => (by obtain ⟨tg', h1, -⟩ := HS.out.code1 (u := u) t o; exact h1.mod.cell 1)
      have zzr1 : ∀ (t : Nat) (o : Array Value) (u : Value), ((wr.setCell ⟨g, 4, none⟩ u).alloc (.cells o t)).cell? ⟨w.heap.size + 1 + 1, 1, none⟩ = some (.slice (some ⟨g, 0, none⟩) m1 q1) := fun t o u => (by obtain ⟨tg', h1, -⟩ := HS.out.code2 (u := u) t o; exact h1.mod.cell 1)
      have zr2 : ∀ (t : Nat) (o : Array Value) (u : Value), ((wr.alloc (.cells o t)).setCell ⟨g, 4, none⟩ u).cell? ⟨w.heap.size + 1 + 1, 2, none⟩ = some (.slice A2 m2 q2) := fun t o u => (by obtain ⟨tg', h1, -⟩ := HS.out.code1 (u := u) t o; exact h1.mod.cell 2)
      have zzr2 : ∀ (t : Nat) (o : Array Value) (u : Value), ((wr.setCell ⟨g, 4, none⟩ u).alloc (.cells o t)).cell? ⟨w.heap.size + 1 + 1, 2, none⟩ = some (.slice A2 m2 q2) := fun t o u => (by obtain ⟨tg', h1, -⟩ := HS.out.code2 (u := u) t o; exact h1.mod.cell 2)
      have zr3 : ∀ (t : Nat) (o : Array Value) (u : Value), ((wr.alloc (.cells o t)).setCell ⟨g, 4, none⟩ u).cell? ⟨w.heap.size + 1 + 1, 3, none⟩ = some (.slice A3 m3 q3) := fun t o u => (by obtain ⟨tg', h1, -⟩ := HS.out.code1 (u := u) t o; exact h1.mod.cell 3)
      have zzr3 : ∀ (t : Nat) (o : Array Value) (u : Value), ((wr.setCell ⟨g, 4, none⟩ u).alloc (.cells o t)).cell? ⟨w.heap.size + 1 + 1, 3, none⟩ = some (.slice A3 m3 q3) := fun t o u => (by obtain ⟨tg', h1, -⟩ := HS.out.code2 (u := u) t o; exact h1.mod.cell 3)
      have zr4 : ∀ (t : Nat) (o : Array Value) (u : Value), ((wr.alloc (.cells o t)).setCell ⟨g, 4, none⟩ u).cell? ⟨w.heap.size + 1 + 1, 4, none⟩ = some (.slice A4 m4 q4) := fun t o u => (by obtain ⟨tg', h1, -⟩ := HS.out.code1 (u := u) t o; exact h1.mod.cell 4)
      have zzr4 : ∀ (t : Nat) (o : Array Value) (u : Value), ((wr.setCell ⟨g, 4, none⟩ u).alloc (.cells o t)).cell? ⟨w.heap.size + 1 + 1, 4, none⟩ = some (.slice A4 m4 q4) := fun t o u => (by obtain ⟨tg', h1, -⟩ := HS.out.code2 (u := u) t o; exact h1.mod.cell 4)
      go_wp2_with fail
      refine calls_world fun X1 hX => ?_
      obtain ⟨tgx1, hsx, hbx⟩ : ∃ tg', Nm w.heap.size w tg' (vec .nilFunc (.slice A0 m0 q0) (.slice (some ⟨g, 0, none⟩) m1 q1) (.slice A2 m2 q2) (.slice A3 m3 q3) (.slice A4 m4 q4) (.slice A5 m5 q5)) (vec [] (cR) (fC (.slice A5 m5 q5) (.slice (some ⟨wr.heap.size, 0, none⟩) 1 1) :: cF) (List.replicate (k + 1) iC) (List.replicate (k + 1) nC) (List.replicate (k + 1) sC) (List.replicate (k + 1) tC)) #[.slice A0 m0 q0, .slice (some ⟨g, 0, none⟩) m1 q1, .slice A2 m2 q2, .slice A3 m3 q3, .slice A4 m4 q4] X1 ∧ Blk X1 wr.heap.size 44 #[.int .i64 op, .int .i64 ((k : Int)), .int .i64 0] := by
        rw [hX]
        first | exact HS.out.code1 44 #[.int .i64 op, .int .i64 ((k : Int)), .int .i64 0] | exact HS.out.code2 44 #[.int .i64 op, .int .i64 ((k : Int)), .int .i64 0]
      have SX1 := Lib.hid hsx
      have SL1 := Lib.hid (nm_laid (a := (k : Int)) hsx hbx HcR.out HcF.out HI.out (by unfold I64; omega))
      clear hX hsx hbx cr dr zr0 zzr0 zr1 zzr1 zr2 zzr2 zr3 zzr3 zr4 zzr4
      refine (check_any _ (nmod k op ((k : Int))) X1 SL1.out).mono ?_
      rintro e w5 ⟨he, hb⟩
      rw [HN.out.1] at he
      subst he
      have hs1 := SX1.out.below hb
      obtain ⟨tgy1, hs1⟩ : ∃ tg', Nm w.heap.size w tg' (vec .nilFunc (.slice A0 m0 q0) (.slice (some ⟨g, 0, none⟩) m1 q1) (.slice A2 m2 q2) (.slice A3 m3 q3) (.slice A4 m4 q4) (.slice A5 m5 q5)) (vec [] (cR) (fC (.slice A5 m5 q5) (.slice (some ⟨wr.heap.size, 0, none⟩) 1 1) :: cF) (List.replicate (k + 1) iC) (List.replicate (k + 1) nC) (List.replicate (k + 1) sC) (List.replicate (k + 1) tC)) #[.slice A0 m0 q0, .slice (some ⟨g, 0, none⟩) m1 q1, .slice A2 m2 q2, .slice A3 m3 q3, .slice A4 m4 q4] w5 := ⟨_, hs1⟩
      have SY1 := Lib.hid hs1
      clear hb
      have xs0 : w5.cell? ⟨w.heap.size + 1 + 1, 0, none⟩ = some (.slice A0 m0 q0) := hs1.mod.cell 0
      have xs1 : w5.cell? ⟨w.heap.size + 1 + 1, 1, none⟩ = some (.slice (some ⟨g, 0, none⟩) m1 q1) := hs1.mod.cell 1
      have xs2 : w5.cell? ⟨w.heap.size + 1 + 1, 2, none⟩ = some (.slice A2 m2 q2) := hs1.mod.cell 2
      have xs3 : w5.cell? ⟨w.heap.size + 1 + 1, 3, none⟩ = some (.slice A3 m3 q3) := hs1.mod.cell 3
      have xs4 : w5.cell? ⟨w.heap.size + 1 + 1, 4, none⟩ = some (.slice A4 m4 q4) := hs1.mod.cell 4
      have fs0 : w5.frozen? ⟨w.heap.size + 1 + 1, 0, none⟩ = false := hs1.mod.frozen 0
      have fs1 : w5.frozen? ⟨w.heap.size + 1 + 1, 1, none⟩ = false := hs1.mod.frozen 1
      have fs2 : w5.frozen? ⟨w.heap.size + 1 + 1, 2, none⟩ = false := hs1.mod.frozen 2
      have fs3 : w5.frozen? ⟨w.heap.size + 1 + 1, 3, none⟩ = false := hs1.mod.frozen 3
      have fs4 : w5.frozen? ⟨w.heap.size + 1 + 1, 4, none⟩ = false := hs1.mod.frozen 4
      have hzs := hs1.sz
      have ys0 : w5.cell? ⟨w.heap.size, 0, none⟩ = some (.int .i64 1) := hs1.num.cell 0
      have ys1 : w5.cell? ⟨w.heap.size, 1, none⟩ = some (.int .i64 0) := hs1.num.cell 1
      have cs : ∀ o : Obj, (w5.alloc o).cell? ⟨g, 4, none⟩ = some (.slice (some ⟨wr.heap.size, 0, none⟩) 1 1) := fun o => ((SY1.out.alloc 10 o (fun h => by cases h) (fun h => by cases h)).fcell (g := g) (m := m1) (q := q1) rfl rfl (p := 4) rfl).1
      have ds : ∀ o : Obj, (w5.alloc o).frozen? ⟨g, 4, none⟩ = false := fun o => ((SY1.out.alloc 10 o (fun h => by cases h) (fun h => by cases h)).fcell (g := g) (m := m1) (q := q1) rfl rfl (p := 4) rfl).2
      have zs0 : ∀ (t : Nat) (o : Array Value) (u : Value), ((w5.alloc (.cells o t)).setCell ⟨g, 4, none⟩ u).cell? ⟨w.heap.size + 1 + 1, 0, none⟩ = some (.slice A0 m0 q0) := fun t o u => (by obtain ⟨tg', h1, -⟩ := SY1.out.code1 (u := u) t o; exact h1.mod.cell 0)
      have zzs0 : ∀ (t : Nat) (o : Array Value) (u : Value), ((w5.setCell ⟨g, 4, none⟩ u).alloc (.cells o t)).cell? ⟨w.heap.size + 1 + 1, 0, none⟩ = some (.slice A0 m0 q0) := fun t o u => (by obtain ⟨tg', h1, -⟩ := SY1.out.code2 (u := u) t o; exact h1.mod.cell 0)
      have zs1 : ∀ (t : Nat) (o : Array Value) (u : Value), ((w5.alloc (.cells o t)).setCell ⟨g, 4, none⟩ u).cell? ⟨w.heap.size + 1 + 1, 1, none⟩ = some (.slice (some ⟨g, 0, none⟩) m1 q1) := fun t o u => (by obtain ⟨tg', h1, -⟩ := SY1.out.code1 (u := u) t o; exact h1.mod.cell 1)
      have zzs1 : ∀ (t : Nat) (o : Array Value) (u : Value), ((w5.setCell ⟨g, 4, none⟩ u).alloc (.cells o t)).cell? ⟨w.heap.size + 1 + 1, 1, none⟩ = some (.slice (some ⟨g, 0, none⟩) m1 q1) := fun t o u => (by obtain ⟨tg', h1, -⟩ := SY1.out.code2 (u := u) t o; exact h1.mod.cell 1)
      have zs2 : ∀ (t : Nat) (o : Array Value) (u : Value), ((w5.alloc (.cells o t)).setCell ⟨g, 4, none⟩ u).cell? ⟨w.heap.size + 1 + 1, 2, none⟩ = some (.slice A2 m2 q2) := fun t o u => (by obtain ⟨tg', h1, -⟩ := SY1.out.code1 (u := u) t o; exact h1.mod.cell 2)
      have zzs2 : ∀ (t : Nat) (o : Array Value) (u : Value), ((w5.setCell ⟨g, 4, none⟩ u).alloc (.cells o t)).cell? ⟨w.heap.size + 1 + 1, 2, none⟩ = some (.slice A2 m2 q2) := fun t o u => (by obtain ⟨tg', h1, -⟩ := SY1.out.code2 (u := u) t o; exact h1.mod.cell 2)
      have zs3 : ∀ (t : Nat) (o : Array Value) (u : Value), ((w5.alloc (.cells o t)).setCell ⟨g, 4, none⟩ u).cell? ⟨w.heap.size + 1 + 1, 3, none⟩ = some (.slice A3 m3 q3) := fun t o u => (by obtain ⟨tg', h1, -⟩ := SY1.out.code1 (u := u) t o; exact h1.mod.cell 3)
      have zzs3 : ∀ (t : Nat) (o : Array Value) (u : Value), ((w5.setCell ⟨g, 4, none⟩ u).alloc (.cells o t)).cell? ⟨w.heap.size + 1 + 1, 3, none⟩ = some (.slice A3 m3 q3) := fun t o u => (by obtain ⟨tg', h1, -⟩ := SY1.out.code2 (u := u) t o; exact h1.mod.cell 3)
      have zs4 : ∀ (t : Nat) (o : Array Value) (u : Value), ((w5.alloc (.cells o t)).setCell ⟨g, 4, none⟩ u).cell? ⟨w.heap.size + 1 + 1, 4, none⟩ = some (.slice A4 m4 q4) := fun t o u => (by obtain ⟨tg', h1, -⟩ := SY1.out.code1 (u := u) t o; exact h1.mod.cell 4)
      have zzs4 : ∀ (t : Nat) (o : Array Value) (u : Value), ((w5.setCell ⟨g, 4, none⟩ u).alloc (.cells o t)).cell? ⟨w.heap.size + 1 + 1, 4, none⟩ = some (.slice A4 m4 q4) := fun t o u => (by obtain ⟨tg', h1, -⟩ := SY1.out.code2 (u := u) t o; exact h1.mod.cell 4)
      clear hs1
      go_wp2_with fail
      refine calls_world fun X2 hX => ?_
      obtain ⟨tgx2, hsx, hbx⟩ : ∃ tg', Nm w.heap.size w tg' (vec .nilFunc (.slice A0 m0 q0) (.slice (some ⟨g, 0, none⟩) m1 q1) (.slice A2 m2 q2) (.slice A3 m3 q3) (.slice A4 m4 q4) (.slice A5 m5 q5)) (vec [] (cR) (fC (.slice A5 m5 q5) (.slice (some ⟨w5.heap.size, 0, none⟩) 1 1) :: cF) (List.replicate (k + 1) iC) (List.replicate (k + 1) nC) (List.replicate (k + 1) sC) (List.replicate (k + 1) tC)) #[.slice A0 m0 q0, .slice (some ⟨g, 0, none⟩) m1 q1, .slice A2 m2 q2, .slice A3 m3 q3, .slice A4 m4 q4] X2 ∧ Blk X2 w5.heap.size 44 #[.int .i64 op, .int .i64 ((k : Int) + 1), .int .i64 0] := by
        rw [hX]
        first | exact SY1.out.code1 44 #[.int .i64 op, .int .i64 ((k : Int) + 1), .int .i64 0] | exact SY1.out.code2 44 #[.int .i64 op, .int .i64 ((k : Int) + 1), .int .i64 0]
      have SX2 := Lib.hid hsx
      have SL2 := Lib.hid (nm_laid (a := (k : Int) + 1) hsx hbx HcR.out HcF.out HI.out (by unfold I64; omega))
      clear hX hsx hbx cs ds zs0 zzs0 zs1 zzs1 zs2 zzs2 zs3 zzs3 zs4 zzs4
      refine (check_any _ (nmod k op ((k : Int) + 1)) X2 SL2.out).mono ?_
      rintro e w6 ⟨he, hb⟩
      rw [HN.out.2] at he
      subst he
      have hs2 := SX2.out.below hb
      obtain ⟨tgy2, hs2⟩ : ∃ tg', Nm w.heap.size w tg' (vec .nilFunc (.slice A0 m0 q0) (.slice (some ⟨g, 0, none⟩) m1 q1) (.slice A2 m2 q2) (.slice A3 m3 q3) (.slice A4 m4 q4) (.slice A5 m5 q5)) (vec [] (cR) (fC (.slice A5 m5 q5) (.slice (some ⟨w5.heap.size, 0, none⟩) 1 1) :: cF) (List.replicate (k + 1) iC) (List.replicate (k + 1) nC) (List.replicate (k + 1) sC) (List.replicate (k + 1) tC)) #[.slice A0 m0 q0, .slice (some ⟨g, 0, none⟩) m1 q1, .slice A2 m2 q2, .slice A3 m3 q3, .slice A4 m4 q4] w6 := ⟨_, hs2⟩
      have SY2 := Lib.hid hs2
      clear hb
      have HB6 := Lib.hid hs2.low
      clear hs2
      go_wp2_with fail
      refine (AN.out w6).mono ?_
      rintro e w7 ⟨rfl, hb7⟩
      have HB7 := Lib.hid (HB6.out.trans (hb7.mono HB6.out.size))
      clear hb7
      go_wp2_with fail
      go_ret
      exact ⟨rfl, HB7.out⟩

set_option maxRecDepth 100000 in
theorem lifted (os : Os) (started : os.Started) (H : Type) (enc : TypeId × Value → H) :
    ReturnsInHanded {} Try.checked os 4 .any (Rows.saneNamesSpec.pre6 enc Try.prog Try.f4 Rows.saneNamesRow.domain false) (Rows.saneNamesSpec.post enc Try.prog Try.f4 false true false false) := by
  refine returnsInHanded_of_change (C := Try.checked) own started (by kernel_rfl) Try.func4
    (ChangeSpec.witness6 (enc := enc) (C := Try.checked) false ⟨#[], #[.int .u8 0, .int .u8 0], []⟩ 8 (by kernel_rfl) (by kernel_rfl) (by kernel_rfl) (by kernel_rfl)) ?_
  intro W base args ds gs before hval0 hW hcnd _
  have hval : ∀ (j : Nat) t v, Try.f4.params[j]? = some t → args[j]? = some v → Value.okWide Try.prog W .any base t v := hval0
  have hW' := hW
  obtain ⟨p, q, hA0, hV, rfl, hfz, hnd⟩ := hW
  have hA : DataW.TrodAll enc Try.prog W 0 (fun _ => true) true Try.f4.params.toList args.toList ds p := hA0
  rw [Try.params4] at hA hval
  obtain ⟨v0, vs0, d0, ds0, p0, q0, hargs, rfl, rfl, h0, r0⟩ := trodAll_cons hA
  obtain ⟨v1, vs1, d1, ds1, p1, q1, rfl, rfl, rfl, h1, r1⟩ := trodAll_cons r0
  obtain ⟨rfl, rfl, rfl⟩ := trodAll_nil r1
  obtain rfl : args = #[v0, v1] := by cases args; simp_all
  obtain ⟨rfl, rfl⟩ := trodVars_none hV
  obtain ⟨a0, rfl, rfl, rfl, w0⟩ := open_int Try.underlying5 (hval 0 5 v0 rfl rfl) h0
  obtain ⟨a1, rfl, rfl, rfl, w1⟩ := open_int Try.underlying5 (hval 1 5 v1 rfl rfl) h1
  clear hA0 hval0
  simp only [List.append_nil] at hW'
  refine (walk a0 a1 W (bounds_u8 w0) (bounds_u8 w1)).mono fun e W' ⟨he, bel⟩ => ?_
  subst he
  exact ⟨_, rfl, _, _, _, [], _, [], hW', trodAll_mk1 (shut_bool Try.underlying4 _), (trodAll_cons_mk (shut_int Try.underlying5 w0) (trodAll_cons_mk (shut_int Try.underlying5 w1) trodAll_mk0)), rfl, bel.frame _, fun h => by cases h⟩

theorem over : Rows.saneNamesRow.holds Try.pinned (OpenSpec.ofChange Rows.saneNamesSpec) :=
  OpenClaim.holds_of_wide 4 Try.f4 rfl rfl rfl rfl rfl rfl rfl ⟨rfl, rfl, rfl, rfl, rfl⟩ rfl rfl rfl rfl rfl (by kernel_rfl) Try.func4 (by kernel_rfl)
    (of_decide_eq_true (by kernel_rfl)) (by unfold Func.isWrapper; first | (rw [if_pos (by decide +kernel)]; kernel_rfl) | (rw [if_neg (by decide +kernel)]; exact ⟨rfl, rfl⟩))
    (fun os started H enc _ => lifted os started H enc)

/-- The statement. -/
theorem proved : Rows.SaneNamesSaid := over
end Go.Proofs.Ytpgfbnilnoopoaa.saneNames
