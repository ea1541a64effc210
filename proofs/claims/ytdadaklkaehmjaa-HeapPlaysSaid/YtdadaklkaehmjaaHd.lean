/-
  What heap.Cost, the document's Cost and heap.copied do.
  Conditions: as each theorem says.
-/
import Derived.Test.YtdadaklkaehmjaaHc
namespace Go.Proofs.Ytdadaklkaehmjaa
open Go.RowKit
set_option linter.unusedSimpArgs false
set_option linter.unusedVariables false

set_option maxRecDepth 100000 in
theorem cost_any {S : Nat → Prop} (cs : List Value) (o : Ob) (w : World) (h : obL.R S w cs o) (hz : o.small) : Calls Try.prog 13 #[vAgg cs] w fun e w' => e = .returned (.int .i64 o.cost) ∧ Below w.heap.size w w' := by
  obtain ⟨A, c, B, d, rfl, -⟩ := ob_parts h
  obtain ⟨z0, z1⟩ := hz
  unfold Ob.cost
  generalize o.words.length = p at *
  generalize o.bytes.length = q at *
  show Calls Try.prog 13 #[.agg #[.int .i64 o.kind, .int .i64 o.n, .slice A p c, .slice B q d]] w _
  generalize o.kind = kk at *
  generalize o.n = nn at *
  go_enter Try.func13, Try.ntmps13
  go_wp2
  go_ret
  exact ⟨ret_int (k := .i64) (by omega), (Below.refl _ _).alloc (Nat.le_refl _) _⟩
set_option maxRecDepth 100000 in
theorem rcost_any {S : Nat → Prop} (cs : List Value) (o : Ob) (w : World) (h : obL.R S w cs o) (hz : o.small) : Calls Try.prog 12 #[vAgg cs] w fun e w' => e = .returned (.int .i64 o.cost) ∧ Below w.heap.size w w' := by
  obtain ⟨A, c, B, d, rfl, -⟩ := ob_parts h
  obtain ⟨z0, z1⟩ := hz
  unfold Ob.cost
  generalize o.words.length = p at *
  generalize o.bytes.length = q at *
  show Calls Try.prog 12 #[.agg #[.int .i64 o.kind, .int .i64 o.n, .slice A p c, .slice B q d]] w _
  generalize o.kind = kk at *
  generalize o.n = nn at *
  go_enter Try.func12, Try.ntmps12
  go_wp2
  go_ret
  exact ⟨ret_int (k := .i64) (by omega), (Below.refl _ _).alloc (Nat.le_refl _) _⟩

/-- Only cells of blocks from lo to hi were written. -/
structure Tch (lo hi : Nat) (a b : World) : Prop where
  os : b.os = a.os
  tape : b.tape = a.tape
  output : b.output = a.output
  size : b.heap.size = a.heap.size
  block : ∀ k, k < lo ∨ hi ≤ k → b.heap[k]? = a.heap[k]?
theorem Tch.refl (lo hi : Nat) (a : World) : Tch lo hi a a := ⟨rfl, rfl, rfl, rfl, fun _ _ => rfl⟩
theorem Tch.set {lo hi : Nat} {a b : World} (h : Tch lo hi a b) {g i : Nat} {u : Value} (h1 : lo ≤ g) (h2 : g < hi) : Tch lo hi a (b.setCell ⟨g, i, none⟩ u) :=
  ⟨h.os, h.tape, h.output, by simpa [World.setCell] using h.size, fun k hk => (Below.heap_setCell _ _ _ _ (by show k ≠ g; omega)).trans (h.block k hk)⟩
theorem Tch.below {lo hi : Nat} {a b : World} (h : Tch lo hi a b) : Below lo a b := ⟨h.os, h.tape, h.output, by rw [h.size]; exact Nat.le_refl _, fun k hk => h.block k (.inl hk)⟩
/-- What was cloned is the copy's own. -/
theorem copied_end {w W w1 w2 wf : World} {o : Ob} {v1 v2 : Value} {p q : Nat} (hs : W.heap.size = w.heap.size + 2) (h1 : Below W.heap.size W w1) (h2 : Below w1.heap.size w1 w2) (o1 : w1.ownsRow W.heap.size 31 1 v1 p (Ns o.words)) (o2 : w2.ownsRow w1.heap.size 5 1 v2 q (Bs o.bytes))
    (hx : (∀ x ∈ o.bytes, x < 256) ∧ (∀ x ∈ o.words, x < B64) ∧ I64 o.kind ∧ I64 o.n) {kk nn : Int} (ek : o.kind = kk) (en : o.n = nn) (hf : Tch w.heap.size W.heap.size w2 wf) :
    Obj1 (fun b => w.heap.size ≤ b ∧ b < w1.heap.size) (fun b => w1.heap.size ≤ b ∧ b < wf.heap.size) wf [.int .i64 kk, .int .i64 nn, v1, v2] o := by
  subst ek en
  have hfs := hf.size
  have s1 := h1.size
  have s2 := h2.size
  refine ⟨v1, v2, rfl, hx.2.2.1, hx.2.2.2, hx.2.1, hx.1, ?_, ?_⟩
  · exact ((Part.of_own o1).keep fun b hb => (hf.block b (.inr hb.1)).trans (h2.block b hb.2)).wide fun b _ hb => ⟨by omega, hb.2⟩
  · exact ((Part.of_own o2).keep fun b hb => hf.block b (by omega)).wide fun b _ hb => ⟨hb.1, by omega⟩

set_option maxRecDepth 100000 in
set_option maxHeartbeats 2000000 in
theorem copied_any (cs : List Value) (o : Ob) (w : World) (h : obL.R (· < w.heap.size) w cs o) (hz : o.small) : Calls Try.prog 25 #[vAgg cs] w fun e w' =>
    ∃ cs' m, e = .returned (vAgg cs') ∧ (w.heap.size ≤ m ∧ m ≤ w'.heap.size) ∧ Obj1 (fun b => w.heap.size ≤ b ∧ b < m) (fun b => m ≤ b ∧ b < w'.heap.size) w' cs' o ∧ Below w.heap.size w w' := by
  obtain ⟨A, c, B, d, rfl, -, -, -, -, hW, hB, hB2, hk, hn⟩ := ob_parts h
  have HW := Lib.hid hW
  have HB := Lib.hid hB
  have HX : Hid ((∀ x ∈ o.bytes, x < 256) ∧ (∀ x ∈ o.words, x < B64) ∧ I64 o.kind ∧ I64 o.n) := ⟨hB2, num_lt hW, hk, hn⟩
  obtain ⟨z0, z1⟩ := hz
  obtain ⟨p, hp⟩ : ∃ p, o.words.length = p := ⟨_, rfl⟩
  obtain ⟨q, hq⟩ : ∃ q, o.bytes.length = q := ⟨_, rfl⟩
  show Calls Try.prog 25 #[.agg #[.int .i64 o.kind, .int .i64 o.n, .slice A o.words.length c, .slice B o.bytes.length d]] w _
  rw [hp] at z0 ⊢
  rw [hq] at z1 ⊢
  have HP := Lib.hid hp
  have HQ := Lib.hid hq
  clear h hW hB hB2 hk hn hp hq
  obtain ⟨kk, ek⟩ : ∃ k, o.kind = k := ⟨_, rfl⟩
  obtain ⟨nn, en⟩ : ∃ k, o.n = k := ⟨_, rfl⟩
  rw [ek, en]
  have EK := Lib.hid ek
  have EN := Lib.hid en
  clear ek en
  go_enter Try.func25, Try.ntmps25
  go_upto_region 1 with (fail)
  refine wp_world fun W hWd => ?_
  have b0 : Blk W w.heap.size 28 #[.int .i64 kk, .int .i64 nn, .slice A p c, .slice B q d] := by rw [hWd]; exact blk_keep (blk_at rfl)
  have b1 : Blk W (w.heap.size + 1) 28 #[.int .i64 0, .int .i64 0, .slice none 0 0, .slice none 0 0] := by rw [hWd]; exact blk_at (by simp)
  have hs : W.heap.size = w.heap.size + 2 := by rw [hWd]; simp
  have HBW : Hid (Below w.heap.size w W) := by show Below _ _ _; rw [hWd]; exact ((Below.refl _ _).alloc (Nat.le_refl _) _).alloc (by simp) _
  have H0 := Lib.hid b0
  have H1 := Lib.hid b1
  clear hWd
  have c00 := b0.cell 0
  have c01 := b0.cell 1
  have c02 := b0.cell 2
  have c03 := b0.cell 3
  have fr1 := fun (V : World) (hb : Below W.heap.size W V) (i : Nat) => (hb.frozen (p := ⟨w.heap.size + 1, i, none⟩) (by show w.heap.size + 1 < _; omega)).trans (b1.frozen i)
  have fr := fun (V : World) (hb : Below W.heap.size W V) (i : Nat) => (hb.frozen (p := ⟨w.heap.size, i, none⟩) (by show w.heap.size < _; omega)).trans (b0.frozen i)
  clear b0 b1
  go_region_with (first
    | (go_at_call 30
       refine (clone_nums A p c o.words W.drew HP.out ((HW.out.keep fun b hb => HBW.out.block b hb).wide fun b hb => (by show b < W.heap.size; omega)) (by omega)).mono ?_
       rintro e w1 ⟨v1, rfl, hown1, hb1'⟩
       have hb1 : Below W.heap.size W w1 := (Below.refl _ W).drew.trans hb1'
       obtain ⟨A1, n1, c1, rfl⟩ := raw_shape hown1
       have HO1 : Hid (w1.ownsRow W.heap.size 31 1 (.slice A1 n1 c1) p (Ns o.words)) := hown1
       have HB1 := Lib.hid hb1
       have s1 : W.heap.size ≤ w1.heap.size := hb1.size
       have c10 := (hb1.cell (p := ⟨w.heap.size, 3, none⟩) (by show w.heap.size < _; omega)).trans c03
       clear hown1 hb1 hb1')
    | (go_at_call 31
       refine (clone_byts B q d o.bytes w1 HQ.out ((HB.out.keep fun b hb => (HB1.out.block b (by omega)).trans (HBW.out.block b hb)).wide fun b hb => (by omega)) (by omega)).mono ?_
       rintro e w2 ⟨v2, rfl, hown2, hb2⟩
       obtain ⟨A2, n2, c2, rfl⟩ := raw_shape hown2
       have HO2 := Lib.hid hown2
       have HB2 := Lib.hid hb2
       have s2 := hb2.size
       have g0 := (((hb2.mono HB1.out.size).cell (p := ⟨w.heap.size, 0, none⟩) (by show w.heap.size < _; omega)).trans (HB1.out.cell (p := ⟨w.heap.size, 0, none⟩) (by show w.heap.size < _; omega))).trans c00
       have g1 := (((hb2.mono HB1.out.size).cell (p := ⟨w.heap.size, 1, none⟩) (by show w.heap.size < _; omega)).trans (HB1.out.cell (p := ⟨w.heap.size, 1, none⟩) (by show w.heap.size < _; omega))).trans c01
       have g2 := (((hb2.mono HB1.out.size).cell (p := ⟨w.heap.size, 2, none⟩) (by show w.heap.size < _; omega)).trans (HB1.out.cell (p := ⟨w.heap.size, 2, none⟩) (by show w.heap.size < _; omega))).trans c02
       have g3 := (((hb2.mono HB1.out.size).cell (p := ⟨w.heap.size, 3, none⟩) (by show w.heap.size < _; omega)).trans (HB1.out.cell (p := ⟨w.heap.size, 3, none⟩) (by show w.heap.size < _; omega))).trans c03
       have f0 := fr w2 (HB1.out.trans (hb2.mono HB1.out.size)) 2
       have f1 := fr w2 (HB1.out.trans (hb2.mono HB1.out.size)) 3
       have r0 := fr1 w2 (HB1.out.trans (hb2.mono HB1.out.size)) 0
       have r1 := fr1 w2 (HB1.out.trans (hb2.mono HB1.out.size)) 1
       have r2 := fr1 w2 (HB1.out.trans (hb2.mono HB1.out.size)) 2
       have r3 := fr1 w2 (HB1.out.trans (hb2.mono HB1.out.size)) 3
       have q0 := ((hb2.mono HB1.out.size).cell (p := ⟨w.heap.size + 1, 0, none⟩) (by show w.heap.size + 1 < _; omega)).trans ((HB1.out.cell (p := ⟨w.heap.size + 1, 0, none⟩) (by show w.heap.size + 1 < _; omega)).trans (H1.out.cell 0))
       have q1 := ((hb2.mono HB1.out.size).cell (p := ⟨w.heap.size + 1, 1, none⟩) (by show w.heap.size + 1 < _; omega)).trans ((HB1.out.cell (p := ⟨w.heap.size + 1, 1, none⟩) (by show w.heap.size + 1 < _; omega)).trans (H1.out.cell 1))
       have q2 := ((hb2.mono HB1.out.size).cell (p := ⟨w.heap.size + 1, 2, none⟩) (by show w.heap.size + 1 < _; omega)).trans ((HB1.out.cell (p := ⟨w.heap.size + 1, 2, none⟩) (by show w.heap.size + 1 < _; omega)).trans (H1.out.cell 2))
       have q3 := ((hb2.mono HB1.out.size).cell (p := ⟨w.heap.size + 1, 3, none⟩) (by show w.heap.size + 1 < _; omega)).trans ((HB1.out.cell (p := ⟨w.heap.size + 1, 3, none⟩) (by show w.heap.size + 1 < _; omega)).trans (H1.out.cell 3))
       clear hown2 hb2))
  all_goals (go_wp2_with fail)
  all_goals (
    refine bodyPost_ret (v := .agg #[.int .i64 kk, .int .i64 nn, .slice A1 n1 c1, .slice A2 n2 c2]) (by simp [results, Try.results25, go_sem, g0, g1, g2, g3, q0, q1, q2, q3]) rfl ⟨[.int .i64 kk, .int .i64 nn, .slice A1 n1 c1, .slice A2 n2 c2], w1.heap.size, rfl, ⟨by omega, by simpa [World.setCell] using s2⟩, ?_, ?_⟩
    · refine copied_end hs HB1.out HB2.out HO1.out HO2.out HX.out EK.out EN.out ?_
      repeat (with_reducible refine Tch.set ?_ (by omega) (by omega))
      exact Tch.refl _ _ _
    · refine (HBW.out.trans ((HB1.out.mono (by omega)).trans (HB2.out.mono (by omega)))).trans (Tch.below (hi := W.heap.size) ?_)
      repeat (with_reducible refine Tch.set ?_ (by omega) (by omega))
      exact Tch.refl _ _ _)
theorem copied_flat (cs : List Value) (o : Ob) (w : World) (h : obL.R (· < w.heap.size) w cs o) (hz : o.small) : Calls Try.prog 25 #[vAgg cs] w fun e w' =>
    ∃ A c B d m, e = .returned (.agg #[.int .i64 o.kind, .int .i64 o.n, .slice A o.words.length c, .slice B o.bytes.length d]) ∧ (w.heap.size ≤ m ∧ m ≤ w'.heap.size) ∧ Obj1 (fun b => w.heap.size ≤ b ∧ b < m) (fun b => m ≤ b ∧ b < w'.heap.size) w' [.int .i64 o.kind, .int .i64 o.n, .slice A o.words.length c, .slice B o.bytes.length d] o ∧ Below w.heap.size w w' := by
  refine (copied_any cs o w h hz).mono ?_
  rintro e w' ⟨cs', m, rfl, hm, ho, hb⟩
  obtain ⟨A, c, B, d, rfl, -, -⟩ := ho.parts
  exact ⟨A, c, B, d, m, rfl, hm, ho, hb⟩
end Go.Proofs.Ytdadaklkaehmjaa
