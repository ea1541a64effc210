/-
  What a table's Use, Close and Open do.
  Conditions: as each theorem says.
-/
import Derived.Test.YthahfhmkgkfoaaaHt
namespace Go.Proofs.Ythahfhmkgkfoaaa
open Go.RowKit
set_option linter.unusedSimpArgs false
set_option linter.unusedVariables false

theorem opnB_some {H : List Hnd} {n : Nat} (h : opnB H n = true) : ∃ x, H[n]? = some x ∧ x.opn = true := by
  unfold opnB at h
  cases hx : H[n]? with
  | none => rw [hx] at h; cases h
  | some x => rw [hx] at h; exact ⟨x, rfl, h⟩
/-- What Use answers. -/
def useA (H : List Hnd) (n : Nat) : Nat × Int :=
  match H[n]? with
  | none => (0, 7)
  | some h => if h.opn = true then (h.desc, 0) else (0, 7)
theorem useA_yes {H : List Hnd} {n : Nat} {x : Hnd} (h : H[n]? = some x) (ho : x.opn = true) : useA H n = (x.desc, 0) := by
  unfold useA
  rw [h]
  exact if_pos ho
theorem useA_no {H : List Hnd} {n : Nat} (h : opnB H n = false) : useA H n = (0, 7) := by
  unfold opnB at h
  unfold useA
  cases hx : H[n]? with
  | none => rfl
  | some x =>
    rw [hx] at h
    have h : x.opn = false := h
    simp [h]
/-- The handles with n closed. -/
def closeH (H : List Hnd) (n : Nat) : List Hnd :=
  match H[n]? with
  | none => H
  | some h => H.set n { h with opn := false }
theorem closeH_len (H : List Hnd) (n : Nat) : (closeH H n).length = H.length := by
  unfold closeH
  cases H[n]? <;> simp
theorem closeH_at {H : List Hnd} {n : Nat} {x : Hnd} (h : H[n]? = some x) : closeH H n = H.set n { x with opn := false } := by
  unfold closeH
  rw [h]

set_option maxRecDepth 100000 in
theorem use_nil (n : Nat) (w : World) : Calls Try.prog 10 #[.pointer none, .int .u64 (n : Int)] w fun e w' => e = .returned (.tuple #[.int .u64 0, .int .i64 7]) ∧ w = w' := by
  go_enter Try.func10, Try.ntmps10
  go_wp2_with (first
    | (go_at_call 15
       refine (isOpen_nil n w).mono ?_
       rintro e w1 ⟨rfl, rfl⟩))
  go_ret2
  exact ⟨rfl, rfl⟩
set_option maxRecDepth 100000 in
set_option maxHeartbeats 400000 in
theorem use_any {S : Nat → Prop} {H : List Hnd} (g n : Nat) (w : World) (h : IsTb S w g H) (hn : H.length ≤ 1000000) (h64 : n < B64) :
    Calls Try.prog 10 #[.pointer (some ⟨g, 0, none⟩), .int .u64 (n : Int)] w fun e w' => e = .returned (.tuple #[.int .u64 ((useA H n).1 : Int), .int .i64 (useA H n).2]) ∧ w = w' := by
  have HI := Lib.hid (isOpen_any g n w h hn h64)
  obtain ⟨v, hb, -, -, -, hO, ok⟩ := h
  obtain ⟨A, c, rfl, -, -, -⟩ := hds_sl hO ok
  have c0 := hb.cell 0
  unfold B64 at h64
  cases ho : opnB H n with
  | false =>
    rw [useA_no ho]
    rw [ho] at HI
    clear hO
    generalize H.length = m at *
    go_enter Try.func10, Try.ntmps10
    go_wp2_with (first
      | (go_at_call 15
         refine HI.out.mono ?_
         rintro e w1 ⟨rfl, rfl⟩))
    go_ret2
    exact ⟨rfl, rfl⟩
  | true =>
    rw [ho] at HI
    obtain ⟨x, hx, hxo⟩ := opnB_some ho
    rw [useA_yes hx hxo]
    have hm : n < H.length := (List.getElem?_eq_some_iff.1 hx).1
    obtain ⟨gr, rfl, -, -, -, -, k1, -, -⟩ := hds_at hO hx
    clear hO hx ho hxo
    generalize H.length = m at *
    generalize x.desc = dd at *
    have hlt : (n : Int) < (m : Int) := by omega
    go_enter Try.func10, Try.ntmps10
    go_wp2_with (first
      | (go_at_call 15
         refine HI.out.mono ?_
         rintro e w1 ⟨rfl, rfl⟩))
    go_ret2
    exact ⟨rfl, rfl⟩

set_option maxRecDepth 100000 in
theorem close_nil (n : Nat) (w : World) : Calls Try.prog 11 #[.pointer none, .int .u64 (n : Int)] w fun e w' => e = .returned (.int .i64 7) ∧ w = w' := by
  go_enter Try.func11, Try.ntmps11
  go_wp2_with (first
    | (go_at_call 15
       refine (isOpen_nil n w).mono ?_
       rintro e w1 ⟨rfl, rfl⟩))
  go_ret
  exact ⟨rfl, rfl⟩
/-- Where none is open nothing is closed. -/
theorem close_no {S : Nat → Prop} {H : List Hnd} (g n : Nat) (w : World) (h : IsTb S w g H) (hn : H.length ≤ 1000000) (h64 : n < B64) (ho : opnB H n = false) :
    Calls Try.prog 11 #[.pointer (some ⟨g, 0, none⟩), .int .u64 (n : Int)] w fun e w' => e = .returned (.int .i64 7) ∧ w = w' := by
  have HI := Lib.hid (isOpen_any g n w h hn h64)
  rw [ho] at HI
  clear h ho
  unfold B64 at h64
  go_enter Try.func11, Try.ntmps11
  go_wp2_with (first
    | (go_at_call 15
       refine HI.out.mono ?_
       rintro e w1 ⟨rfl, rfl⟩))
  go_ret
  exact ⟨rfl, rfl⟩
set_option maxRecDepth 100000 in
set_option maxHeartbeats 400000 in
theorem close_yes {S : Nat → Prop} {H : List Hnd} (g n : Nat) (w : World) (h : IsTb S w g H) (hn : H.length ≤ 1000000) (h64 : n < B64) (ho : opnB H n = true) :
    Calls Try.prog 11 #[.pointer (some ⟨g, 0, none⟩), .int .u64 (n : Int)] w fun e w' => e = .returned (.int .i64 0) ∧ IsTb S w' g (closeH H n) ∧ Trn S w w' ∧ w'.heap.size = w.heap.size := by
  have HI := Lib.hid (isOpen_any g n w h hn h64)
  rw [ho] at HI
  have HT := Lib.hid h
  obtain ⟨v, hb, hg, hgv, hS, hO, ok⟩ := h
  obtain ⟨A, c, rfl, -, -, -⟩ := hds_sl hO ok
  have c0 := hb.cell 0
  unfold B64 at h64
  obtain ⟨x, hx, hxo⟩ := opnB_some ho
  have hm : n < H.length := (List.getElem?_eq_some_iff.1 hx).1
  have HO := Lib.hid hO
  have HX := Lib.hid hx
  obtain ⟨gr, rfl, -, -, -, -, k1, k2, kf⟩ := hds_at hO hx
  have kf := kf (n * 3 + 2)
  have HS := Lib.hid hS
  have HB := Lib.hid hb
  have HG := Lib.hid (And.intro hg hgv)
  have OK := Lib.hid ok
  clear hO hx ho hxo hS hb hg hgv ok
  obtain ⟨m, em⟩ : ∃ m, H.length = m := ⟨_, rfl⟩
  have EM := Lib.hid em
  rw [em] at hn hm c0
  clear em
  have hlt : (n : Int) < (m : Int) := by omega
  have go : ∀ {P : Prop}, (∀ (W : World), W = w.setCell ⟨gr, n * 3 + 2, none⟩ (.bool false) → P) → P := fun f => f _ rfl
  have HZ : Hid (IsTb S (w.setCell ⟨gr, n * 3 + 2, none⟩ (.bool false)) g (closeH H n) ∧ Trn S w (w.setCell ⟨gr, n * 3 + 2, none⟩ (.bool false)) ∧ (w.setCell ⟨gr, n * 3 + 2, none⟩ (.bool false)).heap.size = w.heap.size) := by
    have hsg : S gr := HS.out gr rfl
    refine ⟨⟨.slice (some ⟨gr, 0, none⟩) H.length c, ?_, HG.out.1, HG.out.2, HS.out, ?_, ?_⟩, (Trn.refl S w).set hsg _, by simp [World.setCell]⟩
    · exact blk_other HB.out fun (e : g = gr) => HG.out.2 (by rw [e]; rfl)
    · have := (HO.out.stored (n * 3 + 2) (.bool false)).1
      rw [Hcs_set HX.out (by omega) (.bool false) (h' := { x with opn := false }) rfl] at this
      rw [closeH_at HX.out, List.length_set]
      exact this
    · rw [closeH_at HX.out]
      exact OK.out.set n (x := { x with opn := false }) (OK.out x (List.mem_of_getElem? HX.out))
  try rw [EM.out] at *
  go_enter Try.func11, Try.ntmps11
  go_wp2_with (first
    | (go_at_call 15
       refine HI.out.mono ?_
       rintro e w1 ⟨rfl, rfl⟩))
  go_ret
  exact ⟨rfl, HZ.out⟩

theorem open_nil (k : Int) (n : Nat) (w : World) : Calls Try.prog 9 #[.pointer none, .int .i64 k, .int .u64 (n : Int)] w fun e w' => e = .returned (.tuple #[.int .u64 0, .bool false]) ∧ w = w' := by
  go_enter Try.func9, Try.ntmps9
  go_wp2
  go_ret2
  exact ⟨rfl, rfl⟩
set_option maxRecDepth 100000 in
theorem open_full {S : Nat → Prop} {H : List Hnd} (g : Nat) (k : Int) (n : Nat) (w : World) (h : IsTb S w g H) (hn : H.length ≤ 1000000) (hf : 16 ≤ H.length) :
    Calls Try.prog 9 #[.pointer (some ⟨g, 0, none⟩), .int .i64 k, .int .u64 (n : Int)] w fun e w' => e = .returned (.tuple #[.int .u64 0, .bool false]) ∧ w = w' := by
  obtain ⟨v, hb, hg, hgv, hS, hO, ok⟩ := h
  obtain ⟨A, c, rfl, -, -, -⟩ := hds_sl hO ok
  have c0 := hb.cell 0
  clear hO
  generalize H.length = m at *
  have hlt : (16 : Int) ≤ (m : Int) := by omega
  go_enter Try.func9, Try.ntmps9
  go_wp2
  go_ret2
  exact ⟨rfl, rfl⟩
theorem hd_lit (w : World) (x : Hnd) : ∀ j u, (hdC x)[j]? = some u → (w.alloc (.cells (hdC x).toArray 31)).cell? ((⟨w.heap.size, 0, none⟩ : Addr).add j) = some u := cell_new w _ _
set_option maxRecDepth 100000 in
set_option maxHeartbeats 1000000 in
theorem open_fits {S : Nat → Prop} {H : List Hnd} (g : Nat) (k : Int) (n : Nat) (w : World) (h : IsTb S w g H) (hf : H.length < 16) (hk : I64 k) (h64 : n < B64) (hSl : ∀ b, S b → b < w.heap.size) :
    Calls Try.prog 9 #[.pointer (some ⟨g, 0, none⟩), .int .i64 k, .int .u64 (n : Int)] w fun e w' => e = .returned (.tuple #[.int .u64 (H.length : Int), .bool true]) ∧ IsTb (fun b => S b ∨ (w.heap.size ≤ b ∧ b < w'.heap.size)) w' g (H ++ [⟨k, n, true⟩]) ∧ Trn S w w' := by
  obtain ⟨v, hb, hg, hgv, hS, hO, ok⟩ := h
  obtain ⟨A, c, rfl, hc1, hc2, -⟩ := hds_sl hO ok
  have hgl := hb.lt
  have c0 := hb.cell 0
  have f0 := hb.frozen 0
  have HO := Lib.hid hO
  have HS := Lib.hid hS
  have HB := Lib.hid hb
  have HG := Lib.hid (And.intro hg hgv)
  have OK := Lib.hid ok
  have HSl := Lib.hid hSl
  have HKk : Hid (I64 k ∧ n < B64) := ⟨hk, h64⟩
  clear hO hS hg hgv ok hSl hk hb
  obtain ⟨m, em⟩ : ∃ m, H.length = m := ⟨_, rfl⟩
  have EM := Lib.hid em
  rw [em] at c0 hf hc1 HB HO ⊢
  clear em
  have hlt : (m : Int) < 16 := by omega
  go_enter Try.func9, Try.ntmps9
  go_wp2_with (at_builtin
               refine walk_append_raw 3 _ rfl (.tmp 22) (.tmp 26) 22 31 rfl (.agg #[.int .i64 0, .int .u64 0, .bool false]) 24 Try.underlying22 hd_info rfl (by decide) (by omega) 0 (.slice A m c) m (Hcs H) rfl (raw_below HO.out ((Below.refl _ _).alloc (Nat.le_refl _) _) (Nat.le_refl _)) ⟨w.heap.size, 0, none⟩ 1 rfl (hdC ⟨k, n, true⟩) rfl (hd_lit w ⟨k, n, true⟩) (hdC_one _) (by omega) (Nat.zero_le _) ?_
               intro v2 w2 hown2 hg2 hv2
               rw [← Hcs_one, ← Hcs_app] at hown2
               have hb2 : Blk w2 g 47 #[.slice A m c] := (hg2.block g (by simp; omega) fun e => HG.out.2 (by rw [EM.out]; exact e.symm)).trans (blk_keep HB.out)
               have HB2 := Lib.hid hb2
               have HO2 := Lib.hid hown2
               have HG2 := Lib.hid hg2
               have HV2 := Lib.hid hv2
               obtain ⟨A2, m2, c2, rfl⟩ := raw_shape hown2
               obtain rfl : m2 = m + 1 := by
                 rcases hown2.2 with ⟨e, h0⟩ | ⟨g', cap, cur, e, -⟩
                 · omega
                 · simp only [Value.slice.injEq] at e; exact e.2.1
               have k0 := hb2.cell 0
               have q0 := hb2.frozen 0
               have hs2 : w.heap.size + 1 ≤ w2.heap.size := by have := hg2.size; simpa using this
               clear hown2 hg2 hv2 hb2)
  go_ret2
  have hA : (Value.slice A m c).ownBlock = (Value.slice A H.length c).ownBlock := by rw [EM.out]
  have hne : ∀ b, (Value.slice A2 (m + 1) c2).ownBlock = some b → b ≠ g ∧ (S b ∨ (w.heap.size ≤ b ∧ b < w2.heap.size)) := fun b e => by
    have hlt := (HO2.out.lt b e).2
    rcases HV2.out with q | q
    · have q' : (Value.slice A H.length c).ownBlock = some b := by rw [← hA, ← q, e]
      exact ⟨fun e2 => HG.out.2 (by rw [q', e2]), .inl (HS.out b q')⟩
    · rw [e] at q
      have q : b = w.heap.size + 1 := by simpa using q
      exact ⟨by omega, .inr ⟨by omega, hlt⟩⟩
  have hT : Trn S w w2 := (Trn.of_below ((Below.refl w.heap.size w).alloc (Nat.le_refl _) _)).trans (T := S) ⟨HG2.out.os, HG2.out.tape, HG2.out.output, HG2.out.size, fun b hb hn => HG2.out.block b hb fun e => hn (HS.out b (by rw [← hA]; exact e.symm))⟩ fun _ _ q => q
  refine ⟨by simp, ⟨.slice A2 (m + 1) c2, HB2.out.set 0 _, .inl HG.out.1, fun e => (hne g e).1 rfl, fun b e => ?_, ?_, OK.out.app ?_⟩, hT.set HG.out.1 _⟩
  · rcases (hne b e).2 with q | q
    · exact .inl q
    · exact .inr ⟨q.1, by simpa [World.setCell] using q.2⟩
  · rw [List.length_append, EM.out]
    exact ownr_keep HO2.out fun b e => Below.heap_setCell _ _ _ _ (hne b e).1
  · intro x hx
    simp at hx
    subst hx
    exact HKk.out
end Go.Proofs.Ythahfhmkgkfoaaa
