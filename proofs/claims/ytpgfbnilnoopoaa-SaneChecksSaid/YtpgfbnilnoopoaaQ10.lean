/-
  What pack.Join does. Conditions: as the theorem says (which parts lie there, and that they come to at most a million bytes).
  What module's Encode does: the bytes of a module that fits. Conditions: none but that there is a module.
  Words for the document's Module: its types' answer in one shape, modules that are small, cells of one block beside a row that is appended to. Conditions: as each theorem says.
-/
import Derived.Test.YtpgfbnilnoopoaaQ02
import Derived.Test.YtpgfbnilnoopoaaQ04
import Derived.Test.YtpgfbnilnoopoaaQ05
import Derived.Test.YtpgfbnilnoopoaaQ06
import Derived.Test.YtpgfbnilnoopoaaQ08
import Derived.Test.YtpgfbnilnoopoaaQ09
import Derived.Deep.DeepCutAuto
import Derived.Deep.RegionHeld3
namespace Go.Proofs.Ytpgfbnilnoopoaa
open Go.RowKit

set_option maxRecDepth 100000 in
set_option maxHeartbeats 1000000 in
theorem join_any (A : Option Addr) (n c : Nat) (xss : List (List Nat)) (w : World) (hl : xss.length = n) (hR : Rws (· < w.heap.size) w A xss) (hn : (joinB xss).length ≤ 1000000) :
    Calls Try.prog 27 #[.slice A n c] w fun e w' => ∃ v, e = .returned v ∧ w'.ownsRow w.heap.size 5 1 v (joinB xss).length (Bs (joinB xss)) ∧ Below w.heap.size w w' := by
  have hn2 : n ≤ 1000000 := by have := pts_many xss; rw [joinB_length] at hn; omega
  have HN := Lib.hid hn
  have HL := Lib.hid hl
  have HR := Lib.hid hR
  clear hl hR hn
  have hn3 : n < B64 := by unfold B64; omega
  go_enter Try.func27, Try.ntmps27
  go_wp2_with fail
  refine (var_any n w hn3).mono ?_
  rintro e w1 ⟨u1, rfl, hown1, hb1⟩
  have HO1 := Lib.hid hown1
  have HB1 := Lib.hid hb1
  clear hown1 hb1
  go_wp2_with fail
  go_loopw [3, 12] (fun s i wr => ∃ k : Nat, k ≤ n ∧ i = .int .i64 (k : Nat) ∧ (∃ q, q = vb n ++ pts (xss.take k) ∧ q.length ≤ 1000000 ∧ wr.ownsRow w.heap.size 5 1 s q.length (Bs q)) ∧ Below w.heap.size w wr) (fun _ i _ => n - (intOf i).toNat)
  case atStart =>
    refine ⟨0, Nat.zero_le _, rfl, ⟨_, rfl, ?_, ?_⟩, HB1.out⟩
    · have := HN.out
      rw [joinB_length, HL.out] at this
      simp [pts]
      omega
    · simpa [pts] using HO1.out
  case round =>
    obtain ⟨k, hk, rfl, ⟨q, hq, hq2, hown⟩, hbel⟩ := hrel
    have HO := Lib.hid hown
    have HB := Lib.hid hbel
    have HQ := Lib.hid hq
    have hs := hbel.size
    clear hown hbel hq
    by_cases hlt : k < n
    · obtain ⟨a, B, c2, rfl, hab, hcell, _, hBy⟩ := HR.out.at (k := k) (by rw [HL.out]; exact hlt)
      have hcell2 := (HB.out.cell (p := a.add k) (by rw [addBlock]; exact hab)).trans hcell
      have HF := Lib.hid (pts_take xss k (by rw [HL.out]; exact hlt))
      have hle2 := pts_le xss (k + 1)
      rw [HF.out, List.length_append, pt_length] at hle2
      obtain ⟨x, hx⟩ : ∃ x, xss[k]?.getD [] = x := ⟨_, rfl⟩
      rw [hx] at hcell hle2 hcell2 hBy
      have HX := Lib.hid hx
      have HY := Lib.hid hBy
      clear hx hcell hBy
      have hq3 : q.length + (vb x.length).length + x.length ≤ 1000000 := by
        have := HN.out
        rw [joinB_length, HL.out] at this
        rw [HQ.out, List.length_append]
        omega
      clear hle2
      have hx64 : x.length < B64 := by unfold B64; omega
      go_wp2_with fail
      refine (var_any x.length wr hx64).mono ?_
      rintro e w2 ⟨u2, rfl, hown2, hb2⟩
      obtain ⟨A2, c3, rfl, -, -, -, hB2⟩ := own_slice hown2
      have HB2 := Lib.hid hB2
      have Hb2 := Lib.hid hb2
      have HO2 := Lib.hid (own_below HO.out hb2 (Nat.le_refl _))
      have hs2 := hb2.size
      clear hown2 hB2 hb2
      go_wp2_with (first
        | (at_builtin
           refine walk_append _ rfl (.tmp 16) (.tmp 20) rfl w.heap.size u3 q.length q rfl HO2.out A2 (vb x.length).length c3 (vb x.length) rfl rfl _ HB2.out (by omega) (by omega) ?_
           intro v3 w3 hown3 hg3 _
           have HO3 := Lib.hid hown3
           have HG3 := Lib.hid hg3
           have HB3 := Lib.hid ((HB.out.trans (Hb2.out.mono (by omega))).grown hg3 (by omega) (fun i hi => (HO.out.lt i hi).1))
           have hs3 := hg3.size
           clear hown3 hg3)
        | (at_builtin
           refine walk_append _ rfl (.tmp 22) (.tmp 23) rfl w.heap.size v3 (q.length + (vb x.length).length) (q ++ vb x.length) rfl HO3.out B x.length c2 x rfl rfl (· < w.heap.size) (HY.out.below HB3.out (Nat.le_refl _)) (by omega) (by omega) ?_
           intro v4 w4 hown4 hg4 _
           have HO4 := Lib.hid hown4
           have HG4 := Lib.hid hg4
           clear hown4 hg4))
      refine ⟨⟨k + 1, by omega, by simp, ⟨q ++ vb x.length ++ x, ?_, ?_, ?_⟩, HB3.out.grown HG4.out (by omega) (fun i hi => (HO3.out.lt i hi).1)⟩, by simp [intOf]; omega⟩
      · rw [HF.out, HQ.out, HX.out, pt]
        simp [List.append_assoc]
      · simp [List.length_append]
        omega
      · have e : (q ++ vb x.length ++ x).length = q.length + (vb x.length).length + x.length := by simp [List.length_append]; omega
        rw [e]
        exact HO4.out
    · obtain rfl : k = n := by omega
      go_wp2_with fail
      go_ret
      refine ⟨_, rfl, ?_, HB.out⟩
      have e : joinB xss = q := by
        rw [HQ.out, List.take_of_length_le (by rw [HL.out]; exact Nat.le_refl _), joinB, HL.out]
      rw [e]
      exact HO.out
end Go.Proofs.Ytpgfbnilnoopoaa
namespace Go.Proofs.Ytpgfbnilnoopoaa
open Go.RowKit
set_option linter.unusedSimpArgs false
set_option linter.unusedVariables false

theorem rws_five (w : World) (A0 A1 A2 A3 A4 : Option Addr) (c0 c1 c2 c3 c4 : Nat) (x0 x1 x2 x3 x4 : List Nat) (h0 : Yb w A0 c0 x0) (h1 : Yb w A1 c1 x1) (h2 : Yb w A2 c2 x2) (h3 : Yb w A3 c3 x3) (h4 : Yb w A4 c4 x4) :
    Rws (· < (w.alloc (.cells #[.slice A0 x0.length c0, .slice A1 x1.length c1, .slice A2 x2.length c2, .slice A3 x3.length c3, .slice A4 x4.length c4] 49)).heap.size)
      (w.alloc (.cells #[.slice A0 x0.length c0, .slice A1 x1.length c1, .slice A2 x2.length c2, .slice A3 x3.length c3, .slice A4 x4.length c4] 49)) (some ⟨w.heap.size, 0, none⟩) [x0, x1, x2, x3, x4] := fun _ => by
  refine ⟨_, rfl, by simp, fun j hj => ?_⟩
  have hk : ∀ o : Obj, ∀ b, b < w.heap.size → (w.alloc o).heap[b]? = w.heap[b]? := fun o b hb => Below.heap_alloc w _ b hb
  have e : (⟨w.heap.size, 0, none⟩ : Addr).add j = ⟨w.heap.size, j, none⟩ := by unfold Addr.add; split <;> simp_all
  rw [e, World.cell?_alloc_mark]
  match j, hj with
  | 0, _ => exact ⟨A0, c0, rfl, h0.1, (h0.2.keep (hk _)).wide fun b hb => by simp; omega⟩
  | 1, _ => exact ⟨A1, c1, rfl, h1.1, (h1.2.keep (hk _)).wide fun b hb => by simp; omega⟩
  | 2, _ => exact ⟨A2, c2, rfl, h2.1, (h2.2.keep (hk _)).wide fun b hb => by simp; omega⟩
  | 3, _ => exact ⟨A3, c3, rfl, h3.1, (h3.2.keep (hk _)).wide fun b hb => by simp; omega⟩
  | 4, _ => exact ⟨A4, c4, rfl, h4.1, (h4.2.keep (hk _)).wide fun b hb => by simp; omega⟩
  | j + 5, hj => exact absurd hj (by simp)

/-- What Encode answers. -/
def Encodes (m : Mod) (w : World) (e : Ending) (w' : World) : Prop :=
  Below w.heap.size w w' ∧ ((fitB m = false ∧ e = .returned (.tuple #[.slice none 0 0, .int .i64 2])) ∨
    (fitB m = true ∧ ∃ u, e = .returned (.tuple #[u, .int .i64 0]) ∧ w'.ownsRow w.heap.size 5 1 u (modB m).length (Bs (modB m))))

set_option maxRecDepth 100000 in
set_option maxHeartbeats 4000000 in
theorem encode_any (cs : List Value) (x : Mod) (w : World) (h : modL.R (· < w.heap.size) w cs x) : Calls Try.prog 14 #[vAgg cs] w (Encodes x w) := by
  have TF : Hid (∀ w1, Below w.heap.size w w1 → Calls Try.prog 26 #[vAgg cs] w1 (Tells (fitB x) w1)) := fun w1 hb => fits_any cs x w1 (modL.wide (modL.keep h fun b hb1 => hb.block b hb1) fun b hb1 => Nat.lt_of_lt_of_le hb1 hb.size)
  obtain ⟨_, _, _, _, _, rfl, ⟨A0, d0, e0, l0, m0, s0⟩, ⟨A1, d1, e1, l1, m1, s1⟩, ⟨A2, d2, e2, l2, m2, s2⟩, ⟨A3, d3, e3, l3, m3, s3⟩, ⟨A4, d4, e4, l4, m4, s4⟩⟩ := h
  simp only [List.cons.injEq, and_true] at e0 e1 e2 e3 e4
  subst e0 e1 e2 e3 e4
  have TF2 : Hid (∀ w1, Below w.heap.size w w1 → Calls Try.prog 26 #[.agg #[.slice A0 x.recs.length d0, .slice A1 x.funcs.length d1, .slice A2 x.imps.length d2, .slice A3 x.ints.length d3, .slice A4 x.texts.length d4]] w1 (Tells (fitB x) w1)) := TF.out
  clear TF
  show Calls Try.prog 14 #[.agg #[.slice A0 x.recs.length d0, .slice A1 x.funcs.length d1, .slice A2 x.imps.length d2, .slice A3 x.ints.length d3, .slice A4 x.texts.length d4]] w (Encodes x w)
  have HB0 : Hid (∀ o : Obj, Below w.heap.size w (w.alloc o)) := fun o => (Below.refl _ _).alloc (Nat.le_refl _) _
  cases hf : fitB x
  · rw [hf] at TF2
    have HF := Lib.hid hf
    generalize x.recs.length = n0 at *
    generalize x.funcs.length = n1 at *
    generalize x.imps.length = n2 at *
    generalize x.ints.length = n3 at *
    generalize x.texts.length = n4 at *
    clear hf s0 s1 s2 s3 s4 m0 m1 m2 m3 m4
    go_enter Try.func14, Try.ntmps14
    go_wp2_with (first
      | (go_at_call 26
         refine (TF2.out _ (HB0.out _)).mono ?_
         rintro e w1 ⟨rfl, hb1⟩
         have HB1 := Lib.hid ((HB0.out _).trans (hb1.mono (by simp)))
         clear hb1))
    go_ret2
    exact ⟨HB1.out, .inl ⟨HF.out, rfl⟩⟩
  · rw [hf] at TF2
    have hF := fitB_iff.1 hf
    have HF := Lib.hid hf
    have hpl := hF.parts_len
    have p0 := hpl 0 (by simp [partsB])
    have p1 := hpl 1 (by simp [partsB])
    have p2 := hpl 2 (by simp [partsB])
    have p3 := hpl 3 (by simp [partsB])
    have p4 := hpl 4 (by simp [partsB])
    simp [partsB] at p0 p1 p2 p3 p4
    have r8 := hF.r8
    have f8 := hF.f8
    have i8 := hF.i8
    have n16 := hF.n16
    have t16 := hF.t16
    obtain ⟨n0, h0⟩ : ∃ n, x.recs.length = n := ⟨_, rfl⟩
    obtain ⟨n1, h1⟩ : ∃ n, x.funcs.length = n := ⟨_, rfl⟩
    obtain ⟨n2, h2⟩ : ∃ n, x.imps.length = n := ⟨_, rfl⟩
    obtain ⟨n3, h3⟩ : ∃ n, x.ints.length = n := ⟨_, rfl⟩
    obtain ⟨n4, h4⟩ : ∃ n, x.texts.length = n := ⟨_, rfl⟩
    obtain ⟨y0, hy0⟩ : ∃ y, lB (lB tB) x.recs = y := ⟨_, rfl⟩
    obtain ⟨y1, hy1⟩ : ∃ y, lB fnB x.funcs = y := ⟨_, rfl⟩
    obtain ⟨y2, hy2⟩ : ∃ y, lB impB x.imps = y := ⟨_, rfl⟩
    obtain ⟨y3, hy3⟩ : ∃ y, lB numB x.ints = y := ⟨_, rfl⟩
    obtain ⟨y4, hy4⟩ : ∃ y, lB pt x.texts = y := ⟨_, rfl⟩
    have P0 : Hid (∀ w1, Below w.heap.size w w1 → Calls Try.prog 28 #[.slice A0 n0 d0, .func (.func 29) #[] #[]] w1 (Puts y0 w1)) := fun w1 hb => by
      rw [← hy0]
      refine putList_rec A0 n0 d0 x.recs w1 h0 ((s0.keep fun b hb1 => hb.block b hb1).wide fun b hb1 => Nat.lt_of_lt_of_le hb1 hb.size) (by omega) (by omega) fun w2 cs y hy hr => ?_
      obtain ⟨A, c, rfl, l1, l2, l3⟩ := hr
      have hz := rec_sizes (hF.recs y hy)
      have hzl := tys_len hF.r8 (by omega) hz.2
      exact putTypes_any A y.length c y w2 rfl l3 (by omega) (by omega)
    have P1 : Hid (∀ w1, Below w.heap.size w w1 → Calls Try.prog 30 #[.slice A1 n1 d1, .func (.func 31) #[] #[]] w1 (Puts y1 w1)) := fun w1 hb => by
      rw [← hy1]
      exact putList_fn A1 n1 d1 x.funcs w1 h1 ((s1.keep fun b hb1 => hb.block b hb1).wide fun b hb1 => Nat.lt_of_lt_of_le hb1 hb.size) (by omega) (by omega) fun w2 cs y hy hr => putFunction_any cs y _ w2 hF.r8 (hF.funcs y hy) hr
    have P2 : Hid (∀ w1, Below w.heap.size w w1 → Calls Try.prog 32 #[.slice A2 n2 d2, .func (.func 33) #[] #[]] w1 (Puts y2 w1)) := fun w1 hb => by
      rw [← hy2]
      exact putList_imp A2 n2 d2 x.imps w1 h2 ((s2.keep fun b hb1 => hb.block b hb1).wide fun b hb1 => Nat.lt_of_lt_of_le hb1 hb.size) (by omega) (by omega) fun w2 cs y hy hr => putImport_any cs y _ w2 hF.r8 (hF.imps y hy) hr
    have P3 : Hid (∀ w1, Below w.heap.size w w1 → Calls Try.prog 34 #[.slice A3 n3 d3, .func (.func 35) #[] #[]] w1 (Puts y3 w1)) := fun w1 hb => by
      rw [← hy3]
      refine putList_num A3 n3 d3 x.ints w1 h3 ((s3.keep fun b hb1 => hb.block b hb1).wide fun b hb1 => Nat.lt_of_lt_of_le hb1 hb.size) (by omega) (by omega) fun w2 cs y hy hr => ?_
      obtain ⟨rfl, hy64⟩ := hr
      exact putNumber_w y w2 hy64
    have P4 : Hid (∀ w1, Below w.heap.size w w1 → Calls Try.prog 36 #[.slice A4 n4 d4, .func (.func 37) #[] #[]] w1 (Puts y4 w1)) := fun w1 hb => by
      rw [← hy4]
      refine putList_str A4 n4 d4 x.texts w1 h4 ((s4.keep fun b hb1 => hb.block b hb1).wide fun b hb1 => Nat.lt_of_lt_of_le hb1 hb.size) (by omega) (by omega) fun w2 cs y hy hr => ?_
      obtain ⟨s, rfl, rfl⟩ := hr
      exact putText_w s w2 (by have := hF.texts _ hy; omega)
    have hlen := hF.len
    have HI : Hid (modB x = joinB [y0, y1, y2, y3, y4]) := by show modB x = _; rw [← hy0, ← hy1, ← hy2, ← hy3, ← hy4]; rfl
    have HZ : Hid ((joinB [y0, y1, y2, y3, y4]).length ≤ 1000000) := by show (joinB _).length ≤ _; rw [← HI.out]; omega
    rw [h0, h1, h2, h3, h4] at TF2 ⊢
    clear hF hf hpl p0 p1 p2 p3 p4 r8 f8 i8 n16 t16 h0 h1 h2 h3 h4 hy0 hy1 hy2 hy3 hy4 s0 s1 s2 s3 s4 l0 l1 l2 l3 l4 m0 m1 m2 m3 m4 hlen
    go_enter Try.func14, Try.ntmps14
    have HC : Hid (C5 w.heap.size (.slice A0 n0 d0) (.slice A1 n1 d1) (.slice A2 n2 d2) (.slice A3 n3 d3) (.slice A4 n4 d4) (w.alloc (.cells #[.slice A0 n0 d0, .slice A1 n1 d1, .slice A2 n2 d2, .slice A3 n3 d3, .slice A4 n4 d4] 28))) := by show C5 _ _ _ _ _ _ _; simp [C5, go_sem]
    go_wp2_with (first
      | (go_at_call 26
         refine (TF2.out _ (HB0.out _)).mono ?_
         rintro e W ⟨rfl, hb1⟩
         have HB := Lib.hid ((HB0.out _).trans (hb1.mono (by simp)))
         have HC0 := Lib.hid (HC.out.below hb1 (by simp))
         have hs : w.heap.size < W.heap.size := (by have := hb1.size; simp at this; omega)
         clear hb1))
    obtain ⟨z0, z1, z2, z3, z4⟩ := HC0.out
    go_region_held3 (fun w' => w'.cell? ⟨w.heap.size, 0, none⟩ = some (.slice A0 n0 d0) ∧ w'.cell? ⟨w.heap.size, 1, none⟩ = some (.slice A1 n1 d1) ∧ w'.cell? ⟨w.heap.size, 2, none⟩ = some (.slice A2 n2 d2) ∧ w'.cell? ⟨w.heap.size, 3, none⟩ = some (.slice A3 n3 d3) ∧ w'.cell? ⟨w.heap.size, 4, none⟩ = some (.slice A4 n4 d4))
      (first | exact HC6.out | exact HC5.out | exact HC5.out.below (Below.alloc (Below.refl _ _) (Nat.le_refl _) _) HS5.out | exact HC4.out | exact HC3.out | exact HC2.out | exact HC1.out | exact HC0.out)
      (first
        | (go_at_call 28
           refine (P0.out _ HB.out.drew).mono ?_
           rintro e w1 ⟨u1, rfl, hown1, hb1⟩
           obtain ⟨B0, f0, rfl, hy0⟩ := Yb.of hown1
           have Y0a := Lib.hid hy0
           have HB1 := Lib.hid (HB.out.drew.trans (hb1.mono HB.out.size))
           have HC1 := Lib.hid (C5.below (w := W.drew) HC0.out hb1 hs)
           have HS1 := Lib.hid (Nat.lt_of_lt_of_le hs hb1.size)
           clear hown1 hb1 hy0)
        | (go_at_call 30
           refine (P1.out _ HB1.out).mono ?_
           rintro e w2 ⟨u2, rfl, hown2, hb2⟩
           obtain ⟨B1, f1, rfl, hy1⟩ := Yb.of hown2
           have Y0b := Lib.hid (Y0a.out.below hb2)
           have Y1a := Lib.hid hy1
           have HB2 := Lib.hid (HB1.out.trans (hb2.mono HB1.out.size))
           have HC2 := Lib.hid (HC1.out.below hb2 HS1.out)
           have HS2 := Lib.hid (Nat.lt_of_lt_of_le HS1.out hb2.size)
           clear hown2 hb2 hy1)
        | (go_at_call 32
           refine (P2.out _ HB2.out).mono ?_
           rintro e w3 ⟨u3, rfl, hown3, hb3⟩
           obtain ⟨B2, f2, rfl, hy2⟩ := Yb.of hown3
           have Y0c := Lib.hid (Y0b.out.below hb3)
           have Y1b := Lib.hid (Y1a.out.below hb3)
           have Y2a := Lib.hid hy2
           have HB3 := Lib.hid (HB2.out.trans (hb3.mono HB2.out.size))
           have HC3 := Lib.hid (HC2.out.below hb3 HS2.out)
           have HS3 := Lib.hid (Nat.lt_of_lt_of_le HS2.out hb3.size)
           clear hown3 hb3 hy2)
        | (go_at_call 34
           refine (P3.out _ HB3.out).mono ?_
           rintro e w4 ⟨u4, rfl, hown4, hb4⟩
           obtain ⟨B3, f3, rfl, hy3⟩ := Yb.of hown4
           have Y0d := Lib.hid (Y0c.out.below hb4)
           have Y1c := Lib.hid (Y1b.out.below hb4)
           have Y2b := Lib.hid (Y2a.out.below hb4)
           have Y3a := Lib.hid hy3
           have HB4 := Lib.hid (HB3.out.trans (hb4.mono HB3.out.size))
           have HC4 := Lib.hid (HC3.out.below hb4 HS3.out)
           have HS4 := Lib.hid (Nat.lt_of_lt_of_le HS3.out hb4.size)
           clear hown4 hb4 hy3)
        | (go_at_call 36
           refine (P4.out _ HB4.out).mono ?_
           rintro e w5 ⟨u5, rfl, hown5, hb5⟩
           obtain ⟨B4, f4, rfl, hy4⟩ := Yb.of hown5
           have Y0 := Lib.hid (Y0d.out.below hb5)
           have Y1 := Lib.hid (Y1c.out.below hb5)
           have Y2 := Lib.hid (Y2b.out.below hb5)
           have Y3 := Lib.hid (Y3a.out.below hb5)
           have Y4 := Lib.hid hy4
           have HB5 := Lib.hid (HB4.out.trans (hb5.mono HB4.out.size))
           have HC5 := Lib.hid (HC4.out.below hb5 HS4.out)
           have HS5 := Lib.hid (Nat.lt_of_lt_of_le HS4.out hb5.size)
           clear hown5 hb5 hy4)
        | (go_at_call 27
           refine (join_any _ _ _ [y0, y1, y2, y3, y4] _ rfl (rws_five w5 B0 B1 B2 B3 B4 f0 f1 f2 f3 f4 y0 y1 y2 y3 y4 Y0.out Y1.out Y2.out Y3.out Y4.out) HZ.out).mono ?_
           rintro e w6 ⟨u6, rfl, hown6, hb6⟩
           have HO6 := Lib.hid hown6
           have Hb6 := Lib.hid hb6
           have HC6 := Lib.hid ((HC5.out.below (Below.alloc (Below.refl _ _) (Nat.le_refl _) _) HS5.out).below hb6 (by simp; have := HS5.out; omega))
           clear hown6 hb6))
    go_wp2_with fail
    go_ret2
    refine ⟨(HB5.out.alloc HB5.out.size _).trans (Hb6.out.mono (by simp; have := HB5.out.size; omega)), .inr ⟨HF.out, _, rfl, ?_⟩⟩
    rw [HI.out]
    exact own_wide HO6.out (by simp; have := HB5.out.size; omega)
end Go.Proofs.Ytpgfbnilnoopoaa
namespace Go.Proofs.Ytpgfbnilnoopoaa
open Go.RowKit
set_option linter.unusedVariables false

theorem rtypes_flat (A : Option Addr) (n c : Nat) (xs : List Typ) (r mo : Int) (w : World) (hl : xs.length = n) (h : Sq typL (· < w.heap.size) w A xs) (hn2 : n ≤ 3000) (hr : r ≤ 8) :
    Calls Try.prog 45 #[.slice A n c, .int .i64 r, .int .i64 mo] w fun e w' => Below w.heap.size w w' ∧ ∃ A2 m c2 ys, e = .returned (.tuple #[.slice A2 m c2, .bool (witB 0 mo (goodT r) xs)]) ∧ ys.length = m ∧ m ≤ 12010 ∧ m ≤ c2 ∧ Byt (fun b => w.heap.size ≤ b ∧ b < w'.heap.size) w' A2 ys ∧ (witB 0 mo (goodT r) xs = true → ys = lB tB xs) := by
  refine (rtypes_any A n c xs r mo w hl h hn2 hr).mono ?_
  rintro e w' ⟨hb, ⟨hall, u, rfl, hown⟩ | ⟨hall, rfl⟩⟩
  · obtain ⟨A2, c2, rfl, hn, hc, _, hB⟩ := own_slice hown
    have hw : witB 0 mo (goodT r) xs = decide ((xs.length : Int) ≤ mo) := by
      simp only [witB, hall, Bool.and_true]
      exact decide_eq_decide.2 ⟨fun h => h.2, fun h => ⟨by omega, h⟩⟩
    have hlen := lB_bound tB xs 4 (fun t ht => tB_len hr (List.all_eq_true.1 hall t ht)) (by unfold B64; omega)
    refine ⟨hb, A2, _, c2, lB tB xs, by rw [hw], rfl, by omega, hc, hB, fun _ => rfl⟩
  · have hw : witB 0 mo (goodT r) xs = false := by simp only [witB, hall, Bool.and_false]
    refine ⟨hb, none, 0, 0, [], by rw [hw], rfl, by omega, by omega, Byt.nil _ _ _, fun h => by rw [hw] at h; cases h⟩

/-- What the document's Module answers. -/
def RMod (x : Mod) (w : World) (e : Ending) (w' : World) : Prop :=
  Below w.heap.size w w' ∧ ((fitB x = true ∧ ∃ u, e = .returned (.tuple #[u, .bool true]) ∧ w'.ownsRow w.heap.size 5 1 u (modB x).length (Bs (modB x))) ∨
    (fitB x = false ∧ ∃ A n c, e = .returned (.tuple #[.slice A n c, .bool false])))

/-- A module whose lists within lists, and texts, are small. -/
structure Small (x : Mod) : Prop where
  recs : ∀ t ∈ x.recs, t.length ≤ 3000
  funcs : ∀ f ∈ x.funcs, f.args.length ≤ 3000 ∧ f.locs.length ≤ 3000 ∧ f.code.length ≤ 3000
  imps : ∀ i ∈ x.imps, i.args.length ≤ 3000
  texts : ∀ s ∈ x.texts, s.length ≤ 3000
theorem Fit.small {x : Mod} (h : Fit x) : Small x := by
  refine ⟨fun t ht => ?_, fun f hf => ?_, fun i hi => ?_, fun s hs => ?_⟩
  · have := rec_sizes (h.recs t ht); omega
  · have := fn_sizes (h.funcs f hf); omega
  · have := imp_sizes (h.imps i hi); omega
  · have := h.texts s hs; omega

theorem all_app {α : Type} {g : α → Bool} {xs : List α} {k : Nat} {x : α} (hx : xs[k]? = some x) : (xs.take (k + 1)).all g = ((xs.take k).all g && g x) := by
  obtain ⟨hk, rfl⟩ := List.getElem?_eq_some_iff.1 hx
  rw [List.take_succ_eq_append_getElem hk, List.all_append]
  simp
/-- What stands in the module's parts, by its parts. -/
theorem fit_false_recs {x : Mod} (h : x.recs.all (recOk x.recs.length) = false) : fitB x = false := by
  simp [fitB, witB, h]
theorem fit_false_funcs {x : Mod} {f : Fn} (hf : f ∈ x.funcs) (h : fnOk x.recs.length f = false) : fitB x = false := by
  cases e : fitB x
  · rfl
  · have := (fitB_iff.1 e).funcs f hf
    rw [h] at this
    cases this
theorem fit_all {x : Mod} (h0 : x.recs.length ≤ 8) (h1 : 1 ≤ x.funcs.length) (h2 : x.funcs.length ≤ 8) (h3 : x.imps.length ≤ 8) (h4 : x.ints.length ≤ 16) (h5 : x.texts.length ≤ 16) :
    fitB x = (x.recs.all (recOk x.recs.length) && x.funcs.all (fnOk x.recs.length) && x.imps.all (impOk x.recs.length) && x.texts.all shortB) := by
  have e0 : decide ((0 : Int) ≤ (x.recs.length : Int) ∧ (x.recs.length : Int) ≤ 8) = true := decide_eq_true ⟨by omega, by omega⟩
  have e1 : decide ((1 : Int) ≤ (x.funcs.length : Int) ∧ (x.funcs.length : Int) ≤ 8) = true := decide_eq_true ⟨by omega, by omega⟩
  have e2 : decide ((0 : Int) ≤ (x.imps.length : Int) ∧ (x.imps.length : Int) ≤ 8) = true := decide_eq_true ⟨by omega, by omega⟩
  have e3 : decide (x.ints.length ≤ 16) = true := decide_eq_true h4
  have e4 : decide ((0 : Int) ≤ (x.texts.length : Int) ∧ (x.texts.length : Int) ≤ 16) = true := decide_eq_true ⟨by omega, by omega⟩
  simp only [fitB, witB, e0, e1, e2, e3, e4, Bool.true_and, Bool.and_true]
theorem C5.grown {b : Nat} {v0 v1 v2 v3 v4 : Value} {w w' : World} {o : Option Nat} (h : C5 b v0 v1 v2 v3 v4 w) (hg : w.grownBy w' o) (ho : o ≠ some b) (hb : b < w.heap.size) : C5 b v0 v1 v2 v3 v4 w' := by
  have hk : w'.heap[b]? = w.heap[b]? := hg.block b hb (by intro e; first | exact ho e | exact ho e.symm)
  have hc : ∀ i, w'.cell? ⟨b, i, none⟩ = w.cell? ⟨b, i, none⟩ := fun i => World.cell?_of_block hk
  exact ⟨(hc 0).trans h.1, (hc 1).trans h.2.1, (hc 2).trans h.2.2.1, (hc 3).trans h.2.2.2.1, (hc 4).trans h.2.2.2.2⟩

/-- append of a string's bytes, as one step of a statement whose order is drawn. -/
theorem step_append_str (w : World) {ops : Array Oper} {o : Oper} {a : Act} {K : Act → World → Prop} {Q : Exit → Act → World → Prop} {E : Prop} (hgd : o.guard = none) (sl x : Operand)
    (ho : o.op = .call { callee := .builtin .append, args := #[sl, x], argTypes := #[49, 9] })
    (base : Nat) (v : Value) (n : Nat) (xs : List Nat) (hs : a.eval sl = v) (hown : w.ownsRow base 5 1 v n (Bs xs)) (s : ByteArray) (hx : a.eval x = .string s)
    (hbig : n + (strB s).length ≤ 140737488355328) (hbase : base ≤ w.heap.size)
    (h : ∀ v' w', w'.ownsRow base 5 1 v' (n + (strB s).length) (Bs (xs ++ strB s)) → w.grownBy w' v.ownBlock → K (a.put o.dst v') w') :
    if Region.wanted o (yielded ops a.tmps) = true then Oper.wp Try.prog o a w K Q else E := by
  have hw : Region.wanted o (yielded ops a.tmps) = true := by simp [Region.wanted, hgd]
  rw [if_pos hw]
  obtain ⟨i0, hi0, hz0, hz1, hz2⟩ := info_parts u8_info
  rw [strB_len] at hbig h
  obtain ⟨v', w', hrun, h2, h3, _⟩ := Lib.run_append_own_string (P := Try.prog) w base 49 9 o.type 5 i0 Try.underlying49 Try.underlying9 hi0 hz0 hz1 hz2 v n (Bs xs) hown s (by simp only [maxLen]; omega) hbig hbase
  unfold Oper.wp execOp
  simp only [ho, resolve, invoke, builtin, Sem.run_bind, Sem.run_pure, Result.andThen_ok, List.map_toArray, List.map_cons, List.map_nil, hs, hx, hrun]
  rw [strB_cells, ← Bs_app] at h2
  exact h v' w' h2 h3
/-- A guard: the operation is an append of just these operands, of these two types. -/
theorem step_is2 (s x : Operand) (t u : TypeId) {d : Option Tmp} {ty : TypeId} {p : String} {af : Array Edge} {g : Option (Nat × Bool)} {y : Nat → Option Bool} {inst : Decidable (Region.wanted ⟨d, .call ⟨.builtin .append, #[s, x], #[t, u]⟩, ty, p, af, g⟩ y = true)} {W E : Prop}
    (h : @ite Prop (Region.wanted ⟨d, .call ⟨.builtin .append, #[s, x], #[t, u]⟩, ty, p, af, g⟩ y = true) inst W E) : @ite Prop (Region.wanted ⟨d, .call ⟨.builtin .append, #[s, x], #[t, u]⟩, ty, p, af, g⟩ y = true) inst W E := h
theorem take_all_false {α : Type} {g : α → Bool} {xs : List α} {k : Nat} (h : (xs.take k).all g = false) : xs.all g = false := by
  rw [← List.take_append_drop k xs, List.all_append, h]
  rfl
theorem get_all_false {α : Type} {g : α → Bool} {xs : List α} {k : Nat} {x : α} (hx : xs[k]? = some x) (h : g x = false) : xs.all g = false := by
  rw [List.all_eq_false]
  exact ⟨x, List.mem_of_getElem? hx, by rw [h]; simp⟩
theorem all_full {α : Type} {xs : List α} {n : Nat} (h : xs.length = n) : xs.take n = xs := List.take_of_length_le (by omega)
theorem insB_len_pos {t : Ins} (h : goodIn t = true) : 0 < (iB t).length := by
  obtain ⟨o, a, b⟩ := t
  obtain ⟨o1, a1, b1, rfl, rfl, rfl, _⟩ := goodI_parts (op := o) (a := a) (b := b) h
  rw [iB, insB_good h]
  simp
theorem insB_bad {t : Ins} (h : goodIn t = false) : iB t = [] := by
  obtain ⟨o, a, b⟩ := t
  unfold iB insB
  have h' : goodI o a b = false := h
  simp [h']
theorem wit_few {α : Type} {g : α → Bool} {xs : List α} {n : Nat} {hi : Int} (h : xs.length = n) (hn : ¬ 1 ≤ n) : witB 1 hi g xs = false := by
  have : decide ((1 : Int) ≤ (xs.length : Int) ∧ (xs.length : Int) ≤ hi) = false := decide_eq_false (by omega)
  rw [witB, this]
  rfl
theorem wit_many {α : Type} {g : α → Bool} {xs : List α} {n : Nat} (h : xs.length = n) (hn : ¬ n ≤ 64) : witB 1 64 g xs = false := by
  have : decide ((1 : Int) ≤ (xs.length : Int) ∧ (xs.length : Int) ≤ 64) = false := decide_eq_false (by omega)
  rw [witB, this]
  rfl
theorem wit_one {α : Type} {g : α → Bool} {xs : List α} {lo hi : Int} {k : Nat} {x : α} (hx : xs[k]? = some x) (h : g x = false) : witB lo hi g xs = false := by
  rw [witB, get_all_false hx h]
  simp
theorem wit_fine {α : Type} {g : α → Bool} {xs : List α} {n : Nat} (h : xs.length = n) (h1 : 1 ≤ n) (h2 : n ≤ 64) (ha : xs.all g = true) : witB 1 64 g xs = true := by
  have : decide ((1 : Int) ≤ (xs.length : Int) ∧ (xs.length : Int) ≤ 64) = true := decide_eq_true (by omega)
  rw [witB, this, ha]
  rfl
/-- A slice's own block lies outside of these blocks. -/
def Out (lo hi : Nat) (v : Value) : Prop := ∀ i, v.ownBlock = some i → i < lo ∨ hi ≤ i
theorem grown_in {lo hi b : Nat} {v : Value} {w w' : World} (ho : Out lo hi v) (hg : w.grownBy w' v.ownBlock) (h1 : lo ≤ b) (h2 : b < hi) (h3 : hi ≤ w.heap.size) : w'.heap[b]? = w.heap[b]? :=
  hg.block b (by omega) (by intro e; have := ho b (by first | exact e | exact e.symm); omega)
theorem Out.grown {lo hi n : Nat} {v v' : Value} (h : Out lo hi v) (hv : v'.ownBlock = v.ownBlock ∨ v'.ownBlock = some n) (hn : hi ≤ n) : Out lo hi v' := fun i hi' => by
  rcases hv with e | e
  · exact h i (e ▸ hi')
  · rw [e] at hi'
    injection hi' with hi'
    omega
/-- A row of bytes that grows beside one block of five cells and two slices of bytes. -/
structure Rgn (V : World) (lo hi : Nat) (a b c d e : Value) (Y1 Y2 : Option Addr) (ys1 ys2 : List Nat) (s : Value) (q : List Nat) (w : World) : Prop where
  own : w.ownsRow V.heap.size 5 1 s q.length (Bs q)
  bel : Below V.heap.size V w
  c5 : C5 lo a b c d e w
  y1 : Byt (fun b => lo ≤ b ∧ b < hi) w Y1 ys1
  y2 : Byt (fun b => lo ≤ b ∧ b < hi) w Y2 ys2
  out : Out lo hi s
  lh : lo < hi
  hw : hi ≤ w.heap.size
section
variable {V : World} {lo hi : Nat} {a b c d e : Value} {Y1 Y2 : Option Addr} {ys1 ys2 : List Nat} {s : Value} {q : List Nat} {w w' : World}
theorem Rgn.call (h : Rgn V lo hi a b c d e Y1 Y2 ys1 ys2 s q w) (hb : Below w.heap.size w w') : Rgn V lo hi a b c d e Y1 Y2 ys1 ys2 s q w' :=
  have hl := h.lh
  have hh := h.hw
  ⟨own_below h.own hb (Nat.le_refl _), h.bel.trans (hb.mono h.bel.size), h.c5.below hb (by omega), h.y1.keep fun b h1 => hb.block b (by omega), h.y2.keep fun b h1 => hb.block b (by omega), h.out, h.lh, Nat.le_trans h.hw hb.size⟩
theorem rgn_cells (h : Rgn V lo hi a b c d e Y1 Y2 ys1 ys2 s q w) : w.cell? ⟨lo, 1, none⟩ = some b ∧ w.cell? ⟨lo, 2, none⟩ = some c ∧ w.cell? ⟨lo, 4, none⟩ = some e := ⟨h.c5.2.1, h.c5.2.2.1, h.c5.2.2.2.2⟩
theorem Rgn.drew (h : Rgn V lo hi a b c d e Y1 Y2 ys1 ys2 s q w) : Rgn V lo hi a b c d e Y1 Y2 ys1 ys2 s q w.drew := h.call ((Below.refl _ w).drew)
theorem Rgn.app (h : Rgn V lo hi a b c d e Y1 Y2 ys1 ys2 s q w) {v' : Value} {ys : List Nat} {m : Nat} (hm : ys.length = m) (hown : w'.ownsRow V.heap.size 5 1 v' (q.length + m) (Bs (q ++ ys))) (hg : w.grownBy w' s.ownBlock) (hv : v'.ownBlock = s.ownBlock ∨ v'.ownBlock = some w.heap.size) :
    Rgn V lo hi a b c d e Y1 Y2 ys1 ys2 v' (q ++ ys) w' := by
  have hl := h.lh
  have hh := h.hw
  have hk : ∀ b, lo ≤ b ∧ b < hi → w'.heap[b]? = w.heap[b]? := fun b hb => grown_in h.out hg hb.1 hb.2 hh
  refine ⟨by rw [List.length_append, hm]; exact hown, h.bel.grown hg h.bel.size (fun i hi => (h.own.lt i hi).1), ?_, h.y1.keep hk, h.y2.keep hk, h.out.grown hv hh, hl, Nat.le_trans hh hg.size⟩
  have hc : ∀ i, w'.cell? ⟨lo, i, none⟩ = w.cell? ⟨lo, i, none⟩ := fun i => World.cell?_of_block (hk lo ⟨Nat.le_refl _, hl⟩)
  exact ⟨(hc 0).trans h.c5.1, (hc 1).trans h.c5.2.1, (hc 2).trans h.c5.2.2.1, (hc 3).trans h.c5.2.2.2.1, (hc 4).trans h.c5.2.2.2.2⟩
end
end Go.Proofs.Ytpgfbnilnoopoaa
