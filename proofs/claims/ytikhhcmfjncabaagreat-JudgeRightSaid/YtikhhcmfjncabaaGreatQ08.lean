/-
  Pjn En Bn Bks Fp Knd Eft
-/
import Derived.Test.YtikhhcmfjncabaaGreatQ01
import Derived.Test.YtikhhcmfjncabaaGreatQ03
import Derived.Test.YtikhhcmfjncabaaGreatQ06
import Derived.Test.YtikhhcmfjncabaaGreatQ07
import Derived.Deep.RegionLaw
set_option linter.unusedSimpArgs false
set_option linter.unusedVariables false
namespace Go.Proofs.YtikhhcmfjncabaaGreat
open Go.RowKit

set_option maxRecDepth 100000 in
set_option maxHeartbeats 1000000 in
theorem join_any (A : Option Addr) (n c : Nat) (xss : List (List Nat)) (w : World) (hl : xss.length = n) (hR : Rws (· < w.heap.size) w A xss) (hn : (joinB xss).length ≤ 1000000) :
    Calls Tryz.prog 60 #[.slice A n c] w fun e w' => ∃ v, e = .returned v ∧ w'.ownsRow w.heap.size 5 1 v (joinB xss).length (Bs (joinB xss)) ∧ Below w.heap.size w w' := by
  have hn2 : n ≤ 1000000 := by have := pts_many xss; rw [joinB_length] at hn; omega
  have HN := Lib.hid hn
  have HL := Lib.hid hl
  have HR := Lib.hid hR
  clear hl hR hn
  have hn3 : n < B64 := by unfold B64; omega
  go_enter Tryz.func60, Tryz.ntmps60
  go_wp2_with fail
  refine (var_any n w hn3).mono ?_
  rintro e w1 ⟨u1, rfl, hown1, hb1⟩
  have HO1 := Lib.hid hown1
  have HB1 := Lib.hid hb1
  clear hown1 hb1
  go_wp2_with fail
  go_loopw [3, 12] (fun s i wr => ∃ k : Nat, k ≤ n ∧ i = .int .i64 (k : Nat) ∧ (∃ q, q = vb n ++ pts (xss.take k) ∧ q.length ≤ 1000000 ∧ wr.ownsRow w.heap.size 5 1 s q.length (Bs q)) ∧ Below w.heap.size w wr) (fun _ i _ => n - (intOf i).toNat)
  case atStart =>
    refine ⟨0, Nat.zero_le _, rfl, ⟨_, rfl, ?_, ?_⟩, HB1.out⟩
    · have := HN.out
      rw [joinB_length, HL.out] at this
      simp [pts]
      omega
    · simpa [pts] using HO1.out
  case round =>
    obtain ⟨k, hk, rfl, ⟨q, hq, hq2, hown⟩, hbel⟩ := hrel
    have HO := Lib.hid hown
    have HB := Lib.hid hbel
    have HQ := Lib.hid hq
    have hs := hbel.size
    clear hown hbel hq
    by_cases hlt : k < n
    · obtain ⟨a, B, c2, rfl, hab, hcell, _, hBy⟩ := HR.out.at (k := k) (by rw [HL.out]; exact hlt)
      have hcell2 := (HB.out.cell (p := a.add k) (by rw [addBlock]; exact hab)).trans hcell
      have HF := Lib.hid (pts_take xss k (by rw [HL.out]; exact hlt))
      have hle2 := pts_le xss (k + 1)
      rw [HF.out, List.length_append, pt_length] at hle2
      obtain ⟨x, hx⟩ : ∃ x, xss[k]?.getD [] = x := ⟨_, rfl⟩
      rw [hx] at hcell hle2 hcell2 hBy
      have HX := Lib.hid hx
      have HY := Lib.hid hBy
      clear hx hcell hBy
      have hq3 : q.length + (vb x.length).length + x.length ≤ 1000000 := by
        have := HN.out
        rw [joinB_length, HL.out] at this
        rw [HQ.out, List.length_append]
        omega
      clear hle2
      have hx64 : x.length < B64 := by unfold B64; omega
      go_wp2_with fail
      refine (var_any x.length wr hx64).mono ?_
      rintro e w2 ⟨u2, rfl, hown2, hb2⟩
      obtain ⟨A2, c3, rfl, -, -, -, hB2⟩ := own_slice hown2
      have HB2 := Lib.hid hB2
      have Hb2 := Lib.hid hb2
      have HO2 := Lib.hid (own_below HO.out hb2 (Nat.le_refl _))
      have hs2 := hb2.size
      clear hown2 hB2 hb2
      go_wp2_with (first
        | (at_builtin
           refine walk_append _ rfl (.tmp 16) (.tmp 20) rfl w.heap.size u3 q.length q rfl HO2.out A2 (vb x.length).length c3 (vb x.length) rfl rfl _ HB2.out (by omega) (by omega) ?_
           intro v3 w3 hown3 hg3 _
           have HO3 := Lib.hid hown3
           have HG3 := Lib.hid hg3
           have HB3 := Lib.hid ((HB.out.trans (Hb2.out.mono (by omega))).grown hg3 (by omega) (fun i hi => (HO.out.lt i hi).1))
           have hs3 := hg3.size
           clear hown3 hg3)
        | (at_builtin
           refine walk_append _ rfl (.tmp 22) (.tmp 23) rfl w.heap.size v3 (q.length + (vb x.length).length) (q ++ vb x.length) rfl HO3.out B x.length c2 x rfl rfl (· < w.heap.size) (HY.out.below HB3.out (Nat.le_refl _)) (by omega) (by omega) ?_
           intro v4 w4 hown4 hg4 _
           have HO4 := Lib.hid hown4
           have HG4 := Lib.hid hg4
           clear hown4 hg4))
      refine ⟨⟨k + 1, by omega, by simp, ⟨q ++ vb x.length ++ x, ?_, ?_, ?_⟩, HB3.out.grown HG4.out (by omega) (fun i hi => (HO3.out.lt i hi).1)⟩, by simp [intOf]; omega⟩
      · rw [HF.out, HQ.out, HX.out, pt]
        simp [List.append_assoc]
      · simp [List.length_append]
        omega
      · have e : (q ++ vb x.length ++ x).length = q.length + (vb x.length).length + x.length := by simp [List.length_append]; omega
        rw [e]
        exact HO4.out
    · obtain rfl : k = n := by omega
      go_wp2_with fail
      go_ret
      refine ⟨_, rfl, ?_, HB.out⟩
      have e : joinB xss = q := by
        rw [HQ.out, List.take_of_length_le (by rw [HL.out]; exact Nat.le_refl _), joinB, HL.out]
      rw [e]
      exact HO.out
end Go.Proofs.YtikhhcmfjncabaaGreat
namespace Go.Proofs.YtikhhcmfjncabaaGreat
open Go.RowKit

theorem rws_five (w : World) (A0 A1 A2 A3 A4 : Option Addr) (c0 c1 c2 c3 c4 : Nat) (x0 x1 x2 x3 x4 : List Nat) (h0 : Yb w A0 c0 x0) (h1 : Yb w A1 c1 x1) (h2 : Yb w A2 c2 x2) (h3 : Yb w A3 c3 x3) (h4 : Yb w A4 c4 x4) :
    Rws (· < (w.alloc (.cells #[.slice A0 x0.length c0, .slice A1 x1.length c1, .slice A2 x2.length c2, .slice A3 x3.length c3, .slice A4 x4.length c4] 67)).heap.size)
      (w.alloc (.cells #[.slice A0 x0.length c0, .slice A1 x1.length c1, .slice A2 x2.length c2, .slice A3 x3.length c3, .slice A4 x4.length c4] 67)) (some ⟨w.heap.size, 0, none⟩) [x0, x1, x2, x3, x4] := fun _ => by
  refine ⟨_, rfl, by simp, fun j hj => ?_⟩
  have hk : ∀ o : Obj, ∀ b, b < w.heap.size → (w.alloc o).heap[b]? = w.heap[b]? := fun o b hb => Below.heap_alloc w _ b hb
  have e : (⟨w.heap.size, 0, none⟩ : Addr).add j = ⟨w.heap.size, j, none⟩ := by unfold Addr.add; split <;> simp_all
  rw [e, World.cell?_alloc_mark]
  match j, hj with
  | 0, _ => exact ⟨A0, c0, rfl, h0.1, (h0.2.keep (hk _)).wide fun b hb => by simp; omega⟩
  | 1, _ => exact ⟨A1, c1, rfl, h1.1, (h1.2.keep (hk _)).wide fun b hb => by simp; omega⟩
  | 2, _ => exact ⟨A2, c2, rfl, h2.1, (h2.2.keep (hk _)).wide fun b hb => by simp; omega⟩
  | 3, _ => exact ⟨A3, c3, rfl, h3.1, (h3.2.keep (hk _)).wide fun b hb => by simp; omega⟩
  | 4, _ => exact ⟨A4, c4, rfl, h4.1, (h4.2.keep (hk _)).wide fun b hb => by simp; omega⟩
  | j + 5, hj => exact absurd hj (by simp)

def Encodes (m : Mod) (w : World) (e : Ending) (w' : World) : Prop :=
  Below w.heap.size w w' ∧ ((fitB m = false ∧ e = .returned (.tuple #[.slice none 0 0, .int .i64 2])) ∨
    (fitB m = true ∧ ∃ u, e = .returned (.tuple #[u, .int .i64 0]) ∧ w'.ownsRow w.heap.size 5 1 u (modB m).length (Bs (modB m))))

set_option maxRecDepth 100000 in
set_option maxHeartbeats 4000000 in
theorem encode_any (cs : List Value) (x : Mod) (w : World) (h : modL.R (· < w.heap.size) w cs x) : Calls Tryz.prog 33 #[vAgg cs] w (Encodes x w) := by
  have TF : Hid (∀ w1, Below w.heap.size w w1 → Calls Tryz.prog 59 #[vAgg cs] w1 (Tells (fitB x) w1)) := fun w1 hb => fits_any cs x w1 (modL.wide (modL.keep h fun b hb1 => hb.block b hb1) fun b hb1 => Nat.lt_of_lt_of_le hb1 hb.size)
  obtain ⟨_, _, _, _, _, rfl, ⟨A0, d0, e0, l0, m0, s0⟩, ⟨A1, d1, e1, l1, m1, s1⟩, ⟨A2, d2, e2, l2, m2, s2⟩, ⟨A3, d3, e3, l3, m3, s3⟩, ⟨A4, d4, e4, l4, m4, s4⟩⟩ := h
  simp only [List.cons.injEq, and_true] at e0 e1 e2 e3 e4
  subst e0 e1 e2 e3 e4
  have TF2 : Hid (∀ w1, Below w.heap.size w w1 → Calls Tryz.prog 59 #[.agg #[.slice A0 x.recs.length d0, .slice A1 x.funcs.length d1, .slice A2 x.imps.length d2, .slice A3 x.ints.length d3, .slice A4 x.texts.length d4]] w1 (Tells (fitB x) w1)) := TF.out
  clear TF
  show Calls Tryz.prog 33 #[.agg #[.slice A0 x.recs.length d0, .slice A1 x.funcs.length d1, .slice A2 x.imps.length d2, .slice A3 x.ints.length d3, .slice A4 x.texts.length d4]] w (Encodes x w)
  have HB0 : Hid (∀ o : Obj, Below w.heap.size w (w.alloc o)) := fun o => (Below.refl _ _).alloc (Nat.le_refl _) _
  cases hf : fitB x
  · rw [hf] at TF2
    have HF := Lib.hid hf
    generalize x.recs.length = n0 at *
    generalize x.funcs.length = n1 at *
    generalize x.imps.length = n2 at *
    generalize x.ints.length = n3 at *
    generalize x.texts.length = n4 at *
    clear hf s0 s1 s2 s3 s4 m0 m1 m2 m3 m4
    go_enter Tryz.func33, Tryz.ntmps33
    go_wp2_with (first
      | (go_at_call 59
         refine (TF2.out _ (HB0.out _)).mono ?_
         rintro e w1 ⟨rfl, hb1⟩
         have HB1 := Lib.hid ((HB0.out _).trans (hb1.mono (by simp)))
         clear hb1))
    go_ret2
    exact ⟨HB1.out, .inl ⟨HF.out, rfl⟩⟩
  · rw [hf] at TF2
    have hF := fitB_iff.1 hf
    have HF := Lib.hid hf
    have hpl := hF.parts_len
    have p0 := hpl 0 (by simp [partsB])
    have p1 := hpl 1 (by simp [partsB])
    have p2 := hpl 2 (by simp [partsB])
    have p3 := hpl 3 (by simp [partsB])
    have p4 := hpl 4 (by simp [partsB])
    simp [partsB] at p0 p1 p2 p3 p4
    have r8 := hF.r8
    have f8 := hF.f8
    have i8 := hF.i8
    have n16 := hF.n16
    have t16 := hF.t16
    obtain ⟨n0, h0⟩ : ∃ n, x.recs.length = n := ⟨_, rfl⟩
    obtain ⟨n1, h1⟩ : ∃ n, x.funcs.length = n := ⟨_, rfl⟩
    obtain ⟨n2, h2⟩ : ∃ n, x.imps.length = n := ⟨_, rfl⟩
    obtain ⟨n3, h3⟩ : ∃ n, x.ints.length = n := ⟨_, rfl⟩
    obtain ⟨n4, h4⟩ : ∃ n, x.texts.length = n := ⟨_, rfl⟩
    obtain ⟨y0, hy0⟩ : ∃ y, lB (lB tB) x.recs = y := ⟨_, rfl⟩
    obtain ⟨y1, hy1⟩ : ∃ y, lB fnB x.funcs = y := ⟨_, rfl⟩
    obtain ⟨y2, hy2⟩ : ∃ y, lB impB x.imps = y := ⟨_, rfl⟩
    obtain ⟨y3, hy3⟩ : ∃ y, lB numB x.ints = y := ⟨_, rfl⟩
    obtain ⟨y4, hy4⟩ : ∃ y, lB pt x.texts = y := ⟨_, rfl⟩
    have P0 : Hid (∀ w1, Below w.heap.size w w1 → Calls Tryz.prog 61 #[.slice A0 n0 d0, .func (.func 62) #[] #[]] w1 (Puts y0 w1)) := fun w1 hb => by
      rw [← hy0]
      refine putList_rec A0 n0 d0 x.recs w1 h0 ((s0.keep fun b hb1 => hb.block b hb1).wide fun b hb1 => Nat.lt_of_lt_of_le hb1 hb.size) (by omega) (by omega) fun w2 cs y hy hr => ?_
      obtain ⟨A, c, rfl, l1, l2, l3⟩ := hr
      have hz := rec_sizes (hF.recs y hy)
      have hzl := tys_len hF.r8 (by omega) hz.2
      exact putTypes_any A y.length c y w2 rfl l3 (by omega) (by omega)
    have P1 : Hid (∀ w1, Below w.heap.size w w1 → Calls Tryz.prog 63 #[.slice A1 n1 d1, .func (.func 64) #[] #[]] w1 (Puts y1 w1)) := fun w1 hb => by
      rw [← hy1]
      exact putList_fn A1 n1 d1 x.funcs w1 h1 ((s1.keep fun b hb1 => hb.block b hb1).wide fun b hb1 => Nat.lt_of_lt_of_le hb1 hb.size) (by omega) (by omega) fun w2 cs y hy hr => putFunction_any cs y _ w2 hF.r8 (hF.funcs y hy) hr
    have P2 : Hid (∀ w1, Below w.heap.size w w1 → Calls Tryz.prog 65 #[.slice A2 n2 d2, .func (.func 66) #[] #[]] w1 (Puts y2 w1)) := fun w1 hb => by
      rw [← hy2]
      exact putList_imp A2 n2 d2 x.imps w1 h2 ((s2.keep fun b hb1 => hb.block b hb1).wide fun b hb1 => Nat.lt_of_lt_of_le hb1 hb.size) (by omega) (by omega) fun w2 cs y hy hr => putImport_any cs y _ w2 hF.r8 (hF.imps y hy) hr
    have P3 : Hid (∀ w1, Below w.heap.size w w1 → Calls Tryz.prog 67 #[.slice A3 n3 d3, .func (.func 68) #[] #[]] w1 (Puts y3 w1)) := fun w1 hb => by
      rw [← hy3]
      refine putList_num A3 n3 d3 x.ints w1 h3 ((s3.keep fun b hb1 => hb.block b hb1).wide fun b hb1 => Nat.lt_of_lt_of_le hb1 hb.size) (by omega) (by omega) fun w2 cs y hy hr => ?_
      obtain ⟨rfl, hy64⟩ := hr
      exact putNumber_w y w2 hy64
    have P4 : Hid (∀ w1, Below w.heap.size w w1 → Calls Tryz.prog 69 #[.slice A4 n4 d4, .func (.func 70) #[] #[]] w1 (Puts y4 w1)) := fun w1 hb => by
      rw [← hy4]
      refine putList_str A4 n4 d4 x.texts w1 h4 ((s4.keep fun b hb1 => hb.block b hb1).wide fun b hb1 => Nat.lt_of_lt_of_le hb1 hb.size) (by omega) (by omega) fun w2 cs y hy hr => ?_
      obtain ⟨s, rfl, rfl⟩ := hr
      exact putText_w s w2 (by have := hF.texts _ hy; omega)
    have hlen := hF.len
    have HI : Hid (modB x = joinB [y0, y1, y2, y3, y4]) := by show modB x = _; rw [← hy0, ← hy1, ← hy2, ← hy3, ← hy4]; rfl
    have HZ : Hid ((joinB [y0, y1, y2, y3, y4]).length ≤ 1000000) := by show (joinB _).length ≤ _; rw [← HI.out]; omega
    rw [h0, h1, h2, h3, h4] at TF2 ⊢
    clear hF hf hpl p0 p1 p2 p3 p4 r8 f8 i8 n16 t16 h0 h1 h2 h3 h4 hy0 hy1 hy2 hy3 hy4 s0 s1 s2 s3 s4 l0 l1 l2 l3 l4 m0 m1 m2 m3 m4 hlen
    go_enter Tryz.func33, Tryz.ntmps33
    have HC : Hid (C5 w.heap.size (.slice A0 n0 d0) (.slice A1 n1 d1) (.slice A2 n2 d2) (.slice A3 n3 d3) (.slice A4 n4 d4) (w.alloc (.cells #[.slice A0 n0 d0, .slice A1 n1 d1, .slice A2 n2 d2, .slice A3 n3 d3, .slice A4 n4 d4] 28))) := by show C5 _ _ _ _ _ _ _; simp [C5, go_sem]
    go_wp2_with (first
      | (go_at_call 59
         refine (TF2.out _ (HB0.out _)).mono ?_
         rintro e W ⟨rfl, hb1⟩
         have HB := Lib.hid ((HB0.out _).trans (hb1.mono (by simp)))
         have HC0 := Lib.hid (HC.out.below hb1 (by simp))
         have hs : w.heap.size < W.heap.size := (by have := hb1.size; simp at this; omega)
         clear hb1))
    obtain ⟨z0, z1, z2, z3, z4⟩ := HC0.out
    go_region_held3 (fun w' => w'.cell? ⟨w.heap.size, 0, none⟩ = some (.slice A0 n0 d0) ∧ w'.cell? ⟨w.heap.size, 1, none⟩ = some (.slice A1 n1 d1) ∧ w'.cell? ⟨w.heap.size, 2, none⟩ = some (.slice A2 n2 d2) ∧ w'.cell? ⟨w.heap.size, 3, none⟩ = some (.slice A3 n3 d3) ∧ w'.cell? ⟨w.heap.size, 4, none⟩ = some (.slice A4 n4 d4))
      (first | exact HC6.out | exact HC5.out | exact HC5.out.below (Below.alloc (Below.refl _ _) (Nat.le_refl _) _) HS5.out | exact HC4.out | exact HC3.out | exact HC2.out | exact HC1.out | exact HC0.out)
      (first
        | (go_at_call 61
           refine (P0.out _ HB.out.drew).mono ?_
           rintro e w1 ⟨u1, rfl, hown1, hb1⟩
           obtain ⟨B0, f0, rfl, hy0⟩ := Yb.of hown1
           have Y0a := Lib.hid hy0
           have HB1 := Lib.hid (HB.out.drew.trans (hb1.mono HB.out.size))
           have HC1 := Lib.hid (C5.below (w := W.drew) HC0.out hb1 hs)
           have HS1 := Lib.hid (Nat.lt_of_lt_of_le hs hb1.size)
           clear hown1 hb1 hy0)
        | (go_at_call 63
           refine (P1.out _ HB1.out).mono ?_
           rintro e w2 ⟨u2, rfl, hown2, hb2⟩
           obtain ⟨B1, f1, rfl, hy1⟩ := Yb.of hown2
           have Y0b := Lib.hid (Y0a.out.below hb2)
           have Y1a := Lib.hid hy1
           have HB2 := Lib.hid (HB1.out.trans (hb2.mono HB1.out.size))
           have HC2 := Lib.hid (HC1.out.below hb2 HS1.out)
           have HS2 := Lib.hid (Nat.lt_of_lt_of_le HS1.out hb2.size)
           clear hown2 hb2 hy1)
        | (go_at_call 65
           refine (P2.out _ HB2.out).mono ?_
           rintro e w3 ⟨u3, rfl, hown3, hb3⟩
           obtain ⟨B2, f2, rfl, hy2⟩ := Yb.of hown3
           have Y0c := Lib.hid (Y0b.out.below hb3)
           have Y1b := Lib.hid (Y1a.out.below hb3)
           have Y2a := Lib.hid hy2
           have HB3 := Lib.hid (HB2.out.trans (hb3.mono HB2.out.size))
           have HC3 := Lib.hid (HC2.out.below hb3 HS2.out)
           have HS3 := Lib.hid (Nat.lt_of_lt_of_le HS2.out hb3.size)
           clear hown3 hb3 hy2)
        | (go_at_call 67
           refine (P3.out _ HB3.out).mono ?_
           rintro e w4 ⟨u4, rfl, hown4, hb4⟩
           obtain ⟨B3, f3, rfl, hy3⟩ := Yb.of hown4
           have Y0d := Lib.hid (Y0c.out.below hb4)
           have Y1c := Lib.hid (Y1b.out.below hb4)
           have Y2b := Lib.hid (Y2a.out.below hb4)
           have Y3a := Lib.hid hy3
           have HB4 := Lib.hid (HB3.out.trans (hb4.mono HB3.out.size))
           have HC4 := Lib.hid (HC3.out.below hb4 HS3.out)
           have HS4 := Lib.hid (Nat.lt_of_lt_of_le HS3.out hb4.size)
           clear hown4 hb4 hy3)
        | (go_at_call 69
           refine (P4.out _ HB4.out).mono ?_
           rintro e w5 ⟨u5, rfl, hown5, hb5⟩
           obtain ⟨B4, f4, rfl, hy4⟩ := Yb.of hown5
           have Y0 := Lib.hid (Y0d.out.below hb5)
           have Y1 := Lib.hid (Y1c.out.below hb5)
           have Y2 := Lib.hid (Y2b.out.below hb5)
           have Y3 := Lib.hid (Y3a.out.below hb5)
           have Y4 := Lib.hid hy4
           have HB5 := Lib.hid (HB4.out.trans (hb5.mono HB4.out.size))
           have HC5 := Lib.hid (HC4.out.below hb5 HS4.out)
           have HS5 := Lib.hid (Nat.lt_of_lt_of_le HS4.out hb5.size)
           clear hown5 hb5 hy4)
        | (go_at_call 60
           refine (join_any _ _ _ [y0, y1, y2, y3, y4] _ rfl (rws_five w5 B0 B1 B2 B3 B4 f0 f1 f2 f3 f4 y0 y1 y2 y3 y4 Y0.out Y1.out Y2.out Y3.out Y4.out) HZ.out).mono ?_
           rintro e w6 ⟨u6, rfl, hown6, hb6⟩
           have HO6 := Lib.hid hown6
           have Hb6 := Lib.hid hb6
           have HC6 := Lib.hid ((HC5.out.below (Below.alloc (Below.refl _ _) (Nat.le_refl _) _) HS5.out).below hb6 (by simp; have := HS5.out; omega))
           clear hown6 hb6))
    go_wp2_with fail
    go_ret2
    refine ⟨(HB5.out.alloc HB5.out.size _).trans (Hb6.out.mono (by simp; have := HB5.out.size; omega)), .inr ⟨HF.out, _, rfl, ?_⟩⟩
    rw [HI.out]
    exact own_wide HO6.out (by simp; have := HB5.out.size; omega)
end Go.Proofs.YtikhhcmfjncabaaGreat
namespace Go.Proofs.YtikhhcmfjncabaaGreat
open Go.RowKit

theorem raw_sl {α : Type} {L : Lay α} {S : Nat → Prop} {ty base : Nat} {w : World} {v : Value} {xs : List α} {css : List (List Value)} (hl : css.length = xs.length) (hown : w.ownsRow base ty L.k v xs.length css.flatten)
    (hR : ∀ (j : Nat) (x : α) (cs : List Value), xs[j]? = some x → css[j]? = some cs → L.R S w cs x) (hS : ∀ b, base ≤ b → b < w.heap.size → S b) : (slL L).R S w [v] xs := by
  have hk : ∀ cs ∈ css, cs.length = L.k := fun cs hcs => by
    obtain ⟨j, hj⟩ := List.mem_iff_getElem?.1 hcs
    have hjl : j < xs.length := by rw [← hl]; exact (List.getElem?_eq_some_iff.1 hj).1
    exact L.len (hR j _ cs (List.getElem?_eq_getElem hjl) hj)
  rcases hown.2 with ⟨rfl, h0⟩ | ⟨g, cap, cur, rfl, hb, hg, hnc, hcm, _, _⟩
  · exact ⟨none, 0, by rw [h0], by omega, by simp [maxLen], fun hpos => absurd hpos (by omega)⟩
  · refine ⟨some ⟨g, 0, none⟩, cap, rfl, hnc, hcm, fun _ => ⟨⟨g, 0, none⟩, rfl, hS _ hb (Array.getElem?_eq_some_iff.1 hg).1, fun j x hx => ?_⟩⟩
    have hjl : j < css.length := by rw [hl]; exact (List.getElem?_eq_some_iff.1 hx).1
    have hcs := List.getElem?_eq_getElem hjl
    have hr := hR j x _ hx hcs
    refine ⟨_, fun i u hu => ?_, hr⟩
    have hi : i < L.k := by rw [← L.len hr]; exact (List.getElem?_eq_some_iff.1 hu).1
    exact hown.cells rfl (j * L.k + i) u (by rw [flat_get hk hcs i hi]; exact hu)
theorem one_sl {α : Type} {L : Lay α} {S : Nat → Prop} {w : World} {g ty : Nat} {cs : Array Value} {x : α} (h : Blk w g ty cs) (hg : S g) (hR : L.R S w cs.toList x) : (slL L).R S w [.slice (some ⟨g, 0, none⟩) 1 1] [x] := by
  refine ⟨some ⟨g, 0, none⟩, 1, rfl, Nat.le_refl _, by simp [maxLen], fun _ => ⟨_, rfl, hg, fun j y hy => ?_⟩⟩
  have hj : j = 0 := by
    rcases Nat.eq_zero_or_pos j with h | h
    · exact h
    · rw [List.getElem?_eq_none (by simp; omega)] at hy
      cases hy
  subst hj
  simp at hy
  subst hy
  refine ⟨_, fun i u hu => ?_, hR⟩
  have e : (⟨g, 0, none⟩ : Addr).add (0 * L.k + i) = ⟨g, i, none⟩ := by unfold Addr.add; split <;> simp_all
  rw [e, h.cell i]
  simpa using hu
theorem nil_sl {α : Type} (L : Lay α) (S : Nat → Prop) (w : World) : (slL L).R S w [.slice none 0 0] [] := ⟨none, 0, rfl, Nat.le_refl _, by simp [maxLen], Sq.nil _ _ _ _⟩

def tA : Array Value := #[.int .i64 1, .int .i64 0]
def iA : Array Value := #[.int .i64 26, .int .i64 0, .int .i64 0]
def bm : Nat → Nat → Mod
  | 0, k => ⟨List.replicate k [], [fn0], [], [], []⟩
  | 1, k => ⟨[], List.replicate (k + 1) fn0, [], [], []⟩
  | 2, k => ⟨[], [fn0], List.replicate k ⟨[], (1, 0)⟩, [], []⟩
  | 3, k => ⟨[], [fn0], [], List.range k, []⟩
  | 4, k => ⟨[], [fn0], [], [], List.replicate k [97]⟩
  | 5, k => ⟨[], [⟨[], (1, 0), List.replicate k (1, 0), [(26, 0, 0)]⟩], [], [], []⟩
  | _, k => ⟨[], [⟨[], (1, 0), [], (26, 0, 0) :: List.replicate k (5, 0, 0)⟩], [], [], []⟩
def bt : Nat → Nat
  | 0 => 8
  | 1 => 7
  | 2 => 8
  | 3 => 16
  | 4 => 16
  | 5 => 8
  | _ => 63
theorem raw_below {w w' : World} {base B ty k : Nat} {v : Value} {n : Nat} {xs : List Value} (h : w.ownsRow base ty k v n xs) (hb : Below B w w') (hB : w.heap.size ≤ B) : w'.ownsRow base ty k v n xs :=
  h.kept (w' := w') (row := none) ⟨hb.os, hb.tape, hb.output, hb.size, fun k hk _ => hb.block k (by omega)⟩ (by cases v.ownBlock <;> simp)
def Bst (N ty k b0 g ty2 : Nat) (mk : Value → Array Value) (w W0 wr : World) (css : List (List Value)) (v : Value) : Prop :=
  Below N w wr ∧ N + 4 ≤ wr.heap.size ∧ wr.ownsRow (N + 1) ty k v css.length css.flatten ∧ (∀ b, v.ownBlock = some b → b = b0 ∨ N + 4 ≤ b) ∧ (∀ b, b < N + 4 → b ≠ b0 → b ≠ g → wr.heap[b]? = W0.heap[b]?) ∧ Blk wr g ty2 (mk v)
theorem Bst.blk {N ty k b0 g ty2 : Nat} {mk : Value → Array Value} {w W0 wr w1 w2 : World} {css : List (List Value)} {v : Value} (h : Bst N ty k b0 g ty2 mk w W0 wr css v) (hb : b0 ≠ g) (hg : g < N + 4) (h1 : Below wr.heap.size wr w1) (hgr : w1.grownBy w2 v.ownBlock) : Blk w2 g ty2 (mk v) := by
  obtain ⟨a1, a2, a3, a4, a5, a6⟩ := h
  refine ((hgr.block g (Nat.lt_of_lt_of_le a6.lt h1.size) fun e => ?_).trans (h1.block g a6.lt)).trans a6
  rcases a4 g e.symm with h | h <;> omega
theorem Bst.step {N ty k b0 g ty2 i : Nat} {mk : Value → Array Value} {w W0 wr w1 w2 : World} {css : List (List Value)} {ys : List Value} {v v' : Value} (h : Bst N ty k b0 g ty2 mk w W0 wr css v) (hb : b0 ≠ g) (hb0 : N ≤ b0) (hg0 : N ≤ g) (hg : g < N + 4) (h1 : Below wr.heap.size wr w1)
    (hown : w2.ownsRow (N + 1) ty k v' (css.length + 1) (css.flatten ++ ys)) (hgr : w1.grownBy w2 v.ownBlock) (h5 : v'.ownBlock = v.ownBlock ∨ v'.ownBlock = some w1.heap.size) (hset : (mk v).setIfInBounds i v' = mk v') :
    Bst N ty k b0 g ty2 mk w W0 (w2.setCell ⟨g, i, none⟩ v') (css ++ [ys]) v' := by
  have hblk := h.blk hb hg h1 hgr
  obtain ⟨a1, a2, a3, a4, a5, a6⟩ := h
  have s1 := h1.size
  have s2 := hgr.size
  have hv : ∀ b, v'.ownBlock = some b → b = b0 ∨ N + 4 ≤ b := by
    intro b e
    rcases h5 with h | h
    · exact a4 b (h ▸ e)
    · rw [h] at e
      injection e with e
      omega
  have hrow : ∀ j, v.ownBlock = some j → N ≤ j := fun j e => by rcases a4 j e with h | h <;> omega
  refine ⟨((a1.trans (h1.mono (by omega))).trans (below_grown hgr (by omega) hrow)).setCell (p := ⟨g, i, none⟩) hg0 _, by have := (only_set (only_refl g w2) i v').size; omega, ?_, hv, ?_, ?_⟩
  · have := hown.kept (row := some g) (only_set (only_refl g w2) i v') (.inr fun e => by rcases hv g e with h | h <;> omega)
    simpa using this
  · intro b h2 h3 h4
    rw [Below.heap_setCell _ _ _ _ (by simpa using h4), hgr.block b (by omega) (fun e => by rcases a4 b e.symm with h | h <;> omega), h1.block b (by omega)]
    exact a5 b h2 h3 h4
  · rw [← hset]
    exact hblk.set i v'
end Go.Proofs.YtikhhcmfjncabaaGreat
namespace Go.Proofs.YtikhhcmfjncabaaGreat
open Go.RowKit

theorem blk_keep {v : World} {o : Obj} {b t : Nat} {c : Array Value} (h : Blk v b t c) : Blk (v.alloc o) b t c := (Below.heap_alloc v o b h.lt).trans h
theorem blk_at {v : World} {b t : Nat} {c : Array Value} (h : v.heap.size = b) : Blk (v.alloc (.cells c t)) b t c := by rw [← h]; exact blk_new v t c
theorem blk_below {v w : World} {B b t : Nat} {c : Array Value} (h : Blk v b t c) (hb : Below B v w) (hB : b < B) : Blk w b t c := (hb.block b hB).trans h
theorem blk_other {v : World} {b t g i : Nat} {c : Array Value} {u : Value} (h : Blk v b t c) (hne : b ≠ g) : Blk (v.setCell ⟨g, i, none⟩ u) b t c := (Below.heap_setCell v ⟨g, i, none⟩ u b hne).trans h

theorem two_sl {α : Type} {L : Lay α} {S : Nat → Prop} {w : World} {g ty : Nat} {cs : Array Value} {c0 c1 : List Value} {x y : α} (h : Blk w g ty cs) (hg : S g) (hc : cs.toList = c0 ++ c1) (h0 : L.R S w c0 x) (h1 : L.R S w c1 y) : (slL L).R S w [.slice (some ⟨g, 0, none⟩) 2 2] [x, y] := by
  have l0 := L.len h0
  have l1 := L.len h1
  have hcell : ∀ i u, (c0 ++ c1)[i]? = some u → w.cell? ⟨g, i, none⟩ = some u := fun i u hu => by
    rw [h.cell i, ← hu, ← hc]
    simp
  have e : ∀ i, (⟨g, 0, none⟩ : Addr).add i = ⟨g, i, none⟩ := fun i => by unfold Addr.add; split <;> simp_all
  refine ⟨some ⟨g, 0, none⟩, 2, rfl, Nat.le_refl _, by simp [maxLen], fun _ => ⟨_, rfl, hg, fun j z hz => ?_⟩⟩
  match j, hz with
  | 0, hz =>
    simp at hz
    subst hz
    refine ⟨c0, fun i u hu => ?_, h0⟩
    rw [e, Nat.zero_mul, Nat.zero_add]
    have hi := (List.getElem?_eq_some_iff.1 hu).1
    exact hcell i u (by rw [List.getElem?_append_left hi]; exact hu)
  | 1, hz =>
    simp at hz
    subst hz
    refine ⟨c1, fun i u hu => ?_, h1⟩
    rw [e, Nat.one_mul]
    exact hcell _ u (by rw [List.getElem?_append_right (by omega)]; simpa [l0] using hu)
  | j + 2, hz => simp at hz
end Go.Proofs.YtikhhcmfjncabaaGreat
namespace Go.Proofs.YtikhhcmfjncabaaGreat
open Go.RowKit

def TypIs (t : Typ) (w : World) (e : Ending) (w' : World) : Prop := e = .returned (.agg #[.int .i64 t.1, .int .i64 t.2]) ∧ Below w.heap.size w w'
theorem below_set2 {B R : Nat} {w W : World} {u v : Value} (h : Below B w W) (hR : B ≤ R) : Below B w ((W.setCell ⟨R, 0, none⟩ u).setCell ⟨R, 1, none⟩ v) := (h.setCell (p := ⟨R, 0, none⟩) hR u).setCell (p := ⟨R, 1, none⟩) hR v
theorem below_new (w : World) (o : Obj) : Below w.heap.size w (w.alloc o) := (Below.refl _ w).alloc (Nat.le_refl _) o

set_option maxRecDepth 100000 in
theorem plain_any (k : Int) (w : World) : Calls Tryz.prog 77 #[.int .i64 k] w (TypIs (k, 0) w) := by
  go_enter Tryz.func77, Tryz.ntmps77
  go_wp2_with fail
  exact bodyPost_ret (v := .agg #[.int .i64 k, .int .i64 0]) (by simp [results, Tryz.results77, go_sem]) rfl ⟨rfl, below_new _ _⟩

set_option maxRecDepth 100000 in
theorem takes_any (A : Option Addr) (n c : Nat) (w : World) : Calls Tryz.prog 78 #[.slice A n c] w fun e w' => e = .returned (.agg #[.slice A n c, .slice none 0 0]) ∧ Below w.heap.size w w' := by
  go_enter Tryz.func78, Tryz.ntmps78
  go_wp2_with fail
  exact bodyPost_ret (v := .agg #[.slice A n c, .slice none 0 0]) (by simp [results, Tryz.results78, go_sem]) rfl ⟨rfl, below_new _ _⟩

set_option maxRecDepth 100000 in
theorem puts_any (A B : Option Addr) (n c m d : Nat) (w : World) : Calls Tryz.prog 79 #[.agg #[.slice A n c, .slice none 0 0], .slice B m d] w fun e w' => e = .returned (.agg #[.slice A n c, .slice B m d]) ∧ Below w.heap.size w w' := by
  go_enter Tryz.func79, Tryz.ntmps79
  go_wp2_with fail
  exact bodyPost_ret (v := .agg #[.slice A n c, .slice B m d]) (by simp [results, Tryz.results79, go_sem]) rfl ⟨rfl, (below_new _ _).alloc (by simp) _⟩

def topB (s : List Typ) (n : Nat) : Typ := if n < s.length then (s[s.length - 1 - n]?).getD (8, 0) else (8, 0)

set_option maxRecDepth 100000 in
theorem fromTop_any (A : Option Addr) (n c k : Nat) (ts : List Typ) (w : World) (hl : ts.length = n) (h : Sq typL (· < w.heap.size) w A ts) (hn : n ≤ 9223372036854775807) (hk : k ≤ 1) :
    Calls Tryz.prog 81 #[.slice A n c, .int .i64 (k : Nat)] w (TypIs (topB ts k) w) := by
  by_cases hkn : k < n
  · obtain ⟨t, ht⟩ : ∃ t, ts[n - 1 - k]? = some t := ⟨ts[n - 1 - k]'(by omega), List.getElem?_eq_getElem _⟩
    have HT : Hid (topB ts k = t) := by
      show topB ts k = t
      rw [topB, hl, if_pos hkn, ht]
      rfl
    obtain ⟨a, cs, rfl, hab, hc, hr⟩ := h.at ht
    obtain ⟨rfl, -, -⟩ := hr
    obtain ⟨j, hj⟩ : ∃ j : Nat, n - 1 - k = j := ⟨_, rfl⟩
    rw [hj] at hc
    have e1 : (n : Int) - 1 - (k : Int) = (j : Int) := by omega
    have j1 : (j : Int) < (n : Int) := by omega
    have k1 : ¬ ((n : Int) ≤ (k : Int)) := by omega
    have c0 := fun ob => (below_new w ob).cell (p := a.add (j * 2)) (by rw [addBlock]; exact hab) |>.trans (hc 0 _ rfl)
    have c1 := fun ob => (below_new w ob).cell (p := a.add (j * 2 + 1)) (by rw [addBlock]; exact hab) |>.trans (hc 1 _ rfl)
    rw [next_cell a (j * 2) 1 (by omega)] at c1
    clear hc h ht hl hj
    go_enter Tryz.func81, Tryz.ntmps81
    go_wp2_with fail
    exact bodyPost_ret (v := .agg #[.int .i64 t.1, .int .i64 t.2]) (by simp [results, Tryz.results81, go_sem]) rfl ⟨by rw [HT.out], below_new _ _⟩
  · have HT : Hid (topB ts k = (8, 0)) := by
      show topB ts k = (8, 0)
      rw [topB, hl, if_neg hkn]
    have hk3 : (n : Int) ≤ (k : Int) := by omega
    have HP := Lib.hid (fun w => plain_any 8 w)
    clear h hl
    go_enter Tryz.func81, Tryz.ntmps81
    go_wp2_with (first
      | (go_at_call 77
         refine (HP.out _).mono ?_
         rintro e w1 ⟨rfl, hb1⟩
         have HB := Lib.hid hb1
         obtain ⟨hc1, hf1⟩ := bcell hb1
         have hs1 : w.heap.size < w1.heap.size := (by have := hb1.size; simp at this; omega)
         clear hb1))
    exact bodyPost_ret (v := .agg #[.int .i64 8, .int .i64 0]) (by simp [results, Tryz.results81, go_sem, hc1, hs1]) rfl ⟨by rw [HT.out], below_set2 ((below_new _ _).trans (HB.out.mono (by simp))) (Nat.le_refl _)⟩

def hasB (n : Nat) (k : Int) : Bool := decide (0 ≤ k) && decide (k < (n : Int))
set_option maxRecDepth 100000 in
theorem hasT_any (A : Option Addr) (n c : Nat) (k : Int) (w : World) : Calls Tryz.prog 109 #[.slice A n c, .int .i64 k] w fun e w' => e = .returned (.bool (hasB n k)) ∧ w' = w := by
  unfold hasB
  by_cases h0 : 0 ≤ k
  · go_enter Tryz.func109, Tryz.ntmps109
    go_wp2_with fail
    go_ret
    exact ⟨by simp [h0], rfl⟩
  · go_enter Tryz.func109, Tryz.ntmps109
    go_wp2_with fail
    go_ret
    exact ⟨by simp [h0]; omega, rfl⟩
set_option maxRecDepth 100000 in
theorem hasF_any (A : Option Addr) (n c : Nat) (k : Int) (w : World) : Calls Tryz.prog 42 #[.slice A n c, .int .i64 k] w fun e w' => e = .returned (.bool (hasB n k)) ∧ w' = w := by
  unfold hasB
  by_cases h0 : 0 ≤ k
  · go_enter Tryz.func42, Tryz.ntmps42
    go_wp2_with fail
    go_ret
    exact ⟨by simp [h0], rfl⟩
  · go_enter Tryz.func42, Tryz.ntmps42
    go_wp2_with fail
    go_ret
    exact ⟨by simp [h0]; omega, rfl⟩
set_option maxRecDepth 100000 in
theorem hasI_any (A : Option Addr) (n c : Nat) (k : Int) (w : World) : Calls Tryz.prog 43 #[.slice A n c, .int .i64 k] w fun e w' => e = .returned (.bool (hasB n k)) ∧ w' = w := by
  unfold hasB
  by_cases h0 : 0 ≤ k
  · go_enter Tryz.func43, Tryz.ntmps43
    go_wp2_with fail
    go_ret
    exact ⟨by simp [h0], rfl⟩
  · go_enter Tryz.func43, Tryz.ntmps43
    go_wp2_with fail
    go_ret
    exact ⟨by simp [h0]; omega, rfl⟩
end Go.Proofs.YtikhhcmfjncabaaGreat
namespace Go.Proofs.YtikhhcmfjncabaaGreat
open Go.RowKit

theorem kref (k n : Int) (w : World) : Calls Tryz.prog 86 #[.agg #[.int .i64 k, .int .i64 n]] w fun e w' => e = .returned (.bool (refB k)) ∧ Below w.heap.size w w' := by
  by_cases h2 : k = 2
  · subst h2
    go_enter Tryz.func86, Tryz.ntmps86
    go_wp2_with fail
    go_ret
    exact ⟨rfl, (Below.refl _ _).alloc (Nat.le_refl _) _⟩
  by_cases h3 : k = 3
  · subst h3
    go_enter Tryz.func86, Tryz.ntmps86
    go_wp2_with fail
    go_ret
    exact ⟨rfl, (Below.refl _ _).alloc (Nat.le_refl _) _⟩
  by_cases h4 : k = 4
  · subst h4
    go_enter Tryz.func86, Tryz.ntmps86
    go_wp2_with fail
    go_ret
    exact ⟨rfl, (Below.refl _ _).alloc (Nat.le_refl _) _⟩
  by_cases h6 : k = 6
  · subst h6
    go_enter Tryz.func86, Tryz.ntmps86
    go_wp2_with fail
    go_ret
    exact ⟨rfl, (Below.refl _ _).alloc (Nat.le_refl _) _⟩
  by_cases h7 : k = 7
  · subst h7
    go_enter Tryz.func86, Tryz.ntmps86
    go_wp2_with fail
    go_ret
    exact ⟨rfl, (Below.refl _ _).alloc (Nat.le_refl _) _⟩
  have e : refB k = false := by simp [refB, h2, h3, h4, h6, h7]
  rw [e]
  clear e
  go_enter Tryz.func86, Tryz.ntmps86
  go_wp2_with fail
  go_ret
  exact ⟨rfl, (Below.refl _ _).alloc (Nat.le_refl _) _⟩

set_option maxHeartbeats 1000000 in
theorem ksub (a b c d : Int) (w : World) : Calls Tryz.prog 49 #[.agg #[.int .i64 a, .int .i64 b], .agg #[.int .i64 c, .int .i64 d]] w fun e w' => e = .returned (.bool (subB a b c d)) ∧ Below w.heap.size w w' := by
  have A0 := Lib.hid (fun w => kref a b w)
  have C0 := Lib.hid (fun w => kref c d w)
  by_cases h8 : c = 8
  · subst h8
    rw [show subB a b 8 d = true by simp [subB]]
    go_enter Tryz.func49, Tryz.ntmps49
    go_wp2_with fail
    all_goals (go_ret; exact ⟨rfl, ((Below.refl _ _).alloc (Nat.le_refl _) _).alloc (by simp) _⟩)
  have e8 : (c == 8) = false := by simpa using h8
  by_cases hac : a = c
  · subst hac
    by_cases hbd : b = d
    · subst hbd
      rw [show subB a b a b = true by simp [subB]]
      go_enter Tryz.func49, Tryz.ntmps49
      go_wp2_with fail
      go_ret
      exact ⟨rfl, ((Below.refl _ _).alloc (Nat.le_refl _) _).alloc (by simp) _⟩
    have hne : (b == d) = false := by simpa using hbd
    cases hra : refB a
    · rw [show subB a b a d = false by simp [subB, hra, hne, e8]]
      replace A0 := Lib.hid (by have := A0.out; rw [hra] at this; exact this)
      clear hra
      go_enter Tryz.func49, Tryz.ntmps49
      go_wp2_with (first | (go_at_call 86; with_reducible refine (A0.out _).mono ?_; rintro e w1 ⟨rfl, hb1⟩; obtain ⟨hc1, -⟩ := bcell hb1; have hz1 : w.heap.size + 1 < w1.heap.size := by { have := hb1.size; simp at this; omega }; have hz0 : w.heap.size < w1.heap.size := by omega))
      go_ret
      exact ⟨rfl, (((Below.refl _ _).alloc (Nat.le_refl _) _).alloc (by simp) _).trans (hb1.mono (by simp; omega))⟩
    cases hrc : refB a
    · rw [show subB a b a d = false by simp [subB, hrc, hne, e8]]
      replace A0 := Lib.hid (by have := A0.out; rw [hra] at this; exact this)
      replace C0 := Lib.hid (by have := C0.out; rw [hrc] at this; exact this)
      clear hra hrc
      go_enter Tryz.func49, Tryz.ntmps49
      go_wp2_with (first | (go_at_call 86; with_reducible refine (A0.out _).mono ?_; rintro e w1 ⟨rfl, hb1⟩; obtain ⟨hc1, -⟩ := bcell hb1; have hz1 : w.heap.size + 1 < w1.heap.size := by { have := hb1.size; simp at this; omega }; have hz0 : w.heap.size < w1.heap.size := by omega) | (go_at_call 86; with_reducible refine (C0.out _).mono ?_; rintro e w2 ⟨rfl, hb2⟩; obtain ⟨hc2, -⟩ := bcell hb2))
      go_ret
      exact ⟨rfl, ((((Below.refl _ _).alloc (Nat.le_refl _) _).alloc (by simp) _).trans (hb1.mono (by simp; omega))).trans (hb2.mono (by omega))⟩
    by_cases h6 : a = 6
    · rw [show subB a b a d = true by simp only [subB, hra, hrc]; simp [h6]]
      replace A0 := Lib.hid (by have := A0.out; rw [hra] at this; exact this)
      replace C0 := Lib.hid (by have := C0.out; rw [hrc] at this; exact this)
      clear hra hrc
      have e6 : (a == 6) = true := by simpa using h6
      clear h6
      go_enter Tryz.func49, Tryz.ntmps49
      go_wp2_with (first | (go_at_call 86; with_reducible refine (A0.out _).mono ?_; rintro e w1 ⟨rfl, hb1⟩; obtain ⟨hc1, -⟩ := bcell hb1; have hz1 : w.heap.size + 1 < w1.heap.size := by { have := hb1.size; simp at this; omega }; have hz0 : w.heap.size < w1.heap.size := by omega) | (go_at_call 86; with_reducible refine (C0.out _).mono ?_; rintro e w2 ⟨rfl, hb2⟩; obtain ⟨hc2, -⟩ := bcell hb2))
      go_ret
      exact ⟨rfl, ((((Below.refl _ _).alloc (Nat.le_refl _) _).alloc (by simp) _).trans (hb1.mono (by simp; omega))).trans (hb2.mono (by omega))⟩
    rw [show subB a b a d = (a == 7) by simp [subB, hra, hrc, h6, hne, e8]]
    replace A0 := Lib.hid (by have := A0.out; rw [hra] at this; exact this)
    replace C0 := Lib.hid (by have := C0.out; rw [hrc] at this; exact this)
    clear hra hrc
    have e6 : (a == 6) = false := by simpa using h6
    clear h6
    go_enter Tryz.func49, Tryz.ntmps49
    go_wp2_with (first | (go_at_call 86; with_reducible refine (A0.out _).mono ?_; rintro e w1 ⟨rfl, hb1⟩; obtain ⟨hc1, -⟩ := bcell hb1; have hz1 : w.heap.size + 1 < w1.heap.size := by { have := hb1.size; simp at this; omega }; have hz0 : w.heap.size < w1.heap.size := by omega) | (go_at_call 86; with_reducible refine (C0.out _).mono ?_; rintro e w2 ⟨rfl, hb2⟩; obtain ⟨hc2, -⟩ := bcell hb2))
    go_ret
    exact ⟨rfl, ((((Below.refl _ _).alloc (Nat.le_refl _) _).alloc (by simp) _).trans (hb1.mono (by simp; omega))).trans (hb2.mono (by omega))⟩
  have hne : (a == c) = false := by simpa using hac
  cases hra : refB a
  · rw [show subB a b c d = false by simp [subB, hra, hne, e8]]
    replace A0 := Lib.hid (by have := A0.out; rw [hra] at this; exact this)
    clear hra
    go_enter Tryz.func49, Tryz.ntmps49
    go_wp2_with (first | (go_at_call 86; with_reducible refine (A0.out _).mono ?_; rintro e w1 ⟨rfl, hb1⟩; obtain ⟨hc1, -⟩ := bcell hb1; have hz1 : w.heap.size + 1 < w1.heap.size := by { have := hb1.size; simp at this; omega }; have hz0 : w.heap.size < w1.heap.size := by omega))
    go_ret
    exact ⟨rfl, (((Below.refl _ _).alloc (Nat.le_refl _) _).alloc (by simp) _).trans (hb1.mono (by simp; omega))⟩
  cases hrc : refB c
  · rw [show subB a b c d = false by simp [subB, hrc, hne, e8]]
    replace A0 := Lib.hid (by have := A0.out; rw [hra] at this; exact this)
    replace C0 := Lib.hid (by have := C0.out; rw [hrc] at this; exact this)
    clear hra hrc
    go_enter Tryz.func49, Tryz.ntmps49
    go_wp2_with (first | (go_at_call 86; with_reducible refine (A0.out _).mono ?_; rintro e w1 ⟨rfl, hb1⟩; obtain ⟨hc1, -⟩ := bcell hb1; have hz1 : w.heap.size + 1 < w1.heap.size := by { have := hb1.size; simp at this; omega }; have hz0 : w.heap.size < w1.heap.size := by omega) | (go_at_call 86; with_reducible refine (C0.out _).mono ?_; rintro e w2 ⟨rfl, hb2⟩; obtain ⟨hc2, -⟩ := bcell hb2))
    go_ret
    exact ⟨rfl, ((((Below.refl _ _).alloc (Nat.le_refl _) _).alloc (by simp) _).trans (hb1.mono (by simp; omega))).trans (hb2.mono (by omega))⟩
  by_cases h6 : a = 6
  · rw [show subB a b c d = true by simp only [subB, hra, hrc]; simp [h6]]
    replace A0 := Lib.hid (by have := A0.out; rw [hra] at this; exact this)
    replace C0 := Lib.hid (by have := C0.out; rw [hrc] at this; exact this)
    clear hra hrc
    have e6 : (a == 6) = true := by simpa using h6
    clear h6
    go_enter Tryz.func49, Tryz.ntmps49
    go_wp2_with (first | (go_at_call 86; with_reducible refine (A0.out _).mono ?_; rintro e w1 ⟨rfl, hb1⟩; obtain ⟨hc1, -⟩ := bcell hb1; have hz1 : w.heap.size + 1 < w1.heap.size := by { have := hb1.size; simp at this; omega }; have hz0 : w.heap.size < w1.heap.size := by omega) | (go_at_call 86; with_reducible refine (C0.out _).mono ?_; rintro e w2 ⟨rfl, hb2⟩; obtain ⟨hc2, -⟩ := bcell hb2))
    go_ret
    exact ⟨rfl, ((((Below.refl _ _).alloc (Nat.le_refl _) _).alloc (by simp) _).trans (hb1.mono (by simp; omega))).trans (hb2.mono (by omega))⟩
  rw [show subB a b c d = (c == 7) by simp [subB, hra, hrc, h6, hne, e8]]
  replace A0 := Lib.hid (by have := A0.out; rw [hra] at this; exact this)
  replace C0 := Lib.hid (by have := C0.out; rw [hrc] at this; exact this)
  clear hra hrc
  have e6 : (a == 6) = false := by simpa using h6
  clear h6
  go_enter Tryz.func49, Tryz.ntmps49
  go_wp2_with (first | (go_at_call 86; with_reducible refine (A0.out _).mono ?_; rintro e w1 ⟨rfl, hb1⟩; obtain ⟨hc1, -⟩ := bcell hb1; have hz1 : w.heap.size + 1 < w1.heap.size := by { have := hb1.size; simp at this; omega }; have hz0 : w.heap.size < w1.heap.size := by omega) | (go_at_call 86; with_reducible refine (C0.out _).mono ?_; rintro e w2 ⟨rfl, hb2⟩; obtain ⟨hc2, -⟩ := bcell hb2))
  go_ret
  exact ⟨rfl, ((((Below.refl _ _).alloc (Nat.le_refl _) _).alloc (by simp) _).trans (hb1.mono (by simp; omega))).trans (hb2.mono (by omega))⟩
end Go.Proofs.YtikhhcmfjncabaaGreat
namespace Go.Proofs.YtikhhcmfjncabaaGreat
open Go.RowKit

set_option maxRecDepth 100000 in
set_option maxHeartbeats 1000000 in
theorem equalFunc_sub (A B : Option Addr) (n m c d : Nat) (xs ys : List Typ) (w : World) (hl : xs.length = n) (hm : ys.length = m) (h : Sq typL (· < w.heap.size) w A xs) (h' : Sq typL (· < w.heap.size) w B ys) (hn2 : n ≤ 9223372036854775807) (hm2 : m ≤ 9223372036854775807) :
    Calls Tryz.prog 48 #[.slice A n c, .slice B m d, .func (.func 49) #[] #[]] w (Tells (belowT xs ys) w) := by
  have HL := Lib.hid hl
  have HM := Lib.hid hm
  have HS := Lib.hid h
  have HT := Lib.hid h'
  clear hl hm h h'
  by_cases hnm : n = m
  · subst hnm
    go_enter Tryz.func48, Tryz.ntmps48
    go_wp2_with fail
    go_loopw [17] (fun i wr => ∃ k : Nat, k ≤ n ∧ i = .int .i64 (k : Nat) ∧ belowT (xs.take k) (ys.take k) = true ∧ Below w.heap.size w wr) (fun i _ => n - (intOf i).toNat)
    case atStart => exact ⟨0, Nat.zero_le _, rfl, by simp [belowT], Below.refl _ _⟩
    case round =>
      obtain ⟨k, hk, rfl, heq, hbel⟩ := hrel
      have HE := Lib.hid heq
      have HB := Lib.hid hbel
      have hs := hbel.size
      clear heq hbel
      by_cases hlt : k < n
      · skip
        obtain ⟨x, hx⟩ : ∃ x, xs[k]? = some x := ⟨xs[k]'(by rw [HL.out]; exact hlt), List.getElem?_eq_getElem _⟩
        obtain ⟨y, hy⟩ : ∃ y, ys[k]? = some y := ⟨ys[k]'(by rw [HM.out]; exact hlt), List.getElem?_eq_getElem _⟩
        obtain ⟨a, cs, rfl, hab, hc, hr⟩ := HS.out.at hx
        obtain ⟨b, cs2, rfl, hbb, hc2, hr2⟩ := HT.out.at hy
        have HX := Lib.hid hx
        have HY := Lib.hid hy
        clear hx hy
        obtain ⟨rfl, -, -⟩ := hr
        obtain ⟨rfl, -, -⟩ := hr2
        have c0 := (HB.out.cell (p := a.add (k * 2)) (by rw [addBlock]; exact hab)).trans (hc 0 _ rfl)
        have c1 := (HB.out.cell (p := a.add (k * 2 + 1)) (by rw [addBlock]; exact hab)).trans (hc 1 _ rfl)
        rw [next_cell a (k * 2) 1 (by omega)] at c1
        have k0 := fun ob => ((HB.out.alloc hs ob).cell (p := b.add (k * 2)) (by rw [addBlock]; exact hbb)).trans (hc2 0 _ rfl)
        have k1 := fun ob => ((HB.out.alloc hs ob).cell (p := b.add (k * 2 + 1)) (by rw [addBlock]; exact hbb)).trans (hc2 1 _ rfl)
        rw [next_cell b (k * 2) 1 (by omega)] at k1
        have HP : Hid (∀ w1, Calls Tryz.prog 49 #[.agg #[.int .i64 x.1, .int .i64 x.2], .agg #[.int .i64 y.1, .int .i64 y.2]] w1 (Tells (subT x y) w1)) := fun w1 => ksub x.1 x.2 y.1 y.2 w1
        clear hc hc2
        cases hg : subT x y
        all_goals
          rw [hg] at HP
          have HG := Lib.hid hg
          clear hg
          go_wp2_with (first
            | (go_at_call 49
               refine (HP.out _).mono ?_
               rintro e w2 ⟨rfl, hb2⟩
               have Hb2 := Lib.hid (((HB.out.alloc hs _).alloc (by simp; omega) _).trans (hb2.mono (by simp; omega)))
               clear hb2))
        · go_ret
          exact ⟨by rw [below_not HX.out HY.out HG.out]; rfl, Hb2.out⟩
        · refine ⟨⟨k + 1, by omega, by simp, below_step HE.out HX.out HY.out HG.out, Hb2.out⟩, by simp [intOf]; omega⟩
      · obtain rfl : k = n := by omega
        go_wp2_with fail
        go_ret
        refine ⟨?_, HB.out⟩
        have e := HE.out
        rw [List.take_of_length_le (by rw [HL.out]; exact Nat.le_refl _), List.take_of_length_le (by rw [HM.out]; exact Nat.le_refl _)] at e
        rw [e]
        rfl
  · have h1 : ((n : Int) != (m : Int)) = true := by simp; omega
    have h2 : (n != m) = true := by simpa using hnm
    have HNM := Lib.hid hnm
    clear hnm
    go_enter Tryz.func48, Tryz.ntmps48
    go_wp2_with fail
    go_ret
    refine ⟨?_, Below.refl _ _⟩
    rw [below_len_not (fun e => HNM.out (by rw [← HL.out, ← HM.out, e]))]
    rfl
end Go.Proofs.YtikhhcmfjncabaaGreat
