/-
  En Sml Lis Sn
-/
import Derived.Test.YtpjanfkliaaflaaQ02
import Derived.Test.YtpjanfkliaaflaaQ05
import Derived.Test.YtpjanfkliaaflaaQ06
import Derived.BigQuiet
set_option linter.unusedSimpArgs false
set_option linter.unusedVariables false
namespace Go.Proofs.Ytpjanfkliaaflaa
open Go.RowKit

theorem rws_five (w : World) (A0 A1 A2 A3 A4 : Option Addr) (c0 c1 c2 c3 c4 : Nat) (x0 x1 x2 x3 x4 : List Nat) (h0 : Yb w A0 c0 x0) (h1 : Yb w A1 c1 x1) (h2 : Yb w A2 c2 x2) (h3 : Yb w A3 c3 x3) (h4 : Yb w A4 c4 x4) :
    Rws (· < (w.alloc (.cells #[.slice A0 x0.length c0, .slice A1 x1.length c1, .slice A2 x2.length c2, .slice A3 x3.length c3, .slice A4 x4.length c4] 64)).heap.size)
      (w.alloc (.cells #[.slice A0 x0.length c0, .slice A1 x1.length c1, .slice A2 x2.length c2, .slice A3 x3.length c3, .slice A4 x4.length c4] 64)) (some ⟨w.heap.size, 0, none⟩) [x0, x1, x2, x3, x4] := fun _ => by
  refine ⟨_, rfl, by simp, fun j hj => ?_⟩
  have hk : ∀ o : Obj, ∀ b, b < w.heap.size → (w.alloc o).heap[b]? = w.heap[b]? := fun o b hb => Below.heap_alloc w _ b hb
  have e : (⟨w.heap.size, 0, none⟩ : Addr).add j = ⟨w.heap.size, j, none⟩ := by unfold Addr.add; split <;> simp_all
  rw [e, World.cell?_alloc_mark]
  match j, hj with
  | 0, _ => exact ⟨A0, c0, rfl, h0.1, (h0.2.keep (hk _)).wide fun b hb => by simp; omega⟩
  | 1, _ => exact ⟨A1, c1, rfl, h1.1, (h1.2.keep (hk _)).wide fun b hb => by simp; omega⟩
  | 2, _ => exact ⟨A2, c2, rfl, h2.1, (h2.2.keep (hk _)).wide fun b hb => by simp; omega⟩
  | 3, _ => exact ⟨A3, c3, rfl, h3.1, (h3.2.keep (hk _)).wide fun b hb => by simp; omega⟩
  | 4, _ => exact ⟨A4, c4, rfl, h4.1, (h4.2.keep (hk _)).wide fun b hb => by simp; omega⟩
  | j + 5, hj => exact absurd hj (by simp)

def Encodes (m : Mod) (w : World) (e : Ending) (w' : World) : Prop :=
  Below w.heap.size w w' ∧ ((fitB m = false ∧ e = .returned (.tuple #[.slice none 0 0, .int .i64 2])) ∨
    (fitB m = true ∧ ∃ u, e = .returned (.tuple #[u, .int .i64 0]) ∧ w'.ownsRow w.heap.size 5 1 u (modB m).length (Bs (modB m))))

set_option maxRecDepth 100000 in
set_option maxHeartbeats 4000000 in
theorem encode_any (cs : List Value) (x : Mod) (w : World) (h : modL.R (· < w.heap.size) w cs x) : Calls Try.prog 19 #[vAgg cs] w (Encodes x w) := by
  have TF : Hid (∀ w1, Below w.heap.size w w1 → Calls Try.prog 31 #[vAgg cs] w1 (Tells (fitB x) w1)) := fun w1 hb => fits_any cs x w1 (modL.wide (modL.keep h fun b hb1 => hb.block b hb1) fun b hb1 => Nat.lt_of_lt_of_le hb1 hb.size)
  obtain ⟨_, _, _, _, _, rfl, ⟨A0, d0, e0, l0, m0, s0⟩, ⟨A1, d1, e1, l1, m1, s1⟩, ⟨A2, d2, e2, l2, m2, s2⟩, ⟨A3, d3, e3, l3, m3, s3⟩, ⟨A4, d4, e4, l4, m4, s4⟩⟩ := h
  simp only [List.cons.injEq, and_true] at e0 e1 e2 e3 e4
  subst e0 e1 e2 e3 e4
  have TF2 : Hid (∀ w1, Below w.heap.size w w1 → Calls Try.prog 31 #[.agg #[.slice A0 x.recs.length d0, .slice A1 x.funcs.length d1, .slice A2 x.imps.length d2, .slice A3 x.ints.length d3, .slice A4 x.texts.length d4]] w1 (Tells (fitB x) w1)) := TF.out
  clear TF
  show Calls Try.prog 19 #[.agg #[.slice A0 x.recs.length d0, .slice A1 x.funcs.length d1, .slice A2 x.imps.length d2, .slice A3 x.ints.length d3, .slice A4 x.texts.length d4]] w (Encodes x w)
  have HB0 : Hid (∀ o : Obj, Below w.heap.size w (w.alloc o)) := fun o => (Below.refl _ _).alloc (Nat.le_refl _) _
  cases hf : fitB x
  · rw [hf] at TF2
    have HF := Lib.hid hf
    generalize x.recs.length = n0 at *
    generalize x.funcs.length = n1 at *
    generalize x.imps.length = n2 at *
    generalize x.ints.length = n3 at *
    generalize x.texts.length = n4 at *
    clear hf s0 s1 s2 s3 s4 m0 m1 m2 m3 m4
    go_enter Try.func19, Try.ntmps19
    go_wp2_with (first
      | (go_at_call 31
         refine (TF2.out _ (HB0.out _)).mono ?_
         rintro e w1 ⟨rfl, hb1⟩
         have HB1 := Lib.hid ((HB0.out _).trans (hb1.mono (by simp)))
         clear hb1))
    go_ret2
    exact ⟨HB1.out, .inl ⟨HF.out, rfl⟩⟩
  · rw [hf] at TF2
    have hF := fitB_iff.1 hf
    have HF := Lib.hid hf
    have hpl := hF.parts_len
    have p0 := hpl 0 (by simp [partsB])
    have p1 := hpl 1 (by simp [partsB])
    have p2 := hpl 2 (by simp [partsB])
    have p3 := hpl 3 (by simp [partsB])
    have p4 := hpl 4 (by simp [partsB])
    simp [partsB] at p0 p1 p2 p3 p4
    have r8 := hF.r8
    have f8 := hF.f8
    have i8 := hF.i8
    have n16 := hF.n16
    have t16 := hF.t16
    obtain ⟨n0, h0⟩ : ∃ n, x.recs.length = n := ⟨_, rfl⟩
    obtain ⟨n1, h1⟩ : ∃ n, x.funcs.length = n := ⟨_, rfl⟩
    obtain ⟨n2, h2⟩ : ∃ n, x.imps.length = n := ⟨_, rfl⟩
    obtain ⟨n3, h3⟩ : ∃ n, x.ints.length = n := ⟨_, rfl⟩
    obtain ⟨n4, h4⟩ : ∃ n, x.texts.length = n := ⟨_, rfl⟩
    obtain ⟨y0, hy0⟩ : ∃ y, lB (lB tB) x.recs = y := ⟨_, rfl⟩
    obtain ⟨y1, hy1⟩ : ∃ y, lB fnB x.funcs = y := ⟨_, rfl⟩
    obtain ⟨y2, hy2⟩ : ∃ y, lB impB x.imps = y := ⟨_, rfl⟩
    obtain ⟨y3, hy3⟩ : ∃ y, lB numB x.ints = y := ⟨_, rfl⟩
    obtain ⟨y4, hy4⟩ : ∃ y, lB pt x.texts = y := ⟨_, rfl⟩
    have P0 : Hid (∀ w1, Below w.heap.size w w1 → Calls Try.prog 33 #[.slice A0 n0 d0, .func (.func 34) #[] #[]] w1 (Puts y0 w1)) := fun w1 hb => by
      rw [← hy0]
      refine putList_rec A0 n0 d0 x.recs w1 h0 ((s0.keep fun b hb1 => hb.block b hb1).wide fun b hb1 => Nat.lt_of_lt_of_le hb1 hb.size) (by omega) (by omega) fun w2 cs y hy hr => ?_
      obtain ⟨A, c, rfl, l1, l2, l3⟩ := hr
      have hz := rec_sizes (hF.recs y hy)
      have hzl := tys_len hF.r8 (by omega) hz.2
      exact putTypes_any A y.length c y w2 rfl l3 (by omega) (by omega)
    have P1 : Hid (∀ w1, Below w.heap.size w w1 → Calls Try.prog 35 #[.slice A1 n1 d1, .func (.func 36) #[] #[]] w1 (Puts y1 w1)) := fun w1 hb => by
      rw [← hy1]
      exact putList_fn A1 n1 d1 x.funcs w1 h1 ((s1.keep fun b hb1 => hb.block b hb1).wide fun b hb1 => Nat.lt_of_lt_of_le hb1 hb.size) (by omega) (by omega) fun w2 cs y hy hr => putFunction_any cs y _ w2 hF.r8 (hF.funcs y hy) hr
    have P2 : Hid (∀ w1, Below w.heap.size w w1 → Calls Try.prog 37 #[.slice A2 n2 d2, .func (.func 38) #[] #[]] w1 (Puts y2 w1)) := fun w1 hb => by
      rw [← hy2]
      exact putList_imp A2 n2 d2 x.imps w1 h2 ((s2.keep fun b hb1 => hb.block b hb1).wide fun b hb1 => Nat.lt_of_lt_of_le hb1 hb.size) (by omega) (by omega) fun w2 cs y hy hr => putImport_any cs y _ w2 hF.r8 (hF.imps y hy) hr
    have P3 : Hid (∀ w1, Below w.heap.size w w1 → Calls Try.prog 39 #[.slice A3 n3 d3, .func (.func 40) #[] #[]] w1 (Puts y3 w1)) := fun w1 hb => by
      rw [← hy3]
      refine putList_num A3 n3 d3 x.ints w1 h3 ((s3.keep fun b hb1 => hb.block b hb1).wide fun b hb1 => Nat.lt_of_lt_of_le hb1 hb.size) (by omega) (by omega) fun w2 cs y hy hr => ?_
      obtain ⟨rfl, hy64⟩ := hr
      exact putNumber_w y w2 hy64
    have P4 : Hid (∀ w1, Below w.heap.size w w1 → Calls Try.prog 41 #[.slice A4 n4 d4, .func (.func 42) #[] #[]] w1 (Puts y4 w1)) := fun w1 hb => by
      rw [← hy4]
      refine putList_str A4 n4 d4 x.texts w1 h4 ((s4.keep fun b hb1 => hb.block b hb1).wide fun b hb1 => Nat.lt_of_lt_of_le hb1 hb.size) (by omega) (by omega) fun w2 cs y hy hr => ?_
      obtain ⟨s, rfl, rfl⟩ := hr
      exact putText_w s w2 (by have := hF.texts _ hy; omega)
    have hlen := hF.len
    have HI : Hid (modB x = joinB [y0, y1, y2, y3, y4]) := by show modB x = _; rw [← hy0, ← hy1, ← hy2, ← hy3, ← hy4]; rfl
    have HZ : Hid ((joinB [y0, y1, y2, y3, y4]).length ≤ 1000000) := by show (joinB _).length ≤ _; rw [← HI.out]; omega
    rw [h0, h1, h2, h3, h4] at TF2 ⊢
    clear hF hf hpl p0 p1 p2 p3 p4 r8 f8 i8 n16 t16 h0 h1 h2 h3 h4 hy0 hy1 hy2 hy3 hy4 s0 s1 s2 s3 s4 l0 l1 l2 l3 l4 m0 m1 m2 m3 m4 hlen
    go_enter Try.func19, Try.ntmps19
    have HC : Hid (C5 w.heap.size (.slice A0 n0 d0) (.slice A1 n1 d1) (.slice A2 n2 d2) (.slice A3 n3 d3) (.slice A4 n4 d4) (w.alloc (.cells #[.slice A0 n0 d0, .slice A1 n1 d1, .slice A2 n2 d2, .slice A3 n3 d3, .slice A4 n4 d4] 37))) := by show C5 _ _ _ _ _ _ _; simp [C5, go_sem]
    go_wp2_with (first
      | (go_at_call 31
         refine (TF2.out _ (HB0.out _)).mono ?_
         rintro e W ⟨rfl, hb1⟩
         have HB := Lib.hid ((HB0.out _).trans (hb1.mono (by simp)))
         have HC0 := Lib.hid (HC.out.below hb1 (by simp))
         have hs : w.heap.size < W.heap.size := (by have := hb1.size; simp at this; omega)
         clear hb1))
    obtain ⟨z0, z1, z2, z3, z4⟩ := HC0.out
    go_region_held3 (fun w' => w'.cell? ⟨w.heap.size, 0, none⟩ = some (.slice A0 n0 d0) ∧ w'.cell? ⟨w.heap.size, 1, none⟩ = some (.slice A1 n1 d1) ∧ w'.cell? ⟨w.heap.size, 2, none⟩ = some (.slice A2 n2 d2) ∧ w'.cell? ⟨w.heap.size, 3, none⟩ = some (.slice A3 n3 d3) ∧ w'.cell? ⟨w.heap.size, 4, none⟩ = some (.slice A4 n4 d4))
      (first | exact HC6.out | exact HC5.out | exact HC5.out.below (Below.alloc (Below.refl _ _) (Nat.le_refl _) _) HS5.out | exact HC4.out | exact HC3.out | exact HC2.out | exact HC1.out | exact HC0.out)
      (first
        | (go_at_call 33
           refine (P0.out _ HB.out.drew).mono ?_
           rintro e w1 ⟨u1, rfl, hown1, hb1⟩
           obtain ⟨B0, f0, rfl, hy0⟩ := Yb.of hown1
           have Y0a := Lib.hid hy0
           have HB1 := Lib.hid (HB.out.drew.trans (hb1.mono HB.out.size))
           have HC1 := Lib.hid (C5.below (w := W.drew) HC0.out hb1 hs)
           have HS1 := Lib.hid (Nat.lt_of_lt_of_le hs hb1.size)
           clear hown1 hb1 hy0)
        | (go_at_call 35
           refine (P1.out _ HB1.out).mono ?_
           rintro e w2 ⟨u2, rfl, hown2, hb2⟩
           obtain ⟨B1, f1, rfl, hy1⟩ := Yb.of hown2
           have Y0b := Lib.hid (Y0a.out.below hb2)
           have Y1a := Lib.hid hy1
           have HB2 := Lib.hid (HB1.out.trans (hb2.mono HB1.out.size))
           have HC2 := Lib.hid (HC1.out.below hb2 HS1.out)
           have HS2 := Lib.hid (Nat.lt_of_lt_of_le HS1.out hb2.size)
           clear hown2 hb2 hy1)
        | (go_at_call 37
           refine (P2.out _ HB2.out).mono ?_
           rintro e w3 ⟨u3, rfl, hown3, hb3⟩
           obtain ⟨B2, f2, rfl, hy2⟩ := Yb.of hown3
           have Y0c := Lib.hid (Y0b.out.below hb3)
           have Y1b := Lib.hid (Y1a.out.below hb3)
           have Y2a := Lib.hid hy2
           have HB3 := Lib.hid (HB2.out.trans (hb3.mono HB2.out.size))
           have HC3 := Lib.hid (HC2.out.below hb3 HS2.out)
           have HS3 := Lib.hid (Nat.lt_of_lt_of_le HS2.out hb3.size)
           clear hown3 hb3 hy2)
        | (go_at_call 39
           refine (P3.out _ HB3.out).mono ?_
           rintro e w4 ⟨u4, rfl, hown4, hb4⟩
           obtain ⟨B3, f3, rfl, hy3⟩ := Yb.of hown4
           have Y0d := Lib.hid (Y0c.out.below hb4)
           have Y1c := Lib.hid (Y1b.out.below hb4)
           have Y2b := Lib.hid (Y2a.out.below hb4)
           have Y3a := Lib.hid hy3
           have HB4 := Lib.hid (HB3.out.trans (hb4.mono HB3.out.size))
           have HC4 := Lib.hid (HC3.out.below hb4 HS3.out)
           have HS4 := Lib.hid (Nat.lt_of_lt_of_le HS3.out hb4.size)
           clear hown4 hb4 hy3)
        | (go_at_call 41
           refine (P4.out _ HB4.out).mono ?_
           rintro e w5 ⟨u5, rfl, hown5, hb5⟩
           obtain ⟨B4, f4, rfl, hy4⟩ := Yb.of hown5
           have Y0 := Lib.hid (Y0d.out.below hb5)
           have Y1 := Lib.hid (Y1c.out.below hb5)
           have Y2 := Lib.hid (Y2b.out.below hb5)
           have Y3 := Lib.hid (Y3a.out.below hb5)
           have Y4 := Lib.hid hy4
           have HB5 := Lib.hid (HB4.out.trans (hb5.mono HB4.out.size))
           have HC5 := Lib.hid (HC4.out.below hb5 HS4.out)
           have HS5 := Lib.hid (Nat.lt_of_lt_of_le HS4.out hb5.size)
           clear hown5 hb5 hy4)
        | (go_at_call 32
           refine (join_any _ _ _ [y0, y1, y2, y3, y4] _ rfl (rws_five w5 B0 B1 B2 B3 B4 f0 f1 f2 f3 f4 y0 y1 y2 y3 y4 Y0.out Y1.out Y2.out Y3.out Y4.out) HZ.out).mono ?_
           rintro e w6 ⟨u6, rfl, hown6, hb6⟩
           have HO6 := Lib.hid hown6
           have Hb6 := Lib.hid hb6
           have HC6 := Lib.hid ((HC5.out.below (Below.alloc (Below.refl _ _) (Nat.le_refl _) _) HS5.out).below hb6 (by simp; have := HS5.out; omega))
           clear hown6 hb6))
    go_wp2_with fail
    go_ret2
    refine ⟨(HB5.out.alloc HB5.out.size _).trans (Hb6.out.mono (by simp; have := HB5.out.size; omega)), .inr ⟨HF.out, _, rfl, ?_⟩⟩
    rw [HI.out]
    exact own_wide HO6.out (by simp; have := HB5.out.size; omega)
end Go.Proofs.Ytpjanfkliaaflaa
namespace Go.Proofs.Ytpjanfkliaaflaa
open Go.RowKit

structure Small (x : Mod) : Prop where
  recs : ∀ t ∈ x.recs, t.length ≤ 3000
  funcs : ∀ f ∈ x.funcs, f.args.length ≤ 3000 ∧ f.locs.length ≤ 3000 ∧ f.code.length ≤ 3000
  imps : ∀ i ∈ x.imps, i.args.length ≤ 3000
  texts : ∀ s ∈ x.texts, s.length ≤ 3000
end Go.Proofs.Ytpjanfkliaaflaa
namespace Go.Proofs.Ytpjanfkliaaflaa
open Go.RowKit

def Ub {α : Type} (g : α → Nat) (xs : List α) (k : Nat) (z : Int) : Prop := ∀ j p, j < k → xs[j]? = some p → (g p : Int) ≤ z
theorem Ub.zero {α : Type} (g : α → Nat) (xs : List α) (z : Int) : Ub g xs 0 z := fun j p h => absurd h (by omega)
theorem Ub.mono {α : Type} {g : α → Nat} {xs : List α} {k : Nat} {z z' : Int} (h : Ub g xs k z) (hz : z ≤ z') : Ub g xs k z' := fun j p h1 h2 => Int.le_trans (h j p h1 h2) hz
theorem Ub.step {α : Type} {g : α → Nat} {xs : List α} {k : Nat} {z z' : Int} {p : α} (h : Ub g xs k z) (hp : xs[k]? = some p) (hz : z ≤ z') (hg : (g p : Int) ≤ z') : Ub g xs (k + 1) z' := fun j q h1 h2 => by
  by_cases e : j = k
  · subst e
    rw [hp] at h2
    injection h2 with h2
    subst h2
    exact hg
  · exact Int.le_trans (h j q (by omega) h2) hz
theorem Ub.all {α : Type} {g : α → Nat} {xs : List α} {n : Nat} {z : Int} (h : Ub g xs n z) (hn : xs.length = n) : ∀ p ∈ xs, (g p : Int) ≤ z := fun p hp => by
  obtain ⟨j, hj⟩ := List.mem_iff_getElem?.1 hp
  exact h j p (by rw [← hn]; exact (List.getElem?_eq_some_iff.1 hj).1) hj

set_option maxRecDepth 100000 in
set_option maxHeartbeats 8000000 in
theorem light_any (cs : List Value) (x : Mod) (w : World) (h : modL.R (· < w.heap.size) w cs x) (hz : Zm x) : Calls Try.prog 9 #[vAgg cs] w fun e w' => ∃ b : Bool, e = .returned (.bool b) ∧ Below w.heap.size w w' ∧ (b = true → Small x) := by
  have hR : reachBytes < 140737488355328 := reachBytes_lt
  obtain ⟨⟨r0, y0⟩, ⟨r1, y1⟩, ⟨r2, y2⟩, ⟨r3, -⟩, r4, y4⟩ := hz
  have Z0 : Hid (∀ t ∈ x.recs, t.length < 140737488355328) := fun t ht => Nat.lt_of_le_of_lt (y0 t ht).1 hR
  have Z1 : Hid (∀ f ∈ x.funcs, f.args.length < 140737488355328 ∧ f.locs.length < 140737488355328 ∧ f.code.length < 140737488355328) := fun f hf => ⟨Nat.lt_of_le_of_lt (y1 f hf).1.1 hR, Nat.lt_of_le_of_lt (y1 f hf).2.1.1 hR, Nat.lt_of_le_of_lt (y1 f hf).2.2.1 hR⟩
  have Z2 : Hid (∀ f ∈ x.imps, f.args.length < 140737488355328) := fun f hf => Nat.lt_of_le_of_lt (y2 f hf).1 hR
  have Z4 : Hid (∀ s ∈ x.texts, s.length < 140737488355328) := fun s hs => Nat.lt_of_le_of_lt (y4 s hs) hR
  replace r0 : x.recs.length < 140737488355328 := Nat.lt_of_le_of_lt r0 hR
  replace r1 : x.funcs.length < 140737488355328 := Nat.lt_of_le_of_lt r1 hR
  replace r2 : x.imps.length < 140737488355328 := Nat.lt_of_le_of_lt r2 hR
  replace r3 : x.ints.length < 140737488355328 := Nat.lt_of_le_of_lt r3 hR
  replace r4 : x.texts.length < 140737488355328 := Nat.lt_of_le_of_lt r4 hR
  clear hR y0 y1 y2 y4
  obtain ⟨_, _, _, _, _, rfl, ⟨A0, d0, e0, l0, m0, s0⟩, ⟨A1, d1, e1, l1, m1, s1⟩, ⟨A2, d2, e2, l2, m2, s2⟩, ⟨A3, d3, e3, l3, m3, s3⟩, ⟨A4, d4, e4, l4, m4, s4⟩⟩ := h
  simp only [List.cons.injEq, and_true] at e0 e1 e2 e3 e4
  subst e0 e1 e2 e3 e4
  unfold maxLen at m0 m1 m2 m3 m4
  show Calls Try.prog 9 #[.agg #[.slice A0 x.recs.length d0, .slice A1 x.funcs.length d1, .slice A2 x.imps.length d2, .slice A3 x.ints.length d3, .slice A4 x.texts.length d4]] w _
  obtain ⟨n0, hn0⟩ : ∃ n, x.recs.length = n := ⟨_, rfl⟩
  have HL0 := Lib.hid hn0
  have HS0 := Lib.hid s0
  obtain ⟨n1, hn1⟩ : ∃ n, x.funcs.length = n := ⟨_, rfl⟩
  have HL1 := Lib.hid hn1
  have HS1 := Lib.hid s1
  obtain ⟨n2, hn2⟩ : ∃ n, x.imps.length = n := ⟨_, rfl⟩
  have HL2 := Lib.hid hn2
  have HS2 := Lib.hid s2
  obtain ⟨n3, hn3⟩ : ∃ n, x.ints.length = n := ⟨_, rfl⟩
  have HL3 := Lib.hid hn3
  have HS3 := Lib.hid s3
  obtain ⟨n4, hn4⟩ : ∃ n, x.texts.length = n := ⟨_, rfl⟩
  have HL4 := Lib.hid hn4
  have HS4 := Lib.hid s4
  rw [hn0, hn1, hn2, hn3, hn4]
  rw [hn0] at l0 r0
  rw [hn1] at l1 r1
  rw [hn2] at l2 r2
  rw [hn3] at l3 r3
  rw [hn4] at l4 r4
  clear hn0 s0 hn1 s1 hn2 s2 hn3 s3 hn4 s4
  have hw0 : (n0 : Int) ≤ 9223372036854775807 := by omega
  have hw1 : (n1 : Int) ≤ 9223372036854775807 := by omega
  have hw2 : (n2 : Int) ≤ 9223372036854775807 := by omega
  have hw4 : (n4 : Int) ≤ 9223372036854775807 := by omega
  have HB0 : Hid (Below w.heap.size w (w.alloc (.cells #[.slice A0 n0 d0, .slice A1 n1 d1, .slice A2 n2 d2, .slice A3 n3 d3, .slice A4 n4 d4] 37))) := (Below.refl _ _).alloc (Nat.le_refl _) _
  go_enter Try.func9, Try.ntmps9
  go_wp2_with fail
  · go_ret
    exact ⟨_, rfl, HB0.out, fun h => by simp at h⟩
  have hsum : n0 + n1 + n2 + n3 + n4 ≤ 200 := by omega
  refine wp_world fun W hW => ?_
  have HBW : Hid (Below w.heap.size w W) := by show Below _ _ _; rw [hW]; exact HB0.out
  have HCW : Hid (C5 w.heap.size (.slice A0 n0 d0) (.slice A1 n1 d1) (.slice A2 n2 d2) (.slice A3 n3 d3) (.slice A4 n4 d4) W) := by rw [hW]; show C5 _ _ _ _ _ _ _; simp [C5, go_sem]
  have hWz : w.heap.size < W.heap.size := by rw [hW]; simp
  have HZ : Hid (∀ wr, Below W.heap.size W wr → C5 w.heap.size (.slice A0 n0 d0) (.slice A1 n1 d1) (.slice A2 n2 d2) (.slice A3 n3 d3) (.slice A4 n4 d4) wr) := fun wr hb => HCW.out.below hb hWz
  have HFin : Hid (∀ wr, Below W.heap.size W wr → Below w.heap.size w wr) := fun wr hb => HBW.out.trans (hb.mono HBW.out.size)
  clear hW HB0 HCW
  have HA0 := Lib.hid ((HS0.out.below HBW.out (Nat.le_refl _)).wide (T := (· < W.heap.size)) fun b hb => Nat.lt_of_lt_of_le hb HBW.out.size)
  clear HS0
  have HA1 := Lib.hid ((HS1.out.below HBW.out (Nat.le_refl _)).wide (T := (· < W.heap.size)) fun b hb => Nat.lt_of_lt_of_le hb HBW.out.size)
  clear HS1
  have HA2 := Lib.hid ((HS2.out.below HBW.out (Nat.le_refl _)).wide (T := (· < W.heap.size)) fun b hb => Nat.lt_of_lt_of_le hb HBW.out.size)
  clear HS2
  have HA3 := Lib.hid ((HS3.out.below HBW.out (Nat.le_refl _)).wide (T := (· < W.heap.size)) fun b hb => Nat.lt_of_lt_of_le hb HBW.out.size)
  clear HS3
  have HA4 := Lib.hid ((HS4.out.below HBW.out (Nat.le_refl _)).wide (T := (· < W.heap.size)) fun b hb => Nat.lt_of_lt_of_le hb HBW.out.size)
  clear HS4
  go_loopw [3, 4] (fun s i wr => ∃ (z : Int) (k : Nat), s = .int .i64 z ∧ k ≤ n0 ∧ i = .int .i64 (k : Nat) ∧ 0 ≤ z ∧ z ≤ 200 + (k : Int) * 140737488355328 ∧ Ub List.length x.recs k z ∧ Below W.heap.size W wr) (fun _ i _ => n0 - (intOf i).toNat)
  case atStart => exact ⟨_, 0, rfl, Nat.zero_le _, rfl, by omega, by omega, Ub.zero _ _ _, Below.refl _ _⟩
  case round =>
    obtain ⟨z, k, rfl, hk, rfl, hz0, hz1, g0, hbel⟩ := hrel
    have HU0 := Lib.hid g0
    clear g0
    have HB := Lib.hid hbel
    have hs := hbel.size
    clear hbel
    by_cases hlt : k < n0
    · obtain ⟨p, hp⟩ : ∃ p, x.recs[k]? = some p := ⟨x.recs[k]'(by rw [HL0.out]; exact hlt), List.getElem?_eq_getElem _⟩
      have HP := Lib.hid hp
      have hm := List.mem_of_getElem? hp
      obtain ⟨a, cs, ea, hab, hc, hR⟩ := HA0.out.at hp
      clear hp
      subst ea
      have hb9 := Z0.out p hm
      obtain ⟨P0, c3, rfl, -, -, -⟩ := hR
      have ca0 := (HB.out.cell (p := a.add k) (by rw [addBlock]; exact hab)).trans (one_cell (K := tysL.k) rfl (hc 0 _ rfl))
      obtain ⟨v1, hv1⟩ : ∃ v, p.length = v := ⟨_, rfl⟩
      rw [hv1] at ca0 hb9
      have HV1 := Lib.hid hv1
      clear hc hm hv1
      obtain ⟨z0, z1, z2, z3, z4⟩ := HZ.out wr HB.out
      have k0' : 0 ≤ (k : Int) := by omega
      have k1' : (k : Int) < (n0 : Int) := by omega
      go_wp2_with fail
      exact ⟨⟨z + (v1 : Int), k + 1, rfl, by omega, by simp, by omega, by omega, HU0.out.step HP.out (by omega) (by simp only [HV1.out]; omega), HB.out⟩, by simp [intOf]; omega⟩
    · obtain rfl : k = n0 := by omega
      obtain ⟨n0, hnn⟩ : ∃ n, n = k := ⟨_, rfl⟩
      subst hnn
      obtain ⟨z0, z1, z2, z3, z4⟩ := HZ.out wr HB.out
      go_wp2_with fail
      go_loopw [3, 5] (fun s i wr => ∃ (z : Int) (k : Nat), s = .int .i64 z ∧ k ≤ n1 ∧ i = .int .i64 (k : Nat) ∧ 0 ≤ z ∧ z ≤ 28147497671065800 + (k : Int) * 422212465065984 ∧ Ub List.length x.recs n0 z ∧ Ub (fun f => List.length (Fn.args f)) x.funcs k z ∧ Ub (fun f => List.length (Fn.locs f)) x.funcs k z ∧ Ub (fun f => List.length (Fn.code f)) x.funcs k z ∧ Below W.heap.size W wr) (fun _ i _ => n1 - (intOf i).toNat)
      case atStart => exact ⟨_, 0, rfl, Nat.zero_le _, rfl, by omega, by omega, HU0.out, Ub.zero _ _ _, Ub.zero _ _ _, Ub.zero _ _ _, HB.out⟩
      case round =>
        obtain ⟨z, k, rfl, hk, rfl, hz0, hz1, o0, g0, g1, g2, hbel⟩ := hrel
        clear HB
        clear HU0
        have HU0 := Lib.hid o0
        have HU1 := Lib.hid g0
        have HU2 := Lib.hid g1
        have HU3 := Lib.hid g2
        clear o0 g0 g1 g2
        have HB := Lib.hid hbel
        have hs := hbel.size
        clear hbel
        by_cases hlt : k < n1
        · obtain ⟨p, hp⟩ : ∃ p, x.funcs[k]? = some p := ⟨x.funcs[k]'(by rw [HL1.out]; exact hlt), List.getElem?_eq_getElem _⟩
          have HP := Lib.hid hp
          have hm := List.mem_of_getElem? hp
          obtain ⟨a, cs, ea, hab, hc, hR⟩ := HA1.out.at hp
          clear hp
          subst ea
          obtain ⟨hb7, hb8, hb9⟩ := Z1.out p hm
          obtain ⟨_, _, _, rfl, -, -, ⟨P0, c3, e4, -⟩, ⟨P2, c5, e6, -⟩, ⟨P4, c7, e8, -⟩⟩ := hR
          simp only [List.cons.injEq, and_true] at e4 e6 e8
          subst e4 e6 e8
          have ca0 := (HB.out.cell (p := a.add (k * 5)) (by rw [addBlock]; exact hab)).trans (hc 0 _ rfl)
          have ca1 := (HB.out.cell (p := a.add (k * 5 + 1)) (by rw [addBlock]; exact hab)).trans (hc 1 _ rfl)
          rw [next_cell a (k * 5) 1 (by omega)] at ca1
          have ca2 := (HB.out.cell (p := a.add (k * 5 + 2)) (by rw [addBlock]; exact hab)).trans (hc 2 _ rfl)
          rw [next_cell a (k * 5) 2 (by omega)] at ca2
          have ca3 := (HB.out.cell (p := a.add (k * 5 + 3)) (by rw [addBlock]; exact hab)).trans (hc 3 _ rfl)
          rw [next_cell a (k * 5) 3 (by omega)] at ca3
          have ca4 := (HB.out.cell (p := a.add (k * 5 + 4)) (by rw [addBlock]; exact hab)).trans (hc 4 _ rfl)
          rw [next_cell a (k * 5) 4 (by omega)] at ca4
          obtain ⟨v1, hv1⟩ : ∃ v, p.args.length = v := ⟨_, rfl⟩
          obtain ⟨v2, hv2⟩ : ∃ v, p.locs.length = v := ⟨_, rfl⟩
          obtain ⟨v3, hv3⟩ : ∃ v, p.code.length = v := ⟨_, rfl⟩
          rw [hv1] at ca0 hb7
          rw [hv2] at ca3 hb8
          rw [hv3] at ca4 hb9
          have HV1 := Lib.hid hv1
          have HV2 := Lib.hid hv2
          have HV3 := Lib.hid hv3
          clear hc hm hv1 hv2 hv3
          obtain ⟨z0, z1, z2, z3, z4⟩ := HZ.out wr HB.out
          have k0' : 0 ≤ (k : Int) := by omega
          have k1' : (k : Int) < (n1 : Int) := by omega
          go_wp2_with fail
          go_quiet (fail)
          go_wp2_with fail
          exact ⟨⟨z + (v1 : Int) + (v2 : Int) + (v3 : Int), k + 1, rfl, by omega, by simp, by omega, by omega, HU0.out.mono (by omega), HU1.out.step HP.out (by omega) (by simp only [HV1.out]; omega), HU2.out.step HP.out (by omega) (by simp only [HV2.out]; omega), HU3.out.step HP.out (by omega) (by simp only [HV3.out]; omega), below_drews' HB.out _ hs⟩, by simp [intOf]; omega⟩
        · obtain rfl : k = n1 := by omega
          obtain ⟨n1, hnn⟩ : ∃ n, n = k := ⟨_, rfl⟩
          subst hnn
          obtain ⟨z0, z1, z2, z3, z4⟩ := HZ.out wr HB.out
          go_wp2_with fail
          go_loopw [3, 6] (fun s i wr => ∃ (z : Int) (k : Nat), s = .int .i64 z ∧ k ≤ n2 ∧ i = .int .i64 (k : Nat) ∧ 0 ≤ z ∧ z ≤ 112589990684262600 + (k : Int) * 140737488355328 ∧ Ub List.length x.recs n0 z ∧ Ub (fun f => List.length (Fn.args f)) x.funcs n1 z ∧ Ub (fun f => List.length (Fn.locs f)) x.funcs n1 z ∧ Ub (fun f => List.length (Fn.code f)) x.funcs n1 z ∧ Ub (fun f => List.length (Imp.args f)) x.imps k z ∧ Below W.heap.size W wr) (fun _ i _ => n2 - (intOf i).toNat)
          case atStart => exact ⟨_, 0, rfl, Nat.zero_le _, rfl, by omega, by omega, HU0.out, HU1.out, HU2.out, HU3.out, Ub.zero _ _ _, HB.out⟩
          case round =>
            obtain ⟨z, k, rfl, hk, rfl, hz0, hz1, o0, o1, o2, o3, g0, hbel⟩ := hrel
            clear HB
            clear HU0 HU1 HU2 HU3
            have HU0 := Lib.hid o0
            have HU1 := Lib.hid o1
            have HU2 := Lib.hid o2
            have HU3 := Lib.hid o3
            have HU4 := Lib.hid g0
            clear o0 o1 o2 o3 g0
            have HB := Lib.hid hbel
            have hs := hbel.size
            clear hbel
            by_cases hlt : k < n2
            · obtain ⟨p, hp⟩ : ∃ p, x.imps[k]? = some p := ⟨x.imps[k]'(by rw [HL2.out]; exact hlt), List.getElem?_eq_getElem _⟩
              have HP := Lib.hid hp
              have hm := List.mem_of_getElem? hp
              obtain ⟨a, cs, ea, hab, hc, hR⟩ := HA2.out.at hp
              clear hp
              subst ea
              have hb9 := Z2.out p hm
              obtain ⟨_, rfl, -, -, ⟨P0, c3, e4, -⟩⟩ := hR
              simp only [List.cons.injEq, and_true] at e4
              subst e4
              have ca0 := (HB.out.cell (p := a.add (k * 3)) (by rw [addBlock]; exact hab)).trans (hc 0 _ rfl)
              have ca1 := (HB.out.cell (p := a.add (k * 3 + 1)) (by rw [addBlock]; exact hab)).trans (hc 1 _ rfl)
              rw [next_cell a (k * 3) 1 (by omega)] at ca1
              have ca2 := (HB.out.cell (p := a.add (k * 3 + 2)) (by rw [addBlock]; exact hab)).trans (hc 2 _ rfl)
              rw [next_cell a (k * 3) 2 (by omega)] at ca2
              obtain ⟨v1, hv1⟩ : ∃ v, p.args.length = v := ⟨_, rfl⟩
              rw [hv1] at ca0 hb9
              have HV1 := Lib.hid hv1
              clear hc hm hv1
              obtain ⟨z0, z1, z2, z3, z4⟩ := HZ.out wr HB.out
              have k0' : 0 ≤ (k : Int) := by omega
              have k1' : (k : Int) < (n2 : Int) := by omega
              go_wp2_with fail
              exact ⟨⟨z + (v1 : Int), k + 1, rfl, by omega, by simp, by omega, by omega, HU0.out.mono (by omega), HU1.out.mono (by omega), HU2.out.mono (by omega), HU3.out.mono (by omega), HU4.out.step HP.out (by omega) (by simp only [HV1.out]; omega), HB.out⟩, by simp [intOf]; omega⟩
            · obtain rfl : k = n2 := by omega
              obtain ⟨n2, hnn⟩ : ∃ n, n = k := ⟨_, rfl⟩
              subst hnn
              obtain ⟨z0, z1, z2, z3, z4⟩ := HZ.out wr HB.out
              go_wp2_with fail
              go_loopw [3, 7] (fun s i wr => ∃ (z : Int) (k : Nat), s = .int .i64 z ∧ k ≤ n4 ∧ i = .int .i64 (k : Nat) ∧ 0 ≤ z ∧ z ≤ 140737488355328200 + (k : Int) * 140737488355328 ∧ Ub List.length x.recs n0 z ∧ Ub (fun f => List.length (Fn.args f)) x.funcs n1 z ∧ Ub (fun f => List.length (Fn.locs f)) x.funcs n1 z ∧ Ub (fun f => List.length (Fn.code f)) x.funcs n1 z ∧ Ub (fun f => List.length (Imp.args f)) x.imps n2 z ∧ Ub List.length x.texts k z ∧ Below W.heap.size W wr) (fun _ i _ => n4 - (intOf i).toNat)
              case atStart => exact ⟨_, 0, rfl, Nat.zero_le _, rfl, by omega, by omega, HU0.out, HU1.out, HU2.out, HU3.out, HU4.out, Ub.zero _ _ _, HB.out⟩
              case round =>
                obtain ⟨z, k, rfl, hk, rfl, hz0, hz1, o0, o1, o2, o3, o4, g0, hbel⟩ := hrel
                clear HB
                clear HU0 HU1 HU2 HU3 HU4
                have HU0 := Lib.hid o0
                have HU1 := Lib.hid o1
                have HU2 := Lib.hid o2
                have HU3 := Lib.hid o3
                have HU4 := Lib.hid o4
                have HU5 := Lib.hid g0
                clear o0 o1 o2 o3 o4 g0
                have HB := Lib.hid hbel
                have hs := hbel.size
                clear hbel
                by_cases hlt : k < n4
                · obtain ⟨p, hp⟩ : ∃ p, x.texts[k]? = some p := ⟨x.texts[k]'(by rw [HL4.out]; exact hlt), List.getElem?_eq_getElem _⟩
                  have HP := Lib.hid hp
                  have hm := List.mem_of_getElem? hp
                  obtain ⟨a, cs, ea, hab, hc, hR⟩ := HA4.out.at hp
                  clear hp
                  subst ea
                  have hb9 := Z4.out p hm
                  obtain ⟨st, rfl, hst⟩ := hR
                  have ca0 := (HB.out.cell (p := a.add k) (by rw [addBlock]; exact hab)).trans (one_cell (K := strL.k) rfl (hc 0 _ rfl))
                  obtain ⟨v1, hv1⟩ : ∃ v, p.length = v := ⟨_, rfl⟩
                  have hsz : st.size = v1 := by rw [← hv1, hst, strB_len]
                  rw [hv1] at hb9
                  clear hst
                  have HV1 := Lib.hid hv1
                  clear hc hm hv1
                  obtain ⟨z0, z1, z2, z3, z4⟩ := HZ.out wr HB.out
                  have k0' : 0 ≤ (k : Int) := by omega
                  have k1' : (k : Int) < (n4 : Int) := by omega
                  go_wp2_with fail
                  exact ⟨⟨z + (v1 : Int), k + 1, rfl, by omega, by simp, by omega, by omega, HU0.out.mono (by omega), HU1.out.mono (by omega), HU2.out.mono (by omega), HU3.out.mono (by omega), HU4.out.mono (by omega), HU5.out.step HP.out (by omega) (by simp only [HV1.out]; omega), HB.out⟩, by simp [intOf]; omega⟩
                · obtain rfl : k = n4 := by omega
                  obtain ⟨n4, hnn⟩ : ∃ n, n = k := ⟨_, rfl⟩
                  subst hnn
                  obtain ⟨z0, z1, z2, z3, z4⟩ := HZ.out wr HB.out
                  go_wp2_with fail
                  go_ret
                  refine ⟨_, rfl, HFin.out _ HB.out, fun hb => ?_⟩
                  have hz3 : z < 3000 := by simpa using hb
                  refine ⟨fun t ht => ?_, fun f hf => ⟨?_, ?_, ?_⟩, fun i hi => ?_, fun s hs => ?_⟩
                  · have := HU0.out.all HL0.out t ht; omega
                  · have := HU1.out.all HL1.out f hf; omega
                  · have := HU2.out.all HL1.out f hf; omega
                  · have := HU3.out.all HL1.out f hf; omega
                  · have := HU4.out.all HL2.out i hi; omega
                  · have := HU5.out.all HL4.out s hs; omega
end Go.Proofs.Ytpjanfkliaaflaa
namespace Go.Proofs.Ytpjanfkliaaflaa

def namedB (m : Mod) (f : Fn) (i : Ins) : Bool :=
  if i.1 = 0 then decide (i.2.1 < (m.ints.length : Int))
  else if i.1 = 1 then decide (i.2.1 < (m.texts.length : Int))
  else if i.1 = 3 ∨ i.1 = 4 then decide (i.2.1 < (f.args.length : Int) + (f.locs.length : Int))
  else if i.1 = 23 ∨ i.1 = 24 then decide (i.2.1 < (f.code.length : Int))
  else if i.1 = 25 then decide (i.2.1 < (m.funcs.length : Int))
  else if i.1 = 27 then decide (i.2.1 < (m.imps.length : Int))
  else if i.1 = 28 then decide (i.2.1 < (m.recs.length : Int))
  else if i.1 = 29 ∨ i.1 = 30 then (match m.recs[i.2.1.toNat]? with | some r => decide (i.2.2 < (r.length : Int)) | none => false)
  else true
def hanB (t : Typ) : Bool := decide (t.1 = 5)
def hostB (t : Typ) : Bool := decide (t.1 = 1 ∨ t.1 = 5)
def badFn (m : Mod) (f : Fn) : Bool := f.locs.any hanB || f.code.any fun i => !namedB m f i
def badImp (i : Imp) : Bool := i.args.any (fun t => !hostB t) || !hostB i.ret
def badM (m : Mod) : Bool := m.funcs.any (badFn m) || m.imps.any badImp
def checkN (m : Mod) : Int := if fitB m = false then 2 else if badM m = true then 1 else 0
def mainB (m : Mod) : Bool := decide (checkN m = 0) && (match m.funcs with | f :: _ => decide (f.args.length = 0) && decide (f.ret.1 = 1) | [] => false)

theorem checkN_unfit {m : Mod} (h : fitB m = false) : checkN m = 2 := by simp [checkN, h]
theorem checkN_bad {m : Mod} (h : fitB m = true) (hb : badM m = true) : checkN m = 1 := by simp [checkN, h, hb]
theorem mainB_not {m : Mod} (h : checkN m ≠ 0) : mainB m = false := by simp [mainB, h]
theorem mainB_yes {m : Mod} {f : Fn} {fs : List Fn} (h : checkN m = 0) (hf : m.funcs = f :: fs) : mainB m = (decide (f.args.length = 0) && decide (f.ret.1 = 1)) := by simp [mainB, h, hf]
theorem checkN_fit {m : Mod} (h : checkN m = 0) : fitB m = true := by
  cases hf : fitB m
  · rw [checkN_unfit hf] at h; cases h
  · rfl
theorem badFn_any {m : Mod} {f : Fn} (hf : f ∈ m.funcs) (h : badFn m f = true) : badM m = true := by
  rw [badM, Bool.or_eq_true]
  exact .inl (List.any_eq_true.2 ⟨f, hf, h⟩)
theorem bad_code {m : Mod} {f : Fn} {t : Ins} (ht : t ∈ f.code) (h : namedB m f t = false) : badFn m f = true := by
  rw [badFn, Bool.or_eq_true]
  exact .inr (List.any_eq_true.2 ⟨t, ht, by rw [h]; rfl⟩)
theorem any_take {α : Type} {g : α → Bool} {xs : List α} {k : Nat} {x : α} (h : (xs.take k).any g = false) (hx : xs[k]? = some x) (hg : g x = false) : (xs.take (k + 1)).any g = false := by
  obtain ⟨hk, rfl⟩ := List.getElem?_eq_some_iff.1 hx
  rw [List.take_succ_eq_append_getElem hk, List.any_append, h]
  simp [hg]
theorem any_here {α : Type} {g : α → Bool} {xs : List α} {x : α} (hx : x ∈ xs) (hg : g x = true) : xs.any g = true := List.any_eq_true.2 ⟨x, hx, hg⟩
theorem any_full {α : Type} {g : α → Bool} {xs : List α} {n : Nat} (h : (xs.take n).any g = false) (hl : xs.length = n) : xs.any g = false := by
  rwa [List.take_of_length_le (by omega)] at h
theorem dge (a b : Int) : decide (b ≤ a) = !decide (a < b) := by rw [Bool.eq_iff_iff]; simp
end Go.Proofs.Ytpjanfkliaaflaa
