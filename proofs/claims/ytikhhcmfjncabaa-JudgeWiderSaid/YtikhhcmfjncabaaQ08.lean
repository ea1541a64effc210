/-
  En Bn Bks Fp Ctt Fonw Fcp Ffo
-/
import Derived.Test.YtikhhcmfjncabaaQ01
import Derived.Test.YtikhhcmfjncabaaQ02
import Derived.Test.YtikhhcmfjncabaaQ03
import Derived.Test.YtikhhcmfjncabaaQ06
import Derived.Test.YtikhhcmfjncabaaQ07
import Derived.Deep.RegionLaw
import Derived.Deep.RegionHeld3
import Derived.Deep.RegionWith
import Derived.Lib.QuietBelow
import Derived.BigQuiet
set_option linter.unusedSimpArgs false
set_option linter.unusedVariables false
namespace Go.Proofs.Ytikhhcmfjncabaa
open Go.RowKit

theorem rws_five (w : World) (A0 A1 A2 A3 A4 : Option Addr) (c0 c1 c2 c3 c4 : Nat) (x0 x1 x2 x3 x4 : List Nat) (h0 : Yb w A0 c0 x0) (h1 : Yb w A1 c1 x1) (h2 : Yb w A2 c2 x2) (h3 : Yb w A3 c3 x3) (h4 : Yb w A4 c4 x4) :
    Rws (· < (w.alloc (.cells #[.slice A0 x0.length c0, .slice A1 x1.length c1, .slice A2 x2.length c2, .slice A3 x3.length c3, .slice A4 x4.length c4] 62)).heap.size)
      (w.alloc (.cells #[.slice A0 x0.length c0, .slice A1 x1.length c1, .slice A2 x2.length c2, .slice A3 x3.length c3, .slice A4 x4.length c4] 62)) (some ⟨w.heap.size, 0, none⟩) [x0, x1, x2, x3, x4] := fun _ => by
  refine ⟨_, rfl, by simp, fun j hj => ?_⟩
  have hk : ∀ o : Obj, ∀ b, b < w.heap.size → (w.alloc o).heap[b]? = w.heap[b]? := fun o b hb => Below.heap_alloc w _ b hb
  have e : (⟨w.heap.size, 0, none⟩ : Addr).add j = ⟨w.heap.size, j, none⟩ := by unfold Addr.add; split <;> simp_all
  rw [e, World.cell?_alloc_mark]
  match j, hj with
  | 0, _ => exact ⟨A0, c0, rfl, h0.1, (h0.2.keep (hk _)).wide fun b hb => by simp; omega⟩
  | 1, _ => exact ⟨A1, c1, rfl, h1.1, (h1.2.keep (hk _)).wide fun b hb => by simp; omega⟩
  | 2, _ => exact ⟨A2, c2, rfl, h2.1, (h2.2.keep (hk _)).wide fun b hb => by simp; omega⟩
  | 3, _ => exact ⟨A3, c3, rfl, h3.1, (h3.2.keep (hk _)).wide fun b hb => by simp; omega⟩
  | 4, _ => exact ⟨A4, c4, rfl, h4.1, (h4.2.keep (hk _)).wide fun b hb => by simp; omega⟩
  | j + 5, hj => exact absurd hj (by simp)

def Encodes (m : Mod) (w : World) (e : Ending) (w' : World) : Prop :=
  Below w.heap.size w w' ∧ ((fitB m = false ∧ e = .returned (.tuple #[.slice none 0 0, .int .i64 2])) ∨
    (fitB m = true ∧ ∃ u, e = .returned (.tuple #[u, .int .i64 0]) ∧ w'.ownsRow w.heap.size 5 1 u (modB m).length (Bs (modB m))))

set_option maxRecDepth 100000 in
set_option maxHeartbeats 4000000 in
theorem encode_any (cs : List Value) (x : Mod) (w : World) (h : modL.R (· < w.heap.size) w cs x) : Calls Try.prog 24 #[vAgg cs] w (Encodes x w) := by
  have TF : Hid (∀ w1, Below w.heap.size w w1 → Calls Try.prog 40 #[vAgg cs] w1 (Tells (fitB x) w1)) := fun w1 hb => fits_any cs x w1 (modL.wide (modL.keep h fun b hb1 => hb.block b hb1) fun b hb1 => Nat.lt_of_lt_of_le hb1 hb.size)
  obtain ⟨_, _, _, _, _, rfl, ⟨A0, d0, e0, l0, m0, s0⟩, ⟨A1, d1, e1, l1, m1, s1⟩, ⟨A2, d2, e2, l2, m2, s2⟩, ⟨A3, d3, e3, l3, m3, s3⟩, ⟨A4, d4, e4, l4, m4, s4⟩⟩ := h
  simp only [List.cons.injEq, and_true] at e0 e1 e2 e3 e4
  subst e0 e1 e2 e3 e4
  have TF2 : Hid (∀ w1, Below w.heap.size w w1 → Calls Try.prog 40 #[.agg #[.slice A0 x.recs.length d0, .slice A1 x.funcs.length d1, .slice A2 x.imps.length d2, .slice A3 x.ints.length d3, .slice A4 x.texts.length d4]] w1 (Tells (fitB x) w1)) := TF.out
  clear TF
  show Calls Try.prog 24 #[.agg #[.slice A0 x.recs.length d0, .slice A1 x.funcs.length d1, .slice A2 x.imps.length d2, .slice A3 x.ints.length d3, .slice A4 x.texts.length d4]] w (Encodes x w)
  have HB0 : Hid (∀ o : Obj, Below w.heap.size w (w.alloc o)) := fun o => (Below.refl _ _).alloc (Nat.le_refl _) _
  cases hf : fitB x
  · rw [hf] at TF2
    have HF := Lib.hid hf
    generalize x.recs.length = n0 at *
    generalize x.funcs.length = n1 at *
    generalize x.imps.length = n2 at *
    generalize x.ints.length = n3 at *
    generalize x.texts.length = n4 at *
    clear hf s0 s1 s2 s3 s4 m0 m1 m2 m3 m4
    go_enter Try.func24, Try.ntmps24
    go_wp2_with (first
      | (go_at_call 40
         refine (TF2.out _ (HB0.out _)).mono ?_
         rintro e w1 ⟨rfl, hb1⟩
         have HB1 := Lib.hid ((HB0.out _).trans (hb1.mono (by simp)))
         clear hb1))
    go_ret2
    exact ⟨HB1.out, .inl ⟨HF.out, rfl⟩⟩
  · rw [hf] at TF2
    have hF := fitB_iff.1 hf
    have HF := Lib.hid hf
    have hpl := hF.parts_len
    have p0 := hpl 0 (by simp [partsB])
    have p1 := hpl 1 (by simp [partsB])
    have p2 := hpl 2 (by simp [partsB])
    have p3 := hpl 3 (by simp [partsB])
    have p4 := hpl 4 (by simp [partsB])
    simp [partsB] at p0 p1 p2 p3 p4
    have r8 := hF.r8
    have f8 := hF.f8
    have i8 := hF.i8
    have n16 := hF.n16
    have t16 := hF.t16
    obtain ⟨n0, h0⟩ : ∃ n, x.recs.length = n := ⟨_, rfl⟩
    obtain ⟨n1, h1⟩ : ∃ n, x.funcs.length = n := ⟨_, rfl⟩
    obtain ⟨n2, h2⟩ : ∃ n, x.imps.length = n := ⟨_, rfl⟩
    obtain ⟨n3, h3⟩ : ∃ n, x.ints.length = n := ⟨_, rfl⟩
    obtain ⟨n4, h4⟩ : ∃ n, x.texts.length = n := ⟨_, rfl⟩
    obtain ⟨y0, hy0⟩ : ∃ y, lB (lB tB) x.recs = y := ⟨_, rfl⟩
    obtain ⟨y1, hy1⟩ : ∃ y, lB fnB x.funcs = y := ⟨_, rfl⟩
    obtain ⟨y2, hy2⟩ : ∃ y, lB impB x.imps = y := ⟨_, rfl⟩
    obtain ⟨y3, hy3⟩ : ∃ y, lB numB x.ints = y := ⟨_, rfl⟩
    obtain ⟨y4, hy4⟩ : ∃ y, lB pt x.texts = y := ⟨_, rfl⟩
    have P0 : Hid (∀ w1, Below w.heap.size w w1 → Calls Try.prog 42 #[.slice A0 n0 d0, .func (.func 43) #[] #[]] w1 (Puts y0 w1)) := fun w1 hb => by
      rw [← hy0]
      refine putList_rec A0 n0 d0 x.recs w1 h0 ((s0.keep fun b hb1 => hb.block b hb1).wide fun b hb1 => Nat.lt_of_lt_of_le hb1 hb.size) (by omega) (by omega) fun w2 cs y hy hr => ?_
      obtain ⟨A, c, rfl, l1, l2, l3⟩ := hr
      have hz := rec_sizes (hF.recs y hy)
      have hzl := tys_len hF.r8 (by omega) hz.2
      exact putTypes_any A y.length c y w2 rfl l3 (by omega) (by omega)
    have P1 : Hid (∀ w1, Below w.heap.size w w1 → Calls Try.prog 44 #[.slice A1 n1 d1, .func (.func 45) #[] #[]] w1 (Puts y1 w1)) := fun w1 hb => by
      rw [← hy1]
      exact putList_fn A1 n1 d1 x.funcs w1 h1 ((s1.keep fun b hb1 => hb.block b hb1).wide fun b hb1 => Nat.lt_of_lt_of_le hb1 hb.size) (by omega) (by omega) fun w2 cs y hy hr => putFunction_any cs y _ w2 hF.r8 (hF.funcs y hy) hr
    have P2 : Hid (∀ w1, Below w.heap.size w w1 → Calls Try.prog 46 #[.slice A2 n2 d2, .func (.func 47) #[] #[]] w1 (Puts y2 w1)) := fun w1 hb => by
      rw [← hy2]
      exact putList_imp A2 n2 d2 x.imps w1 h2 ((s2.keep fun b hb1 => hb.block b hb1).wide fun b hb1 => Nat.lt_of_lt_of_le hb1 hb.size) (by omega) (by omega) fun w2 cs y hy hr => putImport_any cs y _ w2 hF.r8 (hF.imps y hy) hr
    have P3 : Hid (∀ w1, Below w.heap.size w w1 → Calls Try.prog 48 #[.slice A3 n3 d3, .func (.func 49) #[] #[]] w1 (Puts y3 w1)) := fun w1 hb => by
      rw [← hy3]
      refine putList_num A3 n3 d3 x.ints w1 h3 ((s3.keep fun b hb1 => hb.block b hb1).wide fun b hb1 => Nat.lt_of_lt_of_le hb1 hb.size) (by omega) (by omega) fun w2 cs y hy hr => ?_
      obtain ⟨rfl, hy64⟩ := hr
      exact putNumber_w y w2 hy64
    have P4 : Hid (∀ w1, Below w.heap.size w w1 → Calls Try.prog 50 #[.slice A4 n4 d4, .func (.func 51) #[] #[]] w1 (Puts y4 w1)) := fun w1 hb => by
      rw [← hy4]
      refine putList_str A4 n4 d4 x.texts w1 h4 ((s4.keep fun b hb1 => hb.block b hb1).wide fun b hb1 => Nat.lt_of_lt_of_le hb1 hb.size) (by omega) (by omega) fun w2 cs y hy hr => ?_
      obtain ⟨s, rfl, rfl⟩ := hr
      exact putText_w s w2 (by have := hF.texts _ hy; omega)
    have hlen := hF.len
    have HI : Hid (modB x = joinB [y0, y1, y2, y3, y4]) := by show modB x = _; rw [← hy0, ← hy1, ← hy2, ← hy3, ← hy4]; rfl
    have HZ : Hid ((joinB [y0, y1, y2, y3, y4]).length ≤ 1000000) := by show (joinB _).length ≤ _; rw [← HI.out]; omega
    rw [h0, h1, h2, h3, h4] at TF2 ⊢
    clear hF hf hpl p0 p1 p2 p3 p4 r8 f8 i8 n16 t16 h0 h1 h2 h3 h4 hy0 hy1 hy2 hy3 hy4 s0 s1 s2 s3 s4 l0 l1 l2 l3 l4 m0 m1 m2 m3 m4 hlen
    go_enter Try.func24, Try.ntmps24
    have HC : Hid (C5 w.heap.size (.slice A0 n0 d0) (.slice A1 n1 d1) (.slice A2 n2 d2) (.slice A3 n3 d3) (.slice A4 n4 d4) (w.alloc (.cells #[.slice A0 n0 d0, .slice A1 n1 d1, .slice A2 n2 d2, .slice A3 n3 d3, .slice A4 n4 d4] 43))) := by show C5 _ _ _ _ _ _ _; simp [C5, go_sem]
    go_wp2_with (first
      | (go_at_call 40
         refine (TF2.out _ (HB0.out _)).mono ?_
         rintro e W ⟨rfl, hb1⟩
         have HB := Lib.hid ((HB0.out _).trans (hb1.mono (by simp)))
         have HC0 := Lib.hid (HC.out.below hb1 (by simp))
         have hs : w.heap.size < W.heap.size := (by have := hb1.size; simp at this; omega)
         clear hb1))
    obtain ⟨z0, z1, z2, z3, z4⟩ := HC0.out
    go_region_held3 (fun w' => w'.cell? ⟨w.heap.size, 0, none⟩ = some (.slice A0 n0 d0) ∧ w'.cell? ⟨w.heap.size, 1, none⟩ = some (.slice A1 n1 d1) ∧ w'.cell? ⟨w.heap.size, 2, none⟩ = some (.slice A2 n2 d2) ∧ w'.cell? ⟨w.heap.size, 3, none⟩ = some (.slice A3 n3 d3) ∧ w'.cell? ⟨w.heap.size, 4, none⟩ = some (.slice A4 n4 d4))
      (first | exact HC6.out | exact HC5.out | exact HC5.out.below (Below.alloc (Below.refl _ _) (Nat.le_refl _) _) HS5.out | exact HC4.out | exact HC3.out | exact HC2.out | exact HC1.out | exact HC0.out)
      (first
        | (go_at_call 42
           refine (P0.out _ HB.out.drew).mono ?_
           rintro e w1 ⟨u1, rfl, hown1, hb1⟩
           obtain ⟨B0, f0, rfl, hy0⟩ := Yb.of hown1
           have Y0a := Lib.hid hy0
           have HB1 := Lib.hid (HB.out.drew.trans (hb1.mono HB.out.size))
           have HC1 := Lib.hid (C5.below (w := W.drew) HC0.out hb1 hs)
           have HS1 := Lib.hid (Nat.lt_of_lt_of_le hs hb1.size)
           clear hown1 hb1 hy0)
        | (go_at_call 44
           refine (P1.out _ HB1.out).mono ?_
           rintro e w2 ⟨u2, rfl, hown2, hb2⟩
           obtain ⟨B1, f1, rfl, hy1⟩ := Yb.of hown2
           have Y0b := Lib.hid (Y0a.out.below hb2)
           have Y1a := Lib.hid hy1
           have HB2 := Lib.hid (HB1.out.trans (hb2.mono HB1.out.size))
           have HC2 := Lib.hid (HC1.out.below hb2 HS1.out)
           have HS2 := Lib.hid (Nat.lt_of_lt_of_le HS1.out hb2.size)
           clear hown2 hb2 hy1)
        | (go_at_call 46
           refine (P2.out _ HB2.out).mono ?_
           rintro e w3 ⟨u3, rfl, hown3, hb3⟩
           obtain ⟨B2, f2, rfl, hy2⟩ := Yb.of hown3
           have Y0c := Lib.hid (Y0b.out.below hb3)
           have Y1b := Lib.hid (Y1a.out.below hb3)
           have Y2a := Lib.hid hy2
           have HB3 := Lib.hid (HB2.out.trans (hb3.mono HB2.out.size))
           have HC3 := Lib.hid (HC2.out.below hb3 HS2.out)
           have HS3 := Lib.hid (Nat.lt_of_lt_of_le HS2.out hb3.size)
           clear hown3 hb3 hy2)
        | (go_at_call 48
           refine (P3.out _ HB3.out).mono ?_
           rintro e w4 ⟨u4, rfl, hown4, hb4⟩
           obtain ⟨B3, f3, rfl, hy3⟩ := Yb.of hown4
           have Y0d := Lib.hid (Y0c.out.below hb4)
           have Y1c := Lib.hid (Y1b.out.below hb4)
           have Y2b := Lib.hid (Y2a.out.below hb4)
           have Y3a := Lib.hid hy3
           have HB4 := Lib.hid (HB3.out.trans (hb4.mono HB3.out.size))
           have HC4 := Lib.hid (HC3.out.below hb4 HS3.out)
           have HS4 := Lib.hid (Nat.lt_of_lt_of_le HS3.out hb4.size)
           clear hown4 hb4 hy3)
        | (go_at_call 50
           refine (P4.out _ HB4.out).mono ?_
           rintro e w5 ⟨u5, rfl, hown5, hb5⟩
           obtain ⟨B4, f4, rfl, hy4⟩ := Yb.of hown5
           have Y0 := Lib.hid (Y0d.out.below hb5)
           have Y1 := Lib.hid (Y1c.out.below hb5)
           have Y2 := Lib.hid (Y2b.out.below hb5)
           have Y3 := Lib.hid (Y3a.out.below hb5)
           have Y4 := Lib.hid hy4
           have HB5 := Lib.hid (HB4.out.trans (hb5.mono HB4.out.size))
           have HC5 := Lib.hid (HC4.out.below hb5 HS4.out)
           have HS5 := Lib.hid (Nat.lt_of_lt_of_le HS4.out hb5.size)
           clear hown5 hb5 hy4)
        | (go_at_call 41
           refine (join_any _ _ _ [y0, y1, y2, y3, y4] _ rfl (rws_five w5 B0 B1 B2 B3 B4 f0 f1 f2 f3 f4 y0 y1 y2 y3 y4 Y0.out Y1.out Y2.out Y3.out Y4.out) HZ.out).mono ?_
           rintro e w6 ⟨u6, rfl, hown6, hb6⟩
           have HO6 := Lib.hid hown6
           have Hb6 := Lib.hid hb6
           have HC6 := Lib.hid ((HC5.out.below (Below.alloc (Below.refl _ _) (Nat.le_refl _) _) HS5.out).below hb6 (by simp; have := HS5.out; omega))
           clear hown6 hb6))
    go_wp2_with fail
    go_ret2
    refine ⟨(HB5.out.alloc HB5.out.size _).trans (Hb6.out.mono (by simp; have := HB5.out.size; omega)), .inr ⟨HF.out, _, rfl, ?_⟩⟩
    rw [HI.out]
    exact own_wide HO6.out (by simp; have := HB5.out.size; omega)
end Go.Proofs.Ytikhhcmfjncabaa
namespace Go.Proofs.Ytikhhcmfjncabaa
open Go.RowKit

theorem raw_sl {α : Type} {L : Lay α} {S : Nat → Prop} {ty base : Nat} {w : World} {v : Value} {xs : List α} {css : List (List Value)} (hl : css.length = xs.length) (hown : w.ownsRow base ty L.k v xs.length css.flatten)
    (hR : ∀ (j : Nat) (x : α) (cs : List Value), xs[j]? = some x → css[j]? = some cs → L.R S w cs x) (hS : ∀ b, base ≤ b → b < w.heap.size → S b) : (slL L).R S w [v] xs := by
  have hk : ∀ cs ∈ css, cs.length = L.k := fun cs hcs => by
    obtain ⟨j, hj⟩ := List.mem_iff_getElem?.1 hcs
    have hjl : j < xs.length := by rw [← hl]; exact (List.getElem?_eq_some_iff.1 hj).1
    exact L.len (hR j _ cs (List.getElem?_eq_getElem hjl) hj)
  rcases hown.2 with ⟨rfl, h0⟩ | ⟨g, cap, cur, rfl, hb, hg, hnc, hcm, _, _⟩
  · exact ⟨none, 0, by rw [h0], by omega, by simp [maxLen], fun hpos => absurd hpos (by omega)⟩
  · refine ⟨some ⟨g, 0, none⟩, cap, rfl, hnc, hcm, fun _ => ⟨⟨g, 0, none⟩, rfl, hS _ hb (Array.getElem?_eq_some_iff.1 hg).1, fun j x hx => ?_⟩⟩
    have hjl : j < css.length := by rw [hl]; exact (List.getElem?_eq_some_iff.1 hx).1
    have hcs := List.getElem?_eq_getElem hjl
    have hr := hR j x _ hx hcs
    refine ⟨_, fun i u hu => ?_, hr⟩
    have hi : i < L.k := by rw [← L.len hr]; exact (List.getElem?_eq_some_iff.1 hu).1
    exact hown.cells rfl (j * L.k + i) u (by rw [flat_get hk hcs i hi]; exact hu)
theorem one_sl {α : Type} {L : Lay α} {S : Nat → Prop} {w : World} {g ty : Nat} {cs : Array Value} {x : α} (h : Blk w g ty cs) (hg : S g) (hR : L.R S w cs.toList x) : (slL L).R S w [.slice (some ⟨g, 0, none⟩) 1 1] [x] := by
  refine ⟨some ⟨g, 0, none⟩, 1, rfl, Nat.le_refl _, by simp [maxLen], fun _ => ⟨_, rfl, hg, fun j y hy => ?_⟩⟩
  have hj : j = 0 := by
    rcases Nat.eq_zero_or_pos j with h | h
    · exact h
    · rw [List.getElem?_eq_none (by simp; omega)] at hy
      cases hy
  subst hj
  simp at hy
  subst hy
  refine ⟨_, fun i u hu => ?_, hR⟩
  have e : (⟨g, 0, none⟩ : Addr).add (0 * L.k + i) = ⟨g, i, none⟩ := by unfold Addr.add; split <;> simp_all
  rw [e, h.cell i]
  simpa using hu
theorem nil_sl {α : Type} (L : Lay α) (S : Nat → Prop) (w : World) : (slL L).R S w [.slice none 0 0] [] := ⟨none, 0, rfl, Nat.le_refl _, by simp [maxLen], Sq.nil _ _ _ _⟩

def tA : Array Value := #[.int .i64 1, .int .i64 0]
def iA : Array Value := #[.int .i64 26, .int .i64 0, .int .i64 0]
def bm : Nat → Nat → Mod
  | 0, k => ⟨List.replicate k [], [fn0], [], [], []⟩
  | 1, k => ⟨[], List.replicate (k + 1) fn0, [], [], []⟩
  | 2, k => ⟨[], [fn0], List.replicate k ⟨[], (1, 0)⟩, [], []⟩
  | 3, k => ⟨[], [fn0], [], List.range k, []⟩
  | 4, k => ⟨[], [fn0], [], [], List.replicate k [97]⟩
  | 5, k => ⟨[], [⟨[], (1, 0), List.replicate k (1, 0), [(26, 0, 0)]⟩], [], [], []⟩
  | _, k => ⟨[], [⟨[], (1, 0), [], (26, 0, 0) :: List.replicate k (5, 0, 0)⟩], [], [], []⟩
def bt : Nat → Nat
  | 0 => 8
  | 1 => 7
  | 2 => 8
  | 3 => 16
  | 4 => 16
  | 5 => 8
  | _ => 63
theorem raw_below {w w' : World} {base B ty k : Nat} {v : Value} {n : Nat} {xs : List Value} (h : w.ownsRow base ty k v n xs) (hb : Below B w w') (hB : w.heap.size ≤ B) : w'.ownsRow base ty k v n xs :=
  h.kept (w' := w') (row := none) ⟨hb.os, hb.tape, hb.output, hb.size, fun k hk _ => hb.block k (by omega)⟩ (by cases v.ownBlock <;> simp)
def Bst (N ty k b0 g ty2 : Nat) (mk : Value → Array Value) (w W0 wr : World) (css : List (List Value)) (v : Value) : Prop :=
  Below N w wr ∧ N + 4 ≤ wr.heap.size ∧ wr.ownsRow (N + 1) ty k v css.length css.flatten ∧ (∀ b, v.ownBlock = some b → b = b0 ∨ N + 4 ≤ b) ∧ (∀ b, b < N + 4 → b ≠ b0 → b ≠ g → wr.heap[b]? = W0.heap[b]?) ∧ Blk wr g ty2 (mk v)
end Go.Proofs.Ytikhhcmfjncabaa
namespace Go.Proofs.Ytikhhcmfjncabaa
open Go.RowKit

theorem blk_keep {v : World} {o : Obj} {b t : Nat} {c : Array Value} (h : Blk v b t c) : Blk (v.alloc o) b t c := (Below.heap_alloc v o b h.lt).trans h
theorem blk_at {v : World} {b t : Nat} {c : Array Value} (h : v.heap.size = b) : Blk (v.alloc (.cells c t)) b t c := by rw [← h]; exact blk_new v t c
theorem blk_below {v w : World} {B b t : Nat} {c : Array Value} (h : Blk v b t c) (hb : Below B v w) (hB : b < B) : Blk w b t c := (hb.block b hB).trans h
theorem blk_other {v : World} {b t g i : Nat} {c : Array Value} {u : Value} (h : Blk v b t c) (hne : b ≠ g) : Blk (v.setCell ⟨g, i, none⟩ u) b t c := (Below.heap_setCell v ⟨g, i, none⟩ u b hne).trans h

theorem two_sl {α : Type} {L : Lay α} {S : Nat → Prop} {w : World} {g ty : Nat} {cs : Array Value} {c0 c1 : List Value} {x y : α} (h : Blk w g ty cs) (hg : S g) (hc : cs.toList = c0 ++ c1) (h0 : L.R S w c0 x) (h1 : L.R S w c1 y) : (slL L).R S w [.slice (some ⟨g, 0, none⟩) 2 2] [x, y] := by
  have l0 := L.len h0
  have l1 := L.len h1
  have hcell : ∀ i u, (c0 ++ c1)[i]? = some u → w.cell? ⟨g, i, none⟩ = some u := fun i u hu => by
    rw [h.cell i, ← hu, ← hc]
    simp
  have e : ∀ i, (⟨g, 0, none⟩ : Addr).add i = ⟨g, i, none⟩ := fun i => by unfold Addr.add; split <;> simp_all
  refine ⟨some ⟨g, 0, none⟩, 2, rfl, Nat.le_refl _, by simp [maxLen], fun _ => ⟨_, rfl, hg, fun j z hz => ?_⟩⟩
  match j, hz with
  | 0, hz =>
    simp at hz
    subst hz
    refine ⟨c0, fun i u hu => ?_, h0⟩
    rw [e, Nat.zero_mul, Nat.zero_add]
    have hi := (List.getElem?_eq_some_iff.1 hu).1
    exact hcell i u (by rw [List.getElem?_append_left hi]; exact hu)
  | 1, hz =>
    simp at hz
    subst hz
    refine ⟨c1, fun i u hu => ?_, h1⟩
    rw [e, Nat.one_mul]
    exact hcell _ u (by rw [List.getElem?_append_right (by omega)]; simpa [l0] using hu)
  | j + 2, hz => simp at hz
end Go.Proofs.Ytikhhcmfjncabaa
namespace Go.Proofs.Ytikhhcmfjncabaa
open Go.RowKit

def TypIs (t : Typ) (w : World) (e : Ending) (w' : World) : Prop := e = .returned (.agg #[.int .i64 t.1, .int .i64 t.2]) ∧ Below w.heap.size w w'
theorem below_set2 {B R : Nat} {w W : World} {u v : Value} (h : Below B w W) (hR : B ≤ R) : Below B w ((W.setCell ⟨R, 0, none⟩ u).setCell ⟨R, 1, none⟩ v) := (h.setCell (p := ⟨R, 0, none⟩) hR u).setCell (p := ⟨R, 1, none⟩) hR v
theorem below_new (w : World) (o : Obj) : Below w.heap.size w (w.alloc o) := (Below.refl _ w).alloc (Nat.le_refl _) o

set_option maxRecDepth 100000 in
theorem plain_any (k : Int) (w : World) : Calls Try.prog 58 #[.int .i64 k] w (TypIs (k, 0) w) := by
  go_enter Try.func58, Try.ntmps58
  go_wp2_with fail
  exact bodyPost_ret (v := .agg #[.int .i64 k, .int .i64 0]) (by simp [results, Try.results58, go_sem]) rfl ⟨rfl, below_new _ _⟩

set_option maxRecDepth 100000 in
theorem takes_any (A : Option Addr) (n c : Nat) (w : World) : Calls Try.prog 59 #[.slice A n c] w fun e w' => e = .returned (.agg #[.slice A n c, .slice none 0 0]) ∧ Below w.heap.size w w' := by
  go_enter Try.func59, Try.ntmps59
  go_wp2_with fail
  exact bodyPost_ret (v := .agg #[.slice A n c, .slice none 0 0]) (by simp [results, Try.results59, go_sem]) rfl ⟨rfl, below_new _ _⟩

set_option maxRecDepth 100000 in
theorem puts_any (A B : Option Addr) (n c m d : Nat) (w : World) : Calls Try.prog 60 #[.agg #[.slice A n c, .slice none 0 0], .slice B m d] w fun e w' => e = .returned (.agg #[.slice A n c, .slice B m d]) ∧ Below w.heap.size w w' := by
  go_enter Try.func60, Try.ntmps60
  go_wp2_with fail
  exact bodyPost_ret (v := .agg #[.slice A n c, .slice B m d]) (by simp [results, Try.results60, go_sem]) rfl ⟨rfl, (below_new _ _).alloc (by simp) _⟩

def topB (s : List Typ) (n : Nat) : Typ := if n < s.length then (s[s.length - 1 - n]?).getD (8, 0) else (8, 0)

set_option maxRecDepth 100000 in
theorem fromTop_any (A : Option Addr) (n c k : Nat) (ts : List Typ) (w : World) (hl : ts.length = n) (h : Sq typL (· < w.heap.size) w A ts) (hn : n ≤ 9223372036854775807) (hk : k ≤ 1) :
    Calls Try.prog 62 #[.slice A n c, .int .i64 (k : Nat)] w (TypIs (topB ts k) w) := by
  by_cases hkn : k < n
  · obtain ⟨t, ht⟩ : ∃ t, ts[n - 1 - k]? = some t := ⟨ts[n - 1 - k]'(by omega), List.getElem?_eq_getElem _⟩
    have HT : Hid (topB ts k = t) := by
      show topB ts k = t
      rw [topB, hl, if_pos hkn, ht]
      rfl
    obtain ⟨a, cs, rfl, hab, hc, hr⟩ := h.at ht
    obtain ⟨rfl, -, -⟩ := hr
    obtain ⟨j, hj⟩ : ∃ j : Nat, n - 1 - k = j := ⟨_, rfl⟩
    rw [hj] at hc
    have e1 : (n : Int) - 1 - (k : Int) = (j : Int) := by omega
    have j1 : (j : Int) < (n : Int) := by omega
    have k1 : ¬ ((n : Int) ≤ (k : Int)) := by omega
    have c0 := fun ob => (below_new w ob).cell (p := a.add (j * 2)) (by rw [addBlock]; exact hab) |>.trans (hc 0 _ rfl)
    have c1 := fun ob => (below_new w ob).cell (p := a.add (j * 2 + 1)) (by rw [addBlock]; exact hab) |>.trans (hc 1 _ rfl)
    rw [next_cell a (j * 2) 1 (by omega)] at c1
    clear hc h ht hl hj
    go_enter Try.func62, Try.ntmps62
    go_wp2_with fail
    exact bodyPost_ret (v := .agg #[.int .i64 t.1, .int .i64 t.2]) (by simp [results, Try.results62, go_sem]) rfl ⟨by rw [HT.out], below_new _ _⟩
  · have HT : Hid (topB ts k = (8, 0)) := by
      show topB ts k = (8, 0)
      rw [topB, hl, if_neg hkn]
    have hk3 : (n : Int) ≤ (k : Int) := by omega
    have HP := Lib.hid (fun w => plain_any 8 w)
    clear h hl
    go_enter Try.func62, Try.ntmps62
    go_wp2_with (first
      | (go_at_call 58
         refine (HP.out _).mono ?_
         rintro e w1 ⟨rfl, hb1⟩
         have HB := Lib.hid hb1
         obtain ⟨hc1, hf1⟩ := bcell hb1
         have hs1 : w.heap.size < w1.heap.size := (by have := hb1.size; simp at this; omega)
         clear hb1))
    exact bodyPost_ret (v := .agg #[.int .i64 8, .int .i64 0]) (by simp [results, Try.results62, go_sem, hc1, hs1]) rfl ⟨by rw [HT.out], below_set2 ((below_new _ _).trans (HB.out.mono (by simp))) (Nat.le_refl _)⟩

def hasB (n : Nat) (k : Int) : Bool := decide (0 ≤ k) && decide (k < (n : Int))
set_option maxRecDepth 100000 in
theorem hasT_any (A : Option Addr) (n c : Nat) (k : Int) (w : World) : Calls Try.prog 88 #[.slice A n c, .int .i64 k] w fun e w' => e = .returned (.bool (hasB n k)) ∧ w' = w := by
  unfold hasB
  by_cases h0 : 0 ≤ k
  · go_enter Try.func88, Try.ntmps88
    go_wp2_with fail
    go_ret
    exact ⟨by simp [h0], rfl⟩
  · go_enter Try.func88, Try.ntmps88
    go_wp2_with fail
    go_ret
    exact ⟨by simp [h0]; omega, rfl⟩
set_option maxRecDepth 100000 in
theorem hasF_any (A : Option Addr) (n c : Nat) (k : Int) (w : World) : Calls Try.prog 33 #[.slice A n c, .int .i64 k] w fun e w' => e = .returned (.bool (hasB n k)) ∧ w' = w := by
  unfold hasB
  by_cases h0 : 0 ≤ k
  · go_enter Try.func33, Try.ntmps33
    go_wp2_with fail
    go_ret
    exact ⟨by simp [h0], rfl⟩
  · go_enter Try.func33, Try.ntmps33
    go_wp2_with fail
    go_ret
    exact ⟨by simp [h0]; omega, rfl⟩
set_option maxRecDepth 100000 in
theorem hasI_any (A : Option Addr) (n c : Nat) (k : Int) (w : World) : Calls Try.prog 34 #[.slice A n c, .int .i64 k] w fun e w' => e = .returned (.bool (hasB n k)) ∧ w' = w := by
  unfold hasB
  by_cases h0 : 0 ≤ k
  · go_enter Try.func34, Try.ntmps34
    go_wp2_with fail
    go_ret
    exact ⟨by simp [h0], rfl⟩
  · go_enter Try.func34, Try.ntmps34
    go_wp2_with fail
    go_ret
    exact ⟨by simp [h0]; omega, rfl⟩
end Go.Proofs.Ytikhhcmfjncabaa
namespace Go.Proofs.Ytikhhcmfjncabaa
open Go.RowKit

set_option maxRecDepth 100000 in
set_option maxHeartbeats 400000 in
theorem grow_tys (n : Nat) (w : World) (hn : n ≤ 1000000000) :
    Calls Try.prog 89 #[.slice none 0 0, .int .i64 (n : Nat)] w fun e w' => ∃ v, e = .returned v ∧ w'.ownsRow w.heap.size 27 2 v 0 (T2 []) ∧ Below w.heap.size w w' := by
  rcases Nat.eq_zero_or_pos n with h | h
  · subst h
    go_enter Try.func89, Try.ntmps89
    go_wp2
    go_ret
    exact ⟨_, rfl, World.ownsRow_nil _ _ _ _, Below.refl _ _⟩
  · go_enter Try.func89, Try.ntmps89
    go_wp2_with (at_builtin
                 refine walk_make_tys _ rfl (.tmp 20) (.tmp 21) rfl n h hn rfl rfl ?_
                 intro G w1 hG hG2 hown hb
                 have hG3 : G ≤ 9223372036854775807 := by unfold maxLen at hG2; omega
                 have HO := Lib.hid hown
                 clear hown hG2)
    go_ret
    exact ⟨_, rfl, HO.out, hb⟩

theorem flatT_le (xss : List (List Typ)) (k : Nat) : (xss.take k).flatten.length ≤ xss.flatten.length := by
  conv => rhs; rw [← List.take_append_drop k xss, List.flatten_append]
  rw [List.length_append]
  omega
theorem flatT_take {xss : List (List Typ)} {k : Nat} {x : List Typ} (h : xss[k]? = some x) : (xss.take (k + 1)).flatten = (xss.take k).flatten ++ x := by
  obtain ⟨hk, rfl⟩ := List.getElem?_eq_some_iff.1 h
  rw [List.take_succ_eq_append_getElem hk, List.flatten_append]
  simp

set_option maxRecDepth 100000 in
set_option maxHeartbeats 1000000 in
theorem concat_tys (A : Option Addr) (n c : Nat) (xss : List (List Typ)) (w : World) (hl : xss.length = n) (hR : Sq tysL (· < w.heap.size) w A xss) (hn : xss.flatten.length ≤ 1000000) (hn2 : n ≤ 1000000) :
    Calls Try.prog 65 #[.slice A n c] w fun e w' => ∃ v, e = .returned v ∧ w'.ownsRow w.heap.size 27 2 v xss.flatten.length (T2 xss.flatten) ∧ Below w.heap.size w w' := by
  have HL := Lib.hid hl
  have HR := Lib.hid hR
  clear hl hR
  go_enter Try.func65, Try.ntmps65
  go_wp2_with fail
  go_loop [3, 11] (fun s i => ∃ k : Nat, k ≤ n ∧ i = .int .i64 (k : Nat) ∧ s = .int .i64 (((xss.take k).flatten.length : Nat) : Int)) (fun _ i => n - (intOf i).toNat)
  case atStart => exact ⟨0, Nat.zero_le _, rfl, by simp⟩
  case round =>
    obtain ⟨k, hk, rfl, rfl⟩ := hrel
    have hle := flatT_le xss k
    obtain ⟨m, hm⟩ : ∃ m, (xss.take k).flatten.length = m := ⟨_, rfl⟩
    rw [hm] at hle ⊢
    have HM := Lib.hid hm
    clear hm
    by_cases hlt : k < n
    · obtain ⟨x, hx⟩ : ∃ x, xss[k]? = some x := ⟨xss[k]'(by rw [HL.out]; exact hlt), List.getElem?_eq_getElem _⟩
      obtain ⟨a, cs, rfl, hab, hc, hr⟩ := HR.out.at hx
      obtain ⟨A2, d2, rfl, -, -, -⟩ := hr
      have hcell := one_cell (K := tysL.k) rfl (hc 0 _ rfl)
      clear hc
      have HF := Lib.hid (flatT_take hx)
      have hle2 := flatT_le xss (k + 1)
      rw [HF.out, List.length_append, HM.out] at hle2
      clear hx
      go_wp2_with fail
      refine ⟨⟨k + 1, by omega, by simp, ?_⟩, by simp [intOf]; omega⟩
      rw [HF.out, List.length_append, HM.out]
      simp
    · obtain rfl : k = n := by omega
      have HE : Hid (m = xss.flatten.length) := by
        show m = xss.flatten.length
        rw [← HM.out, List.take_of_length_le (by rw [HL.out]; exact Nat.le_refl _)]
      go_wp2_with fail
      refine (grow_tys m w (by omega)).mono ?_
      rintro e w1 ⟨v1, rfl, hown1, hb1⟩
      have HO1 := Lib.hid hown1
      have HB1 := Lib.hid hb1
      clear hown1 hb1
      go_wp2_with fail
      go_loopw [6, 27] (fun s i wr => ∃ j : Nat, j ≤ k ∧ i = .int .i64 (j : Nat) ∧ wr.ownsRow w.heap.size 27 2 s (xss.take j).flatten.length (T2 (xss.take j).flatten) ∧ Below w.heap.size w wr) (fun _ i _ => k - (intOf i).toNat)
      case atStart => exact ⟨0, Nat.zero_le _, rfl, by simpa using HO1.out, HB1.out⟩
      case round =>
        obtain ⟨j, hj, rfl, hown, hbel⟩ := hrel
        have HO := Lib.hid hown
        have HB := Lib.hid hbel
        have hs := hbel.size
        clear hown hbel
        have hlej := flatT_le xss j
        by_cases hlt2 : j < k
        · obtain ⟨x, hx⟩ : ∃ x, xss[j]? = some x := ⟨xss[j]'(by rw [HL.out]; exact hlt2), List.getElem?_eq_getElem _⟩
          obtain ⟨a, cs, rfl, hab, hc, hr⟩ := HR.out.at hx
          obtain ⟨A2, d2, rfl, -, -, hsq⟩ := hr
          have hcell2 := (HB.out.cell (p := a.add j) (by rw [addBlock]; exact hab)).trans (one_cell (K := tysL.k) rfl (hc 0 _ rfl))
          clear hc
          have HF := Lib.hid (flatT_take hx)
          have hle2 := flatT_le xss (j + 1)
          rw [HF.out, List.length_append] at hle2
          have HY := Lib.hid hsq
          clear hx hsq
          obtain ⟨q, hq⟩ : ∃ q, (xss.take j).flatten = q := ⟨_, rfl⟩
          have HQ := Lib.hid hq
          have HO2 : Hid (wr.ownsRow w.heap.size 27 2 u6 q.length (T2 q)) := by
            show wr.ownsRow w.heap.size 27 2 u6 q.length (T2 q)
            rw [← hq]; exact HO.out
          rw [hq] at hle2 hlej
          clear hq HO
          go_wp2_with (at_builtin
                       refine walk_append_tys _ rfl (.tmp 31) (.tmp 32) rfl w.heap.size u6 q.length q rfl HO2.out A2 x.length d2 x rfl rfl (· < w.heap.size) (HY.out.below HB.out (Nat.le_refl _)) (by omega) hs ?_
                       intro v2 w2 hown2 hg2 _
                       have HO3 := Lib.hid hown2
                       clear hown2)
          refine ⟨⟨j + 1, by omega, by simp, ?_, HB.out.grown hg2 hs (fun i hi => (HO2.out.lt i hi).1)⟩, by simp [intOf]; omega⟩
          rw [HF.out, HQ.out, List.length_append]
          exact HO3.out
        · obtain rfl : j = k := by omega
          go_wp2_with fail
          go_ret
          refine ⟨_, rfl, ?_, HB.out⟩
          have := HO.out
          rw [List.take_of_length_le (by rw [HL.out]; exact Nat.le_refl _)] at this
          exact this
end Go.Proofs.Ytikhhcmfjncabaa
namespace Go.Proofs.Ytikhhcmfjncabaa
open Go.RowKit

def Moved (r : Option (List Typ)) (w : World) (e : Ending) (w' : World) : Prop :=
  Below w.heap.size w w' ∧ ((r = none ∧ e = .returned (.tuple #[.slice none 0 0, .bool false])) ∨ ∃ t v, r = some t ∧ e = .returned (.tuple #[v, .bool true]) ∧ w'.ownsRow w.heap.size 27 2 v t.length (T2 t))
theorem movB_few {s ins outs : List Typ} (h : s.length < ins.length) : movB s ins outs = none := by
  rw [movB, if_neg]
  omega
theorem movB_not {s ins outs : List Typ} {b : Nat} (hb : s.length - ins.length = b) (h : belowT (s.drop b) ins = false) : movB s ins outs = none := by
  rw [movB, if_neg]
  rw [hb, h]
  simp
theorem movB_many {s ins outs : List Typ} {b : Nat} (hb : s.length - ins.length = b) (h : 8 < b + outs.length) : movB s ins outs = none := by
  rw [movB, if_neg]
  omega
theorem movB_yes {s ins outs : List Typ} {b : Nat} (hb : s.length - ins.length = b) (hl : ins.length ≤ s.length) (h : belowT (s.drop b) ins = true) (h8 : b + outs.length ≤ 8) : movB s ins outs = some (s.take b ++ outs) := by
  rw [movB, hb, if_pos ⟨hl, h8, h⟩]
theorem sq_from {S : Nat → Prop} {w : World} {D : Option Addr} {ts : List Typ} {b : Nat} (h : Sq typL S w D ts) (D' : Option Addr) (h' : b < ts.length → D' = D.map (·.add (b * 2))) : Sq typL S w D' (ts.drop b) := fun hn => by
  have hl : (ts.drop b).length = ts.length - b := by simp
  rw [h' (by omega)]
  exact h.drop b hn
end Go.Proofs.Ytikhhcmfjncabaa
namespace Go.Proofs.Ytikhhcmfjncabaa
open Go.RowKit

theorem topB_0 {s r : List Typ} {x : Typ} (h : s.reverse = x :: r) : topB s 0 = x := by
  have e : s = r.reverse ++ [x] := by rw [← List.reverse_reverse s, h]; simp
  subst e
  simp [topB]
theorem topB_1 {s r : List Typ} {x y : Typ} (h : s.reverse = x :: y :: r) : topB s 1 = y := by
  have e : s = r.reverse ++ [y, x] := by rw [← List.reverse_reverse s, h]; simp
  subst e
  simp [topB]
def chgB (m : Mod) (f : Fn) (i : Ins) (s : List Typ) : List Typ × List Typ :=
  if i.1 = 6 then ([topB s 0], [topB s 0, topB s 0])
  else if i.1 = 7 then ([topB s 1, topB s 0], [topB s 0, topB s 1])
  else if i.1 = 41 then ([(5, (topB s 0).2)], [])
  else (ruleB m f i s).getD ([], [])
theorem ite_some {α : Type} {c : Prop} [Decidable c] {a b : Option α} (ha : ∃ p, a = some p) (hb : ∃ p, b = some p) : ∃ p, (if c then a else b) = some p := by
  split
  · exact ha
  · exact hb
theorem rule_some {m : Mod} {f : Fn} {i : Ins} {s : List Typ} (h0 : 0 ≤ i.2.1) (hn : namedB m f i = true) (h6 : i.1 ≠ 6) (h7 : i.1 ≠ 7) (h41 : i.1 ≠ 41) : ∃ p, ruleB m f i s = some p := by
  by_cases h25 : i.1 = 25
  · simp [namedB, h25] at hn
    have hj : i.2.1.toNat < m.funcs.length := by omega
    exact ⟨(_, _), by simp [ruleB, h25, hj]; exact ⟨rfl, rfl⟩⟩
  by_cases h27 : i.1 = 27
  · simp [namedB, h27] at hn
    have hj : i.2.1.toNat < m.imps.length := by omega
    exact ⟨(_, _), by simp [ruleB, h27, hj]; exact ⟨rfl, rfl⟩⟩
  by_cases h28 : i.1 = 28
  · simp [namedB, h28] at hn
    have hj : i.2.1.toNat < m.recs.length := by omega
    exact ⟨(_, _), by simp [ruleB, h28, hj]; exact ⟨rfl, rfl⟩⟩
  · simp only [ruleB, h6, h7, h41, h25, h27, h28, if_false]
    repeat (first | refine ite_some ⟨_, rfl⟩ ?_ | exact ⟨_, rfl⟩)
theorem rule_chg {m : Mod} {f : Fn} {i : Ins} {s : List Typ} (h0 : 0 ≤ i.2.1) (hn : namedB m f i = true) : (match ruleB m f i s with | none => none | some p => movB s p.1 p.2) = movB s (chgB m f i s).1 (chgB m f i s).2 := by
  by_cases h6 : i.1 = 6
  · cases hs : s.reverse with
    | nil =>
      obtain rfl : s = [] := by simpa using hs
      rw [movB_few (by simp [chgB, h6])]
      simp [ruleB, h6]
    | cons x r => simp [ruleB, chgB, h6, hs, topB_0 hs]
  by_cases h7 : i.1 = 7
  · cases hs : s.reverse with
    | nil =>
      obtain rfl : s = [] := by simpa using hs
      rw [movB_few (by simp [chgB, h7])]
      simp [ruleB, h7]
    | cons x r =>
      cases r with
      | nil =>
        have hl : s.length = 1 := by rw [← List.length_reverse, hs]; rfl
        rw [movB_few (by simp [chgB, h7, hl])]
        simp [ruleB, h7, hs]
      | cons y r => simp [ruleB, chgB, h7, hs, topB_0 hs, topB_1 hs]
  by_cases h41 : i.1 = 41
  · cases hs : s.reverse with
    | nil =>
      obtain rfl : s = [] := by simpa using hs
      rw [movB_few (by simp [chgB, h41])]
      simp [ruleB, h41]
    | cons x r =>
      have e : s = r.reverse ++ [x] := by rw [← List.reverse_reverse s, hs]; simp
      by_cases h5 : x.1 = 5
      · have ex : (5, x.2) = x := Prod.ext h5.symm rfl
        simp [ruleB, chgB, h41, hs, topB_0 hs, h5, ex]
      · have hb : belowT (s.drop (s.length - 1)) [(5, x.2)] = false := by
          subst e
          simp [belowT, subT, subB, refB, h5]
        rw [movB_not (b := s.length - 1) (by simp [chgB, h41]) (by simpa [chgB, h41, topB_0 hs] using hb)]
        simp [ruleB, h41, hs, h5]
  · obtain ⟨p, hp⟩ := rule_some (s := s) h0 hn h6 h7 h41
    simp [chgB, h6, h7, h41, hp]
theorem ins_chg {m : Mod} {f : Fn} {i : Ins} {pc : Nat} {s : List Typ} (h0 : 0 ≤ i.2.1) (hn : namedB m f i = true) :
    insB8 m f i pc s = (match movB s (chgB m f i s).1 (chgB m f i s).2 with | none => (4, [], []) | some t => match nextB f i pc with | none => (1, [], []) | some l => (0, t, l)) := by
  rw [← rule_chg h0 hn, insB8]
  cases ruleB m f i s with
  | none => rfl
  | some p => rfl
end Go.Proofs.Ytikhhcmfjncabaa
namespace Go.Proofs.Ytikhhcmfjncabaa
open Go.RowKit

def follB (i : Ins) (pc : Int) : List Int := if i.1 = 26 then [] else if i.1 = 23 then [i.2.1] else if i.1 = 24 then [pc + 1, i.2.1] else [pc + 1]
def Nums (l : List Int) (w : World) (e : Ending) (w' : World) : Prop := Below w.heap.size w w' ∧ ∃ v, e = .returned v ∧ w'.ownsRow w.heap.size 3 1 v l.length (Is l)
theorem nums_one {w : World} {g N : Nat} {x : Int} (h : Blk w g 3 #[.int .i64 x]) (hg : N ≤ g) : w.ownsRow N 3 1 (.slice (some ⟨g, 0, none⟩) 1 1) 1 (Is [x]) :=
  ⟨rfl, .inr ⟨g, 1, _, rfl, hg, h, Nat.le_refl _, by simp [maxLen], rfl, rfl⟩⟩
theorem nums_two {w : World} {g N : Nat} {x y : Int} (h : Blk w g 3 #[.int .i64 x, .int .i64 y]) (hg : N ≤ g) : w.ownsRow N 3 1 (.slice (some ⟨g, 0, none⟩) 2 2) 2 (Is [x, y]) :=
  ⟨rfl, .inr ⟨g, 2, _, rfl, hg, h, Nat.le_refl _, by simp [maxLen], rfl, rfl⟩⟩

set_option maxRecDepth 100000 in
set_option maxHeartbeats 1000000 in
theorem follow_any (o a b pc : Int) (w : World) (hp : 0 ≤ pc) (hp2 : pc ≤ 1000000) : Calls Try.prog 37 #[.agg #[.int .i64 o, .int .i64 a, .int .i64 b], .int .i64 pc] w (Nums (follB (o, a, b) pc) w) := by
  by_cases h26 : o = 26
  · subst h26
    go_enter Try.func37, Try.ntmps37
    go_wp2_with fail
    go_ret
    exact ⟨below_new _ _, _, rfl, ⟨rfl, .inl ⟨rfl, rfl⟩⟩⟩
  by_cases h23 : o = 23
  · subst h23
    go_enter Try.func37, Try.ntmps37
    go_wp2_with fail
    go_ret
    exact ⟨(below_new _ _).alloc (by simp) _, _, rfl, nums_one (blk_at (by simp)) (by simp)⟩
  by_cases h24 : o = 24
  · subst h24
    go_enter Try.func37, Try.ntmps37
    go_wp2_with fail
    go_ret
    exact ⟨(below_new _ _).alloc (by simp) _, _, rfl, nums_two (blk_at (by simp)) (by simp)⟩
  · have e26 : (o == 26) = false := by simpa using h26
    have e23 : (o == 23) = false := by simpa using h23
    have e24 : (o == 24) = false := by simpa using h24
    have HF : Hid (follB (o, a, b) pc = [pc + 1]) := by show follB _ _ = _; simp [follB, h26, h23, h24]
    clear h26 h23 h24
    go_enter Try.func37, Try.ntmps37
    go_wp2_with fail
    go_ret
    refine ⟨(below_new _ _).alloc (by simp) _, _, rfl, ?_⟩
    rw [HF.out]
    exact nums_one (blk_at (by simp)) (by simp)

set_option maxRecDepth 100000 in
set_option maxHeartbeats 1000000 in
theorem index_ints (A : Option Addr) (n c : Nat) (l : List Int) (y : Int) (w : World) (hl : l.length = n) (hn : n ≤ 1000) (h : ∀ j x, l[j]? = some x → ∃ a, A = some a ∧ w.cell? (a.add j) = some (.int .i64 x)) :
    Calls Try.prog 66 #[.slice A n c, .int .i64 y] w fun e w' => ∃ z : Int, e = .returned (.int .i64 z) ∧ w' = w ∧ (0 ≤ z ↔ y ∈ l) := by
  have HL := Lib.hid hl
  have HS := Lib.hid h
  clear hl h
  go_enter Try.func66, Try.ntmps66
  go_wp2_with fail
  go_loop [8] (fun i => ∃ k : Nat, k ≤ n ∧ i = .int .i64 (k : Nat) ∧ ¬ y ∈ l.take k) (fun i => n - (intOf i).toNat)
  case atStart => exact ⟨0, Nat.zero_le _, rfl, by simp⟩
  case round =>
    obtain ⟨k, hk, rfl, hno⟩ := hrel
    have HN := Lib.hid hno
    clear hno
    by_cases hlt : k < n
    · obtain ⟨x, hx⟩ : ∃ x, l[k]? = some x := ⟨l[k]'(by rw [HL.out]; exact hlt), List.getElem?_eq_getElem _⟩
      obtain ⟨a, rfl, hc⟩ := HS.out k x hx
      have HX := Lib.hid hx
      clear hx
      by_cases hxy : y = x
      · subst hxy
        go_wp2_with fail
        go_ret
        exact ⟨_, rfl, rfl, fun _ => List.mem_of_getElem? HX.out, fun _ => by simp⟩
      · have e1 : (y == x) = false := by simpa using hxy
        have HXY := Lib.hid hxy
        clear hxy
        go_wp2_with fail
        refine ⟨⟨k + 1, by omega, by simp, ?_⟩, by simp [intOf]; omega⟩
        obtain ⟨hk2, e⟩ := List.getElem?_eq_some_iff.1 HX.out
        rw [List.take_succ_eq_append_getElem hk2, e]
        simp only [List.mem_append, List.mem_singleton, not_or]
        exact ⟨HN.out, HXY.out⟩
    · obtain rfl : k = n := by omega
      go_wp2_with fail
      go_ret
      refine ⟨_, rfl, rfl, fun h => absurd h (by omega), fun h => absurd h ?_⟩
      have := HN.out
      rwa [List.take_of_length_le (by rw [HL.out]; exact Nat.le_refl _)] at this

set_option maxRecDepth 100000 in
theorem contains_ints (A : Option Addr) (n c : Nat) (l : List Int) (y : Int) (w : World) (hl : l.length = n) (hn : n ≤ 1000) (h : ∀ j x, l[j]? = some x → ∃ a, A = some a ∧ w.cell? (a.add j) = some (.int .i64 x)) :
    Calls Try.prog 38 #[.slice A n c, .int .i64 y] w fun e w' => e = .returned (.bool (decide (y ∈ l))) ∧ w' = w := by
  have HI := Lib.hid (index_ints A n c l y w hl hn h)
  clear h hl hn
  go_enter Try.func38, Try.ntmps38
  go_wp2_with fail
  refine (HI.out).mono ?_
  rintro e w1 ⟨z, rfl, rfl, hz⟩
  have HZ := Lib.hid hz
  clear hz
  go_wp2_with fail
  go_ret
  refine ⟨?_, rfl⟩
  have : decide (0 ≤ z) = decide (y ∈ l) := by rw [decide_eq_decide]; exact HZ.out
  rw [← this]
  rfl
theorem own_ints {w : World} {N n : Nat} {v : Value} {l : List Int} (h : w.ownsRow N 3 1 v n (Is l)) : ∃ A c, v = .slice A n c ∧ n = l.length ∧ n ≤ c ∧ (∀ j x, l[j]? = some x → ∃ a, A = some a ∧ N ≤ a.block ∧ a.block < w.heap.size ∧ w.cell? (a.add j) = some (.int .i64 x)) := by
  have hn : n = l.length := by have := h.1; rw [Is_length] at this; omega
  rcases h.2 with ⟨rfl, h0⟩ | ⟨g, cap, cur, rfl, hb, hg, hnc, hcm, _, _⟩
  · refine ⟨none, 0, by rw [h0], hn, by omega, fun j x hx => ?_⟩
    have := (List.getElem?_eq_some_iff.1 hx).1
    omega
  · exact ⟨some ⟨g, 0, none⟩, cap, rfl, hn, hnc, fun j x hx => ⟨_, rfl, hb, (Array.getElem?_eq_some_iff.1 hg).1, h.cells rfl j _ (Is_get hx)⟩⟩
end Go.Proofs.Ytikhhcmfjncabaa
