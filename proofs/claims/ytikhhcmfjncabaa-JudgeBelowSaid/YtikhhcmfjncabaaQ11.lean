/-
  Sc3 Ixbfn Ixbim Sc4 Ffw Ffn Fcw
-/
import Derived.Test.YtikhhcmfjncabaaQ01
import Derived.Test.YtikhhcmfjncabaaQ02
import Derived.Test.YtikhhcmfjncabaaQ08
import Derived.Test.YtikhhcmfjncabaaQ09
import Derived.Test.YtikhhcmfjncabaaQ10
import Derived.Deep.RegionWith
import Derived.Laws.EntriesVeiled
import Derived.OwnWalk
import Derived.Deep.RegionHeld3
import Derived.Deep.DeepCutAuto
set_option linter.unusedSimpArgs false
set_option linter.unusedVariables false
namespace Go.Proofs.Ytikhhcmfjncabaa
open Go.RowKit

theorem missing_any (v0 v1 v2 v3 v4 p0 p1 p2 p3 p4 : Value) (w : World) :
    Calls Try.prog 29 #[.agg #[v0, v1, v2, v3, v4], .agg #[p0, p1, p2, p3, p4]] w fun e w' =>
      e = .returned (.func (.func 54) #[] #[.pointer (some ⟨w.heap.size, 0, none⟩), .pointer (some ⟨w.heap.size + 1, 0, none⟩)]) ∧ Below w.heap.size w w' ∧ C5 w.heap.size v0 v1 v2 v3 v4 w' ∧ C5 (w.heap.size + 1) p0 p1 p2 p3 p4 w' := by
  go_enter Try.func29, Try.ntmps29
  go_wp2_with fail
  go_ret
  exact ⟨rfl, ((Below.refl _ _).alloc (Nat.le_refl _) _).alloc (by simp) _, by simp [C5, go_sem], by simp [C5, go_sem]⟩

set_option maxRecDepth 100000 in
set_option maxHeartbeats 4000000 in
theorem check1_any (A0 A1 A2 A3 A4 : Option Addr) (n0 n1 n2 n3 n4 d0 d1 d2 d3 d4 : Nat) (m : Mod) (B : Nat) (x : Fn) (w : World) (h0 : m.recs.length = n0) (h1 : m.funcs.length = n1) (h2 : m.imps.length = n2) (h3 : m.ints.length = n3) (h4 : m.texts.length = n4)
    (hn0 : n0 ≤ 9223372036854775807) (hR : Sq tysL (· < w.heap.size) w A0 m.recs) (hC : C5 B (.slice A0 n0 d0) (.slice A1 n1 d1) (.slice A2 n2 d2) (.slice A3 n3 d3) (.slice A4 n4 d4) w)
    (cs : List Value) (hr : fnL.R (· < w.heap.size) w cs x) (hx : fnOk n0 x = true) :
    Calls Try.prog 25 #[vAgg cs, .pointer (some ⟨B, 0, none⟩)] w (Tells (badFn m x) w) := by
  obtain ⟨z1, z2, z3, z4, -, -, -, z8⟩ := fn_sizes hx
  obtain ⟨p0, p1, p2, rfl, i1, i2, ⟨P0, c0, e4, l4, m4, s4⟩, ⟨P1, c1, e5, l5, m5, s5⟩, ⟨P2, c2, e6, l6, m6, s6⟩⟩ := hr
  simp only [List.cons.injEq, and_true] at e4 e5 e6
  subst e4 e5 e6
  obtain ⟨u0, g0⟩ : ∃ n, x.args.length = n := ⟨_, rfl⟩
  obtain ⟨u1, g1⟩ : ∃ n, x.locs.length = n := ⟨_, rfl⟩
  obtain ⟨u2, g2⟩ : ∃ n, x.code.length = n := ⟨_, rfl⟩
  show Calls Try.prog 25 #[.agg #[.slice P0 x.args.length c0, .int .i64 x.ret.1, .int .i64 x.ret.2, .slice P1 x.locs.length c1, .slice P2 x.code.length c2], .pointer (some ⟨B, 0, none⟩)] w (Tells (badFn m x) w)
  rw [g0, g1, g2]
  have T0 : Hid (∀ w1, Below w.heap.size w w1 → Calls Try.prog 26 #[.slice P1 u1 c1, .func (.func 27) #[] #[]] w1 (Tells (x.locs.any hanB) w1)) := fun w1 hb =>
    contains_han P1 u1 c1 x.locs hanB w1 g1 ((s5.keep fun b hb1 => hb.block b hb1).wide fun b hb1 => Nat.lt_of_lt_of_le hb1 hb.size) (by omega) fun w2 cs y _ _ hr => isHan_any y w2 cs hr
  have T2 : Hid (∀ w1 (p7 p8 : Nat), Below w.heap.size w w1 → C5 p7 (.slice A0 n0 d0) (.slice A1 n1 d1) (.slice A2 n2 d2) (.slice A3 n3 d3) (.slice A4 n4 d4) w1 → C5 p8 (.slice P0 u0 c0) (.int .i64 x.ret.1) (.int .i64 x.ret.2) (.slice P1 u1 c1) (.slice P2 u2 c2) w1 →
      Calls Try.prog 28 #[.slice P2 u2 c2, .func (.func 54) #[] #[.pointer (some ⟨p7, 0, none⟩), .pointer (some ⟨p8, 0, none⟩)]] w1 (Tells (x.code.any fun i => !namedB m x i) w1)) := fun w1 p7 p8 hb hc1 hc2 =>
    contains_mis P2 u2 c2 x.code (fun i => !namedB m x i) ⟨p7, 0, none⟩ ⟨p8, 0, none⟩ w1 g2 ((s6.keep fun b hb1 => hb.block b hb1).wide fun b hb1 => Nat.lt_of_lt_of_le hb1 hb.size) (by omega) fun w2 cs y hb2 hy hr => by
      obtain ⟨rfl, -⟩ := hr
      obtain ⟨o, a, b⟩ := y
      obtain ⟨o1, a1, b1, e1, e2, e3, q1, q2, q3⟩ := goodI_parts (op := o) (a := a) (b := b) (z8 _ hy)
      have hb3 : Below w.heap.size w w2 := hb.trans (hb2.mono hb.size)
      exact missing1_any A0 A1 A2 A3 A4 P0 P1 P2 n0 n1 n2 n3 n4 d0 d1 d2 d3 d4 u0 u1 u2 c0 c1 c2 x.ret.1 x.ret.2 m x o a b w2 p7 p8 h0 h1 h2 h3 h4 g0 g1 g2 hn0 (by omega) (by omega) (by omega) (by omega) ((hR.keep fun b hb1 => hb3.block b hb1).wide fun b hb1 => Nat.lt_of_lt_of_le hb1 hb3.size)
        (hc1.below hb2 (World.block_lt_of_cell? w1 _ hc1.1)) (hc2.below hb2 (World.block_lt_of_cell? w1 _ hc2.1))
  have HO : Hid (badFn m x = (x.locs.any hanB || x.code.any fun i => !namedB m x i)) := rfl
  have HB0 : Hid (Below w.heap.size w (w.alloc (.cells #[.slice P0 u0 c0, .int .i64 x.ret.1, .int .i64 x.ret.2, .slice P1 u1 c1, .slice P2 u2 c2] 37))) := (Below.refl _ _).alloc (Nat.le_refl _) _
  have HC0 : Hid (C5 B (.slice A0 n0 d0) (.slice A1 n1 d1) (.slice A2 n2 d2) (.slice A3 n3 d3) (.slice A4 n4 d4) (w.alloc (.cells #[.slice P0 u0 c0, .int .i64 x.ret.1, .int .i64 x.ret.2, .slice P1 u1 c1, .slice P2 u2 c2] 37)) ∧ C5 w.heap.size (.slice P0 u0 c0) (.int .i64 x.ret.1) (.int .i64 x.ret.2) (.slice P1 u1 c1) (.slice P2 u2 c2) (w.alloc (.cells #[.slice P0 u0 c0, .int .i64 x.ret.1, .int .i64 x.ret.2, .slice P1 u1 c1, .slice P2 u2 c2] 37))) :=
    ⟨hC.below HB0.out (World.block_lt_of_cell? w _ hC.1), by simp [C5, go_sem]⟩
  have hBl := World.block_lt_of_cell? w _ hC.1
  simp only at hBl
  clear g0 g1 g2 h0 h1 h2 h3 h4 hR hC i1 i2 s4 s5 s6 l4 l5 l6 m4 m5 m6 z8 hx
  generalize badFn m x = gd at *
  generalize x.locs.any hanB = b1 at *
  generalize (x.code.any fun i => !namedB m x i) = b2 at *
  generalize x.ret.1 = k1 at *
  generalize x.ret.2 = k2 at *
  go_enter Try.func25, Try.ntmps25
  go_wp2_with fail
  refine wp_world fun W hW => ?_
  rw [← hW] at HB0 HC0
  have hs : w.heap.size < W.heap.size := by rw [hW]; simp
  clear hW
  have HKK : Hid (∀ w1, Below W.heap.size W w1 → C5 B (.slice A0 n0 d0) (.slice A1 n1 d1) (.slice A2 n2 d2) (.slice A3 n3 d3) (.slice A4 n4 d4) w1 ∧ C5 w.heap.size (.slice P0 u0 c0) (.int .i64 k1) (.int .i64 k2) (.slice P1 u1 c1) (.slice P2 u2 c2) w1) := fun w1 hb => ⟨HC0.out.1.below hb (by omega), HC0.out.2.below hb hs⟩
  obtain ⟨⟨x0, x1, x2, x3, x4⟩, y0, y1, y2, y3, y4⟩ := HC0.out
  cases b1
  all_goals
    first | (go_region_with (first
      | (go_at_call 26
         refine (T0.out _ HB0.out.drew).mono ?_
         rintro e w1 ⟨rfl, hb1⟩
         have HX1 := Lib.hid (((Below.refl W.heap.size W).drew).trans hb1)
         have HB1 := Lib.hid (HB0.out.trans (HX1.out.mono HB0.out.size))
         obtain ⟨⟨q0, q1, q2, q3, q4⟩, t0, t1, t2, t3, t4⟩ := HKK.out w1 HX1.out
         clear hb1)
      | (go_at_call 29
         refine (missing_any _ _ _ _ _ _ _ _ _ _ _).mono ?_
         rintro e w2 ⟨rfl, hb2, hc2, hc3⟩
         have HX2 := Lib.hid (HX1.out.trans (hb2.mono HX1.out.size))
         have HB2 := Lib.hid (HB0.out.trans (HX2.out.mono HB0.out.size))
         obtain ⟨⟨r0, r1, r2, r3, r4⟩, s0, s1, s2, s3, s4⟩ := HKK.out w2 HX2.out
         have HM2 := Lib.hid hc2
         have HM3 := Lib.hid hc3
         clear hb2 hc2 hc3)
      | (go_at_call 28
         refine (T2.out _ _ _ HB2.out HM2.out HM3.out).mono ?_
         rintro e w3 ⟨rfl, hb3⟩
         have HX3 := Lib.hid (HX2.out.trans (hb3.mono HX2.out.size))
         have HB3 := Lib.hid (HB0.out.trans (HX3.out.mono HB0.out.size))
         clear hb3))) | fail
  all_goals
    go_wp2_with fail
    go_ret
    first | exact ⟨by rw [HO.out]; rfl, HB3.out⟩ | exact ⟨by rw [HO.out]; rfl, HB1.out⟩
end Go.Proofs.Ytikhhcmfjncabaa
namespace Go.Proofs.Ytikhhcmfjncabaa
open Go.RowKit

set_option maxRecDepth 100000 in
set_option maxHeartbeats 1000000 in
theorem index_bfn (A : Option Addr) (n c : Nat) (xs : List Fn) (g : Fn → Bool) (p7 : Addr) (w : World) (hl : xs.length = n) (h : Sq fnL (· < w.heap.size) w A xs) (hn2 : n ≤ 9223372036854775807)
    (hG : ∀ (w1 : World) (cs : List Value) (x : Fn), Below w.heap.size w w1 → x ∈ xs → fnL.R (· < w1.heap.size) w1 cs x → Calls Try.prog 25 #[vAgg cs, .pointer (some p7)] w1 (Tells (g x) w1)) :
    Calls Try.prog 55 #[.slice A n c, .func (.func 25) #[] #[.pointer (some p7)]] w fun e w' => ∃ k : Int, e = .returned (.int .i64 k) ∧ decide (0 ≤ k) = xs.any g ∧ Below w.heap.size w w' := by
  have HL := Lib.hid hl
  have HS := Lib.hid h
  have HP0 := Lib.hid hG
  clear hl h hG
  go_enter Try.func55, Try.ntmps55
  go_wp2_with fail
  go_loopw [8] (fun i wr => ∃ k : Nat, k ≤ n ∧ i = .int .i64 (k : Nat) ∧ (xs.take k).any g = false ∧ Below w.heap.size w wr) (fun i _ => n - (intOf i).toNat)
  case atStart => exact ⟨0, Nat.zero_le _, rfl, by simp, Below.refl _ _⟩
  case round =>
    obtain ⟨k, hk, rfl, hall, hbel⟩ := hrel
    have HA := Lib.hid hall
    have HB := Lib.hid hbel
    have hs := hbel.size
    clear hall hbel
    by_cases hlt : k < n
    · skip
      obtain ⟨x, hx⟩ : ∃ x, xs[k]? = some x := ⟨xs[k]'(by rw [HL.out]; exact hlt), List.getElem?_eq_getElem _⟩
      have hmem : x ∈ xs := List.mem_of_getElem? hx
      obtain ⟨a, cs, rfl, hab, hc, hr⟩ := HS.out.at hx
      have HX := Lib.hid hx
      clear hx
      have HR := Lib.hid hr
      obtain ⟨p0, p1, p2, rfl, -, -, ⟨A4, d4, e4, -⟩, ⟨A5, d5, e5, -⟩, ⟨A6, d6, e6, -⟩⟩ := hr
      simp only [List.cons.injEq, and_true] at e4 e5 e6
      subst e4 e5 e6
      have c0 := (HB.out.cell (p := a.add (k * 5)) (by rw [addBlock]; exact hab)).trans (hc 0 _ rfl)
      have c1 := (HB.out.cell (p := a.add (k * 5 + 1)) (by rw [addBlock]; exact hab)).trans (hc 1 _ rfl)
      rw [next_cell a (k * 5) 1 (by omega)] at c1
      have c2 := (HB.out.cell (p := a.add (k * 5 + 2)) (by rw [addBlock]; exact hab)).trans (hc 2 _ rfl)
      rw [next_cell a (k * 5) 2 (by omega)] at c2
      have c3 := (HB.out.cell (p := a.add (k * 5 + 3)) (by rw [addBlock]; exact hab)).trans (hc 3 _ rfl)
      rw [next_cell a (k * 5) 3 (by omega)] at c3
      have c4 := (HB.out.cell (p := a.add (k * 5 + 4)) (by rw [addBlock]; exact hab)).trans (hc 4 _ rfl)
      rw [next_cell a (k * 5) 4 (by omega)] at c4
      have HP : Hid (∀ w1, Below w.heap.size w w1 → Calls Try.prog 25 #[.agg #[.slice A4 x.args.length d4, .int .i64 x.ret.1, .int .i64 x.ret.2, .slice A5 x.locs.length d5, .slice A6 x.code.length d6], .pointer (some p7)] w1 (Tells (g x) w1)) := fun w1 hb => HP0.out w1 [.slice A4 x.args.length d4, .int .i64 x.ret.1, .int .i64 x.ret.2, .slice A5 x.locs.length d5, .slice A6 x.code.length d6] x hb hmem (fnL.wide (fnL.keep HR.out fun b hb1 => hb.block b hb1) fun b hb1 => Nat.lt_of_lt_of_le hb1 hb.size)
      clear hc
      have hk0 : 0 ≤ (k : Int) := by omega
      cases hg : g x
      · rw [hg] at HP
        have HG := Lib.hid hg
        clear hg
        go_wp2_with (first
          | (go_at_call 25
             refine (HP.out _ HB.out).mono ?_
             rintro e w2 ⟨rfl, hb2⟩
             have Hb2 := Lib.hid (HB.out.trans (hb2.mono hs))
             clear hb2))
        refine ⟨⟨k + 1, by omega, by simp, any_take HA.out HX.out HG.out, Hb2.out⟩, by simp [intOf]; omega⟩
      · rw [hg] at HP
        have e : xs.any g = true := any_here hmem hg
        have E := Lib.hid e
        clear e hg
        go_wp2_with (first
          | (go_at_call 25
             refine (HP.out _ HB.out).mono ?_
             rintro e w2 ⟨rfl, hb2⟩
             have Hb2 := Lib.hid (HB.out.trans (hb2.mono hs))
             clear hb2))
        go_ret
        exact ⟨_, rfl, by rw [E.out]; simp, Hb2.out⟩
    · obtain rfl : k = n := by omega
      go_wp2_with fail
      go_ret
      exact ⟨_, rfl, by rw [any_full HA.out HL.out]; rfl, HB.out⟩

set_option maxRecDepth 100000 in
theorem contains_bfn (A : Option Addr) (n c : Nat) (xs : List Fn) (g : Fn → Bool) (p7 : Addr) (w : World) (hl : xs.length = n) (h : Sq fnL (· < w.heap.size) w A xs) (hn2 : n ≤ 9223372036854775807)
    (hG : ∀ (w1 : World) (cs : List Value) (x : Fn), Below w.heap.size w w1 → x ∈ xs → fnL.R (· < w1.heap.size) w1 cs x → Calls Try.prog 25 #[vAgg cs, .pointer (some p7)] w1 (Tells (g x) w1)) :
    Calls Try.prog 30 #[.slice A n c, .func (.func 25) #[] #[.pointer (some p7)]] w (Tells (xs.any g) w) := by
  have HC := Lib.hid (index_bfn A n c xs g p7 w hl h hn2 hG)
  clear hl h hG
  generalize xs.any g = ab at *
  go_enter Try.func30, Try.ntmps30
  go_wp2_with (first | (go_at_call 55; refine HC.out.mono ?_; rintro e w1 ⟨k, rfl, hk, hb⟩; have HB := Lib.hid hb; have HK := Lib.hid hk; clear hb hk))
  go_ret
  exact ⟨by rw [← HK.out]; rfl, HB.out⟩
end Go.Proofs.Ytikhhcmfjncabaa
namespace Go.Proofs.Ytikhhcmfjncabaa
open Go.RowKit

set_option maxRecDepth 100000 in
set_option maxHeartbeats 1000000 in
theorem index_bim (A : Option Addr) (n c : Nat) (xs : List Imp) (g : Imp → Bool) (w : World) (hl : xs.length = n) (h : Sq impL (· < w.heap.size) w A xs) (hn2 : n ≤ 9223372036854775807)
    (hG : ∀ (w1 : World) (cs : List Value) (x : Imp), Below w.heap.size w w1 → x ∈ xs → impL.R (· < w1.heap.size) w1 cs x → Calls Try.prog 32 #[vAgg cs] w1 (Tells (g x) w1)) :
    Calls Try.prog 56 #[.slice A n c, .func (.func 32) #[] #[]] w fun e w' => ∃ k : Int, e = .returned (.int .i64 k) ∧ decide (0 ≤ k) = xs.any g ∧ Below w.heap.size w w' := by
  have HL := Lib.hid hl
  have HS := Lib.hid h
  have HP0 := Lib.hid hG
  clear hl h hG
  go_enter Try.func56, Try.ntmps56
  go_wp2_with fail
  go_loopw [8] (fun i wr => ∃ k : Nat, k ≤ n ∧ i = .int .i64 (k : Nat) ∧ (xs.take k).any g = false ∧ Below w.heap.size w wr) (fun i _ => n - (intOf i).toNat)
  case atStart => exact ⟨0, Nat.zero_le _, rfl, by simp, Below.refl _ _⟩
  case round =>
    obtain ⟨k, hk, rfl, hall, hbel⟩ := hrel
    have HA := Lib.hid hall
    have HB := Lib.hid hbel
    have hs := hbel.size
    clear hall hbel
    by_cases hlt : k < n
    · skip
      obtain ⟨x, hx⟩ : ∃ x, xs[k]? = some x := ⟨xs[k]'(by rw [HL.out]; exact hlt), List.getElem?_eq_getElem _⟩
      have hmem : x ∈ xs := List.mem_of_getElem? hx
      obtain ⟨a, cs, rfl, hab, hc, hr⟩ := HS.out.at hx
      have HX := Lib.hid hx
      clear hx
      have HR := Lib.hid hr
      obtain ⟨p0, rfl, -, -, ⟨A4, d4, e4, -⟩⟩ := hr
      simp only [List.cons.injEq, and_true] at e4
      subst e4
      have c0 := (HB.out.cell (p := a.add (k * 3)) (by rw [addBlock]; exact hab)).trans (hc 0 _ rfl)
      have c1 := (HB.out.cell (p := a.add (k * 3 + 1)) (by rw [addBlock]; exact hab)).trans (hc 1 _ rfl)
      rw [next_cell a (k * 3) 1 (by omega)] at c1
      have c2 := (HB.out.cell (p := a.add (k * 3 + 2)) (by rw [addBlock]; exact hab)).trans (hc 2 _ rfl)
      rw [next_cell a (k * 3) 2 (by omega)] at c2
      have HP : Hid (∀ w1, Below w.heap.size w w1 → Calls Try.prog 32 #[.agg #[.slice A4 x.args.length d4, .int .i64 x.ret.1, .int .i64 x.ret.2]] w1 (Tells (g x) w1)) := fun w1 hb => HP0.out w1 [.slice A4 x.args.length d4, .int .i64 x.ret.1, .int .i64 x.ret.2] x hb hmem (impL.wide (impL.keep HR.out fun b hb1 => hb.block b hb1) fun b hb1 => Nat.lt_of_lt_of_le hb1 hb.size)
      clear hc
      have hk0 : 0 ≤ (k : Int) := by omega
      cases hg : g x
      · rw [hg] at HP
        have HG := Lib.hid hg
        clear hg
        go_wp2_with (first
          | (go_at_call 32
             refine (HP.out _ HB.out).mono ?_
             rintro e w2 ⟨rfl, hb2⟩
             have Hb2 := Lib.hid (HB.out.trans (hb2.mono hs))
             clear hb2))
        refine ⟨⟨k + 1, by omega, by simp, any_take HA.out HX.out HG.out, Hb2.out⟩, by simp [intOf]; omega⟩
      · rw [hg] at HP
        have e : xs.any g = true := any_here hmem hg
        have E := Lib.hid e
        clear e hg
        go_wp2_with (first
          | (go_at_call 32
             refine (HP.out _ HB.out).mono ?_
             rintro e w2 ⟨rfl, hb2⟩
             have Hb2 := Lib.hid (HB.out.trans (hb2.mono hs))
             clear hb2))
        go_ret
        exact ⟨_, rfl, by rw [E.out]; simp, Hb2.out⟩
    · obtain rfl : k = n := by omega
      go_wp2_with fail
      go_ret
      exact ⟨_, rfl, by rw [any_full HA.out HL.out]; rfl, HB.out⟩

set_option maxRecDepth 100000 in
theorem contains_bim (A : Option Addr) (n c : Nat) (xs : List Imp) (g : Imp → Bool) (w : World) (hl : xs.length = n) (h : Sq impL (· < w.heap.size) w A xs) (hn2 : n ≤ 9223372036854775807)
    (hG : ∀ (w1 : World) (cs : List Value) (x : Imp), Below w.heap.size w w1 → x ∈ xs → impL.R (· < w1.heap.size) w1 cs x → Calls Try.prog 32 #[vAgg cs] w1 (Tells (g x) w1)) :
    Calls Try.prog 31 #[.slice A n c, .func (.func 32) #[] #[]] w (Tells (xs.any g) w) := by
  have HC := Lib.hid (index_bim A n c xs g w hl h hn2 hG)
  clear hl h hG
  generalize xs.any g = ab at *
  go_enter Try.func31, Try.ntmps31
  go_wp2_with (first | (go_at_call 56; refine HC.out.mono ?_; rintro e w1 ⟨k, rfl, hk, hb⟩; have HB := Lib.hid hb; have HK := Lib.hid hk; clear hb hk))
  go_ret
  exact ⟨by rw [← HK.out]; rfl, HB.out⟩
end Go.Proofs.Ytikhhcmfjncabaa
namespace Go.Proofs.Ytikhhcmfjncabaa
open Go.RowKit

def Errs (n : Int) (w : World) (e : Ending) (w' : World) : Prop := e = .returned (.int .i64 n) ∧ Below w.heap.size w w'

set_option maxRecDepth 100000 in
set_option maxHeartbeats 4000000 in
theorem check_any (cs : List Value) (x : Mod) (w : World) (h : modL.R (· < w.heap.size) w cs x) : Calls Try.prog 18 #[vAgg cs] w (Errs (checkN x) w) := by
  have TE : Hid (∀ w1, Below w.heap.size w w1 → Calls Try.prog 24 #[vAgg cs] w1 (Encodes x w1)) := fun w1 hb => encode_any cs x w1 (mod_at h hb)
  obtain ⟨_, _, _, _, _, rfl, ⟨A0, d0, e0, l0, m0, s0⟩, ⟨A1, d1, e1, l1, m1, s1⟩, ⟨A2, d2, e2, l2, m2, s2⟩, ⟨A3, d3, e3, -⟩, ⟨A4, d4, e4, -⟩⟩ := h
  simp only [List.cons.injEq, and_true] at e0 e1 e2 e3 e4
  subst e0 e1 e2 e3 e4
  obtain ⟨n0, h0⟩ : ∃ n, x.recs.length = n := ⟨_, rfl⟩
  obtain ⟨n1, h1⟩ : ∃ n, x.funcs.length = n := ⟨_, rfl⟩
  obtain ⟨n2, h2⟩ : ∃ n, x.imps.length = n := ⟨_, rfl⟩
  obtain ⟨n3, h3⟩ : ∃ n, x.ints.length = n := ⟨_, rfl⟩
  obtain ⟨n4, h4⟩ : ∃ n, x.texts.length = n := ⟨_, rfl⟩
  rw [h0, h1, h2, h3, h4] at TE ⊢
  unfold maxLen at m0 m1 m2
  rw [h0] at l0
  rw [h1] at l1
  rw [h2] at l2
  have TE2 : Hid (∀ w1, Below w.heap.size w w1 → Calls Try.prog 24 #[.agg #[.slice A0 n0 d0, .slice A1 n1 d1, .slice A2 n2 d2, .slice A3 n3 d3, .slice A4 n4 d4]] w1 (Encodes x w1)) := TE.out
  clear TE
  show Calls Try.prog 18 #[.agg #[.slice A0 n0 d0, .slice A1 n1 d1, .slice A2 n2 d2, .slice A3 n3 d3, .slice A4 n4 d4]] w (Errs (checkN x) w)
  have HB0 : Hid (∀ o : Obj, Below w.heap.size w (w.alloc o)) := fun o => (Below.refl _ _).alloc (Nat.le_refl _) _
  have HC0 : Hid (C5 w.heap.size (.slice A0 n0 d0) (.slice A1 n1 d1) (.slice A2 n2 d2) (.slice A3 n3 d3) (.slice A4 n4 d4) (w.alloc (.cells #[.slice A0 n0 d0, .slice A1 n1 d1, .slice A2 n2 d2, .slice A3 n3 d3, .slice A4 n4 d4] 43))) := by show C5 _ _ _ _ _ _ _; simp [C5, go_sem]
  cases hf : fitB x
  · have HF := Lib.hid hf
    have HN := Lib.hid (checkN_unfit hf)
    generalize checkN x = cn at *
    clear hf s0 s1 s2 h0 h1 h2 h3 h4
    go_enter Try.func18, Try.ntmps18
    go_wp2_with (first
      | (go_at_call 24
         refine (TE2.out _ (HB0.out _)).mono ?_
         rintro e w1 ⟨hb1, ⟨h1, rfl⟩ | ⟨h1, h2⟩⟩
         rotate_left
         · rw [HF.out] at h1
           cases h1
         have HB1 := Lib.hid ((HB0.out _).trans (hb1.mono (by simp)))
         clear hb1 h1))
    go_ret
    exact ⟨by rw [HN.out]; rfl, HB1.out⟩
  · have HF := Lib.hid hf
    have hF := fitB_iff.1 hf
    have T1 : Hid (∀ w1 (B : Nat), Below w.heap.size w w1 → C5 B (.slice A0 n0 d0) (.slice A1 n1 d1) (.slice A2 n2 d2) (.slice A3 n3 d3) (.slice A4 n4 d4) w1 → Calls Try.prog 30 #[.slice A1 n1 d1, .func (.func 25) #[] #[.pointer (some ⟨B, 0, none⟩)]] w1 (Tells (x.funcs.any (badFn x)) w1)) := fun w1 B hb hc =>
      contains_bfn A1 n1 d1 x.funcs (badFn x) ⟨B, 0, none⟩ w1 h1 ((s1.keep fun b hb1 => hb.block b hb1).wide fun b hb1 => Nat.lt_of_lt_of_le hb1 hb.size) (by omega) fun w2 cs y hb2 hy hr => by
        have hb3 : Below w.heap.size w w2 := hb.trans (hb2.mono hb.size)
        exact check1_any A0 A1 A2 A3 A4 n0 n1 n2 n3 n4 d0 d1 d2 d3 d4 x B y w2 h0 h1 h2 h3 h4 (by omega) ((s0.keep fun b hb1 => hb3.block b hb1).wide fun b hb1 => Nat.lt_of_lt_of_le hb1 hb3.size) (hc.below hb2 (World.block_lt_of_cell? w1 _ hc.1)) cs hr (by rw [← h0]; exact hF.funcs y hy)
    have T2 : Hid (∀ w1, Below w.heap.size w w1 → Calls Try.prog 31 #[.slice A2 n2 d2, .func (.func 32) #[] #[]] w1 (Tells (x.imps.any badImp) w1)) := fun w1 hb =>
      contains_bim A2 n2 d2 x.imps badImp w1 h2 ((s2.keep fun b hb1 => hb.block b hb1).wide fun b hb1 => Nat.lt_of_lt_of_le hb1 hb.size) (by omega) fun w2 cs y _ _ hr => wrongImport_any y w2 cs hr
    have HO : Hid (badM x = (x.funcs.any (badFn x) || x.imps.any badImp)) := rfl
    have HN : Hid (checkN x = if badM x = true then 1 else 0) := by show checkN x = _; simp [checkN, hf]
    generalize checkN x = cn at *
    generalize badM x = bm at *
    generalize x.funcs.any (badFn x) = b1 at *
    generalize x.imps.any badImp = b2 at *
    clear hf hF s0 s1 s2 h0 h1 h2 h3 h4
    cases b1
    case' false => cases b2
    all_goals
      go_enter Try.func18, Try.ntmps18
      go_wp2_with (first
        | (go_at_call 24
           refine (TE2.out _ (HB0.out _)).mono ?_
           rintro e w1 ⟨hb1, ⟨h1, h2⟩ | ⟨h1, u, rfl, hown⟩⟩
           · rw [HF.out] at h1
             cases h1
           have HB1 := Lib.hid ((HB0.out _).trans (hb1.mono (by simp)))
           have HC1 := Lib.hid (HC0.out.below hb1 (by simp))
           have hs1 : w.heap.size < w1.heap.size := (by have := hb1.size; simp at this; omega)
           obtain ⟨A5, c5, rfl, -, -, -, -⟩ := own_slice hown
           obtain ⟨x0, x1, x2, x3, x4⟩ := HC1.out
           clear hb1 h1 hown)
        | (go_at_call 30
           refine (T1.out _ _ HB1.out HC1.out).mono ?_
           rintro e w2 ⟨rfl, hb2⟩
           have HB2 := Lib.hid (HB1.out.trans (hb2.mono HB1.out.size))
           obtain ⟨y0, y1, y2, y3, y4⟩ := HC1.out.below hb2 hs1
           clear hb2)
        | (go_at_call 31
           refine (T2.out _ HB2.out).mono ?_
           rintro e w3 ⟨rfl, hb3⟩
           have HB3 := Lib.hid (HB2.out.trans (hb3.mono HB2.out.size))
           clear hb3))
      go_ret
      first | exact ⟨by rw [HN.out, HO.out]; rfl, HB3.out⟩ | exact ⟨by rw [HN.out, HO.out]; rfl, HB2.out⟩
end Go.Proofs.Ytikhhcmfjncabaa
namespace Go.Proofs.Ytikhhcmfjncabaa
open Go.RowKit

def Flows (r : Int × List Typ × List Int) (w : World) (e : Ending) (w' : World) : Prop :=
  Below w.heap.size w w' ∧ ∃ v u, e = .returned (.tuple #[v, u, .int .i64 r.1]) ∧ w'.ownsRow w.heap.size 27 2 v r.2.1.length (T2 r.2.1) ∧ w'.ownsRow w.heap.size 3 1 u r.2.2.length (Is r.2.2) ∧ (∀ b, v.ownBlock = some b → u.ownBlock ≠ some b) ∧ A64 r.2.1
theorem row_wide {w : World} {b b' ty k n : Nat} {v : Value} {xs : List Value} (h : w.ownsRow b ty k v n xs) (hb : b' ≤ b) : w.ownsRow b' ty k v n xs := by
  refine ⟨h.1, ?_⟩
  rcases h.2 with h | ⟨g', cap, cur, e, hb2, rest⟩
  · exact .inl h
  · exact .inr ⟨g', cap, cur, e, Nat.le_trans hb hb2, rest⟩
theorem flows_open {er : Int} {t : List Typ} {l : List Int} {w w' : World} {e : Ending} (h : Flows (er, t, l) w e w') : Below w.heap.size w w' ∧ ∃ v u, e = .returned (.tuple #[v, u, .int .i64 er]) ∧ w'.ownsRow w.heap.size 27 2 v t.length (T2 t) ∧ w'.ownsRow w.heap.size 3 1 u l.length (Is l) ∧ A64 t := by
  obtain ⟨h1, v, u, h2, h3, h4, -, h5⟩ := h
  exact ⟨h1, v, u, h2, h3, h4, h5⟩
theorem flows_none {er : Int} {w w' : World} (h : Below w.heap.size w w') : Flows (er, [], []) w (.returned (.tuple #[.slice none 0 0, .slice none 0 0, .int .i64 er])) w' :=
  ⟨h, _, _, rfl, ⟨rfl, .inl ⟨rfl, rfl⟩⟩, ⟨rfl, .inl ⟨rfl, rfl⟩⟩, (fun b hb => by cases hb), A64.nil⟩
theorem flowB_bad {x : Mod} {fi pc : Int} {ts : List Typ} (h : checkN x ≠ 0) : flowB x fi pc ts = (1, [], []) := by simp [flowB, h]
theorem flowB_nofn {x : Mod} {fi pc : Int} {ts : List Typ} (h : hasB x.funcs.length fi = false) : flowB x fi pc ts = (1, [], []) := by
  simp [hasB] at h
  unfold flowB
  split
  · rfl
  · rename_i hc
    rw [List.getElem?_eq_none (by omega)]
theorem flowB_nopc {x : Mod} {pc : Int} {j : Nat} {fn : Fn} {ts : List Typ} (hf : x.funcs[j]? = some fn) (h : hasB fn.code.length pc = false) : flowB x (j : Int) pc ts = (1, [], []) := by
  simp [hasB] at h
  unfold flowB
  split
  · rfl
  · rename_i hc
    simp only [Int.toNat_natCast, hf]
    rw [List.getElem?_eq_none (by omega)]
theorem flowB_at {x : Mod} {j p : Nat} {fn : Fn} {i : Ins} {ts : List Typ} (hc : checkN x = 0) (hf : x.funcs[j]? = some fn) (hp : fn.code[p]? = some i) : flowB x (j : Int) (p : Int) ts = insB8 x fn i p ts := by
  simp [flowB, hc, hf, hp]
  omega
end Go.Proofs.Ytikhhcmfjncabaa
namespace Go.Proofs.Ytikhhcmfjncabaa
open Go.RowKit

set_option maxRecDepth 100000 in
set_option maxHeartbeats 4000000 in
theorem flow_bad (cs : List Value) (x : Mod) (fi pc : Int) (D : Option Addr) (k g : Nat) (ts : List Typ) (w : World) (h : modL.R (· < w.heap.size) w cs x) (hc : checkN x ≠ 0) : Calls Try.prog 21 #[vAgg cs, .int .i64 fi, .int .i64 pc, .slice D k g] w (Flows (flowB x fi pc ts) w) := by
  have TE : Hid (∀ w1, Below w.heap.size w w1 → Calls Try.prog 18 #[vAgg cs] w1 (Errs (checkN x) w1)) := fun w1 hb => check_any cs x w1 (mod_at h hb)
  obtain ⟨_, _, _, _, _, rfl, ⟨A0, d0, e0, l0, m0, s0⟩, ⟨A1, d1, e1, l1, m1, s1⟩, ⟨A2, d2, e2, l2, m2, s2⟩, ⟨A3, d3, e3, -⟩, ⟨A4, d4, e4, -⟩⟩ := h
  simp only [List.cons.injEq, and_true] at e0 e1 e2 e3 e4
  subst e0 e1 e2 e3 e4
  obtain ⟨n0, h0⟩ : ∃ n, x.recs.length = n := ⟨_, rfl⟩
  obtain ⟨n1, h1⟩ : ∃ n, x.funcs.length = n := ⟨_, rfl⟩
  obtain ⟨n2, h2⟩ : ∃ n, x.imps.length = n := ⟨_, rfl⟩
  rw [h0, h1, h2] at TE ⊢
  generalize x.ints.length = n3 at *
  generalize x.texts.length = n4 at *
  have TE2 : Hid (∀ w1, Below w.heap.size w w1 → Calls Try.prog 18 #[.agg #[.slice A0 n0 d0, .slice A1 n1 d1, .slice A2 n2 d2, .slice A3 n3 d3, .slice A4 n4 d4]] w1 (Errs (checkN x) w1)) := TE.out
  clear TE
  show Calls Try.prog 21 #[.agg #[.slice A0 n0 d0, .slice A1 n1 d1, .slice A2 n2 d2, .slice A3 n3 d3, .slice A4 n4 d4], .int .i64 fi, .int .i64 pc, .slice D k g] w (Flows (flowB x fi pc ts) w)
  have HB0 : Hid (∀ o : Obj, Below w.heap.size w (w.alloc o)) := fun o => below_new w o
  have HC0 : Hid (C5 w.heap.size (.slice A0 n0 d0) (.slice A1 n1 d1) (.slice A2 n2 d2) (.slice A3 n3 d3) (.slice A4 n4 d4) (w.alloc (.cells #[.slice A0 n0 d0, .slice A1 n1 d1, .slice A2 n2 d2, .slice A3 n3 d3, .slice A4 n4 d4] 43))) := by show C5 _ _ _ _ _ _ _; simp [C5, go_sem]
  rw [flowB_bad hc]
  have b : (checkN x != 0) = true := by simpa using hc
  generalize checkN x = cn at *
  clear hc s0 s1 s2 h0 h1 h2 l0 l1 l2 m0 m1 m2
  go_enter Try.func21, Try.ntmps21
  go_wp2_with (first
    | (go_at_call 18
       refine (TE2.out _ (HB0.out _)).mono ?_
       rintro e w1 ⟨rfl, hb1⟩
       have HB1 := Lib.hid ((HB0.out _).trans (hb1.mono (by simp)))
       obtain ⟨x0, x1, x2, x3, x4⟩ := HC0.out.below hb1 (by simp)
       have hs1 : w.heap.size < w1.heap.size := (by have := hb1.size; simp at this; omega)
       clear hb1))
  go_ret3
  exact flows_none HB1.out
set_option maxRecDepth 100000 in
set_option maxHeartbeats 4000000 in
theorem flow_nofn (cs : List Value) (x : Mod) (fi pc : Int) (D : Option Addr) (k g : Nat) (ts : List Typ) (w : World) (h : modL.R (· < w.heap.size) w cs x) (hc : checkN x = 0) (hf : hasB x.funcs.length fi = false) : Calls Try.prog 21 #[vAgg cs, .int .i64 fi, .int .i64 pc, .slice D k g] w (Flows (flowB x fi pc ts) w) := by
  have TE : Hid (∀ w1, Below w.heap.size w w1 → Calls Try.prog 18 #[vAgg cs] w1 (Errs (checkN x) w1)) := fun w1 hb => check_any cs x w1 (mod_at h hb)
  obtain ⟨_, _, _, _, _, rfl, ⟨A0, d0, e0, l0, m0, s0⟩, ⟨A1, d1, e1, l1, m1, s1⟩, ⟨A2, d2, e2, l2, m2, s2⟩, ⟨A3, d3, e3, -⟩, ⟨A4, d4, e4, -⟩⟩ := h
  simp only [List.cons.injEq, and_true] at e0 e1 e2 e3 e4
  subst e0 e1 e2 e3 e4
  obtain ⟨n0, h0⟩ : ∃ n, x.recs.length = n := ⟨_, rfl⟩
  obtain ⟨n1, h1⟩ : ∃ n, x.funcs.length = n := ⟨_, rfl⟩
  obtain ⟨n2, h2⟩ : ∃ n, x.imps.length = n := ⟨_, rfl⟩
  rw [h0, h1, h2] at TE ⊢
  generalize x.ints.length = n3 at *
  generalize x.texts.length = n4 at *
  have TE2 : Hid (∀ w1, Below w.heap.size w w1 → Calls Try.prog 18 #[.agg #[.slice A0 n0 d0, .slice A1 n1 d1, .slice A2 n2 d2, .slice A3 n3 d3, .slice A4 n4 d4]] w1 (Errs (checkN x) w1)) := TE.out
  clear TE
  show Calls Try.prog 21 #[.agg #[.slice A0 n0 d0, .slice A1 n1 d1, .slice A2 n2 d2, .slice A3 n3 d3, .slice A4 n4 d4], .int .i64 fi, .int .i64 pc, .slice D k g] w (Flows (flowB x fi pc ts) w)
  have HB0 : Hid (∀ o : Obj, Below w.heap.size w (w.alloc o)) := fun o => below_new w o
  have HC0 : Hid (C5 w.heap.size (.slice A0 n0 d0) (.slice A1 n1 d1) (.slice A2 n2 d2) (.slice A3 n3 d3) (.slice A4 n4 d4) (w.alloc (.cells #[.slice A0 n0 d0, .slice A1 n1 d1, .slice A2 n2 d2, .slice A3 n3 d3, .slice A4 n4 d4] 43))) := by show C5 _ _ _ _ _ _ _; simp [C5, go_sem]
  rw [flowB_nofn hf]
  rw [hc] at TE2
  have HF := Lib.hid (fun v => hasF_any A1 n1 d1 fi v)
  rw [h1] at hf
  rw [hf] at HF
  clear hc hf s0 s1 s2 h0 h1 h2 l0 l1 l2 m0 m1 m2
  go_enter Try.func21, Try.ntmps21
  go_wp2_with (first
    | (go_at_call 18
       refine (TE2.out _ (HB0.out _)).mono ?_
       rintro e w1 ⟨rfl, hb1⟩
       have HB1 := Lib.hid ((HB0.out _).trans (hb1.mono (by simp)))
       obtain ⟨x0, x1, x2, x3, x4⟩ := HC0.out.below hb1 (by simp)
       have hs1 : w.heap.size < w1.heap.size := (by have := hb1.size; simp at this; omega)
       clear hb1)
    | (go_at_call 33
       refine (HF.out _).mono ?_
       rintro e w2 ⟨rfl, rfl⟩))
  go_ret3
  exact flows_none HB1.out
set_option maxRecDepth 100000 in
set_option maxHeartbeats 4000000 in
theorem flow_nopc (cs : List Value) (x : Mod) (j : Nat) (pc : Int) (D : Option Addr) (k g : Nat) (ts : List Typ) (w : World) (h : modL.R (· < w.heap.size) w cs x) (fn : Fn) (hc : checkN x = 0) (hfn : x.funcs[j]? = some fn) (hp : hasB fn.code.length pc = false) : Calls Try.prog 21 #[vAgg cs, .int .i64 (j : Int), .int .i64 pc, .slice D k g] w (Flows (flowB x (j : Int) pc ts) w) := by
  have TE : Hid (∀ w1, Below w.heap.size w w1 → Calls Try.prog 18 #[vAgg cs] w1 (Errs (checkN x) w1)) := fun w1 hb => check_any cs x w1 (mod_at h hb)
  obtain ⟨_, _, _, _, _, rfl, ⟨A0, d0, e0, l0, m0, s0⟩, ⟨A1, d1, e1, l1, m1, s1⟩, ⟨A2, d2, e2, l2, m2, s2⟩, ⟨A3, d3, e3, -⟩, ⟨A4, d4, e4, -⟩⟩ := h
  simp only [List.cons.injEq, and_true] at e0 e1 e2 e3 e4
  subst e0 e1 e2 e3 e4
  obtain ⟨n0, h0⟩ : ∃ n, x.recs.length = n := ⟨_, rfl⟩
  obtain ⟨n1, h1⟩ : ∃ n, x.funcs.length = n := ⟨_, rfl⟩
  obtain ⟨n2, h2⟩ : ∃ n, x.imps.length = n := ⟨_, rfl⟩
  rw [h0, h1, h2] at TE ⊢
  generalize x.ints.length = n3 at *
  generalize x.texts.length = n4 at *
  have TE2 : Hid (∀ w1, Below w.heap.size w w1 → Calls Try.prog 18 #[.agg #[.slice A0 n0 d0, .slice A1 n1 d1, .slice A2 n2 d2, .slice A3 n3 d3, .slice A4 n4 d4]] w1 (Errs (checkN x) w1)) := TE.out
  clear TE
  show Calls Try.prog 21 #[.agg #[.slice A0 n0 d0, .slice A1 n1 d1, .slice A2 n2 d2, .slice A3 n3 d3, .slice A4 n4 d4], .int .i64 (j : Int), .int .i64 pc, .slice D k g] w (Flows (flowB x (j : Int) pc ts) w)
  have HB0 : Hid (∀ o : Obj, Below w.heap.size w (w.alloc o)) := fun o => below_new w o
  have HC0 : Hid (C5 w.heap.size (.slice A0 n0 d0) (.slice A1 n1 d1) (.slice A2 n2 d2) (.slice A3 n3 d3) (.slice A4 n4 d4) (w.alloc (.cells #[.slice A0 n0 d0, .slice A1 n1 d1, .slice A2 n2 d2, .slice A3 n3 d3, .slice A4 n4 d4] 43))) := by show C5 _ _ _ _ _ _ _; simp [C5, go_sem]
  rw [flowB_nopc hfn hp]
  obtain ⟨a, ccs, ea, hab, hcl, hR⟩ := s1.at hfn
  subst ea
  obtain ⟨p0, p1, p2, rfl, hr1, hr2, ⟨P0, c0, e4, f0, f1, t0⟩, ⟨P1, c1, e5, f2, f3, t1⟩, ⟨P2, c2, e6, f4, f5, t2⟩⟩ := hR
  simp only [List.cons.injEq, and_true] at e4 e5 e6
  subst e4 e5 e6
  have HCL : Hid (∀ v, Below w.heap.size w v → v.cell? (a.add (j * 5)) = some (.slice P0 fn.args.length c0) ∧ v.cell? ⟨(a.add (j * 5)).block, (a.add (j * 5)).off + 1, none⟩ = some (.int .i64 fn.ret.1) ∧ v.cell? ⟨(a.add (j * 5)).block, (a.add (j * 5)).off + 2, none⟩ = some (.int .i64 fn.ret.2) ∧ v.cell? ⟨(a.add (j * 5)).block, (a.add (j * 5)).off + 3, none⟩ = some (.slice P1 fn.locs.length c1) ∧ v.cell? ⟨(a.add (j * 5)).block, (a.add (j * 5)).off + 4, none⟩ = some (.slice P2 fn.code.length c2)) := fun v hb => by
    have k0 := (hb.cell (p := a.add (j * 5)) (by rw [addBlock]; exact hab)).trans (hcl 0 _ rfl)
    have k1 := (hb.cell (p := a.add (j * 5 + 1)) (by rw [addBlock]; exact hab)).trans (hcl 1 _ rfl)
    have k2 := (hb.cell (p := a.add (j * 5 + 2)) (by rw [addBlock]; exact hab)).trans (hcl 2 _ rfl)
    have k3 := (hb.cell (p := a.add (j * 5 + 3)) (by rw [addBlock]; exact hab)).trans (hcl 3 _ rfl)
    have k4 := (hb.cell (p := a.add (j * 5 + 4)) (by rw [addBlock]; exact hab)).trans (hcl 4 _ rfl)
    rw [next_cell a (j * 5) 1 (by omega)] at k1
    rw [next_cell a (j * 5) 2 (by omega)] at k2
    rw [next_cell a (j * 5) 3 (by omega)] at k3
    rw [next_cell a (j * 5) 4 (by omega)] at k4
    exact ⟨k0, k1, k2, k3, k4⟩
  have hjn : (j : Int) < (n1 : Int) := by have := (List.getElem?_eq_some_iff.1 hfn).1; omega
  have hn8 : n1 ≤ 8 := by have := (fitB_iff.1 (checkN_fit hc)).f8; omega
  rw [hc] at TE2
  have HF := Lib.hid (fun v => hasF_any (some a) n1 d1 (j : Int) v)
  rw [show hasB n1 (j : Int) = true by simp [hasB]; omega] at HF
  have HI := Lib.hid (fun v => hasI_any P2 fn.code.length c2 pc v)
  rw [hp] at HI
  clear hc hp hcl s0 s1 s2 h0 h1 h2 l0 l1 l2 m0 m1 m2 t0 t1 t2 f0 f1 f2 f3 f4 f5
  generalize fn.args.length = ua at *
  generalize fn.locs.length = ul at *
  generalize fn.code.length = uc at *
  go_enter Try.func21, Try.ntmps21
  go_wp2_with (first
    | (go_at_call 18
       refine (TE2.out _ (HB0.out _)).mono ?_
       rintro e w1 ⟨rfl, hb1⟩
       have HB1 := Lib.hid ((HB0.out _).trans (hb1.mono (by simp)))
       obtain ⟨x0, x1, x2, x3, x4⟩ := HC0.out.below hb1 (by simp)
       have hs1 : w.heap.size < w1.heap.size := (by have := hb1.size; simp at this; omega)
       obtain ⟨y0, y1, y2, y3, y4⟩ := HCL.out _ HB1.out
       clear hb1)
    | (go_at_call 33
       refine (HF.out _).mono ?_
       rintro e w2 ⟨rfl, rfl⟩)
    | (go_at_call 34
       refine (HI.out _).mono ?_
       rintro e w2 ⟨rfl, rfl⟩))
  go_ret3
  exact flows_none HB1.out
end Go.Proofs.Ytikhhcmfjncabaa
namespace Go.Proofs.Ytikhhcmfjncabaa
open Go.RowKit

def Chgs (K : Nat) (ins outs : List Typ) (w : World) (e : Ending) (w' : World) : Prop :=
  Below w.heap.size w w' ∧ ∃ A n c B m d, e = .returned (.agg #[.slice A n c, .slice B m d]) ∧ tysL.R (fun b => b < K ∨ w.heap.size ≤ b ∧ b < w'.heap.size) w' [.slice A n c] ins ∧ tysL.R (fun b => b < K ∨ w.heap.size ≤ b ∧ b < w'.heap.size) w' [.slice B m d] outs
theorem blk_drew {w : World} {b t : Nat} {c : Array Value} (h : Blk w b t c) : Blk w.drew b t c := h
theorem lit_sl {S : Nat → Prop} {w : World} {g n : Nat} {cs : Array Value} {ts : List Typ} (h : Blk w g 27 cs) (hg : S g) (hc : cs.toList = T2 ts) (ha : A64 ts) (hn : ts.length = n) (hm : n ≤ 1000) : tysL.R S w [.slice (some ⟨g, 0, none⟩) n n] ts := by
  subst hn
  have e : ∀ i, (⟨g, 0, none⟩ : Addr).add i = ⟨g, i, none⟩ := fun i => by unfold Addr.add; split <;> simp_all
  have hcell : ∀ i u, (T2 ts)[i]? = some u → w.cell? ⟨g, i, none⟩ = some u := fun i u hu => by
    rw [h.cell i, ← hu, ← hc]
    simp
  refine ⟨some ⟨g, 0, none⟩, ts.length, rfl, Nat.le_refl _, by simp only [maxLen]; omega, fun _ => ⟨_, rfl, hg, fun j t ht => ⟨_, fun i u hu => ?_, rfl, ha t (List.mem_of_getElem? ht)⟩⟩⟩
  match i, hu with
  | 0, hu => simp at hu; subst hu; rw [e]; exact hcell (j * 2) _ (T2_get0 ht)
  | 1, hu => simp at hu; subst hu; rw [e]; exact hcell (j * 2 + 1) _ (T2_get1 ht)
  | i + 2, hu => simp at hu
theorem lit_lt {w : World} {g n N K : Nat} {cs : Array Value} {ts : List Typ} (h : Blk w g 27 cs) (hlo : N ≤ g) (hc : cs.toList = T2 ts) (ha : A64 ts) (hn : ts.length = n) (hm : n ≤ 1000) : tysL.R (fun b => b < K ∨ N ≤ b ∧ b < w.heap.size) w [.slice (some ⟨g, 0, none⟩) n n] ts := lit_sl h (.inr ⟨hlo, h.lt⟩) hc ha hn hm
theorem set2_0 {V : World} {R : Nat} {u v x : Value} (h : V.cell? ⟨R, 0, none⟩ = some x) : ((V.setCell ⟨R, 0, none⟩ u).setCell ⟨R, 1, none⟩ v).cell? ⟨R, 0, none⟩ = some u := by simp [go_sem, h]
theorem set2_1 {V : World} {R : Nat} {u v x : Value} (h : V.cell? ⟨R, 1, none⟩ = some x) : ((V.setCell ⟨R, 0, none⟩ u).setCell ⟨R, 1, none⟩ v).cell? ⟨R, 1, none⟩ = some v := by simp [go_sem, h]
theorem res_chg {fn : Func} {s : Nat} (h : fn.results = #[.cell s 79]) (tmps : Array Value) (V : World) {R : Nat} {x y : Value} (hp : tmps.getD s undef = .pointer (some ⟨R, 0, none⟩)) (h0 : V.cell? ⟨R, 0, none⟩ = some x) (h1 : V.cell? ⟨R, 1, none⟩ = some y) : (results fn tmps).run Try.prog V = .ok (.agg #[x, y]) V := by
  have hp' : tmps[s]?.getD undef = .pointer (some ⟨R, 0, none⟩) := by simpa using hp
  simp [results, h, hp', go_sem, h0, h1]
theorem chg_thru {K N R N0 : Nat} {w4 : World} {x u v : Value} {ts : List Typ} (h : tysL.R (fun b => b < K ∨ N ≤ b ∧ b < w4.heap.size) w4 [x] ts) (h1 : N0 ≤ N) (hR1 : K ≤ R) (hR2 : R < N) : tysL.R (fun b => b < K ∨ N0 ≤ b ∧ b < ((w4.setCell ⟨R, 0, none⟩ u).setCell ⟨R, 1, none⟩ v).heap.size) ((w4.setCell ⟨R, 0, none⟩ u).setCell ⟨R, 1, none⟩ v) [x] ts := by
  have hsz : w4.heap.size ≤ ((w4.setCell ⟨R, 0, none⟩ u).setCell ⟨R, 1, none⟩ v).heap.size := (below_set2 (Below.refl 0 w4) (Nat.zero_le _)).size
  refine tysL.wide (tysL.keep h fun b hb => ?_) fun b hb => ?_
  · have hne : b ≠ R := by rcases hb with hb | hb <;> omega
    exact (Below.heap_setCell _ ⟨R, 1, none⟩ v b hne).trans (Below.heap_setCell _ ⟨R, 0, none⟩ u b hne)
  · rcases hb with hb | hb
    · exact .inl hb
    · exact .inr ⟨by omega, by omega⟩
theorem i64_small {k : Int} (h : 0 ≤ k) (h' : k ≤ 1000) : I64 k := ⟨by omega, by omega⟩
theorem a64_num {k : Int} {ts : List Typ} (h : 0 ≤ k ∧ k ≤ 1000) (ha : A64 ts) : A64 ((k, 0) :: ts) := fun t ht => by
  rcases List.mem_cons.1 ht with rfl | h1
  · exact ⟨i64_small h.1 h.2, i64_small (by omega) (by omega)⟩
  · exact ha t h1
theorem a64_cons {t : Typ} {ts : List Typ} (h : I64 t.1 ∧ I64 t.2) (ha : A64 ts) : A64 (t :: ts) := fun u hu => by
  rcases List.mem_cons.1 hu with rfl | h1
  · exact h
  · exact ha u h1
end Go.Proofs.Ytikhhcmfjncabaa
