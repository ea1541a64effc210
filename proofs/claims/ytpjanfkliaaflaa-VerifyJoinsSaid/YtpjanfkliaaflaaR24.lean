/-
  Ffl Vgo
-/
import Derived.Test.YtpjanfkliaaflaaR10
import Derived.Test.YtpjanfkliaaflaaR12
import Derived.Test.YtpjanfkliaaflaaR13
import Derived.Test.YtpjanfkliaaflaaR15
import Derived.Test.YtpjanfkliaaflaaR23
import Derived.OwnWalk
set_option linter.unusedSimpArgs false
set_option linter.unusedVariables false
namespace Go.Proofs.Ytpjanfkliaaflaa
open Go.RowKit

theorem chgs_open {K : Nat} {ins outs : List Typ} {w w' : World} {e : Ending} (h : Chgs K ins outs w e w') (hK : K ≤ w.heap.size) : Below w.heap.size w w' ∧ ∃ A c B d, e = .returned (.agg #[.slice A ins.length c, .slice B outs.length d]) ∧ Sq typL (· < w'.heap.size) w' A ins ∧ Sq typL (· < w'.heap.size) w' B outs ∧ outs.length ≤ d ∧ d ≤ maxLen := by
  obtain ⟨hb, A, n, c, B, m, d, rfl, ⟨A2, c2, e2, -, -, s2⟩, ⟨B2, d2, e3, h3, h4, s3⟩⟩ := h
  simp only [List.cons.injEq, Value.slice.injEq, and_true] at e2 e3
  obtain ⟨rfl, rfl, rfl⟩ := e2
  obtain ⟨rfl, rfl, rfl⟩ := e3
  have hz := hb.size
  exact ⟨hb, _, _, _, _, rfl, s2.wide fun b hb => by rcases hb with hb | hb <;> omega, s3.wide fun b hb => by rcases hb with hb | hb <;> omega, h3, h4⟩
theorem moved_none {r : Option (List Typ)} {w w' : World} {e : Ending} (hr : r = none) (h : Moved r w e w') : e = .returned (.tuple #[.slice none 0 0, .bool false]) ∧ Below w.heap.size w w' := by
  obtain ⟨hb, ⟨-, he⟩ | ⟨t, v, ht, -⟩⟩ := h
  · exact ⟨he, hb⟩
  · rw [hr] at ht; cases ht
theorem moved_some {r : Option (List Typ)} {t : List Typ} {w w' : World} {e : Ending} (hr : r = some t) (h : Moved r w e w') : ∃ v, e = .returned (.tuple #[v, .bool true]) ∧ w'.ownsRow w.heap.size 23 2 v t.length (T2 t) ∧ Below w.heap.size w w' := by
  obtain ⟨hb, ⟨hn, -⟩ | ⟨t', v, ht, he, ho⟩⟩ := h
  · rw [hr] at hn; cases hn
  · rw [hr] at ht
    injection ht with ht
    subst ht
    exact ⟨v, he, ho, hb⟩
theorem movB_64 {s i o t : List Typ} (h : movB s i o = some t) (hs : A64 s) (ho : A64 o) : A64 t := by
  unfold movB at h
  split at h
  · injection h with h
    subst h
    exact (hs.take _).app ho
  · cases h
set_option maxRecDepth 100000 in
set_option maxHeartbeats 2000000 in
theorem flow_at (cs : List Value) (x : Mod) (j p : Nat) (D : Option Addr) (k g : Nat) (ts : List Typ) (w : World) (h : modL.R (· < w.heap.size) w cs x) (fn : Fn) (o ia ib : Int) (hc : checkN x = 0) (hfn : x.funcs[j]? = some fn) (hin : fn.code[p]? = some (o, ia, ib)) (hk : ts.length = k) (sk : Sq typL (· < w.heap.size) w D ts) (bk : k ≤ 1000) (bg : k ≤ g) (bg2 : g ≤ 9223372036854775807) (hnil : D = none → g = 0) :
    Calls Try.prog 50 #[vAgg cs, .int .i64 (j : Int), .int .i64 (p : Int), .slice D k g] w (Flows (flowB x (j : Int) (p : Int) ts) w) := by
  obtain ⟨q1, q2, q3, q4⟩ := sane_fn hc (List.mem_of_getElem? hfn)
  obtain ⟨hgood, hnam⟩ := q4 _ (List.mem_of_getElem? hin)
  have hpl := (List.getElem?_eq_some_iff.1 hin).1
  obtain ⟨o1, x1, y1, eo, ex, ey, -, hx1, hy1, -, -, -⟩ := goodI_parts (op := o) (a := ia) (b := ib) hgood
  have h0a : 0 ≤ ia := by omega
  have HV : Hid (flowB x (j : Int) (p : Int) ts = (match movB ts (chgB x fn (o, ia, ib) ts).1 (chgB x fn (o, ia, ib) ts).2 with | none => (4, [], []) | some t => if ((fn.code.length : Nat) : Int) ∈ follB (o, ia, ib) (p : Int) then (1, [], []) else (0, t, follB (o, ia, ib) (p : Int)))) := by
    show flowB _ _ _ _ = _
    rw [flowB_at hc hfn hin, ins_chg h0a hnam, next_foll hnam hpl]
    cases movB ts (chgB x fn (o, ia, ib) ts).1 (chgB x fn (o, ia, ib) ts).2 with
    | none => rfl
    | some t => by_cases hm : ((fn.code.length : Nat) : Int) ∈ follB (o, ia, ib) (p : Int) <;> simp [hm]
  obtain ⟨hsh1, hsh2⟩ := chg_len (f := fn) (i := (o, ia, ib)) (s := ts) hc
  have HFit := Lib.hid (fitB_iff.1 (checkN_fit hc))
  have TE : Hid (∀ w1, Below w.heap.size w w1 → Calls Try.prog 12 #[vAgg cs] w1 (Errs (checkN x) w1)) := fun w1 hb => check_any cs x w1 (mod_at h hb)
  obtain ⟨_, _, _, _, _, rfl, ⟨A0, d0, e0, l0, m0, s0⟩, ⟨A1, d1, e1, l1, m1, s1⟩, ⟨A2, d2, e2, l2, m2, s2⟩, ⟨A3, d3, e3, -⟩, ⟨A4, d4, e4, -⟩⟩ := h
  simp only [List.cons.injEq, and_true] at e0 e1 e2 e3 e4
  subst e0 e1 e2 e3 e4
  obtain ⟨n0, h0⟩ : ∃ n, x.recs.length = n := ⟨_, rfl⟩
  obtain ⟨n1, h1⟩ : ∃ n, x.funcs.length = n := ⟨_, rfl⟩
  obtain ⟨n2, h2⟩ : ∃ n, x.imps.length = n := ⟨_, rfl⟩
  rw [h0, h1, h2] at TE ⊢
  generalize x.ints.length = n3 at *
  generalize x.texts.length = n4 at *
  have TE2 : Hid (∀ w1, Below w.heap.size w w1 → Calls Try.prog 12 #[.agg #[.slice A0 n0 d0, .slice A1 n1 d1, .slice A2 n2 d2, .slice A3 n3 d3, .slice A4 n4 d4]] w1 (Errs (checkN x) w1)) := TE.out
  clear TE
  show Calls Try.prog 50 #[.agg #[.slice A0 n0 d0, .slice A1 n1 d1, .slice A2 n2 d2, .slice A3 n3 d3, .slice A4 n4 d4], .int .i64 (j : Int), .int .i64 (p : Int), .slice D k g] w (Flows (flowB x (j : Int) (p : Int) ts) w)
  have HB0 : Hid (∀ o : Obj, Below w.heap.size w (w.alloc o)) := fun o => below_new w o
  have HC0 : Hid (C5 w.heap.size (.slice A0 n0 d0) (.slice A1 n1 d1) (.slice A2 n2 d2) (.slice A3 n3 d3) (.slice A4 n4 d4) (w.alloc (.cells #[.slice A0 n0 d0, .slice A1 n1 d1, .slice A2 n2 d2, .slice A3 n3 d3, .slice A4 n4 d4] 37))) := by show C5 _ _ _ _ _ _ _; simp [C5, go_sem]
  obtain ⟨a, ccs, ea, hab, hcl, hR⟩ := s1.at hfn
  subst ea
  obtain ⟨p0, p1, p2, rfl, hr1, hr2, ⟨P0, c0, e4, f0, f1, t0⟩, ⟨P1, c1, e5, f2, f3, t1⟩, ⟨P2, c2, e6, f4, f5, t2⟩⟩ := hR
  simp only [List.cons.injEq, and_true] at e4 e5 e6
  subst e4 e5 e6
  have HCL : Hid (∀ v, Below w.heap.size w v → v.cell? (a.add (j * 5)) = some (.slice P0 fn.args.length c0) ∧ v.cell? ⟨(a.add (j * 5)).block, (a.add (j * 5)).off + 1, none⟩ = some (.int .i64 fn.ret.1) ∧ v.cell? ⟨(a.add (j * 5)).block, (a.add (j * 5)).off + 2, none⟩ = some (.int .i64 fn.ret.2) ∧ v.cell? ⟨(a.add (j * 5)).block, (a.add (j * 5)).off + 3, none⟩ = some (.slice P1 fn.locs.length c1) ∧ v.cell? ⟨(a.add (j * 5)).block, (a.add (j * 5)).off + 4, none⟩ = some (.slice P2 fn.code.length c2)) := fun v hb => by
    have k0 := (hb.cell (p := a.add (j * 5)) (by rw [addBlock]; exact hab)).trans (hcl 0 _ rfl)
    have k1 := (hb.cell (p := a.add (j * 5 + 1)) (by rw [addBlock]; exact hab)).trans (hcl 1 _ rfl)
    have k2 := (hb.cell (p := a.add (j * 5 + 2)) (by rw [addBlock]; exact hab)).trans (hcl 2 _ rfl)
    have k3 := (hb.cell (p := a.add (j * 5 + 3)) (by rw [addBlock]; exact hab)).trans (hcl 3 _ rfl)
    have k4 := (hb.cell (p := a.add (j * 5 + 4)) (by rw [addBlock]; exact hab)).trans (hcl 4 _ rfl)
    rw [next_cell a (j * 5) 1 (by omega)] at k1
    rw [next_cell a (j * 5) 2 (by omega)] at k2
    rw [next_cell a (j * 5) 3 (by omega)] at k3
    rw [next_cell a (j * 5) 4 (by omega)] at k4
    exact ⟨k0, k1, k2, k3, k4⟩
  have hjn : (j : Int) < (n1 : Int) := by have := (List.getElem?_eq_some_iff.1 hfn).1; omega
  have hn8 : n1 ≤ 8 := by have := (fitB_iff.1 (checkN_fit hc)).f8; omega
  obtain ⟨b, ics, eb, hbb, hil, hiR⟩ := t2.at hin
  subst eb
  obtain ⟨rfl, -, -, -⟩ := hiR
  have HCI : Hid (∀ v, Below w.heap.size w v → v.cell? (b.add (p * 3)) = some (.int .i64 o) ∧ v.cell? ⟨(b.add (p * 3)).block, (b.add (p * 3)).off + 1, none⟩ = some (.int .i64 ia) ∧ v.cell? ⟨(b.add (p * 3)).block, (b.add (p * 3)).off + 2, none⟩ = some (.int .i64 ib)) := fun v hb => by
    have k0 := (hb.cell (p := b.add (p * 3)) (by rw [addBlock]; exact hbb)).trans (hil 0 _ rfl)
    have k1 := (hb.cell (p := b.add (p * 3 + 1)) (by rw [addBlock]; exact hbb)).trans (hil 1 _ rfl)
    have k2 := (hb.cell (p := b.add (p * 3 + 2)) (by rw [addBlock]; exact hbb)).trans (hil 2 _ rfl)
    rw [next_cell b (p * 3) 1 (by omega)] at k1
    rw [next_cell b (p * 3) 2 (by omega)] at k2
    exact ⟨k0, k1, k2⟩
  obtain ⟨ua, g0⟩ : ∃ n, fn.args.length = n := ⟨_, rfl⟩
  obtain ⟨ul, g1⟩ : ∃ n, fn.locs.length = n := ⟨_, rfl⟩
  obtain ⟨uc, g2⟩ : ∃ n, fn.code.length = n := ⟨_, rfl⟩
  rw [g0, g1, g2] at HCL
  rw [g0] at q1
  rw [g1] at q2
  rw [g2] at q3 hpl HV
  have hpn : (p : Int) < (uc : Int) := by omega
  rw [hc] at TE2
  have HF := Lib.hid (fun v => hasF_any (some a) n1 d1 (j : Int) v)
  rw [show hasB n1 (j : Int) = true by simp [hasB]; omega] at HF
  have HI := Lib.hid (fun v => hasI_any (some b) uc c2 (p : Int) v)
  rw [show hasB uc (p : Int) = true by simp [hasB]; omega] at HI
  have SKv : Hid (∀ v, Below w.heap.size w v → Sq typL (· < v.heap.size) v D ts) := fun v hb => (sk.below hb (Nat.le_refl _)).wide fun i hi => Nat.lt_of_lt_of_le hi hb.size
  have HAts := Lib.hid sk.a64
  have CHc : Hid (∀ v, Below w.heap.size w v → Calls Try.prog 77 #[.agg #[.slice A0 n0 d0, .slice (some a) n1 d1, .slice A2 n2 d2, .slice A3 n3 d3, .slice A4 n4 d4], .agg #[.slice P0 ua c0, .int .i64 fn.ret.1, .int .i64 fn.ret.2, .slice P1 ul c1, .slice (some b) uc c2], .agg #[.int .i64 o, .int .i64 ia, .int .i64 ib], .slice D k g] v (Chgs v.heap.size (chgB x fn (o, ia, ib) ts).1 (chgB x fn (o, ia, ib) ts).2 v)) := fun v hb =>
    change_any A0 (some a) A2 A3 A4 P0 P1 (some b) D n0 n1 n2 n3 n4 d0 d1 d2 d3 d4 ua ul uc c0 c1 c2 k g x fn ts o ia ib v
      ⟨h0, h1, h2, (s0.below hb (Nat.le_refl _)).wide fun i hi => Nat.lt_of_lt_of_le hi hb.size, (s1.below hb (Nat.le_refl _)).wide fun i hi => Nat.lt_of_lt_of_le hi hb.size, (s2.below hb (Nat.le_refl _)).wide fun i hi => Nat.lt_of_lt_of_le hi hb.size, g0, g1, (t0.below hb (Nat.le_refl _)).wide fun i hi => Nat.lt_of_lt_of_le hi hb.size, (t1.below hb (Nat.le_refl _)).wide fun i hi => Nat.lt_of_lt_of_le hi hb.size, ⟨hr1, hr2⟩, hk, SKv.out v hb, by have := HFit.out.r8; omega, by omega, by have := HFit.out.i8; omega, by omega, by omega, bk⟩ hgood hnam
  have FOc := Lib.hid (fun v => follow_any o ia ib (p : Int) v (by omega) (by omega))
  have HK := Lib.hid hk
  have HFL : Hid ((follB (o, ia, ib) (p : Int)).length ≤ 2) := by show _ ≤ _; unfold follB; repeat (first | (split; · simp) | simp)
  clear hc hnam hgood hcl hil sk s0 s1 s2 h0 h1 h2 l0 l1 l2 m0 m1 m2 t0 t1 t2 f0 f1 f2 f3 f4 f5 g0 g1 g2 hfn hin hk q1 q2 q3 q4 eo ex ey hx1 hy1 h0a
  generalize chgB x fn (o, ia, ib) ts = ch at *
  generalize follB (o, ia, ib) (p : Int) = fo at *
  generalize flowB x (j : Int) (p : Int) ts = fb at *
  go_enter Try.func50, Try.ntmps50
  go_upto_region 4 with (first
    | (go_at_call 12
       refine (TE2.out _ (HB0.out _)).mono ?_
       rintro e w1 ⟨rfl, hb1⟩
       have HB1 := Lib.hid ((HB0.out _).trans (hb1.mono (by simp)))
       obtain ⟨x0, x1, x2, x3, x4⟩ := HC0.out.below hb1 (by simp)
       have hs1 : w.heap.size < w1.heap.size := (by have := hb1.size; simp at this; omega)
       obtain ⟨y0, y1, y2, y3, y4⟩ := HCL.out _ HB1.out
       clear hb1)
    | (go_at_call 75
       refine (HF.out _).mono ?_
       rintro e w2 ⟨rfl, hw2⟩
       have hw3 := hw2.symm
       clear hw2
       subst hw3)
    | (go_at_call 76
       refine (HI.out _).mono ?_
       rintro e w2 ⟨rfl, hw2⟩
       have hw3 := hw2.symm
       clear hw2
       subst hw3))
  refine wp_world fun W hW => ?_
  have HBW : Hid (Below w.heap.size w W) := by show Below _ _ _; rw [hW]; exact HB1.out.alloc HB1.out.size _
  have HFf : Hid (Blk W w1.heap.size 31 #[.slice P0 ua c0, .int .i64 fn.ret.1, .int .i64 fn.ret.2, .slice P1 ul c1, .slice (some b) uc c2]) := by show Blk _ _ _ _; rw [hW]; exact blk_at rfl
  have HMm : Hid (C5 w.heap.size (.slice A0 n0 d0) (.slice (some a) n1 d1) (.slice A2 n2 d2) (.slice A3 n3 d3) (.slice A4 n4 d4) W) := by show C5 _ _ _ _ _ _ _; rw [hW]; exact C5.below ⟨x0, x1, x2, x3, x4⟩ (below_new w1 _) hs1
  have hsW : w1.heap.size + 1 ≤ W.heap.size := by rw [hW]; simp
  clear hW x0 x1 x2 x3 x4 y0 y1 y2 y3 y4
  have HC : Hid (∀ v, Below W.heap.size W v → v.cell? ⟨w.heap.size, 0, none⟩ = some (.slice A0 n0 d0) ∧ v.cell? ⟨w.heap.size, 1, none⟩ = some (.slice (some a) n1 d1) ∧ v.cell? ⟨w.heap.size, 2, none⟩ = some (.slice A2 n2 d2) ∧ v.cell? ⟨w.heap.size, 3, none⟩ = some (.slice A3 n3 d3) ∧ v.cell? ⟨w.heap.size, 4, none⟩ = some (.slice A4 n4 d4) ∧ v.cell? ⟨w1.heap.size, 0, none⟩ = some (.slice P0 ua c0) ∧ v.cell? ⟨w1.heap.size, 1, none⟩ = some (.int .i64 fn.ret.1) ∧ v.cell? ⟨w1.heap.size, 2, none⟩ = some (.int .i64 fn.ret.2) ∧ v.cell? ⟨w1.heap.size, 3, none⟩ = some (.slice P1 ul c1) ∧ v.cell? ⟨w1.heap.size, 4, none⟩ = some (.slice (some b) uc c2) ∧ v.cell? (b.add (p * 3)) = some (.int .i64 o) ∧ v.cell? ⟨(b.add (p * 3)).block, (b.add (p * 3)).off + 1, none⟩ = some (.int .i64 ia) ∧ v.cell? ⟨(b.add (p * 3)).block, (b.add (p * 3)).off + 2, none⟩ = some (.int .i64 ib)) := fun v hb => by
    have hm := HMm.out.below hb (by omega)
    have hf := blk_below HFf.out hb (by omega)
    have hi := HCI.out v (HBW.out.trans (hb.mono HBW.out.size))
    exact ⟨hm.1, hm.2.1, hm.2.2.1, hm.2.2.2.1, hm.2.2.2.2, hf.cell 0, hf.cell 1, hf.cell 2, hf.cell 3, hf.cell 4, hi.1, hi.2.1, hi.2.2⟩
  have SW := Lib.hid (HC.out W (Below.refl _ _))
  have HSW := Lib.hid HBW.out.size
  have ONc : Hid (∀ v A9 B9 c9 d9, Below w.heap.size w v → Sq typL (· < v.heap.size) v A9 ch.1 → Sq typL (· < v.heap.size) v B9 ch.2 → ch.2.length ≤ d9 → d9 ≤ maxLen → Calls Try.prog 78 #[.agg #[.slice A9 ch.1.length c9, .slice B9 ch.2.length d9], .slice D k g] v (Moved (movB ts ch.1 ch.2) v)) := fun v A9 B9 c9 d9 hb s9 s8 hd hm =>
    on_any A9 B9 D ch.1.length ch.2.length k c9 d9 g ch.1 ch.2 ts v rfl rfl HK.out s9 s8 (SKv.out _ hb) (by omega) (by omega) bk bg bg2 hd (by unfold maxLen at hm; omega) hnil
  cases hmv : movB ts ch.1 ch.2
  case none =>
    have HMV := Lib.hid hmv
    rw [hmv] at HV
    clear hmv
    go_region_held3 (fun v => v.cell? ⟨w.heap.size, 0, none⟩ = some (.slice A0 n0 d0) ∧ v.cell? ⟨w.heap.size, 1, none⟩ = some (.slice (some a) n1 d1) ∧ v.cell? ⟨w.heap.size, 2, none⟩ = some (.slice A2 n2 d2) ∧ v.cell? ⟨w.heap.size, 3, none⟩ = some (.slice A3 n3 d3) ∧ v.cell? ⟨w.heap.size, 4, none⟩ = some (.slice A4 n4 d4) ∧ v.cell? ⟨w1.heap.size, 0, none⟩ = some (.slice P0 ua c0) ∧ v.cell? ⟨w1.heap.size, 1, none⟩ = some (.int .i64 fn.ret.1) ∧ v.cell? ⟨w1.heap.size, 2, none⟩ = some (.int .i64 fn.ret.2) ∧ v.cell? ⟨w1.heap.size, 3, none⟩ = some (.slice P1 ul c1) ∧ v.cell? ⟨w1.heap.size, 4, none⟩ = some (.slice (some b) uc c2) ∧ v.cell? (b.add (p * 3)) = some (.int .i64 o) ∧ v.cell? ⟨(b.add (p * 3)).block, (b.add (p * 3)).off + 1, none⟩ = some (.int .i64 ia) ∧ v.cell? ⟨(b.add (p * 3)).block, (b.add (p * 3)).off + 2, none⟩ = some (.int .i64 ib))
      (first | exact SS5.out | exact SS4.out | exact SW.out | exact HC.out _ (Below.refl _ W).drew)
      (first
      | (go_at_call 77
         refine (CHc.out _ HBW.out.drew).mono ?_
         intro e w4 h4
         obtain ⟨hb4, A9, c9, B9, d9, rfl, s9, s8, hd9, hm9⟩ := chgs_open h4 (Nat.le_refl _)
         have HB4 : Hid (Below W.heap.size W w4) := (by show Below _ _ _; exact (Below.refl _ W).drew.trans (hb4.mono (by simp)))
         have S9 := Lib.hid s9
         have S8 := Lib.hid s8
         have HD9 := Lib.hid (And.intro hd9 hm9)
         have SS4 := Lib.hid (HC.out _ HB4.out)
         clear h4 hb4 s9 s8 hd9 hm9)
      | (go_at_call 78
         refine (ONc.out _ A9 B9 c9 d9 (HBW.out.trans (HB4.out.mono HBW.out.size)) S9.out S8.out HD9.out.1 HD9.out.2).mono ?_
         intro e w5 h5
         obtain ⟨rfl, hb5⟩ := moved_none HMV.out h5
         have HB5 := Lib.hid (HB4.out.trans (hb5.mono HB4.out.size))
         have SS5 := Lib.hid (HC.out _ HB5.out)
         clear h5 hb5))
    go_wp2_with fail
    go_ret3
    rw [HV.out]
    exact flows_none (HBW.out.trans (HB5.out.mono HBW.out.size))
  case some t9 =>
    have HMV := Lib.hid hmv
    rw [hmv] at HV
    clear hmv
    go_region_held3 (fun v => v.cell? ⟨w.heap.size, 0, none⟩ = some (.slice A0 n0 d0) ∧ v.cell? ⟨w.heap.size, 1, none⟩ = some (.slice (some a) n1 d1) ∧ v.cell? ⟨w.heap.size, 2, none⟩ = some (.slice A2 n2 d2) ∧ v.cell? ⟨w.heap.size, 3, none⟩ = some (.slice A3 n3 d3) ∧ v.cell? ⟨w.heap.size, 4, none⟩ = some (.slice A4 n4 d4) ∧ v.cell? ⟨w1.heap.size, 0, none⟩ = some (.slice P0 ua c0) ∧ v.cell? ⟨w1.heap.size, 1, none⟩ = some (.int .i64 fn.ret.1) ∧ v.cell? ⟨w1.heap.size, 2, none⟩ = some (.int .i64 fn.ret.2) ∧ v.cell? ⟨w1.heap.size, 3, none⟩ = some (.slice P1 ul c1) ∧ v.cell? ⟨w1.heap.size, 4, none⟩ = some (.slice (some b) uc c2) ∧ v.cell? (b.add (p * 3)) = some (.int .i64 o) ∧ v.cell? ⟨(b.add (p * 3)).block, (b.add (p * 3)).off + 1, none⟩ = some (.int .i64 ia) ∧ v.cell? ⟨(b.add (p * 3)).block, (b.add (p * 3)).off + 2, none⟩ = some (.int .i64 ib))
      (first | exact SS5.out | exact SS4.out | exact SW.out | exact HC.out _ (Below.refl _ W).drew)
      (first
      | (go_at_call 77
         refine (CHc.out _ HBW.out.drew).mono ?_
         intro e w4 h4
         obtain ⟨hb4, A9, c9, B9, d9, rfl, s9, s8, hd9, hm9⟩ := chgs_open h4 (Nat.le_refl _)
         have HB4 : Hid (Below W.heap.size W w4) := (by show Below _ _ _; exact (Below.refl _ W).drew.trans (hb4.mono (by simp)))
         have S9 := Lib.hid s9
         have S8 := Lib.hid s8
         have HD9 := Lib.hid (And.intro hd9 hm9)
         have SS4 := Lib.hid (HC.out _ HB4.out)
         clear h4 hb4 s9 s8 hd9 hm9)
      | (go_at_call 78
         refine (ONc.out _ A9 B9 c9 d9 (HBW.out.trans (HB4.out.mono HBW.out.size)) S9.out S8.out HD9.out.1 HD9.out.2).mono ?_
         intro e w5 h5
         obtain ⟨v5, rfl, hown5, hb5⟩ := moved_some HMV.out h5
         have HB5 := Lib.hid (HB4.out.trans (hb5.mono HB4.out.size))
         have HA5 := Lib.hid (movB_64 HMV.out HAts.out S8.out.a64)
         have HO5 := Lib.hid (row_wide hown5 (Nat.le_trans HBW.out.size HB4.out.size))
         have SS5 := Lib.hid (HC.out _ HB5.out)
         clear h5 hown5 hb5))
    obtain ⟨-, -, -, -, -, -, -, -, -, z4, y0, y1, y2⟩ := SS5.out
    have HW5 := Lib.hid (HBW.out.trans (HB5.out.mono HBW.out.size))
    have hs5 := HB5.out.size
    by_cases hmem : (uc : Int) ∈ fo
    case' pos => rw [if_pos hmem] at HV
    case' neg => rw [if_neg hmem] at HV
    all_goals
      have HME := Lib.hid hmem
      clear hmem
      go_wp2_with (first
        | (go_at_call 79
           refine (FOc.out _).mono ?_
           rintro e w6 ⟨hb6, v6, rfl, hown6⟩
           have HB6 := Lib.hid hb6
           have HO6 := Lib.hid hown6
           obtain ⟨A6, c6, rfl, hl6, hlc6, hcl6⟩ := own_ints hown6
           have HN6 := Lib.hid (contains_ints A6 fo.length c6 fo (uc : Int) w6 rfl (by have := HFL.out; omega) fun jj xx hx => by obtain ⟨aa, ea, -, -, hcc⟩ := hcl6 jj xx hx; exact ⟨aa, ea, hcc⟩)
           have z6 := (HB6.out.cell (p := ⟨w1.heap.size, 4, none⟩) (by show w1.heap.size < _; omega)).trans z4
           clear hb6 hown6 hl6 hlc6 hcl6)
        | (go_at_call 80
           refine (HN6.out).mono ?_
           rintro e w7 ⟨he7, rfl⟩
           first | (rw [decide_eq_true HME.out] at he7) | (rw [decide_eq_false HME.out] at he7)
           subst he7))
      go_ret3
      rw [HV.out]
      first
      | exact flows_none (HW5.out.trans (HB6.out.mono HW5.out.size))
      | (refine ⟨HW5.out.trans (HB6.out.mono HW5.out.size), _, _, rfl, raw_below HO5.out HB6.out (Nat.le_refl _), row_wide HO6.out HW5.out.size, fun bb h1 h2 => ?_, HA5.out⟩
         have k1 := (HO5.out.lt bb h1).2
         have k2 := (HO6.out.lt bb h2).1
         omega)
theorem flow_any (cs : List Value) (x : Mod) (fi pc : Int) (D : Option Addr) (k g : Nat) (ts : List Typ) (w : World) (h : modL.R (· < w.heap.size) w cs x) (hfi : I64 fi) (hpc : I64 pc) (hk : ts.length = k) (sk : Sq typL (· < w.heap.size) w D ts) (bk : k ≤ 1000) (bg : k ≤ g) (bg2 : g ≤ 9223372036854775807) (hnil : D = none → g = 0) :
    Calls Try.prog 50 #[vAgg cs, .int .i64 fi, .int .i64 pc, .slice D k g] w (Flows (flowB x fi pc ts) w) := by
  by_cases hc : checkN x = 0
  rotate_left
  · exact flow_bad cs x fi pc D k g ts w h hc
  cases hf : hasB x.funcs.length fi
  · exact flow_nofn cs x fi pc D k g ts w h hc hf
  simp [hasB] at hf
  obtain ⟨j, rfl⟩ : ∃ j : Nat, fi = (j : Int) := ⟨fi.toNat, by omega⟩
  obtain ⟨fn, hfn⟩ : ∃ fn, x.funcs[j]? = some fn := ⟨x.funcs[j]'(by omega), List.getElem?_eq_getElem _⟩
  cases hp : hasB fn.code.length pc
  · exact flow_nopc cs x j pc D k g ts w h fn hc hfn hp
  simp [hasB] at hp
  obtain ⟨p, rfl⟩ : ∃ p : Nat, pc = (p : Int) := ⟨pc.toNat, by omega⟩
  obtain ⟨⟨o, ia, ib⟩, hi⟩ : ∃ i, fn.code[p]? = some i := ⟨fn.code[p]'(by omega), List.getElem?_eq_getElem _⟩
  exact flow_at cs x j p D k g ts w h fn o ia ib hc hfn hi hk sk bk bg bg2 hnil
end Go.Proofs.Ytpjanfkliaaflaa
namespace Go.Proofs.Ytpjanfkliaaflaa
open Go.RowKit

theorem flows_open {er : Int} {t : List Typ} {l : List Int} {w w' : World} {e : Ending} (h : Flows (er, t, l) w e w') : Below w.heap.size w w' ∧ ∃ v u, e = .returned (.tuple #[v, u, .int .i64 er]) ∧ w'.ownsRow w.heap.size 23 2 v t.length (T2 t) ∧ w'.ownsRow w.heap.size 3 1 u l.length (Is l) ∧ A64 t := by
  obtain ⟨h1, v, u, h2, h3, h4, -, h5⟩ := h
  exact ⟨h1, v, u, h2, h3, h4, h5⟩
def WentOn (n0 g p q : Nat) (Z : Nat → Option Nat) (x : Mod) (fn : Fn) (l : List Shape) (ws : List Bool) (w : World) (e : Ending) (w' : World) : Prop :=
  Turn Z w w' ∧ ((e = .returned (.bool false) ∧ Never x fn) ∨ (e = .returned (.bool true) ∧ ∃ Z' r' l' ws', Wk n0 g p q Z' w' l' ws' r' ∧ (∀ b, b < w.heap.size → Z' b = Z b) ∧ RunF x fn l' ∧ Inv x fn l' ws' ∧ todo l' ws' < todo l ws))
def Led (n0 g p q : Nat) (Z : Nat → Option Nat) (x : Mod) (fn : Fn) (l : List Shape) (ws : List Bool) (t : List Typ) (ks : List Int) (w5 : World) (m : Nat) (wr : World) : Prop :=
  Turn Z w5 wr ∧ ∃ Zr rr lr wsr, Wk n0 g p q Zr wr lr wsr rr ∧ (∀ b, b < w5.heap.size → Zr b = Z b) ∧ Leads x fn l ws t (ks.take m) lr wsr

set_option maxRecDepth 100000 in
set_option maxHeartbeats 4000000 in
theorem goon_any (n0 g p q : Nat) (Z : Nat → Option Nat) (w : World) (l : List Shape) (ws : List Bool) (r : List (Bool × Value)) (cs : List Value) (x : Mod) (j pc : Nat) (fn : Fn) (s : List Typ) (h : Wk n0 g p q Z w l ws r) (hn0 : n0 ≤ w.heap.size) (hm : modL.R (· < n0) w cs x) (hc : checkN x = 0) (hfn : x.funcs[j]? = some fn) (hR : RunF x fn l) (hx : l[pc]? = some (true, s)) (hw : ws[pc]? = some true) (hI : Inv x fn l ws) :
    Calls Try.prog 29 #[.pointer (some ⟨g, 0, none⟩), vAgg cs, .int .i64 (j : Nat), .int .i64 (pc : Nat)] w (WentOn n0 g p q Z x fn l ws w) := by
  have hmem := List.mem_of_getElem? hfn
  obtain ⟨-, -, hcode, -⟩ := sane_fn hc hmem
  have hpl := (List.getElem?_eq_some_iff.1 hx).1
  obtain ⟨i, hi⟩ : ∃ i, fn.code[pc]? = some i := ⟨fn.code[pc]'(by rw [← hR.len]; exact hpl), List.getElem?_eq_getElem _⟩
  have hu := hR.run.und (toS_yes hx)
  obtain ⟨hcan, hs8⟩ := hR.run.can pc s (toS_yes hx)
  have hfl : flowB x (j : Int) (pc : Int) s = insB8 x fn i pc s := flowB_at hc hfn hi
  obtain ⟨A, cA, hr, hc0, hc1, hst, hle, hcm, hnil⟩ := h.cells hx
  simp only at hr hc1 hst hle
  have hj8 : j < 9 := by have := (fitB_iff.1 (checkN_fit hc)).f8; have := (List.getElem?_eq_some_iff.1 hfn).1; omega
  have hpc2 : pc < 1000000 := by rw [hR.len] at hpl; omega
  obtain ⟨n, hn⟩ : ∃ n, l.length = n := ⟨_, rfl⟩
  obtain ⟨er, t, ks, hfe⟩ : ∃ er t ks, insB8 x fn i pc s = (er, t, ks) := ⟨_, _, _, rfl⟩
  obtain ⟨nk, hnk⟩ : ∃ nk, ks.length = nk := ⟨_, rfl⟩
  obtain ⟨nt, hnt⟩ : ∃ nt, t.length = nt := ⟨_, rfl⟩
  have hcm2 : cA ≤ 9223372036854775807 := by unfold maxLen at hcm; omega
  have hlow := h.low0
  -- what the model's calls come to
  have FA : Hid (∀ v, Below n0 w v → Sq typL (· < v.heap.size) v A s → Calls Try.prog 50 #[vAgg cs, .int .i64 (j : Int), .int .i64 (pc : Int), .slice A s.length cA] v (Flows (er, t, ks) v)) := fun v hb hs => by
    have hm2 : modL.R (· < v.heap.size) v cs x := modL.wide (modL.keep hm fun b h1 => hb.block b h1) fun b h1 => Nat.lt_of_lt_of_le h1 (Nat.le_trans hn0 hb.size)
    have := flow_any cs x (j : Int) (pc : Int) A s.length cA s v hm2 ⟨by omega, by omega⟩ ⟨by omega, by omega⟩ rfl hs (by omega) hle hcm2 hnil
    rwa [hfl, hfe] at this
  have HSt : Hid (∀ v W, Below W.heap.size W v → Stk n0 W (.slice A s.length cA) s → Sq typL (· < v.heap.size) v A s) := fun v W hb hs => (hs.sq.keep fun b h1 => hb.block b h1.2).wide fun b h1 => Nat.lt_of_lt_of_le h1.2 hb.size
  obtain ⟨A0, A1, A2, A3, A4, n0', n1, n2, n3, n4, d0, d1, d2, d3, d4, rfl⟩ := mod_shape hm
  have HW := Lib.hid h
  have HX := Lib.hid hx
  have HWt := Lib.hid hw
  have HN := Lib.hid hn
  have HR := Lib.hid hR
  have HI := Lib.hid hI
  have HU := Lib.hid hu
  have HIn := Lib.hid hi
  have HFE := Lib.hid hfe
  have HC := Lib.hid hc
  have HM := Lib.hid hmem
  have HCan := Lib.hid hcan
  have HRr := Lib.hid hr
  have HLow := Lib.hid hlow
  have HNK := Lib.hid hnk
  have HNT := Lib.hid hnt
  have hpn : (pc : Int) < (n : Int) := by omega
  have hp0 : (0 : Int) ≤ (pc : Int) := by omega
  have hn64 : n ≤ 64 := by rw [← hn, hR.len]; exact hcode
  have hln : l.length = fn.code.length := hR.len
  have HLN := Lib.hid hln
  obtain ⟨ns, hns⟩ : ∃ ns, s.length = ns := ⟨_, rfl⟩
  rw [hns] at FA HSt HRr
  have HNS := Lib.hid hns
  clear h hx hw hn hR hI hu hi hfe hc hmem hcan hr hfl hc0 hc1 hst hm hlow hfn hcode hpl hnk hnt hln hns
  simp only [vAgg] at FA ⊢
  go_enter Try.func29, Try.ntmps29
  go_upto_region 1 with (fail)
  refine wp_world fun W1 hW1 => ?_
  have HB1 : Hid (Below w.heap.size w W1) := by show Below _ _ _; rw [hW1]; exact below_new w _
  have HBx : Hid (Blk W1 w.heap.size 37 #[.slice A0 n0' d0, .slice A1 n1 d1, .slice A2 n2 d2, .slice A3 n3 d3, .slice A4 n4 d4]) := by show Blk _ _ _ _; rw [hW1]; exact blk_at rfl
  have hW1w := HW.out.below HB1.out
  have hs1 : w.heap.size < W1.heap.size := by rw [hW1]; simp
  clear hW1
  have g1 := hW1w.box.cell 1
  rw [HN.out] at g1
  have g1 : W1.cell? ⟨g, 1, none⟩ = some (.slice (some ⟨q, 0, none⟩) n n) := g1
  have g2 := (hW1w.wai.cellAt pc (by rw [HN.out]; omega)).trans (Bl_get HWt.out)
  have g3 := hW1w.wai.frozenAt pc
  have HW1 := Lib.hid hW1w
  clear hW1w
  go_upto_region 2 with (fail)
  refine wp_world fun W2 hW2 => ?_
  have HW2 : Hid (Wk n0 g p q Z W2 l (ws.set pc false) r) := by show Wk _ _ _ _ _ _ _ _ _; rw [hW2]; exact HW1.out.wait pc false
  have HT2 : Hid (Turn Z w W2) := by show Turn _ _ _; rw [hW2]; exact (Turn.of_below HB1.out).set (by rw [HW.out.zq]; simp) _
  have HB2 : Hid (Blk W2 w.heap.size 37 #[.slice A0 n0' d0, .slice A1 n1 d1, .slice A2 n2 d2, .slice A3 n3 d3, .slice A4 n4 d4]) := by show Blk _ _ _ _; rw [hW2]; exact blk_other HBx.out (by have := (HW.out.low q (by rw [HW.out.zq]; simp)).2; omega)
  have hs2 : w.heap.size < W2.heap.size := by rw [hW2]; simpa [World.setCell] using hs1
  clear hW2 g1 g2 g3
  have HCV : Hid (∀ v, Below W2.heap.size W2 v → v.cell? ⟨w.heap.size, 0, none⟩ = some (.slice A0 n0' d0) ∧ v.cell? ⟨w.heap.size, 1, none⟩ = some (.slice A1 n1 d1) ∧ v.cell? ⟨w.heap.size, 2, none⟩ = some (.slice A2 n2 d2) ∧ v.cell? ⟨w.heap.size, 3, none⟩ = some (.slice A3 n3 d3) ∧ v.cell? ⟨w.heap.size, 4, none⟩ = some (.slice A4 n4 d4) ∧ v.cell? ⟨g, 0, none⟩ = some (.slice (some ⟨p, 0, none⟩) n n) ∧ v.cell? ⟨p, pc * 2 + 1, none⟩ = some (.slice A ns cA)) := fun v hb => by
    have hf := blk_below HB2.out hb hs2
    have hv := HW2.out.below hb
    have k0 := hv.box.cell 0
    rw [HN.out] at k0
    obtain ⟨A', c', e1, -, h2, -⟩ := hv.cells HX.out
    rw [HRr.out] at e1
    simp only [Option.some.injEq, Prod.mk.injEq, true_and, Value.slice.injEq] at e1
    obtain ⟨rfl, -, rfl⟩ := e1
    simp only [HNS.out] at h2
    exact ⟨hf.cell 0, hf.cell 1, hf.cell 2, hf.cell 3, hf.cell 4, k0, h2⟩
  have hstk : Stk n0 W2 (.slice A ns cA) s := by
    obtain ⟨v, h1, h2, -⟩ := HW2.out.stk pc _ HX.out
    rw [HRr.out] at h1
    simp only [Option.some.injEq, Prod.mk.injEq, true_and] at h1
    rw [h1]
    exact h2
  have FA2 : Hid (∀ v, Below W2.heap.size W2 v → Calls Try.prog 50 #[.agg #[.slice A0 n0' d0, .slice A1 n1 d1, .slice A2 n2 d2, .slice A3 n3 d3, .slice A4 n4 d4], .int .i64 (j : Int), .int .i64 (pc : Int), .slice A ns cA] v (Flows (er, t, ks) v)) := fun v hb => FA.out v ((HT2.out.then hb).below hn0 HLow.out) (HSt.out v W2 hb hstk)
  have SW := Lib.hid (HCV.out W2 (Below.refl _ _))
  clear FA HSt hstk
  go_region_held3 (fun v => v.cell? ⟨w.heap.size, 0, none⟩ = some (.slice A0 n0' d0) ∧ v.cell? ⟨w.heap.size, 1, none⟩ = some (.slice A1 n1 d1) ∧ v.cell? ⟨w.heap.size, 2, none⟩ = some (.slice A2 n2 d2) ∧ v.cell? ⟨w.heap.size, 3, none⟩ = some (.slice A3 n3 d3) ∧ v.cell? ⟨w.heap.size, 4, none⟩ = some (.slice A4 n4 d4) ∧ v.cell? ⟨g, 0, none⟩ = some (.slice (some ⟨p, 0, none⟩) n n) ∧ v.cell? ⟨p, pc * 2 + 1, none⟩ = some (.slice A ns cA))
    (first | exact SS5.out | exact SW.out | exact HCV.out _ (Below.refl _ W2).drew)
    (first
    | (go_at_call 50
       refine (FA2.out _ (Below.refl _ W2).drew).mono ?_
       intro e w5 hq
       obtain ⟨hb5, v5, u5, rfl, ho5, hu5, h64⟩ := flows_open hq
       have HB5 : Hid (Below W2.heap.size W2 w5) := (by show Below _ _ _; exact (Below.refl _ W2).drew.trans (hb5.mono (by simp)))
       have SS5 := Lib.hid (HCV.out _ HB5.out)
       obtain ⟨A5, c5, rfl, -, hle5, -, hsq5⟩ := own_sq ho5 h64
       obtain ⟨B5, d5, rfl, -, -, hnu5⟩ := own_ints hu5
       have HSQ5 := Lib.hid hsq5
       have HNU5 := Lib.hid hnu5
       clear hb5 ho5 hu5 h64 hsq5 hnu5 hq))
  have HT5 : Hid (Turn Z w w5) := HT2.out.then HB5.out
  have hs5 : w.heap.size < w5.heap.size := Nat.lt_of_lt_of_le hs2 HB5.out.size
  by_cases he : er = 0
  rotate_left
  · have hne : (er != 0) = true := by simpa using he
    go_wp2_with fail
    go_ret
    exact ⟨HT5.out, .inl ⟨rfl, run_error HU.out HIn.out (by rw [HFE.out]; exact he)⟩⟩
  subst he
  obtain ⟨hct, h8t⟩ := flow_can HC.out HM.out HCan.out HFE.out
  have HTh := Lib.hid (flow_there HC.out HM.out HIn.out HFE.out)
  have HCt := Lib.hid hct
  have HZn : Hid (∀ b, W2.heap.size ≤ b → Z b = none) := fun b hb => by
    cases e : Z b with
    | none => rfl
    | some k => exact absurd (HW.out.low b (by rw [e]; simp)).2 (by omega)
  have hwl : (ws.set pc false).length = l.length := by rw [List.length_set]; exact HW.out.lenw
  have HL0 : Hid (Led n0 g p q Z x fn l (ws.set pc false) t ks w5 0 w5) := ⟨Turn.refl _ _, Z, r, l, ws.set pc false, HW2.out.below HB5.out, fun _ _ => rfl, Leads.begin t HR.out hwl HI.out.2.1 fun p hp => by
    by_cases e : pc = p
    · subst e; exact ⟨s, HX.out⟩
    · rw [List.getElem?_set_ne e] at hp; exact HI.out.2.2 p hp⟩
  rw [HNK.out, HNT.out]
  rw [HNT.out] at hle5 h8t
  have hk64 : nk ≤ 2 := by
    rw [← HNK.out]
    exact next_len HFE.out
  clear hct hwl SS5 SW
  go_wp2_with fail
  go_loopw [40] (fun i wr => ∃ m : Nat, m ≤ nk ∧ i = .int .i64 (m : Nat) ∧ Led n0 g p q Z x fn l (ws.set pc false) t ks w5 m wr) (fun i _ => nk - (intOf i).toNat)
  case atStart => exact ⟨0, Nat.zero_le _, rfl, HL0.out⟩
  case round =>
    obtain ⟨m, hm, rfl, hT, Zr, rr, lr, wsr, hWr, hzr, hLd⟩ := hrel
    have HT := Lib.hid hT
    have HWr := Lib.hid hWr
    have HZr := Lib.hid hzr
    have HLd := Lib.hid hLd
    clear hT hWr hzr hLd HL0
    by_cases hlt : m < nk
    · obtain ⟨k, hk⟩ : ∃ k, ks[m]? = some k := ⟨ks[m]'(by rw [HNK.out]; exact hlt), List.getElem?_eq_getElem _⟩
      have hkm := List.mem_of_getElem? hk
      obtain ⟨hk0, hkl⟩ := HTh.out k hkm
      obtain ⟨kn, rfl⟩ : ∃ kn : Nat, k = (kn : Int) := ⟨k.toNat, by omega⟩
      rw [Int.toNat_natCast] at hkl
      obtain ⟨aB, rfl, hB1, hB2, hB3⟩ := HNU5.out m _ hk
      have hcell := (World.cell?_of_block (HT.out.block (aB.add m).block (by rw [addBlock]; exact hB2) (HZn.out _ (by rw [addBlock]; simpa using hB1)))).trans hB3
      have HKM := Lib.hid hkm
      have HTk : Hid (ks.take (m + 1) = ks.take m ++ [(kn : Int)]) := by
        show _ = _
        obtain ⟨h1, h2⟩ := List.getElem?_eq_some_iff.1 hk
        rw [List.take_succ_eq_append_getElem h1, h2]
      have hsr := HT.out.size
      have RE : Hid (Calls Try.prog 49 #[.pointer (some ⟨g, 0, none⟩), .int .i64 (kn : Nat), .slice A5 nt c5] wr (Reached n0 g p q Zr wr lr wsr kn t)) :=
        reach_any n0 g p q Zr wr lr wsr rr kn A5 nt c5 t HWr.out (by omega) (by rw [HLd.out.runF.len]; exact hkl) (by rw [HLd.out.runF.len, ← HLN.out, HN.out]; omega) HNT.out h8t
          ((HSQ5.out.keep fun b h1 => HT.out.block b h1.2 (HZn.out b (by simpa using h1.1))).wide fun b h1 => ⟨Nat.lt_of_lt_of_le h1.2 hsr, by rw [HZr.out b h1.2]; exact HZn.out b (by simpa using h1.1)⟩)
      have hkl2 : kn < 64 := by rw [← HLN.out, HN.out] at hkl; omega
      have hm0 : (0 : Int) ≤ (m : Int) := by omega
      have hm1 : (m : Int) < (nk : Int) := by omega
      clear hk hkm hB1 hB2 hB3 hk0
      go_wp2_with fail
      refine RE.out.mono ?_
      rintro e w6 ⟨hT6, ⟨rfl, u, hu, hne⟩ | ⟨rfl, Z6, r6, l6, ws6, hW6, hz6, hrch⟩⟩
      · have HT6 := Lib.hid hT6
        have HNev := Lib.hid (run_heights HLd.out.runF.run HU.out HIn.out HFE.out HKM.out (toS_yes hu) hne)
        clear hT6 hu hne
        go_wp2_with fail
        go_ret
        exact ⟨HT5.out.trans (HT.out.trans HT6.out fun b h1 h2 => by rw [HZr.out b h1]; exact h2) fun _ _ h => h, .inl ⟨rfl, HNev.out⟩⟩
      · have HT6 := Lib.hid hT6
        have HW6 := Lib.hid hW6
        have HZ6 := Lib.hid hz6
        have HRch := Lib.hid hrch
        clear hT6 hW6 hz6 hrch
        go_wp2_with fail
        refine ⟨⟨m + 1, by omega, by simp, HT.out.trans HT6.out fun b h1 h2 => by rw [HZr.out b h1]; exact h2, Z6, r6, l6, ws6, HW6.out, fun b hb => (HZ6.out b (Nat.lt_of_lt_of_le hb hsr)).trans (HZr.out b hb), ?_⟩, by simp [intOf]; omega⟩
        rw [HTk.out]
        exact HLd.out.step HLN.out HRch.out HU.out HIn.out HFE.out HKM.out HCt.out (by rw [HNT.out]; exact h8t) hkl
    · obtain rfl : m = nk := by omega
      go_wp2_with fail
      go_ret
      have hL := HLd.out
      rw [List.take_of_length_le (by rw [HNK.out]; exact Nat.le_refl _)] at hL
      obtain ⟨h1, h2⟩ := hL.ends HI.out HX.out HWt.out HIn.out HFE.out
      exact ⟨HT5.out.trans HT.out fun _ _ h => h, .inr ⟨rfl, Zr, rr, lr, wsr, HWr.out, fun b hb => HZr.out b (by omega), hL.runF, h1, h2⟩⟩
end Go.Proofs.Ytpjanfkliaaflaa
