/-
  What flow's Flow comes to, at an instruction that there is. Conditions: as each theorem says.
  What law08's answers says: true. Conditions: none.
  What the document's own Local comes to. Conditions: as each theorem says.
  What the document's Var does. Conditions: as each theorem says.
  What the document's own Good does. Conditions: as each theorem says.
-/
import Derived.Test.YtlfcglolehmmiaaQ01
import Derived.Test.YtlfcglolehmmiaaQ02
import Derived.Test.YtlfcglolehmmiaaQ14
import Derived.Test.YtlfcglolehmmiaaQ22
import Derived.OwnWalk
import Derived.Deep.RegionHeld3
namespace Go.Proofs.Ytlfcglolehmmiaa
open Go.RowKit
set_option linter.unusedSimpArgs false
set_option linter.unusedVariables false

theorem chgs_open {K : Nat} {ins outs : List Typ} {w w' : World} {e : Ending} (h : Chgs K ins outs w e w') (hK : K ≤ w.heap.size) : Below w.heap.size w w' ∧ ∃ A c B d, e = .returned (.agg #[.slice A ins.length c, .slice B outs.length d]) ∧ Sq typL (· < w'.heap.size) w' A ins ∧ Sq typL (· < w'.heap.size) w' B outs ∧ outs.length ≤ d ∧ d ≤ maxLen := by
  obtain ⟨hb, A, n, c, B, m, d, rfl, ⟨A2, c2, e2, -, -, s2⟩, ⟨B2, d2, e3, h3, h4, s3⟩⟩ := h
  simp only [List.cons.injEq, Value.slice.injEq, and_true] at e2 e3
  obtain ⟨rfl, rfl, rfl⟩ := e2
  obtain ⟨rfl, rfl, rfl⟩ := e3
  have hz := hb.size
  exact ⟨hb, _, _, _, _, rfl, s2.wide fun b hb => by rcases hb with hb | hb <;> omega, s3.wide fun b hb => by rcases hb with hb | hb <;> omega, h3, h4⟩
theorem moved_none {r : Option (List Typ)} {w w' : World} {e : Ending} (hr : r = none) (h : Moved r w e w') : e = .returned (.tuple #[.slice none 0 0, .bool false]) ∧ Below w.heap.size w w' := by
  obtain ⟨hb, ⟨-, he⟩ | ⟨t, v, ht, -⟩⟩ := h
  · exact ⟨he, hb⟩
  · rw [hr] at ht; cases ht
theorem moved_some {r : Option (List Typ)} {t : List Typ} {w w' : World} {e : Ending} (hr : r = some t) (h : Moved r w e w') : ∃ v, e = .returned (.tuple #[v, .bool true]) ∧ w'.ownsRow w.heap.size 39 2 v t.length (T2 t) ∧ Below w.heap.size w w' := by
  obtain ⟨hb, ⟨hn, -⟩ | ⟨t', v, ht, he, ho⟩⟩ := h
  · rw [hr] at hn; cases hn
  · rw [hr] at ht
    injection ht with ht
    subst ht
    exact ⟨v, he, ho, hb⟩
theorem movB_64 {s i o t : List Typ} (h : movB s i o = some t) (hs : A64 s) (ho : A64 o) : A64 t := by
  unfold movB at h
  split at h
  · injection h with h
    subst h
    exact (hs.take _).app ho
  · cases h
set_option maxRecDepth 100000 in
set_option maxHeartbeats 2000000 in
theorem flow_at (cs : List Value) (x : Mod) (j p : Nat) (D : Option Addr) (k g : Nat) (ts : List Typ) (w : World) (h : modL.R (· < w.heap.size) w cs x) (fn : Fn) (o ia ib : Int) (hc : checkN x = 0) (hfn : x.funcs[j]? = some fn) (hin : fn.code[p]? = some (o, ia, ib)) (hk : ts.length = k) (sk : Sq typL (· < w.heap.size) w D ts) (bk : k ≤ 1000) (bg : k ≤ g) (bg2 : g ≤ 9223372036854775807) (hnil : D = none → g = 0) :
    Calls Try.prog 10 #[vAgg cs, .int .i64 (j : Int), .int .i64 (p : Int), .slice D k g] w (Flows (flowB x (j : Int) (p : Int) ts) w) := by
  obtain ⟨q1, q2, q3, q4⟩ := sane_fn hc (List.mem_of_getElem? hfn)
  obtain ⟨hgood, hnam⟩ := q4 _ (List.mem_of_getElem? hin)
  have hpl := (List.getElem?_eq_some_iff.1 hin).1
  obtain ⟨o1, x1, y1, eo, ex, ey, -, hx1, hy1, -, -, -⟩ := goodI_parts (op := o) (a := ia) (b := ib) hgood
  have h0a : 0 ≤ ia := by omega
  have HV : Hid (flowB x (j : Int) (p : Int) ts = (match movB ts (chgB x fn (o, ia, ib) ts).1 (chgB x fn (o, ia, ib) ts).2 with | none => (4, [], []) | some t => if ((fn.code.length : Nat) : Int) ∈ follB (o, ia, ib) (p : Int) then (1, [], []) else (0, t, follB (o, ia, ib) (p : Int)))) := by
    show flowB _ _ _ _ = _
    rw [flowB_at hc hfn hin, ins_chg h0a hnam, next_foll hnam hpl]
    cases movB ts (chgB x fn (o, ia, ib) ts).1 (chgB x fn (o, ia, ib) ts).2 with
    | none => rfl
    | some t => by_cases hm : ((fn.code.length : Nat) : Int) ∈ follB (o, ia, ib) (p : Int) <;> simp [hm]
  obtain ⟨hsh1, hsh2⟩ := chg_len (f := fn) (i := (o, ia, ib)) (s := ts) hc
  have HFit := Lib.hid (fitB_iff.1 (checkN_fit hc))
  have TE : Hid (∀ w1, Below w.heap.size w w1 → Calls Try.prog 18 #[vAgg cs] w1 (Errs (checkN x) w1)) := fun w1 hb => check_any cs x w1 (mod_at h hb)
  obtain ⟨_, _, _, _, _, rfl, ⟨A0, d0, e0, l0, m0, s0⟩, ⟨A1, d1, e1, l1, m1, s1⟩, ⟨A2, d2, e2, l2, m2, s2⟩, ⟨A3, d3, e3, -⟩, ⟨A4, d4, e4, -⟩⟩ := h
  simp only [List.cons.injEq, and_true] at e0 e1 e2 e3 e4
  subst e0 e1 e2 e3 e4
  obtain ⟨n0, h0⟩ : ∃ n, x.recs.length = n := ⟨_, rfl⟩
  obtain ⟨n1, h1⟩ : ∃ n, x.funcs.length = n := ⟨_, rfl⟩
  obtain ⟨n2, h2⟩ : ∃ n, x.imps.length = n := ⟨_, rfl⟩
  rw [h0, h1, h2] at TE ⊢
  generalize x.ints.length = n3 at *
  generalize x.texts.length = n4 at *
  have TE2 : Hid (∀ w1, Below w.heap.size w w1 → Calls Try.prog 18 #[.agg #[.slice A0 n0 d0, .slice A1 n1 d1, .slice A2 n2 d2, .slice A3 n3 d3, .slice A4 n4 d4]] w1 (Errs (checkN x) w1)) := TE.out
  clear TE
  show Calls Try.prog 10 #[.agg #[.slice A0 n0 d0, .slice A1 n1 d1, .slice A2 n2 d2, .slice A3 n3 d3, .slice A4 n4 d4], .int .i64 (j : Int), .int .i64 (p : Int), .slice D k g] w (Flows (flowB x (j : Int) (p : Int) ts) w)
  have HB0 : Hid (∀ o : Obj, Below w.heap.size w (w.alloc o)) := fun o => below_new w o
  have HC0 : Hid (C5 w.heap.size (.slice A0 n0 d0) (.slice A1 n1 d1) (.slice A2 n2 d2) (.slice A3 n3 d3) (.slice A4 n4 d4) (w.alloc (.cells #[.slice A0 n0 d0, .slice A1 n1 d1, .slice A2 n2 d2, .slice A3 n3 d3, .slice A4 n4 d4] 28))) := by show C5 _ _ _ _ _ _ _; simp [C5, go_sem]
  obtain ⟨a, ccs, ea, hab, hcl, hR⟩ := s1.at hfn
  subst ea
  obtain ⟨p0, p1, p2, rfl, hr1, hr2, ⟨P0, c0, e4, f0, f1, t0⟩, ⟨P1, c1, e5, f2, f3, t1⟩, ⟨P2, c2, e6, f4, f5, t2⟩⟩ := hR
  simp only [List.cons.injEq, and_true] at e4 e5 e6
  subst e4 e5 e6
  have HCL : Hid (∀ v, Below w.heap.size w v → v.cell? (a.add (j * 5)) = some (.slice P0 fn.args.length c0) ∧ v.cell? ⟨(a.add (j * 5)).block, (a.add (j * 5)).off + 1, none⟩ = some (.int .i64 fn.ret.1) ∧ v.cell? ⟨(a.add (j * 5)).block, (a.add (j * 5)).off + 2, none⟩ = some (.int .i64 fn.ret.2) ∧ v.cell? ⟨(a.add (j * 5)).block, (a.add (j * 5)).off + 3, none⟩ = some (.slice P1 fn.locs.length c1) ∧ v.cell? ⟨(a.add (j * 5)).block, (a.add (j * 5)).off + 4, none⟩ = some (.slice P2 fn.code.length c2)) := fun v hb => by
    have k0 := (hb.cell (p := a.add (j * 5)) (by rw [addBlock]; exact hab)).trans (hcl 0 _ rfl)
    have k1 := (hb.cell (p := a.add (j * 5 + 1)) (by rw [addBlock]; exact hab)).trans (hcl 1 _ rfl)
    have k2 := (hb.cell (p := a.add (j * 5 + 2)) (by rw [addBlock]; exact hab)).trans (hcl 2 _ rfl)
    have k3 := (hb.cell (p := a.add (j * 5 + 3)) (by rw [addBlock]; exact hab)).trans (hcl 3 _ rfl)
    have k4 := (hb.cell (p := a.add (j * 5 + 4)) (by rw [addBlock]; exact hab)).trans (hcl 4 _ rfl)
    rw [next_cell a (j * 5) 1 (by omega)] at k1
    rw [next_cell a (j * 5) 2 (by omega)] at k2
    rw [next_cell a (j * 5) 3 (by omega)] at k3
    rw [next_cell a (j * 5) 4 (by omega)] at k4
    exact ⟨k0, k1, k2, k3, k4⟩
  have hjn : (j : Int) < (n1 : Int) := by have := (List.getElem?_eq_some_iff.1 hfn).1; omega
  have hn8 : n1 ≤ 8 := by have := (fitB_iff.1 (checkN_fit hc)).f8; omega
  obtain ⟨b, ics, eb, hbb, hil, hiR⟩ := t2.at hin
  subst eb
  obtain ⟨rfl, -, -, -⟩ := hiR
  have HCI : Hid (∀ v, Below w.heap.size w v → v.cell? (b.add (p * 3)) = some (.int .i64 o) ∧ v.cell? ⟨(b.add (p * 3)).block, (b.add (p * 3)).off + 1, none⟩ = some (.int .i64 ia) ∧ v.cell? ⟨(b.add (p * 3)).block, (b.add (p * 3)).off + 2, none⟩ = some (.int .i64 ib)) := fun v hb => by
    have k0 := (hb.cell (p := b.add (p * 3)) (by rw [addBlock]; exact hbb)).trans (hil 0 _ rfl)
    have k1 := (hb.cell (p := b.add (p * 3 + 1)) (by rw [addBlock]; exact hbb)).trans (hil 1 _ rfl)
    have k2 := (hb.cell (p := b.add (p * 3 + 2)) (by rw [addBlock]; exact hbb)).trans (hil 2 _ rfl)
    rw [next_cell b (p * 3) 1 (by omega)] at k1
    rw [next_cell b (p * 3) 2 (by omega)] at k2
    exact ⟨k0, k1, k2⟩
  obtain ⟨ua, g0⟩ : ∃ n, fn.args.length = n := ⟨_, rfl⟩
  obtain ⟨ul, g1⟩ : ∃ n, fn.locs.length = n := ⟨_, rfl⟩
  obtain ⟨uc, g2⟩ : ∃ n, fn.code.length = n := ⟨_, rfl⟩
  rw [g0, g1, g2] at HCL
  rw [g0] at q1
  rw [g1] at q2
  rw [g2] at q3 hpl HV
  have hpn : (p : Int) < (uc : Int) := by omega
  rw [hc] at TE2
  have HF := Lib.hid (fun v => hasF_any (some a) n1 d1 (j : Int) v)
  rw [show hasB n1 (j : Int) = true by simp [hasB]; omega] at HF
  have HI := Lib.hid (fun v => hasI_any (some b) uc c2 (p : Int) v)
  rw [show hasB uc (p : Int) = true by simp [hasB]; omega] at HI
  have SKv : Hid (∀ v, Below w.heap.size w v → Sq typL (· < v.heap.size) v D ts) := fun v hb => (sk.below hb (Nat.le_refl _)).wide fun i hi => Nat.lt_of_lt_of_le hi hb.size
  have HAts := Lib.hid sk.a64
  have CHc : Hid (∀ v, Below w.heap.size w v → Calls Try.prog 21 #[.agg #[.slice A0 n0 d0, .slice (some a) n1 d1, .slice A2 n2 d2, .slice A3 n3 d3, .slice A4 n4 d4], .agg #[.slice P0 ua c0, .int .i64 fn.ret.1, .int .i64 fn.ret.2, .slice P1 ul c1, .slice (some b) uc c2], .agg #[.int .i64 o, .int .i64 ia, .int .i64 ib], .slice D k g] v (Chgs v.heap.size (chgB x fn (o, ia, ib) ts).1 (chgB x fn (o, ia, ib) ts).2 v)) := fun v hb =>
    change_any A0 (some a) A2 A3 A4 P0 P1 (some b) D n0 n1 n2 n3 n4 d0 d1 d2 d3 d4 ua ul uc c0 c1 c2 k g x fn ts o ia ib v
      ⟨h0, h1, h2, (s0.below hb (Nat.le_refl _)).wide fun i hi => Nat.lt_of_lt_of_le hi hb.size, (s1.below hb (Nat.le_refl _)).wide fun i hi => Nat.lt_of_lt_of_le hi hb.size, (s2.below hb (Nat.le_refl _)).wide fun i hi => Nat.lt_of_lt_of_le hi hb.size, g0, g1, (t0.below hb (Nat.le_refl _)).wide fun i hi => Nat.lt_of_lt_of_le hi hb.size, (t1.below hb (Nat.le_refl _)).wide fun i hi => Nat.lt_of_lt_of_le hi hb.size, ⟨hr1, hr2⟩, hk, SKv.out v hb, by have := HFit.out.r8; omega, by omega, by have := HFit.out.i8; omega, by omega, by omega, bk⟩ hgood hnam
  have FOc := Lib.hid (fun v => follow_any o ia ib (p : Int) v (by omega) (by omega))
  have HK := Lib.hid hk
  have HFL : Hid ((follB (o, ia, ib) (p : Int)).length ≤ 2) := by show _ ≤ _; unfold follB; repeat (first | (split; · simp) | simp)
  clear hc hnam hgood hcl hil sk s0 s1 s2 h0 h1 h2 l0 l1 l2 m0 m1 m2 t0 t1 t2 f0 f1 f2 f3 f4 f5 g0 g1 g2 hfn hin hk q1 q2 q3 q4 eo ex ey hx1 hy1 h0a
  generalize chgB x fn (o, ia, ib) ts = ch at *
  generalize follB (o, ia, ib) (p : Int) = fo at *
  generalize flowB x (j : Int) (p : Int) ts = fb at *
  go_enter Try.func10, Try.ntmps10
  go_upto_region 4 with (first
    | (go_at_call 18
       refine (TE2.out _ (HB0.out _)).mono ?_
       rintro e w1 ⟨rfl, hb1⟩
       have HB1 := Lib.hid ((HB0.out _).trans (hb1.mono (by simp)))
       obtain ⟨x0, x1, x2, x3, x4⟩ := HC0.out.below hb1 (by simp)
       have hs1 : w.heap.size < w1.heap.size := (by have := hb1.size; simp at this; omega)
       obtain ⟨y0, y1, y2, y3, y4⟩ := HCL.out _ HB1.out
       clear hb1)
    | (go_at_call 19
       refine (HF.out _).mono ?_
       rintro e w2 ⟨rfl, hw2⟩
       have hw3 := hw2.symm
       clear hw2
       subst hw3)
    | (go_at_call 20
       refine (HI.out _).mono ?_
       rintro e w2 ⟨rfl, hw2⟩
       have hw3 := hw2.symm
       clear hw2
       subst hw3))
  refine wp_world fun W hW => ?_
  have HBW : Hid (Below w.heap.size w W) := by show Below _ _ _; rw [hW]; exact HB1.out.alloc HB1.out.size _
  have HFf : Hid (Blk W w1.heap.size 42 #[.slice P0 ua c0, .int .i64 fn.ret.1, .int .i64 fn.ret.2, .slice P1 ul c1, .slice (some b) uc c2]) := by show Blk _ _ _ _; rw [hW]; exact blk_at rfl
  have HMm : Hid (C5 w.heap.size (.slice A0 n0 d0) (.slice (some a) n1 d1) (.slice A2 n2 d2) (.slice A3 n3 d3) (.slice A4 n4 d4) W) := by show C5 _ _ _ _ _ _ _; rw [hW]; exact C5.below ⟨x0, x1, x2, x3, x4⟩ (below_new w1 _) hs1
  have hsW : w1.heap.size + 1 ≤ W.heap.size := by rw [hW]; simp
  clear hW x0 x1 x2 x3 x4 y0 y1 y2 y3 y4
  have HC : Hid (∀ v, Below W.heap.size W v → v.cell? ⟨w.heap.size, 0, none⟩ = some (.slice A0 n0 d0) ∧ v.cell? ⟨w.heap.size, 1, none⟩ = some (.slice (some a) n1 d1) ∧ v.cell? ⟨w.heap.size, 2, none⟩ = some (.slice A2 n2 d2) ∧ v.cell? ⟨w.heap.size, 3, none⟩ = some (.slice A3 n3 d3) ∧ v.cell? ⟨w.heap.size, 4, none⟩ = some (.slice A4 n4 d4) ∧ v.cell? ⟨w1.heap.size, 0, none⟩ = some (.slice P0 ua c0) ∧ v.cell? ⟨w1.heap.size, 1, none⟩ = some (.int .i64 fn.ret.1) ∧ v.cell? ⟨w1.heap.size, 2, none⟩ = some (.int .i64 fn.ret.2) ∧ v.cell? ⟨w1.heap.size, 3, none⟩ = some (.slice P1 ul c1) ∧ v.cell? ⟨w1.heap.size, 4, none⟩ = some (.slice (some b) uc c2) ∧ v.cell? (b.add (p * 3)) = some (.int .i64 o) ∧ v.cell? ⟨(b.add (p * 3)).block, (b.add (p * 3)).off + 1, none⟩ = some (.int .i64 ia) ∧ v.cell? ⟨(b.add (p * 3)).block, (b.add (p * 3)).off + 2, none⟩ = some (.int .i64 ib)) := fun v hb => by
    have hm := HMm.out.below hb (by omega)
    have hf := blk_below HFf.out hb (by omega)
    have hi := HCI.out v (HBW.out.trans (hb.mono HBW.out.size))
    exact ⟨hm.1, hm.2.1, hm.2.2.1, hm.2.2.2.1, hm.2.2.2.2, hf.cell 0, hf.cell 1, hf.cell 2, hf.cell 3, hf.cell 4, hi.1, hi.2.1, hi.2.2⟩
  have SW := Lib.hid (HC.out W (Below.refl _ _))
  have HSW := Lib.hid HBW.out.size
  have ONc : Hid (∀ v A9 B9 c9 d9, Below w.heap.size w v → Sq typL (· < v.heap.size) v A9 ch.1 → Sq typL (· < v.heap.size) v B9 ch.2 → ch.2.length ≤ d9 → d9 ≤ maxLen → Calls Try.prog 22 #[.agg #[.slice A9 ch.1.length c9, .slice B9 ch.2.length d9], .slice D k g] v (Moved (movB ts ch.1 ch.2) v)) := fun v A9 B9 c9 d9 hb s9 s8 hd hm =>
    on_any A9 B9 D ch.1.length ch.2.length k c9 d9 g ch.1 ch.2 ts v rfl rfl HK.out s9 s8 (SKv.out _ hb) (by omega) (by omega) bk bg bg2 hd (by unfold maxLen at hm; omega) hnil
  cases hmv : movB ts ch.1 ch.2
  case none =>
    have HMV := Lib.hid hmv
    rw [hmv] at HV
    clear hmv
    go_region_held3 (fun v => v.cell? ⟨w.heap.size, 0, none⟩ = some (.slice A0 n0 d0) ∧ v.cell? ⟨w.heap.size, 1, none⟩ = some (.slice (some a) n1 d1) ∧ v.cell? ⟨w.heap.size, 2, none⟩ = some (.slice A2 n2 d2) ∧ v.cell? ⟨w.heap.size, 3, none⟩ = some (.slice A3 n3 d3) ∧ v.cell? ⟨w.heap.size, 4, none⟩ = some (.slice A4 n4 d4) ∧ v.cell? ⟨w1.heap.size, 0, none⟩ = some (.slice P0 ua c0) ∧ v.cell? ⟨w1.heap.size, 1, none⟩ = some (.int .i64 fn.ret.1) ∧ v.cell? ⟨w1.heap.size, 2, none⟩ = some (.int .i64 fn.ret.2) ∧ v.cell? ⟨w1.heap.size, 3, none⟩ = some (.slice P1 ul c1) ∧ v.cell? ⟨w1.heap.size, 4, none⟩ = some (.slice (some b) uc c2) ∧ v.cell? (b.add (p * 3)) = some (.int .i64 o) ∧ v.cell? ⟨(b.add (p * 3)).block, (b.add (p * 3)).off + 1, none⟩ = some (.int .i64 ia) ∧ v.cell? ⟨(b.add (p * 3)).block, (b.add (p * 3)).off + 2, none⟩ = some (.int .i64 ib))
      (first | exact SS5.out | exact SS4.out | exact SW.out | exact HC.out _ (Below.refl _ W).drew)
      (first
      | (go_at_call 21
         refine (CHc.out _ HBW.out.drew).mono ?_
         intro e w4 h4
         obtain ⟨hb4, A9, c9, B9, d9, rfl, s9, s8, hd9, hm9⟩ := chgs_open h4 (Nat.le_refl _)
         have HB4 : Hid (Below W.heap.size W w4) := (by show Below _ _ _; exact (Below.refl _ W).drew.trans (hb4.mono (by simp)))
         have S9 := Lib.hid s9
         have S8 := Lib.hid s8
         have HD9 := Lib.hid (And.intro hd9 hm9)
         have SS4 := Lib.hid (HC.out _ HB4.out)
         clear h4 hb4 s9 s8 hd9 hm9)
      | (go_at_call 22
         refine (ONc.out _ A9 B9 c9 d9 (HBW.out.trans (HB4.out.mono HBW.out.size)) S9.out S8.out HD9.out.1 HD9.out.2).mono ?_
         intro e w5 h5
         obtain ⟨rfl, hb5⟩ := moved_none HMV.out h5
         have HB5 := Lib.hid (HB4.out.trans (hb5.mono HB4.out.size))
         have SS5 := Lib.hid (HC.out _ HB5.out)
         clear h5 hb5))
    go_wp2_with fail
    go_ret3
    rw [HV.out]
    exact flows_none (HBW.out.trans (HB5.out.mono HBW.out.size))
  case some t9 =>
    have HMV := Lib.hid hmv
    rw [hmv] at HV
    clear hmv
    go_region_held3 (fun v => v.cell? ⟨w.heap.size, 0, none⟩ = some (.slice A0 n0 d0) ∧ v.cell? ⟨w.heap.size, 1, none⟩ = some (.slice (some a) n1 d1) ∧ v.cell? ⟨w.heap.size, 2, none⟩ = some (.slice A2 n2 d2) ∧ v.cell? ⟨w.heap.size, 3, none⟩ = some (.slice A3 n3 d3) ∧ v.cell? ⟨w.heap.size, 4, none⟩ = some (.slice A4 n4 d4) ∧ v.cell? ⟨w1.heap.size, 0, none⟩ = some (.slice P0 ua c0) ∧ v.cell? ⟨w1.heap.size, 1, none⟩ = some (.int .i64 fn.ret.1) ∧ v.cell? ⟨w1.heap.size, 2, none⟩ = some (.int .i64 fn.ret.2) ∧ v.cell? ⟨w1.heap.size, 3, none⟩ = some (.slice P1 ul c1) ∧ v.cell? ⟨w1.heap.size, 4, none⟩ = some (.slice (some b) uc c2) ∧ v.cell? (b.add (p * 3)) = some (.int .i64 o) ∧ v.cell? ⟨(b.add (p * 3)).block, (b.add (p * 3)).off + 1, none⟩ = some (.int .i64 ia) ∧ v.cell? ⟨(b.add (p * 3)).block, (b.add (p * 3)).off + 2, none⟩ = some (.int .i64 ib))
      (first | exact SS5.out | exact SS4.out | exact SW.out | exact HC.out _ (Below.refl _ W).drew)
      (first
      | (go_at_call 21
         refine (CHc.out _ HBW.out.drew).mono ?_
         intro e w4 h4
         obtain ⟨hb4, A9, c9, B9, d9, rfl, s9, s8, hd9, hm9⟩ := chgs_open h4 (Nat.le_refl _)
         have HB4 : Hid (Below W.heap.size W w4) := (by show Below _ _ _; exact (Below.refl _ W).drew.trans (hb4.mono (by simp)))
         have S9 := Lib.hid s9
         have S8 := Lib.hid s8
         have HD9 := Lib.hid (And.intro hd9 hm9)
         have SS4 := Lib.hid (HC.out _ HB4.out)
         clear h4 hb4 s9 s8 hd9 hm9)
      | (go_at_call 22
         refine (ONc.out _ A9 B9 c9 d9 (HBW.out.trans (HB4.out.mono HBW.out.size)) S9.out S8.out HD9.out.1 HD9.out.2).mono ?_
         intro e w5 h5
         obtain ⟨v5, rfl, hown5, hb5⟩ := moved_some HMV.out h5
         have HB5 := Lib.hid (HB4.out.trans (hb5.mono HB4.out.size))
         have HA5 := Lib.hid (movB_64 HMV.out HAts.out S8.out.a64)
         have HO5 := Lib.hid (row_wide hown5 (Nat.le_trans HBW.out.size HB4.out.size))
         have SS5 := Lib.hid (HC.out _ HB5.out)
         clear h5 hown5 hb5))
    obtain ⟨-, -, -, -, -, -, -, -, -, z4, y0, y1, y2⟩ := SS5.out
    have HW5 := Lib.hid (HBW.out.trans (HB5.out.mono HBW.out.size))
    have hs5 := HB5.out.size
    by_cases hmem : (uc : Int) ∈ fo
    case' pos => rw [if_pos hmem] at HV
    case' neg => rw [if_neg hmem] at HV
    all_goals
      have HME := Lib.hid hmem
      clear hmem
      go_wp2_with (first
        | (go_at_call 23
           refine (FOc.out _).mono ?_
           rintro e w6 ⟨hb6, v6, rfl, hown6⟩
           have HB6 := Lib.hid hb6
           have HO6 := Lib.hid hown6
           obtain ⟨A6, c6, rfl, hl6, hlc6, hcl6⟩ := own_ints hown6
           have HN6 := Lib.hid (contains_ints A6 fo.length c6 fo (uc : Int) w6 rfl (by have := HFL.out; omega) fun jj xx hx => by obtain ⟨aa, ea, -, -, hcc⟩ := hcl6 jj xx hx; exact ⟨aa, ea, hcc⟩)
           have z6 := (HB6.out.cell (p := ⟨w1.heap.size, 4, none⟩) (by show w1.heap.size < _; omega)).trans z4
           clear hb6 hown6 hl6 hlc6 hcl6)
        | (go_at_call 24
           refine (HN6.out).mono ?_
           rintro e w7 ⟨he7, rfl⟩
           first | (rw [decide_eq_true HME.out] at he7) | (rw [decide_eq_false HME.out] at he7)
           subst he7))
      go_ret3
      rw [HV.out]
      first
      | exact flows_none (HW5.out.trans (HB6.out.mono HW5.out.size))
      | (refine ⟨HW5.out.trans (HB6.out.mono HW5.out.size), _, _, rfl, raw_below HO5.out HB6.out (Nat.le_refl _), row_wide HO6.out HW5.out.size, fun bb h1 h2 => ?_, HA5.out⟩
         have k1 := (HO5.out.lt bb h1).2
         have k2 := (HO6.out.lt bb h2).1
         omega)
/-- What flow's Flow comes to. -/
theorem flow_any (cs : List Value) (x : Mod) (fi pc : Int) (D : Option Addr) (k g : Nat) (ts : List Typ) (w : World) (h : modL.R (· < w.heap.size) w cs x) (hfi : I64 fi) (hpc : I64 pc) (hk : ts.length = k) (sk : Sq typL (· < w.heap.size) w D ts) (bk : k ≤ 1000) (bg : k ≤ g) (bg2 : g ≤ 9223372036854775807) (hnil : D = none → g = 0) :
    Calls Try.prog 10 #[vAgg cs, .int .i64 fi, .int .i64 pc, .slice D k g] w (Flows (flowB x fi pc ts) w) := by
  by_cases hc : checkN x = 0
  rotate_left
  · exact flow_bad cs x fi pc D k g ts w h hc
  cases hf : hasB x.funcs.length fi
  · exact flow_nofn cs x fi pc D k g ts w h hc hf
  simp [hasB] at hf
  obtain ⟨j, rfl⟩ : ∃ j : Nat, fi = (j : Int) := ⟨fi.toNat, by omega⟩
  obtain ⟨fn, hfn⟩ : ∃ fn, x.funcs[j]? = some fn := ⟨x.funcs[j]'(by omega), List.getElem?_eq_getElem _⟩
  cases hp : hasB fn.code.length pc
  · exact flow_nopc cs x j pc D k g ts w h fn hc hfn hp
  simp [hasB] at hp
  obtain ⟨p, rfl⟩ : ∃ p : Nat, pc = (p : Int) := ⟨pc.toNat, by omega⟩
  obtain ⟨⟨o, ia, ib⟩, hi⟩ : ∃ i, fn.code[p]? = some i := ⟨fn.code[p]'(by omega), List.getElem?_eq_getElem _⟩
  exact flow_at cs x j p D k g ts w h fn o ia ib hc hfn hi hk sk bk bg bg2 hnil
end Go.Proofs.Ytlfcglolehmmiaa
namespace Go.Proofs.Ytlfcglolehmmiaa
open Go.RowKit
set_option linter.unusedSimpArgs false
set_option linter.unusedVariables false

theorem flows_at {er : Int} {t : List Typ} {l : List Int} {w w' : World} {e : Ending} (h : Flows (er, t, l) w e w') : Below w.heap.size w w' ∧ ∃ v u, e = .returned (.tuple #[v, u, .int .i64 er]) ∧ w'.ownsRow w.heap.size 39 2 v t.length (T2 t) ∧ w'.ownsRow w.heap.size 3 1 u l.length (Is l) ∧ (∀ b, v.ownBlock = some b → u.ownBlock ≠ some b) ∧ A64 t := h
def m8 : Mod := ⟨[], [⟨[], (1, 0), [], [(8, 0, 0), (26, 0, 0)]⟩], [], [], []⟩
theorem m8_flow : flowB m8 0 0 [(1, 0), (1, 0)] = (0, [(1, 0)], [1]) := by decide
theorem cell_0 {w : World} {a : Addr} {x : Value} (h : w.cell? (a.add 0) = some x) : w.cell? a = some x := by simpa [Addr.add] using h

set_option maxRecDepth 100000 in
set_option maxHeartbeats 4000000 in
theorem answers8 (w : World) : Calls Try.prog 9 #[] w fun e w' => e = .returned (.bool true) ∧ Below w.heap.size w w' := by
  go_enter Try.func9, Try.ntmps9
  go_wp2_with fail
  refine calls_world fun W hW => ?_
  have b1 : Blk W (w.heap.size + 1) 50 #[.int .i64 8, .int .i64 0, .int .i64 0, .int .i64 26, .int .i64 0, .int .i64 0] := by rw [hW]; repeat (first | (refine blk_at ?_; simp; done) | refine blk_keep ?_)
  have b2 : Blk W (w.heap.size + 2) 42 #[.slice none 0 0, .int .i64 1, .int .i64 0, .slice none 0 0, .slice (some ⟨w.heap.size + 1, 0, none⟩) 2 2] := by rw [hW]; repeat (first | (refine blk_at ?_; simp; done) | refine blk_keep ?_)
  have b4 : Blk W (w.heap.size + 4) 39 #[.int .i64 1, .int .i64 0, .int .i64 1, .int .i64 0] := by rw [hW]; repeat (first | (refine blk_at ?_; simp; done) | refine blk_keep ?_)
  have i64 : ∀ k : Int, 0 ≤ k → k ≤ 1000 → I64 k := fun k h1 h2 => ⟨by omega, by omega⟩
  have HL : Hid (modL.R (· < W.heap.size) W [.slice none 0 0, .slice (some ⟨w.heap.size + 2, 0, none⟩) 1 1, .slice none 0 0, .slice none 0 0, .slice none 0 0] m8) :=
    ⟨_, _, _, _, _, rfl, nil_sl _ _ _, one_sl b2 b2.lt ⟨_, _, _, rfl, i64 _ (by decide) (by decide), i64 _ (by decide) (by decide), nil_sl _ _ _, nil_sl _ _ _, two_sl (L := insL) (x := (8, 0, 0)) (y := (26, 0, 0)) (c0 := [.int .i64 8, .int .i64 0, .int .i64 0]) (c1 := [.int .i64 26, .int .i64 0, .int .i64 0]) b1 b1.lt rfl ⟨rfl, i64 _ (by decide) (by decide), i64 _ (by decide) (by decide), i64 _ (by decide) (by decide)⟩ ⟨rfl, i64 _ (by decide) (by decide), i64 _ (by decide) (by decide), i64 _ (by decide) (by decide)⟩⟩, nil_sl _ _ _, nil_sl _ _ _, nil_sl _ _ _⟩
  have HS : Hid (Sq typL (· < W.heap.size) W (some ⟨w.heap.size + 4, 0, none⟩) [(1, 0), (1, 0)]) := by
    obtain ⟨A, c, e, -, -, h⟩ := lit_sl (S := (· < W.heap.size)) (n := 2) (ts := [(1, 0), (1, 0)]) b4 b4.lt rfl (a64_num (by omega) (a64_num (by omega) A64.nil)) rfl (by omega)
    simp only [List.cons.injEq, Value.slice.injEq, and_true] at e
    obtain ⟨rfl, -, -⟩ := e
    exact h
  have HB0 : Hid (Below w.heap.size w W) := by show Below _ _ _; rw [hW]; exact ((((below_new w _).alloc (by simp) _).alloc (by simp <;> omega) _).alloc (by simp <;> omega) _).alloc (by simp <;> omega) _
  clear hW b1 b2 b4
  refine (flow_any _ m8 0 0 (some ⟨w.heap.size + 4, 0, none⟩) 2 2 [(1, 0), (1, 0)] W HL.out (i64 _ (by decide) (by decide)) (i64 _ (by decide) (by decide)) rfl HS.out (by omega) (by omega) (by omega) (fun h => by cases h)).mono ?_
  rw [m8_flow]
  rintro e w1 ⟨hb1, v, u, rfl, ho, hu, -, -⟩
  have HB1 := Lib.hid (HB0.out.trans (hb1.mono HB0.out.size))
  obtain ⟨A, c, rfl, -, -, -, -⟩ := own_sq ho (A64.one (i64 _ (by decide) (by decide)) (i64 _ (by decide) (by decide)))
  obtain ⟨A2, c2, rfl, -, -, hcl⟩ := own_ints hu
  obtain ⟨a2, rfl, -, -, hc⟩ := hcl 0 1 rfl
  have hc0 := cell_0 hc
  clear hb1 ho hu hcl hc
  simp only [List.length_cons, List.length_nil, Nat.zero_add]
  go_wp2_with fail
  go_ret
  exact ⟨rfl, HB1.out⟩
end Go.Proofs.Ytlfcglolehmmiaa
namespace Go.Proofs.Ytlfcglolehmmiaa
open Go.RowKit
set_option linter.unusedSimpArgs false
set_option linter.unusedVariables false

theorem locB_get {f : Fn} {n : Int} {j : Nat} {t : Typ} (hn : n = (j : Int)) (h : (f.args ++ f.locs)[j]? = some t) : locB f n = t := by
  subst hn
  simp only [locB, Int.toNat_natCast, h]
  rw [if_neg (by omega)]
  rfl
/-- The first and the fourth cell of a block. -/
def C2 (b : Nat) (x y : Value) (w : World) : Prop := w.cell? ⟨b, 0, none⟩ = some x ∧ w.cell? ⟨b, 3, none⟩ = some y
set_option maxRecDepth 100000 in
set_option maxHeartbeats 2000000 in
theorem rlocal_any (A0 A1 A2 : Option Addr) (u0 u1 u2 c0 c1 c2 : Nat) (r1 r2 : Int) (f : Fn) (n : Int) (w : World) (h0 : f.args.length = u0) (h1 : f.locs.length = u1) (s0 : Sq typL (· < w.heap.size) w A0 f.args) (s1 : Sq typL (· < w.heap.size) w A1 f.locs)
    (b0 : u0 + u1 ≤ 1000000) (hn : I64 n) : Calls Try.prog 15 #[.agg #[.slice A0 u0 c0, .int .i64 r1, .int .i64 r2, .slice A1 u1 c1, .slice A2 u2 c2], .int .i64 n] w (TypIs (locB f n) w) := by
  obtain ⟨hn1, hn2⟩ := hn
  have S0 := Lib.hid s0
  have S1 := Lib.hid s1
  have L0 := Lib.hid h0
  have L1 := Lib.hid h1
  have HA := Lib.hid (s0.a64.app s1.a64)
  clear s0 s1 h0 h1
  go_enter Try.func15, Try.ntmps15
  go_wp2_with fail
  refine wp_world fun W hW => ?_
  have HB : Hid (Below w.heap.size w W) := by show Below _ _ _; rw [hW]; exact (below_new _ _).alloc (by simp) _
  have hz : w.heap.size + 2 ≤ W.heap.size := by rw [hW]; simp
  have HC : Hid (W.cell? ⟨w.heap.size, 0, none⟩ = some (.slice A0 u0 c0) ∧ W.cell? ⟨w.heap.size, 3, none⟩ = some (.slice A1 u1 c1)) := by show _ ∧ _; rw [hW]; simp [go_sem]
  have HR : Hid (Blk W (w.heap.size + 1) 39 #[.int .i64 0, .int .i64 0]) := by show Blk _ _ _ _; rw [hW]; exact blk_at (by simp)
  clear hW
  have HCb : Hid (∀ w', Below W.heap.size W w' → w'.cell? ⟨w.heap.size, 0, none⟩ = some (.slice A0 u0 c0) ∧ w'.cell? ⟨w.heap.size, 3, none⟩ = some (.slice A1 u1 c1)) := fun w' hb => ⟨(hb.cell (p := ⟨w.heap.size, 0, none⟩) (by show w.heap.size < _; omega)).trans HC.out.1, (hb.cell (p := ⟨w.heap.size, 3, none⟩) (by show w.heap.size < _; omega)).trans HC.out.2⟩
  have HOE : Hid ((W.alloc (.cells #[] 39)).drew.ownsRow W.heap.size 39 2 (.slice (some ⟨W.heap.size, 0, none⟩) 0 0) 0 (T2 [])) := own_tys_empty W
  go_region_held3 (fun w' => w'.cell? ⟨w.heap.size, 0, none⟩ = some (.slice A0 u0 c0) ∧ w'.cell? ⟨w.heap.size, 3, none⟩ = some (.slice A1 u1 c1))
    (first | exact SS2.out | exact SS1.out | exact HC.out | exact HCb.out _ (below_new W _).drew | exact HCb.out _ (below_new W _))
    (first
    | (with_reducible refine step_is (.tmp 6) (.tmp 8) 29 ?_
       refine step_append_tys _ rfl (.tmp 6) (.tmp 8) rfl W.heap.size (.slice (some ⟨W.heap.size, 0, none⟩) 0 0) 0 [] rfl HOE.out A0 u0 c0 f.args rfl L0.out _ ((S0.out.below HB.out (Nat.le_refl _)).below (below_new W _).drew (by omega)) (by omega) (by simp) ?_
       intro v1 w1 hown1 hg1 ha1
       have HO1 := Lib.hid hown1
       have HB1 := Lib.hid ((below_new W _).drew.grown hg1 (by simp) (fun i hi => (HOE.out.lt i hi).1))
       have SS1 := Lib.hid (HCb.out _ HB1.out)
       have hs1 := HB1.out.size
       clear hown1 hg1 ha1)
    | (with_reducible refine step_is (.tmp 9) (.tmp 11) 29 ?_
       refine step_append_tys _ rfl (.tmp 9) (.tmp 11) rfl W.heap.size v1 (0 + u0) ([] ++ f.args) rfl HO1.out A1 u1 c1 f.locs rfl L1.out _ ((S1.out.below HB.out (Nat.le_refl _)).below HB1.out (by omega)) (by omega) hs1 ?_
       intro v2 w2 hown2 hg2 ha2
       have HO2 := Lib.hid hown2
       have HB2 := Lib.hid (HB1.out.grown hg2 hs1 (fun i hi => (HO1.out.lt i hi).1))
       have SS2 := Lib.hid (HCb.out _ HB2.out)
       have hs2 := HB2.out.size
       clear hown2 hg2 ha2))
  obtain ⟨A, c, rfl, hl, hlc, hcm, hsq⟩ := own_sq HO2.out (by simpa using HA.out)
  rw [List.nil_append] at hsq
  have HS := Lib.hid hsq
  have HRr : Hid (Blk w2 (w.heap.size + 1) 39 #[.int .i64 0, .int .i64 0]) := blk_below HR.out HB2.out (by omega)
  have hr0 := HRr.out.cell 0
  have hr1 := HRr.out.cell 1
  have hf0 := HRr.out.frozen 0
  have hf1 := HRr.out.frozen 1
  clear hl hsq hcm
  obtain ⟨z, hzz⟩ : ∃ z, 0 + u0 + u1 = z := ⟨_, rfl⟩
  have HZ0 : Hid (u0 + u1 = z) := by show _ = z; omega
  rw [hzz] at *
  have HZ : Hid ((f.args ++ f.locs).length = z) := by show _ = z; rw [List.length_append, L0.out, L1.out, HZ0.out]
  have z0 : z ≤ 1000000 := by have := HZ0.out; omega
  have HFin : Hid (∀ u v, Below w.heap.size w ((w2.setCell ⟨w.heap.size + 1, 0, none⟩ u).setCell ⟨w.heap.size + 1, 1, none⟩ v)) := fun u v => below_set2 (HB.out.trans (HB2.out.mono (by omega))) (by omega)
  by_cases hneg : n < 0
  · have HT := Lib.hid (locB_neg (f := f) hneg)
    go_wp2_with fail
    exact bodyPost_ret (v := .agg #[.int .i64 8, .int .i64 0]) (by simp [results, Try.results15, go_sem, hr0, hr1]) rfl ⟨by rw [HT.out], HFin.out _ _⟩
  · by_cases hout : (z : Int) ≤ n
    · have HT := Lib.hid (locB_out (f := f) (n := n) (by rw [L0.out, L1.out]; have := HZ.out; rw [List.length_append, L0.out, L1.out] at this; omega))
      go_wp2_with fail
      exact bodyPost_ret (v := .agg #[.int .i64 8, .int .i64 0]) (by simp [results, Try.results15, go_sem, hr0, hr1]) rfl ⟨by rw [HT.out], HFin.out _ _⟩
    · obtain ⟨j, hj⟩ : ∃ j : Nat, n = (j : Int) := ⟨n.toNat, by omega⟩
      subst hj
      obtain ⟨t, ht⟩ : ∃ t, (f.args ++ f.locs)[j]? = some t := ⟨(f.args ++ f.locs)[j]'(by rw [HZ.out]; omega), List.getElem?_eq_getElem _⟩
      have HT := Lib.hid (locB_get rfl ht)
      obtain ⟨a, cs, rfl, hab, hc, hr⟩ := HS.out.at ht
      obtain ⟨rfl, -, -⟩ := hr
      have k0 := hc 0 _ rfl
      rw [show j * typL.k + 0 = j * 2 from rfl] at k0
      have k1 := hc 1 _ rfl
      rw [show j * typL.k + 1 = j * 2 + 1 from rfl, next_cell a (j * 2) 1 (by omega)] at k1
      have j1 : (j : Int) < (z : Int) := by omega
      clear hc ht hneg hout
      go_wp2_with fail
      exact bodyPost_ret (v := .agg #[.int .i64 t.1, .int .i64 t.2]) (by simp [results, Try.results15, go_sem, hr0, hr1]) rfl ⟨by rw [HT.out], HFin.out _ _⟩
end Go.Proofs.Ytlfcglolehmmiaa
namespace Go.Proofs.Ytlfcglolehmmiaa
open Go.RowKit

set_option maxHeartbeats 1000000 in
theorem refVar_any (v : Nat) : ∀ (w : World), v < B64 →
    Calls Try.prog 49 #[.int .u64 (v : Nat)] w fun e w' => ∃ u, e = .returned u ∧ w'.ownsRow w.heap.size 5 1 u (vb v).length (Bs (vb v)) ∧ Below w.heap.size w w' := by
  induction v using Nat.strongRecOn with
  | _ v ih =>
    intro w hv
    by_cases hlt : v < 128
    · have h1 : decide ((v : Int) < 128) = true := by simp; omega
      clear ih
      go_enter Try.func49, Try.ntmps49
      go_wp2
      go_ret
      refine ⟨_, rfl, ?_, (Below.refl _ w).alloc (Nat.le_refl _) _⟩
      rw [vb_small v hlt]
      exact own_one w _ v rfl
    · have h1 : decide ((v : Int) < 128) = false := by simp; omega
      have IH := Lib.hid (fun w' => ih (v / 128) (by omega) w' (by omega))
      have HV := Lib.hid hv
      clear ih hv
      go_enter Try.func49, Try.ntmps49
      go_wp2_with fail
      have e1 : IntKind.u64.wrap ((v : Int) / 128) = ((v / 128 : Nat) : Int) := by have := HV.out; unfold B64 at this; rw [IntKind.wrap_u64]; omega
      rw [e1]
      clear e1
      refine (IH.out _).mono ?_
      rintro e w2 ⟨u, rfl, hown, hbel⟩
      obtain ⟨A, c, rfl, hl, hlc, hcm, hB⟩ := own_slice hown
      have hlen : (vb (v / 128)).length ≤ 10 := vb_len 9 _ (by have := HV.out; unfold B64 at this; omega)
      have HB := Lib.hid hB
      have hsz := hbel.size
      have HO := Lib.hid (own_below (own_one w (128 + (v : Int) % 128) (v % 128 + 128) (by omega)) hbel (Nat.le_refl _))
      simp at hsz
      clear hown hl hB
      go_wp2_with (at_builtin
                   refine walk_append _ rfl (.tmp 12) (.tmp 15) rfl w.heap.size (.slice (some ⟨w.heap.size, 0, none⟩) 1 1) 1 [v % 128 + 128] rfl HO.out A _ c (vb (v / 128)) rfl rfl _ HB.out (by omega) (by omega) ?_
                   intro v1 w1 hown1 hg1 _)
      go_ret
      refine ⟨v1, rfl, ?_, ?_⟩
      · rw [vb_big v hlt]
        have e : (vb (v / 128)).length + 1 = 1 + (vb (v / 128)).length := by omega
        rw [List.length_cons, e]
        exact hown1
      · refine (((Below.refl _ w).alloc (Nat.le_refl _) _).trans (hbel.mono (by simp))).grown hg1 (by omega) (fun k hk => ?_)
        simp [Value.ownBlock] at hk
        omega

theorem nat_u64 (a : Int) (h : (Lit.int .u64 a).wf = true) : ∃ v : Nat, a = (v : Int) ∧ v < B64 := by
  obtain ⟨h1, h2⟩ := bounds_u64 h
  exact ⟨a.toNat, by omega, by unfold B64; omega⟩

theorem nat_u8 (a : Int) (h : (Lit.int .u8 a).wf = true) : ∃ v : Nat, a = (v : Int) ∧ v < 256 := by
  obtain ⟨h1, h2⟩ := bounds_u8 h
  exact ⟨a.toNat, by omega, by omega⟩
end Go.Proofs.Ytlfcglolehmmiaa
namespace Go.Proofs.Ytlfcglolehmmiaa
open Go.RowKit
set_option linter.unusedSimpArgs false

theorem rgood (k n r : Int) (w : World) : Calls Try.prog 51 #[.agg #[.int .i64 k, .int .i64 n], .int .i64 r] w fun e w' => e = .returned (.bool (goodB k n r)) ∧ Below w.heap.size w w' := by
  by_cases h1 : k = 1
  · subst h1
    go_enter Try.func51, Try.ntmps51
    go_wp2_with fail
    go_ret
    exact ⟨rfl, (Below.refl _ _).alloc (Nat.le_refl _) _⟩
  by_cases h2 : k = 2
  · subst h2
    go_enter Try.func51, Try.ntmps51
    go_wp2_with fail
    go_ret
    exact ⟨rfl, (Below.refl _ _).alloc (Nat.le_refl _) _⟩
  by_cases h3 : k = 3
  · subst h3
    go_enter Try.func51, Try.ntmps51
    go_wp2_with fail
    go_ret
    exact ⟨rfl, (Below.refl _ _).alloc (Nat.le_refl _) _⟩
  by_cases h7 : k = 7
  · subst h7
    go_enter Try.func51, Try.ntmps51
    go_wp2_with fail
    go_ret
    exact ⟨rfl, (Below.refl _ _).alloc (Nat.le_refl _) _⟩
  by_cases h4 : k = 4
  · subst h4
    by_cases hn : 0 ≤ n
    · have e : goodB 4 n r = decide (n < r) := by simp [goodB, hn]
      rw [e]
      clear e
      go_enter Try.func51, Try.ntmps51
      go_wp2_with fail
      go_ret
      exact ⟨rfl, (Below.refl _ _).alloc (Nat.le_refl _) _⟩
    · have e : goodB 4 n r = false := by simp [goodB, hn]
      rw [e]
      clear e
      go_enter Try.func51, Try.ntmps51
      go_wp2_with fail
      go_ret
      exact ⟨rfl, (Below.refl _ _).alloc (Nat.le_refl _) _⟩
  by_cases h5 : k = 5
  · subst h5
    by_cases hn : 0 ≤ n
    · have e : goodB 5 n r = decide (n < 4) := by simp [goodB, hn]
      rw [e]
      clear e
      go_enter Try.func51, Try.ntmps51
      go_wp2_with fail
      go_ret
      exact ⟨rfl, (Below.refl _ _).alloc (Nat.le_refl _) _⟩
    · have e : goodB 5 n r = false := by simp [goodB, hn]
      rw [e]
      clear e
      go_enter Try.func51, Try.ntmps51
      go_wp2_with fail
      go_ret
      exact ⟨rfl, (Below.refl _ _).alloc (Nat.le_refl _) _⟩
  have e : goodB k n r = false := by simp [goodB, h1, h2, h3, h7, h4, h5]
  rw [e]
  clear e
  go_enter Try.func51, Try.ntmps51
  go_wp2_with fail
  go_ret
  exact ⟨rfl, (Below.refl _ _).alloc (Nat.le_refl _) _⟩
end Go.Proofs.Ytlfcglolehmmiaa
