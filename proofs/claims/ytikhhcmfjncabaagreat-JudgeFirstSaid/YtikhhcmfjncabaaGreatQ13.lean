/-
  Ffn Fcw Flc Fcx
-/
import Derived.Test.YtikhhcmfjncabaaGreatQ08
import Derived.Test.YtikhhcmfjncabaaGreatQ12
import Derived.Deep.RegionHeld3
import Derived.Deep.RegionWith
import Derived.Deep.DeepCutAuto
set_option linter.unusedSimpArgs false
set_option linter.unusedVariables false
namespace Go.Proofs.YtikhhcmfjncabaaGreat
open Go.RowKit

set_option maxRecDepth 100000 in
set_option maxHeartbeats 4000000 in
theorem flow_bad (cs : List Value) (x : Mod) (fi pc : Int) (D : Option Addr) (k g : Nat) (ts : List Typ) (w : World) (h : modL.R (· < w.heap.size) w cs x) (hc : checkN x ≠ 0) : Calls Tryz.prog 23 #[vAgg cs, .int .i64 fi, .int .i64 pc, .slice D k g] w (Flows (flowB x fi pc ts) w) := by
  have TE : Hid (∀ w1, Below w.heap.size w w1 → Calls Tryz.prog 20 #[vAgg cs] w1 (Errs (checkN x) w1)) := fun w1 hb => check_any cs x w1 (mod_at h hb)
  obtain ⟨_, _, _, _, _, rfl, ⟨A0, d0, e0, l0, m0, s0⟩, ⟨A1, d1, e1, l1, m1, s1⟩, ⟨A2, d2, e2, l2, m2, s2⟩, ⟨A3, d3, e3, -⟩, ⟨A4, d4, e4, -⟩⟩ := h
  simp only [List.cons.injEq, and_true] at e0 e1 e2 e3 e4
  subst e0 e1 e2 e3 e4
  obtain ⟨n0, h0⟩ : ∃ n, x.recs.length = n := ⟨_, rfl⟩
  obtain ⟨n1, h1⟩ : ∃ n, x.funcs.length = n := ⟨_, rfl⟩
  obtain ⟨n2, h2⟩ : ∃ n, x.imps.length = n := ⟨_, rfl⟩
  rw [h0, h1, h2] at TE ⊢
  generalize x.ints.length = n3 at *
  generalize x.texts.length = n4 at *
  have TE2 : Hid (∀ w1, Below w.heap.size w w1 → Calls Tryz.prog 20 #[.agg #[.slice A0 n0 d0, .slice A1 n1 d1, .slice A2 n2 d2, .slice A3 n3 d3, .slice A4 n4 d4]] w1 (Errs (checkN x) w1)) := TE.out
  clear TE
  show Calls Tryz.prog 23 #[.agg #[.slice A0 n0 d0, .slice A1 n1 d1, .slice A2 n2 d2, .slice A3 n3 d3, .slice A4 n4 d4], .int .i64 fi, .int .i64 pc, .slice D k g] w (Flows (flowB x fi pc ts) w)
  have HB0 : Hid (∀ o : Obj, Below w.heap.size w (w.alloc o)) := fun o => below_new w o
  have HC0 : Hid (C5 w.heap.size (.slice A0 n0 d0) (.slice A1 n1 d1) (.slice A2 n2 d2) (.slice A3 n3 d3) (.slice A4 n4 d4) (w.alloc (.cells #[.slice A0 n0 d0, .slice A1 n1 d1, .slice A2 n2 d2, .slice A3 n3 d3, .slice A4 n4 d4] 28))) := by show C5 _ _ _ _ _ _ _; simp [C5, go_sem]
  rw [flowB_bad hc]
  have b : (checkN x != 0) = true := by simpa using hc
  generalize checkN x = cn at *
  clear hc s0 s1 s2 h0 h1 h2 l0 l1 l2 m0 m1 m2
  go_enter Tryz.func23, Tryz.ntmps23
  go_wp2_with (first
    | (go_at_call 20
       refine (TE2.out _ (HB0.out _)).mono ?_
       rintro e w1 ⟨rfl, hb1⟩
       have HB1 := Lib.hid ((HB0.out _).trans (hb1.mono (by simp)))
       obtain ⟨x0, x1, x2, x3, x4⟩ := HC0.out.below hb1 (by simp)
       have hs1 : w.heap.size < w1.heap.size := (by have := hb1.size; simp at this; omega)
       clear hb1))
  go_ret3
  exact flows_none HB1.out
set_option maxRecDepth 100000 in
set_option maxHeartbeats 4000000 in
theorem flow_nofn (cs : List Value) (x : Mod) (fi pc : Int) (D : Option Addr) (k g : Nat) (ts : List Typ) (w : World) (h : modL.R (· < w.heap.size) w cs x) (hc : checkN x = 0) (hf : hasB x.funcs.length fi = false) : Calls Tryz.prog 23 #[vAgg cs, .int .i64 fi, .int .i64 pc, .slice D k g] w (Flows (flowB x fi pc ts) w) := by
  have TE : Hid (∀ w1, Below w.heap.size w w1 → Calls Tryz.prog 20 #[vAgg cs] w1 (Errs (checkN x) w1)) := fun w1 hb => check_any cs x w1 (mod_at h hb)
  obtain ⟨_, _, _, _, _, rfl, ⟨A0, d0, e0, l0, m0, s0⟩, ⟨A1, d1, e1, l1, m1, s1⟩, ⟨A2, d2, e2, l2, m2, s2⟩, ⟨A3, d3, e3, -⟩, ⟨A4, d4, e4, -⟩⟩ := h
  simp only [List.cons.injEq, and_true] at e0 e1 e2 e3 e4
  subst e0 e1 e2 e3 e4
  obtain ⟨n0, h0⟩ : ∃ n, x.recs.length = n := ⟨_, rfl⟩
  obtain ⟨n1, h1⟩ : ∃ n, x.funcs.length = n := ⟨_, rfl⟩
  obtain ⟨n2, h2⟩ : ∃ n, x.imps.length = n := ⟨_, rfl⟩
  rw [h0, h1, h2] at TE ⊢
  generalize x.ints.length = n3 at *
  generalize x.texts.length = n4 at *
  have TE2 : Hid (∀ w1, Below w.heap.size w w1 → Calls Tryz.prog 20 #[.agg #[.slice A0 n0 d0, .slice A1 n1 d1, .slice A2 n2 d2, .slice A3 n3 d3, .slice A4 n4 d4]] w1 (Errs (checkN x) w1)) := TE.out
  clear TE
  show Calls Tryz.prog 23 #[.agg #[.slice A0 n0 d0, .slice A1 n1 d1, .slice A2 n2 d2, .slice A3 n3 d3, .slice A4 n4 d4], .int .i64 fi, .int .i64 pc, .slice D k g] w (Flows (flowB x fi pc ts) w)
  have HB0 : Hid (∀ o : Obj, Below w.heap.size w (w.alloc o)) := fun o => below_new w o
  have HC0 : Hid (C5 w.heap.size (.slice A0 n0 d0) (.slice A1 n1 d1) (.slice A2 n2 d2) (.slice A3 n3 d3) (.slice A4 n4 d4) (w.alloc (.cells #[.slice A0 n0 d0, .slice A1 n1 d1, .slice A2 n2 d2, .slice A3 n3 d3, .slice A4 n4 d4] 28))) := by show C5 _ _ _ _ _ _ _; simp [C5, go_sem]
  rw [flowB_nofn hf]
  rw [hc] at TE2
  have HF := Lib.hid (fun v => hasF_any A1 n1 d1 fi v)
  rw [h1] at hf
  rw [hf] at HF
  clear hc hf s0 s1 s2 h0 h1 h2 l0 l1 l2 m0 m1 m2
  go_enter Tryz.func23, Tryz.ntmps23
  go_wp2_with (first
    | (go_at_call 20
       refine (TE2.out _ (HB0.out _)).mono ?_
       rintro e w1 ⟨rfl, hb1⟩
       have HB1 := Lib.hid ((HB0.out _).trans (hb1.mono (by simp)))
       obtain ⟨x0, x1, x2, x3, x4⟩ := HC0.out.below hb1 (by simp)
       have hs1 : w.heap.size < w1.heap.size := (by have := hb1.size; simp at this; omega)
       clear hb1)
    | (go_at_call 42
       refine (HF.out _).mono ?_
       rintro e w2 ⟨rfl, rfl⟩))
  go_ret3
  exact flows_none HB1.out
set_option maxRecDepth 100000 in
set_option maxHeartbeats 4000000 in
theorem flow_nopc (cs : List Value) (x : Mod) (j : Nat) (pc : Int) (D : Option Addr) (k g : Nat) (ts : List Typ) (w : World) (h : modL.R (· < w.heap.size) w cs x) (fn : Fn) (hc : checkN x = 0) (hfn : x.funcs[j]? = some fn) (hp : hasB fn.code.length pc = false) : Calls Tryz.prog 23 #[vAgg cs, .int .i64 (j : Int), .int .i64 pc, .slice D k g] w (Flows (flowB x (j : Int) pc ts) w) := by
  have TE : Hid (∀ w1, Below w.heap.size w w1 → Calls Tryz.prog 20 #[vAgg cs] w1 (Errs (checkN x) w1)) := fun w1 hb => check_any cs x w1 (mod_at h hb)
  obtain ⟨_, _, _, _, _, rfl, ⟨A0, d0, e0, l0, m0, s0⟩, ⟨A1, d1, e1, l1, m1, s1⟩, ⟨A2, d2, e2, l2, m2, s2⟩, ⟨A3, d3, e3, -⟩, ⟨A4, d4, e4, -⟩⟩ := h
  simp only [List.cons.injEq, and_true] at e0 e1 e2 e3 e4
  subst e0 e1 e2 e3 e4
  obtain ⟨n0, h0⟩ : ∃ n, x.recs.length = n := ⟨_, rfl⟩
  obtain ⟨n1, h1⟩ : ∃ n, x.funcs.length = n := ⟨_, rfl⟩
  obtain ⟨n2, h2⟩ : ∃ n, x.imps.length = n := ⟨_, rfl⟩
  rw [h0, h1, h2] at TE ⊢
  generalize x.ints.length = n3 at *
  generalize x.texts.length = n4 at *
  have TE2 : Hid (∀ w1, Below w.heap.size w w1 → Calls Tryz.prog 20 #[.agg #[.slice A0 n0 d0, .slice A1 n1 d1, .slice A2 n2 d2, .slice A3 n3 d3, .slice A4 n4 d4]] w1 (Errs (checkN x) w1)) := TE.out
  clear TE
  show Calls Tryz.prog 23 #[.agg #[.slice A0 n0 d0, .slice A1 n1 d1, .slice A2 n2 d2, .slice A3 n3 d3, .slice A4 n4 d4], .int .i64 (j : Int), .int .i64 pc, .slice D k g] w (Flows (flowB x (j : Int) pc ts) w)
  have HB0 : Hid (∀ o : Obj, Below w.heap.size w (w.alloc o)) := fun o => below_new w o
  have HC0 : Hid (C5 w.heap.size (.slice A0 n0 d0) (.slice A1 n1 d1) (.slice A2 n2 d2) (.slice A3 n3 d3) (.slice A4 n4 d4) (w.alloc (.cells #[.slice A0 n0 d0, .slice A1 n1 d1, .slice A2 n2 d2, .slice A3 n3 d3, .slice A4 n4 d4] 28))) := by show C5 _ _ _ _ _ _ _; simp [C5, go_sem]
  rw [flowB_nopc hfn hp]
  obtain ⟨a, ccs, ea, hab, hcl, hR⟩ := s1.at hfn
  subst ea
  obtain ⟨p0, p1, p2, rfl, hr1, hr2, ⟨P0, c0, e4, f0, f1, t0⟩, ⟨P1, c1, e5, f2, f3, t1⟩, ⟨P2, c2, e6, f4, f5, t2⟩⟩ := hR
  simp only [List.cons.injEq, and_true] at e4 e5 e6
  subst e4 e5 e6
  have HCL : Hid (∀ v, Below w.heap.size w v → v.cell? (a.add (j * 5)) = some (.slice P0 fn.args.length c0) ∧ v.cell? ⟨(a.add (j * 5)).block, (a.add (j * 5)).off + 1, none⟩ = some (.int .i64 fn.ret.1) ∧ v.cell? ⟨(a.add (j * 5)).block, (a.add (j * 5)).off + 2, none⟩ = some (.int .i64 fn.ret.2) ∧ v.cell? ⟨(a.add (j * 5)).block, (a.add (j * 5)).off + 3, none⟩ = some (.slice P1 fn.locs.length c1) ∧ v.cell? ⟨(a.add (j * 5)).block, (a.add (j * 5)).off + 4, none⟩ = some (.slice P2 fn.code.length c2)) := fun v hb => by
    have k0 := (hb.cell (p := a.add (j * 5)) (by rw [addBlock]; exact hab)).trans (hcl 0 _ rfl)
    have k1 := (hb.cell (p := a.add (j * 5 + 1)) (by rw [addBlock]; exact hab)).trans (hcl 1 _ rfl)
    have k2 := (hb.cell (p := a.add (j * 5 + 2)) (by rw [addBlock]; exact hab)).trans (hcl 2 _ rfl)
    have k3 := (hb.cell (p := a.add (j * 5 + 3)) (by rw [addBlock]; exact hab)).trans (hcl 3 _ rfl)
    have k4 := (hb.cell (p := a.add (j * 5 + 4)) (by rw [addBlock]; exact hab)).trans (hcl 4 _ rfl)
    rw [next_cell a (j * 5) 1 (by omega)] at k1
    rw [next_cell a (j * 5) 2 (by omega)] at k2
    rw [next_cell a (j * 5) 3 (by omega)] at k3
    rw [next_cell a (j * 5) 4 (by omega)] at k4
    exact ⟨k0, k1, k2, k3, k4⟩
  have hjn : (j : Int) < (n1 : Int) := by have := (List.getElem?_eq_some_iff.1 hfn).1; omega
  have hn8 : n1 ≤ 8 := by have := (fitB_iff.1 (checkN_fit hc)).f8; omega
  rw [hc] at TE2
  have HF := Lib.hid (fun v => hasF_any (some a) n1 d1 (j : Int) v)
  rw [show hasB n1 (j : Int) = true by simp [hasB]; omega] at HF
  have HI := Lib.hid (fun v => hasI_any P2 fn.code.length c2 pc v)
  rw [hp] at HI
  clear hc hp hcl s0 s1 s2 h0 h1 h2 l0 l1 l2 m0 m1 m2 t0 t1 t2 f0 f1 f2 f3 f4 f5
  generalize fn.args.length = ua at *
  generalize fn.locs.length = ul at *
  generalize fn.code.length = uc at *
  go_enter Tryz.func23, Tryz.ntmps23
  go_wp2_with (first
    | (go_at_call 20
       refine (TE2.out _ (HB0.out _)).mono ?_
       rintro e w1 ⟨rfl, hb1⟩
       have HB1 := Lib.hid ((HB0.out _).trans (hb1.mono (by simp)))
       obtain ⟨x0, x1, x2, x3, x4⟩ := HC0.out.below hb1 (by simp)
       have hs1 : w.heap.size < w1.heap.size := (by have := hb1.size; simp at this; omega)
       obtain ⟨y0, y1, y2, y3, y4⟩ := HCL.out _ HB1.out
       clear hb1)
    | (go_at_call 42
       refine (HF.out _).mono ?_
       rintro e w2 ⟨rfl, rfl⟩)
    | (go_at_call 43
       refine (HI.out _).mono ?_
       rintro e w2 ⟨rfl, rfl⟩))
  go_ret3
  exact flows_none HB1.out
end Go.Proofs.YtikhhcmfjncabaaGreat
namespace Go.Proofs.YtikhhcmfjncabaaGreat
open Go.RowKit

def Chgs (K : Nat) (ins outs : List Typ) (w : World) (e : Ending) (w' : World) : Prop :=
  Below w.heap.size w w' ∧ ∃ A n c B m d, e = .returned (.agg #[.slice A n c, .slice B m d]) ∧ tysL.R (fun b => b < K ∨ w.heap.size ≤ b ∧ b < w'.heap.size) w' [.slice A n c] ins ∧ tysL.R (fun b => b < K ∨ w.heap.size ≤ b ∧ b < w'.heap.size) w' [.slice B m d] outs
theorem blk_drew {w : World} {b t : Nat} {c : Array Value} (h : Blk w b t c) : Blk w.drew b t c := h
theorem lit_sl {S : Nat → Prop} {w : World} {g n : Nat} {cs : Array Value} {ts : List Typ} (h : Blk w g 41 cs) (hg : S g) (hc : cs.toList = T2 ts) (ha : A64 ts) (hn : ts.length = n) (hm : n ≤ 1000) : tysL.R S w [.slice (some ⟨g, 0, none⟩) n n] ts := by
  subst hn
  have e : ∀ i, (⟨g, 0, none⟩ : Addr).add i = ⟨g, i, none⟩ := fun i => by unfold Addr.add; split <;> simp_all
  have hcell : ∀ i u, (T2 ts)[i]? = some u → w.cell? ⟨g, i, none⟩ = some u := fun i u hu => by
    rw [h.cell i, ← hu, ← hc]
    simp
  refine ⟨some ⟨g, 0, none⟩, ts.length, rfl, Nat.le_refl _, by simp only [maxLen]; omega, fun _ => ⟨_, rfl, hg, fun j t ht => ⟨_, fun i u hu => ?_, rfl, ha t (List.mem_of_getElem? ht)⟩⟩⟩
  match i, hu with
  | 0, hu => simp at hu; subst hu; rw [e]; exact hcell (j * 2) _ (T2_get0 ht)
  | 1, hu => simp at hu; subst hu; rw [e]; exact hcell (j * 2 + 1) _ (T2_get1 ht)
  | i + 2, hu => simp at hu
theorem lit_lt {w : World} {g n N K : Nat} {cs : Array Value} {ts : List Typ} (h : Blk w g 41 cs) (hlo : N ≤ g) (hc : cs.toList = T2 ts) (ha : A64 ts) (hn : ts.length = n) (hm : n ≤ 1000) : tysL.R (fun b => b < K ∨ N ≤ b ∧ b < w.heap.size) w [.slice (some ⟨g, 0, none⟩) n n] ts := lit_sl h (.inr ⟨hlo, h.lt⟩) hc ha hn hm
theorem set2_0 {V : World} {R : Nat} {u v x : Value} (h : V.cell? ⟨R, 0, none⟩ = some x) : ((V.setCell ⟨R, 0, none⟩ u).setCell ⟨R, 1, none⟩ v).cell? ⟨R, 0, none⟩ = some u := by simp [go_sem, h]
theorem set2_1 {V : World} {R : Nat} {u v x : Value} (h : V.cell? ⟨R, 1, none⟩ = some x) : ((V.setCell ⟨R, 0, none⟩ u).setCell ⟨R, 1, none⟩ v).cell? ⟨R, 1, none⟩ = some v := by simp [go_sem, h]
theorem res_chg {fn : Func} {s : Nat} (h : fn.results = #[.cell s 86]) (tmps : Array Value) (V : World) {R : Nat} {x y : Value} (hp : tmps.getD s undef = .pointer (some ⟨R, 0, none⟩)) (h0 : V.cell? ⟨R, 0, none⟩ = some x) (h1 : V.cell? ⟨R, 1, none⟩ = some y) : (results fn tmps).run Tryz.prog V = .ok (.agg #[x, y]) V := by
  have hp' : tmps[s]?.getD undef = .pointer (some ⟨R, 0, none⟩) := by simpa using hp
  simp [results, h, hp', go_sem, h0, h1]
theorem chg_thru {K N R N0 : Nat} {w4 : World} {x u v : Value} {ts : List Typ} (h : tysL.R (fun b => b < K ∨ N ≤ b ∧ b < w4.heap.size) w4 [x] ts) (h1 : N0 ≤ N) (hR1 : K ≤ R) (hR2 : R < N) : tysL.R (fun b => b < K ∨ N0 ≤ b ∧ b < ((w4.setCell ⟨R, 0, none⟩ u).setCell ⟨R, 1, none⟩ v).heap.size) ((w4.setCell ⟨R, 0, none⟩ u).setCell ⟨R, 1, none⟩ v) [x] ts := by
  have hsz : w4.heap.size ≤ ((w4.setCell ⟨R, 0, none⟩ u).setCell ⟨R, 1, none⟩ v).heap.size := (below_set2 (Below.refl 0 w4) (Nat.zero_le _)).size
  refine tysL.wide (tysL.keep h fun b hb => ?_) fun b hb => ?_
  · have hne : b ≠ R := by rcases hb with hb | hb <;> omega
    exact (Below.heap_setCell _ ⟨R, 1, none⟩ v b hne).trans (Below.heap_setCell _ ⟨R, 0, none⟩ u b hne)
  · rcases hb with hb | hb
    · exact .inl hb
    · exact .inr ⟨by omega, by omega⟩
theorem i64_small {k : Int} (h : 0 ≤ k) (h' : k ≤ 1000) : I64 k := ⟨by omega, by omega⟩
theorem a64_num {k : Int} {ts : List Typ} (h : 0 ≤ k ∧ k ≤ 1000) (ha : A64 ts) : A64 ((k, 0) :: ts) := fun t ht => by
  rcases List.mem_cons.1 ht with rfl | h1
  · exact ⟨i64_small h.1 h.2, i64_small (by omega) (by omega)⟩
  · exact ha t h1
theorem a64_cons {t : Typ} {ts : List Typ} (h : I64 t.1 ∧ I64 t.2) (ha : A64 ts) : A64 (t :: ts) := fun u hu => by
  rcases List.mem_cons.1 hu with rfl | h1
  · exact h
  · exact ha u h1
end Go.Proofs.YtikhhcmfjncabaaGreat
namespace Go.Proofs.YtikhhcmfjncabaaGreat
open Go.RowKit

theorem locB_neg {f : Fn} {n : Int} (h : n < 0) : locB f n = (8, 0) := by simp [locB, h]
theorem locB_arg {f : Fn} {n : Int} {j : Nat} {t : Typ} (hn : n = (j : Int)) (h : f.args[j]? = some t) : locB f n = t := by
  subst hn
  have hj := (List.getElem?_eq_some_iff.1 h).1
  simp only [locB, Int.toNat_natCast, List.getElem?_append_left hj, h]
  rw [if_neg (by omega)]
  rfl
theorem locB_loc {f : Fn} {n : Int} {j : Nat} {t : Typ} (hn : n - (f.args.length : Int) = (j : Int)) (h : f.locs[j]? = some t) : locB f n = t := by
  have e : n.toNat = f.args.length + j := by omega
  simp only [locB, e]
  rw [if_neg (by omega), List.getElem?_append_right (by omega), Nat.add_sub_cancel_left, h]
  rfl
theorem locB_out {f : Fn} {n : Int} (h : (f.args.length : Int) + (f.locs.length : Int) ≤ n) : locB f n = (8, 0) := by
  simp only [locB]
  rw [if_neg (by omega), List.getElem?_eq_none (by rw [List.length_append]; omega)]
  rfl

set_option maxRecDepth 100000 in
set_option maxHeartbeats 1000000 in
theorem local_any (A0 A1 A2 : Option Addr) (u0 u1 u2 c0 c1 c2 : Nat) (r1 r2 : Int) (f : Fn) (n : Int) (w : World) (h0 : f.args.length = u0) (h1 : f.locs.length = u1) (s0 : Sq typL (· < w.heap.size) w A0 f.args) (s1 : Sq typL (· < w.heap.size) w A1 f.locs)
    (b0 : u0 ≤ 9223372036854775807) (b1 : u1 ≤ 9223372036854775807) (hn : I64 n) : Calls Tryz.prog 80 #[.agg #[.slice A0 u0 c0, .int .i64 r1, .int .i64 r2, .slice A1 u1 c1, .slice A2 u2 c2], .int .i64 n] w (TypIs (locB f n) w) := by
  obtain ⟨hn1, hn2⟩ := hn
  have HP := Lib.hid (fun w => hasT_any A0 u0 c0 n w)
  have HQ := Lib.hid (fun w => hasT_any A1 u1 c1 (n - (u0 : Int)) w)
  by_cases ha : 0 ≤ n ∧ n < (u0 : Int)
  · obtain ⟨j, hj⟩ : ∃ j : Nat, n = (j : Int) := ⟨n.toNat, by omega⟩
    subst hj
    obtain ⟨t, ht⟩ : ∃ t, f.args[j]? = some t := ⟨f.args[j]'(by omega), List.getElem?_eq_getElem _⟩
    have HT := Lib.hid (locB_arg rfl ht)
    obtain ⟨a, cs, rfl, hab, hc, hr⟩ := s0.at ht
    obtain ⟨rfl, -, -⟩ := hr
    have k0 := fun o1 o2 => ((below_new w o1).alloc (by simp) o2).cell (p := a.add (j * 2)) (by rw [addBlock]; exact hab) |>.trans (hc 0 _ rfl)
    have k1 := fun o1 o2 => ((below_new w o1).alloc (by simp) o2).cell (p := a.add (j * 2 + 1)) (by rw [addBlock]; exact hab) |>.trans (hc 1 _ rfl)
    rw [next_cell a (j * 2) 1 (by omega)] at k1
    rw [show hasB u0 (j : Int) = true by simp [hasB]; omega] at HP
    have j1 : (j : Int) < (u0 : Int) := by omega
    clear hc ht s0 s1 h0 h1 HQ
    go_enter Tryz.func80, Tryz.ntmps80
    go_wp2_with (first
      | (go_at_call 109
         refine (HP.out _).mono ?_
         rintro e w1 ⟨rfl, rfl⟩))
    exact bodyPost_ret (v := .agg #[.int .i64 t.1, .int .i64 t.2]) (by simp [results, Tryz.results80, go_sem]) rfl ⟨by rw [HT.out], (below_new _ _).alloc (by simp) _⟩
  · rw [show hasB u0 n = false by simp [hasB]; omega] at HP
    by_cases hb : (u0 : Int) ≤ n
    · by_cases hd : n - (u0 : Int) < (u1 : Int)
      · obtain ⟨j, hj⟩ : ∃ j : Nat, n - (u0 : Int) = (j : Int) := ⟨(n - (u0 : Int)).toNat, by omega⟩
        obtain ⟨t, ht⟩ : ∃ t, f.locs[j]? = some t := ⟨f.locs[j]'(by omega), List.getElem?_eq_getElem _⟩
        have HT := Lib.hid (locB_loc (by rw [h0]; exact hj) ht)
        obtain ⟨a, cs, rfl, hab, hc, hr⟩ := s1.at ht
        obtain ⟨rfl, -, -⟩ := hr
        have k0 := fun o1 o2 => ((below_new w o1).alloc (by simp) o2).cell (p := a.add (j * 2)) (by rw [addBlock]; exact hab) |>.trans (hc 0 _ rfl)
        have k1 := fun o1 o2 => ((below_new w o1).alloc (by simp) o2).cell (p := a.add (j * 2 + 1)) (by rw [addBlock]; exact hab) |>.trans (hc 1 _ rfl)
        rw [next_cell a (j * 2) 1 (by omega)] at k1
        rw [show hasB u1 (n - (u0 : Int)) = true by simp [hasB]; omega] at HQ
        have j1 : (j : Int) < (u1 : Int) := by omega
        rw [hj] at HQ
        clear hc ht s0 s1 h0 h1 ha hd
        go_enter Tryz.func80, Tryz.ntmps80
        go_wp2_with (first
          | (go_at_call 109
             with_reducible refine (HP.out _).mono ?_
             rintro e w1 ⟨rfl, rfl⟩)
          | (go_at_call 109
             refine (HQ.out _).mono ?_
             rintro e w1 ⟨rfl, rfl⟩))
        exact bodyPost_ret (v := .agg #[.int .i64 t.1, .int .i64 t.2]) (by simp [results, Tryz.results80, go_sem]) rfl ⟨by rw [HT.out], (below_new _ _).alloc (by simp) _⟩
      · have HT := Lib.hid (locB_out (f := f) (n := n) (by rw [h0, h1]; omega))
        rw [show hasB u1 (n - (u0 : Int)) = false by simp [hasB]; omega] at HQ
        obtain ⟨z, hz⟩ : ∃ z, n - (u0 : Int) = z := ⟨_, rfl⟩
        have z1 : -9223372036854775808 ≤ z := by omega
        have z2 : z ≤ 9223372036854775807 := by omega
        rw [hz] at HQ
        clear s0 s1 h0 h1 ha hd
        go_enter Tryz.func80, Tryz.ntmps80
        go_wp2_with (first
          | (go_at_call 109
             with_reducible refine (HP.out _).mono ?_
             rintro e w1 ⟨rfl, rfl⟩)
          | (go_at_call 109
             refine (HQ.out _).mono ?_
             rintro e w1 ⟨rfl, rfl⟩))
        exact bodyPost_ret (v := .agg #[.int .i64 8, .int .i64 0]) (by simp [results, Tryz.results80, go_sem]) rfl ⟨by rw [HT.out], (below_new _ _).alloc (by simp) _⟩
    · have HT := Lib.hid (locB_neg (f := f) (n := n) (by omega))
      clear s0 s1 h0 h1 ha
      go_enter Tryz.func80, Tryz.ntmps80
      go_wp2_with (first
        | (go_at_call 109
           refine (HP.out _).mono ?_
           rintro e w1 ⟨rfl, rfl⟩))
      exact bodyPost_ret (v := .agg #[.int .i64 8, .int .i64 0]) (by simp [results, Tryz.results80, go_sem]) rfl ⟨by rw [HT.out], (below_new _ _).alloc (by simp) _⟩
end Go.Proofs.YtikhhcmfjncabaaGreat
namespace Go.Proofs.YtikhhcmfjncabaaGreat
open Go.RowKit

structure Cx (w : World) (A0 A1 A2 A3 A4 P0 P1 P2 D : Option Addr) (n0 n1 n2 n3 n4 d0 d1 d2 d3 d4 ua ul uc c0 c1 c2 k g : Nat) (x : Mod) (f : Fn) (ts : List Typ) : Prop where
  l0 : x.recs.length = n0
  l1 : x.funcs.length = n1
  l2 : x.imps.length = n2
  s0 : Sq tysL (· < w.heap.size) w A0 x.recs
  s1 : Sq fnL (· < w.heap.size) w A1 x.funcs
  s2 : Sq impL (· < w.heap.size) w A2 x.imps
  g0 : f.args.length = ua
  g1 : f.locs.length = ul
  t0 : Sq typL (· < w.heap.size) w P0 f.args
  t1 : Sq typL (· < w.heap.size) w P1 f.locs
  rt : I64 f.ret.1 ∧ I64 f.ret.2
  hk : ts.length = k
  sk : Sq typL (· < w.heap.size) w D ts
  b0 : n0 ≤ 1000
  b1 : n1 ≤ 1000
  b2 : n2 ≤ 1000
  b3 : ua ≤ 1000
  b4 : ul ≤ 1000
  b5 : k ≤ 1000
theorem locB_64 {f : Fn} {n : Int} (h : A64 f.args) (h' : A64 f.locs) : I64 (locB f n).1 ∧ I64 (locB f n).2 := by
  have hd : I64 ((8, 0) : Typ).1 ∧ I64 ((8, 0) : Typ).2 := ⟨i64_small (by omega) (by omega), i64_small (by omega) (by omega)⟩
  unfold locB
  split
  · exact hd
  · cases e : (f.args ++ f.locs)[n.toNat]? with
    | none => exact hd
    | some t => exact (h.app h') t (List.mem_of_getElem? e)
theorem field_n (a b : Int) (v : World) : Sem.run Tryz.prog (Instr.field 41 (Value.agg #[.int .i64 a, .int .i64 b]) 1) v = .ok (.int .i64 b) v := by
  have ht := run_underlying (P := Tryz.prog) (w := v) Tryz.underlying41
  obtain ⟨i0, hi0, hz0, hz1, hz2⟩ := info_parts (show (Tryz.prog.info? 3).map (fun i => (i.zero, i.size, i.bytes)) = some (some (.int .i64 0), 1, 8) by kernel_rfl)
  simp [Instr.field, ht, asAgg, part, sizeOf, typeInfo, hi0, hz1]
theorem topB_64 {s : List Typ} {n : Nat} (h : A64 s) : I64 (topB s n).1 ∧ I64 (topB s n).2 := by
  have hd : I64 ((8, 0) : Typ).1 ∧ I64 ((8, 0) : Typ).2 := ⟨i64_small (by omega) (by omega), i64_small (by omega) (by omega)⟩
  unfold topB
  split
  · cases e : s[s.length - 1 - n]? with
    | none => exact hd
    | some t => exact h t (List.mem_of_getElem? e)
  · exact hd
end Go.Proofs.YtikhhcmfjncabaaGreat
