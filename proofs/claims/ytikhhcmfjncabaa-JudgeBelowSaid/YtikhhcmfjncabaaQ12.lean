/-
  Flc Fcx
-/
import Derived.Test.YtikhhcmfjncabaaQ08
import Derived.Test.YtikhhcmfjncabaaQ11
set_option linter.unusedSimpArgs false
set_option linter.unusedVariables false
namespace Go.Proofs.Ytikhhcmfjncabaa
open Go.RowKit

theorem locB_neg {f : Fn} {n : Int} (h : n < 0) : locB f n = (8, 0) := by simp [locB, h]
theorem locB_arg {f : Fn} {n : Int} {j : Nat} {t : Typ} (hn : n = (j : Int)) (h : f.args[j]? = some t) : locB f n = t := by
  subst hn
  have hj := (List.getElem?_eq_some_iff.1 h).1
  simp only [locB, Int.toNat_natCast, List.getElem?_append_left hj, h]
  rw [if_neg (by omega)]
  rfl
theorem locB_loc {f : Fn} {n : Int} {j : Nat} {t : Typ} (hn : n - (f.args.length : Int) = (j : Int)) (h : f.locs[j]? = some t) : locB f n = t := by
  have e : n.toNat = f.args.length + j := by omega
  simp only [locB, e]
  rw [if_neg (by omega), List.getElem?_append_right (by omega), Nat.add_sub_cancel_left, h]
  rfl
theorem locB_out {f : Fn} {n : Int} (h : (f.args.length : Int) + (f.locs.length : Int) ≤ n) : locB f n = (8, 0) := by
  simp only [locB]
  rw [if_neg (by omega), List.getElem?_eq_none (by rw [List.length_append]; omega)]
  rfl

set_option maxRecDepth 100000 in
set_option maxHeartbeats 1000000 in
theorem local_any (A0 A1 A2 : Option Addr) (u0 u1 u2 c0 c1 c2 : Nat) (r1 r2 : Int) (f : Fn) (n : Int) (w : World) (h0 : f.args.length = u0) (h1 : f.locs.length = u1) (s0 : Sq typL (· < w.heap.size) w A0 f.args) (s1 : Sq typL (· < w.heap.size) w A1 f.locs)
    (b0 : u0 ≤ 9223372036854775807) (b1 : u1 ≤ 9223372036854775807) (hn : I64 n) : Calls Try.prog 61 #[.agg #[.slice A0 u0 c0, .int .i64 r1, .int .i64 r2, .slice A1 u1 c1, .slice A2 u2 c2], .int .i64 n] w (TypIs (locB f n) w) := by
  obtain ⟨hn1, hn2⟩ := hn
  have HP := Lib.hid (fun w => hasT_any A0 u0 c0 n w)
  have HQ := Lib.hid (fun w => hasT_any A1 u1 c1 (n - (u0 : Int)) w)
  by_cases ha : 0 ≤ n ∧ n < (u0 : Int)
  · obtain ⟨j, hj⟩ : ∃ j : Nat, n = (j : Int) := ⟨n.toNat, by omega⟩
    subst hj
    obtain ⟨t, ht⟩ : ∃ t, f.args[j]? = some t := ⟨f.args[j]'(by omega), List.getElem?_eq_getElem _⟩
    have HT := Lib.hid (locB_arg rfl ht)
    obtain ⟨a, cs, rfl, hab, hc, hr⟩ := s0.at ht
    obtain ⟨rfl, -, -⟩ := hr
    have k0 := fun o1 o2 => ((below_new w o1).alloc (by simp) o2).cell (p := a.add (j * 2)) (by rw [addBlock]; exact hab) |>.trans (hc 0 _ rfl)
    have k1 := fun o1 o2 => ((below_new w o1).alloc (by simp) o2).cell (p := a.add (j * 2 + 1)) (by rw [addBlock]; exact hab) |>.trans (hc 1 _ rfl)
    rw [next_cell a (j * 2) 1 (by omega)] at k1
    rw [show hasB u0 (j : Int) = true by simp [hasB]; omega] at HP
    have j1 : (j : Int) < (u0 : Int) := by omega
    clear hc ht s0 s1 h0 h1 HQ
    go_enter Try.func61, Try.ntmps61
    go_wp2_with (first
      | (go_at_call 88
         refine (HP.out _).mono ?_
         rintro e w1 ⟨rfl, rfl⟩))
    exact bodyPost_ret (v := .agg #[.int .i64 t.1, .int .i64 t.2]) (by simp [results, Try.results61, go_sem]) rfl ⟨by rw [HT.out], (below_new _ _).alloc (by simp) _⟩
  · rw [show hasB u0 n = false by simp [hasB]; omega] at HP
    by_cases hb : (u0 : Int) ≤ n
    · by_cases hd : n - (u0 : Int) < (u1 : Int)
      · obtain ⟨j, hj⟩ : ∃ j : Nat, n - (u0 : Int) = (j : Int) := ⟨(n - (u0 : Int)).toNat, by omega⟩
        obtain ⟨t, ht⟩ : ∃ t, f.locs[j]? = some t := ⟨f.locs[j]'(by omega), List.getElem?_eq_getElem _⟩
        have HT := Lib.hid (locB_loc (by rw [h0]; exact hj) ht)
        obtain ⟨a, cs, rfl, hab, hc, hr⟩ := s1.at ht
        obtain ⟨rfl, -, -⟩ := hr
        have k0 := fun o1 o2 => ((below_new w o1).alloc (by simp) o2).cell (p := a.add (j * 2)) (by rw [addBlock]; exact hab) |>.trans (hc 0 _ rfl)
        have k1 := fun o1 o2 => ((below_new w o1).alloc (by simp) o2).cell (p := a.add (j * 2 + 1)) (by rw [addBlock]; exact hab) |>.trans (hc 1 _ rfl)
        rw [next_cell a (j * 2) 1 (by omega)] at k1
        rw [show hasB u1 (n - (u0 : Int)) = true by simp [hasB]; omega] at HQ
        have j1 : (j : Int) < (u1 : Int) := by omega
        rw [hj] at HQ
        clear hc ht s0 s1 h0 h1 ha hd
        go_enter Try.func61, Try.ntmps61
        go_wp2_with (first
          | (go_at_call 88
             with_reducible refine (HP.out _).mono ?_
             rintro e w1 ⟨rfl, rfl⟩)
          | (go_at_call 88
             refine (HQ.out _).mono ?_
             rintro e w1 ⟨rfl, rfl⟩))
        exact bodyPost_ret (v := .agg #[.int .i64 t.1, .int .i64 t.2]) (by simp [results, Try.results61, go_sem]) rfl ⟨by rw [HT.out], (below_new _ _).alloc (by simp) _⟩
      · have HT := Lib.hid (locB_out (f := f) (n := n) (by rw [h0, h1]; omega))
        rw [show hasB u1 (n - (u0 : Int)) = false by simp [hasB]; omega] at HQ
        obtain ⟨z, hz⟩ : ∃ z, n - (u0 : Int) = z := ⟨_, rfl⟩
        have z1 : -9223372036854775808 ≤ z := by omega
        have z2 : z ≤ 9223372036854775807 := by omega
        rw [hz] at HQ
        clear s0 s1 h0 h1 ha hd
        go_enter Try.func61, Try.ntmps61
        go_wp2_with (first
          | (go_at_call 88
             with_reducible refine (HP.out _).mono ?_
             rintro e w1 ⟨rfl, rfl⟩)
          | (go_at_call 88
             refine (HQ.out _).mono ?_
             rintro e w1 ⟨rfl, rfl⟩))
        exact bodyPost_ret (v := .agg #[.int .i64 8, .int .i64 0]) (by simp [results, Try.results61, go_sem]) rfl ⟨by rw [HT.out], (below_new _ _).alloc (by simp) _⟩
    · have HT := Lib.hid (locB_neg (f := f) (n := n) (by omega))
      clear s0 s1 h0 h1 ha
      go_enter Try.func61, Try.ntmps61
      go_wp2_with (first
        | (go_at_call 88
           refine (HP.out _).mono ?_
           rintro e w1 ⟨rfl, rfl⟩))
      exact bodyPost_ret (v := .agg #[.int .i64 8, .int .i64 0]) (by simp [results, Try.results61, go_sem]) rfl ⟨by rw [HT.out], (below_new _ _).alloc (by simp) _⟩
end Go.Proofs.Ytikhhcmfjncabaa
namespace Go.Proofs.Ytikhhcmfjncabaa
open Go.RowKit

structure Cx (w : World) (A0 A1 A2 A3 A4 P0 P1 P2 D : Option Addr) (n0 n1 n2 n3 n4 d0 d1 d2 d3 d4 ua ul uc c0 c1 c2 k g : Nat) (x : Mod) (f : Fn) (ts : List Typ) : Prop where
  l0 : x.recs.length = n0
  l1 : x.funcs.length = n1
  l2 : x.imps.length = n2
  s0 : Sq tysL (· < w.heap.size) w A0 x.recs
  s1 : Sq fnL (· < w.heap.size) w A1 x.funcs
  s2 : Sq impL (· < w.heap.size) w A2 x.imps
  g0 : f.args.length = ua
  g1 : f.locs.length = ul
  t0 : Sq typL (· < w.heap.size) w P0 f.args
  t1 : Sq typL (· < w.heap.size) w P1 f.locs
  rt : I64 f.ret.1 ∧ I64 f.ret.2
  hk : ts.length = k
  sk : Sq typL (· < w.heap.size) w D ts
  b0 : n0 ≤ 1000
  b1 : n1 ≤ 1000
  b2 : n2 ≤ 1000
  b3 : ua ≤ 1000
  b4 : ul ≤ 1000
  b5 : k ≤ 1000
theorem locB_64 {f : Fn} {n : Int} (h : A64 f.args) (h' : A64 f.locs) : I64 (locB f n).1 ∧ I64 (locB f n).2 := by
  have hd : I64 ((8, 0) : Typ).1 ∧ I64 ((8, 0) : Typ).2 := ⟨i64_small (by omega) (by omega), i64_small (by omega) (by omega)⟩
  unfold locB
  split
  · exact hd
  · cases e : (f.args ++ f.locs)[n.toNat]? with
    | none => exact hd
    | some t => exact (h.app h') t (List.mem_of_getElem? e)
theorem field_n (a b : Int) (v : World) : Sem.run Try.prog (Instr.field 27 (Value.agg #[.int .i64 a, .int .i64 b]) 1) v = .ok (.int .i64 b) v := by
  have ht := run_underlying (P := Try.prog) (w := v) Try.underlying27
  obtain ⟨i0, hi0, hz0, hz1, hz2⟩ := info_parts (show (Try.prog.info? 3).map (fun i => (i.zero, i.size, i.bytes)) = some (some (.int .i64 0), 1, 8) by kernel_rfl)
  simp [Instr.field, ht, asAgg, part, sizeOf, typeInfo, hi0, hz1]
theorem topB_64 {s : List Typ} {n : Nat} (h : A64 s) : I64 (topB s n).1 ∧ I64 (topB s n).2 := by
  have hd : I64 ((8, 0) : Typ).1 ∧ I64 ((8, 0) : Typ).2 := ⟨i64_small (by omega) (by omega), i64_small (by omega) (by omega)⟩
  unfold topB
  split
  · cases e : s[s.length - 1 - n]? with
    | none => exact hd
    | some t => exact h t (List.mem_of_getElem? e)
  · exact hd
end Go.Proofs.Ytikhhcmfjncabaa
