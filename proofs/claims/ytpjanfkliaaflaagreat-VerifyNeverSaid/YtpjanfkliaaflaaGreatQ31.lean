/-
  Rlc
-/
import Derived.Test.YtpjanfkliaaflaaGreatQ20
import Derived.Deep.RegionHeld3
set_option linter.unusedSimpArgs false
set_option linter.unusedVariables false
namespace Go.Proofs.YtpjanfkliaaflaaGreat
open Go.RowKit

theorem locB_get {f : Fn} {n : Int} {j : Nat} {t : Typ} (hn : n = (j : Int)) (h : (f.args ++ f.locs)[j]? = some t) : locB f n = t := by
  subst hn
  simp only [locB, Int.toNat_natCast, h]
  rw [if_neg (by omega)]
  rfl
def C2 (b : Nat) (x y : Value) (w : World) : Prop := w.cell? ⟨b, 0, none⟩ = some x ∧ w.cell? ⟨b, 3, none⟩ = some y
set_option maxRecDepth 100000 in
set_option maxHeartbeats 2000000 in
theorem rlocal_any (A0 A1 A2 : Option Addr) (u0 u1 u2 c0 c1 c2 : Nat) (r1 r2 : Int) (f : Fn) (n : Int) (w : World) (h0 : f.args.length = u0) (h1 : f.locs.length = u1) (s0 : Sq typL (· < w.heap.size) w A0 f.args) (s1 : Sq typL (· < w.heap.size) w A1 f.locs)
    (b0 : u0 + u1 ≤ 1000000) (hn : I64 n) : Calls Tryz.prog 66 #[.agg #[.slice A0 u0 c0, .int .i64 r1, .int .i64 r2, .slice A1 u1 c1, .slice A2 u2 c2], .int .i64 n] w (TypIs (locB f n) w) := by
  obtain ⟨hn1, hn2⟩ := hn
  have S0 := Lib.hid s0
  have S1 := Lib.hid s1
  have L0 := Lib.hid h0
  have L1 := Lib.hid h1
  have HA := Lib.hid (s0.a64.app s1.a64)
  clear s0 s1 h0 h1
  go_enter Tryz.func66, Tryz.ntmps66
  go_wp2_with fail
  refine wp_world fun W hW => ?_
  have HB : Hid (Below w.heap.size w W) := by show Below _ _ _; rw [hW]; exact (below_new _ _).alloc (by simp) _
  have hz : w.heap.size + 2 ≤ W.heap.size := by rw [hW]; simp
  have HC : Hid (W.cell? ⟨w.heap.size, 0, none⟩ = some (.slice A0 u0 c0) ∧ W.cell? ⟨w.heap.size, 3, none⟩ = some (.slice A1 u1 c1)) := by show _ ∧ _; rw [hW]; simp [go_sem]
  have HR : Hid (Blk W (w.heap.size + 1) 40 #[.int .i64 0, .int .i64 0]) := by show Blk _ _ _ _; rw [hW]; exact blk_at (by simp)
  clear hW
  have HCb : Hid (∀ w', Below W.heap.size W w' → w'.cell? ⟨w.heap.size, 0, none⟩ = some (.slice A0 u0 c0) ∧ w'.cell? ⟨w.heap.size, 3, none⟩ = some (.slice A1 u1 c1)) := fun w' hb => ⟨(hb.cell (p := ⟨w.heap.size, 0, none⟩) (by show w.heap.size < _; omega)).trans HC.out.1, (hb.cell (p := ⟨w.heap.size, 3, none⟩) (by show w.heap.size < _; omega)).trans HC.out.2⟩
  have HOE : Hid ((W.alloc (.cells #[] 40)).drew.ownsRow W.heap.size 40 2 (.slice (some ⟨W.heap.size, 0, none⟩) 0 0) 0 (T2 [])) := own_tys_empty W
  go_region_held3 (fun w' => w'.cell? ⟨w.heap.size, 0, none⟩ = some (.slice A0 u0 c0) ∧ w'.cell? ⟨w.heap.size, 3, none⟩ = some (.slice A1 u1 c1))
    (first | exact SS2.out | exact SS1.out | exact HC.out | exact HCb.out _ (below_new W _).drew | exact HCb.out _ (below_new W _))
    (first
    | (with_reducible refine step_is (.tmp 6) (.tmp 8) 38 ?_
       refine step_append_tys _ rfl (.tmp 6) (.tmp 8) rfl W.heap.size (.slice (some ⟨W.heap.size, 0, none⟩) 0 0) 0 [] rfl HOE.out A0 u0 c0 f.args rfl L0.out _ ((S0.out.below HB.out (Nat.le_refl _)).below (below_new W _).drew (by omega)) (by omega) (by simp) ?_
       intro v1 w1 hown1 hg1 ha1
       have HO1 := Lib.hid hown1
       have HB1 := Lib.hid ((below_new W _).drew.grown hg1 (by simp) (fun i hi => (HOE.out.lt i hi).1))
       have SS1 := Lib.hid (HCb.out _ HB1.out)
       have hs1 := HB1.out.size
       clear hown1 hg1 ha1)
    | (with_reducible refine step_is (.tmp 9) (.tmp 11) 38 ?_
       refine step_append_tys _ rfl (.tmp 9) (.tmp 11) rfl W.heap.size v1 (0 + u0) ([] ++ f.args) rfl HO1.out A1 u1 c1 f.locs rfl L1.out _ ((S1.out.below HB.out (Nat.le_refl _)).below HB1.out (by omega)) (by omega) hs1 ?_
       intro v2 w2 hown2 hg2 ha2
       have HO2 := Lib.hid hown2
       have HB2 := Lib.hid (HB1.out.grown hg2 hs1 (fun i hi => (HO1.out.lt i hi).1))
       have SS2 := Lib.hid (HCb.out _ HB2.out)
       have hs2 := HB2.out.size
       clear hown2 hg2 ha2))
  obtain ⟨A, c, rfl, hl, hlc, hcm, hsq⟩ := own_sq HO2.out (by simpa using HA.out)
  rw [List.nil_append] at hsq
  have HS := Lib.hid hsq
  have HRr : Hid (Blk w2 (w.heap.size + 1) 40 #[.int .i64 0, .int .i64 0]) := blk_below HR.out HB2.out (by omega)
  have hr0 := HRr.out.cell 0
  have hr1 := HRr.out.cell 1
  have hf0 := HRr.out.frozen 0
  have hf1 := HRr.out.frozen 1
  clear hl hsq hcm
  obtain ⟨z, hzz⟩ : ∃ z, 0 + u0 + u1 = z := ⟨_, rfl⟩
  have HZ0 : Hid (u0 + u1 = z) := by show _ = z; omega
  rw [hzz] at *
  have HZ : Hid ((f.args ++ f.locs).length = z) := by show _ = z; rw [List.length_append, L0.out, L1.out, HZ0.out]
  have z0 : z ≤ 1000000 := by have := HZ0.out; omega
  have HFin : Hid (∀ u v, Below w.heap.size w ((w2.setCell ⟨w.heap.size + 1, 0, none⟩ u).setCell ⟨w.heap.size + 1, 1, none⟩ v)) := fun u v => below_set2 (HB.out.trans (HB2.out.mono (by omega))) (by omega)
  by_cases hneg : n < 0
  · have HT := Lib.hid (locB_neg (f := f) hneg)
    go_wp2_with fail
    exact bodyPost_ret (v := .agg #[.int .i64 8, .int .i64 0]) (by simp [results, Tryz.results66, go_sem, hr0, hr1]) rfl ⟨by rw [HT.out], HFin.out _ _⟩
  · by_cases hout : (z : Int) ≤ n
    · have HT := Lib.hid (locB_out (f := f) (n := n) (by rw [L0.out, L1.out]; have := HZ.out; rw [List.length_append, L0.out, L1.out] at this; omega))
      go_wp2_with fail
      exact bodyPost_ret (v := .agg #[.int .i64 8, .int .i64 0]) (by simp [results, Tryz.results66, go_sem, hr0, hr1]) rfl ⟨by rw [HT.out], HFin.out _ _⟩
    · obtain ⟨j, hj⟩ : ∃ j : Nat, n = (j : Int) := ⟨n.toNat, by omega⟩
      subst hj
      obtain ⟨t, ht⟩ : ∃ t, (f.args ++ f.locs)[j]? = some t := ⟨(f.args ++ f.locs)[j]'(by rw [HZ.out]; omega), List.getElem?_eq_getElem _⟩
      have HT := Lib.hid (locB_get rfl ht)
      obtain ⟨a, cs, rfl, hab, hc, hr⟩ := HS.out.at ht
      obtain ⟨rfl, -, -⟩ := hr
      have k0 := hc 0 _ rfl
      rw [show j * typL.k + 0 = j * 2 from rfl] at k0
      have k1 := hc 1 _ rfl
      rw [show j * typL.k + 1 = j * 2 + 1 from rfl, next_cell a (j * 2) 1 (by omega)] at k1
      have j1 : (j : Int) < (z : Int) := by omega
      clear hc ht hneg hout
      go_wp2_with fail
      exact bodyPost_ret (v := .agg #[.int .i64 t.1, .int .i64 t.2]) (by simp [results, Tryz.results66, go_sem, hr0, hr1]) rfl ⟨by rw [HT.out], HFin.out _ _⟩
end Go.Proofs.YtpjanfkliaaflaaGreat
