/-
  Oms Rbl
-/
import Derived.Test.YtikhhcmfjncabaaGreatQ01
import Derived.Test.YtikhhcmfjncabaaGreatQ02
import Derived.Test.YtikhhcmfjncabaaGreatQ03
import Derived.Test.YtikhhcmfjncabaaGreatQ10
import Derived.Test.YtikhhcmfjncabaaGreatQ25
import Derived.Lib.QuietBelow
import Derived.BigQuiet
set_option linter.unusedSimpArgs false
set_option linter.unusedVariables false
namespace Go.Proofs.YtikhhcmfjncabaaGreat
open Go.ChangeShapes Go.WideShapes Go.ChangeAt Go.RowKit

theorem opens_stk : Opens 36 stkL := by
  intro H enc W cs x fuel hf
  obtain ⟨ts, A, c, rfl, h1, h2, h3⟩ := opens_tys hf
  refine ⟨ts, A, c, rfl, h1, h2, ?_, h3⟩
  rintro rfl
  rcases Go.Deep.open_slice Tryz.underlying36 hf with ⟨hcs, _⟩ | ⟨a, l, c, m, n, D, Pl, hcs, _⟩
  · simp at hcs
    exact hcs.2
  · simp at hcs
set_option maxRecDepth 100000 in
theorem opens_shp : Opens 38 shpL := by
  intro H enc W cs x fuel hf
  obtain ⟨xs, k, hk, hxy, hl, hxl, hfl⟩ := DataW.trod_struct Tryz.underlying38 hf
  rw [show Tryz.prog.cellsOf 38 = 2 by kernel_rfl] at hl
  match xs, hxl, cs, hl with
  | [y0, y1], _, [v0, v1], _ =>
    have g0 := hfl 0 _ rfl
    have g1 := hfl 1 _ rfl
    simp [show Tryz.prog.cellsOf 4 = 1 by kernel_rfl, show Tryz.prog.cellsOf 36 = 1 by kernel_rfl] at g0 g1
    obtain ⟨b, e0, _⟩ := DataW.trod_bool Tryz.underlying4 g0
    obtain ⟨s, hs⟩ := opens_stk g1
    simp at e0
    subst e0
    exact ⟨(b, s), v1, rfl, hs⟩
theorem opens_row : Opens 32 rowL := opens_slice (by decide) Tryz.underlying32 (by kernel_rfl) opens_shp
theorem opens_maps : Opens 29 mapsL := opens_slice (by decide) Tryz.underlying29 (by kernel_rfl) opens_row
theorem open_maps {H : Type} {enc : TypeId × Value → H} {W : World} {a : Option Addr} {len cap : Nat} {d : DataW H} {p : List MemPlace} (h : DataW.Trod enc Tryz.prog W 0 (fun _ => true) true 29 (.slice a len cap) d p) :
    ∃ L : List (List Shape), L.length = len ∧ mapsL.R (· < W.heap.size) W [.slice a len cap] L := by
  obtain ⟨fuel, hf⟩ := h
  obtain ⟨L, hL⟩ := opens_maps hf
  have hL' : mapsL.R (· < W.heap.size) W [.slice a len cap] L := by simpa [Value.cells] using hL
  have h2 := hL'
  obtain ⟨A, c, e, -⟩ := h2
  simp at e
  exact ⟨L, e.2.1.symm, hL'⟩
end Go.Proofs.YtikhhcmfjncabaaGreat
namespace Go.Proofs.YtikhhcmfjncabaaGreat
open Go.RowKit

set_option maxRecDepth 100000 in
set_option maxHeartbeats 1000000 in
theorem rbelow_any (A B : Option Addr) (n m c d : Nat) (xs ys : List Typ) (w : World) (hl : xs.length = n) (hm : ys.length = m) (h : Sq typL (· < w.heap.size) w A xs) (h' : Sq typL (· < w.heap.size) w B ys) (hn2 : n ≤ 9223372036854775807) (hm2 : m ≤ 9223372036854775807) :
    Calls Tryz.prog 16 #[.slice A n c, .slice B m d] w (Tells (belowT xs ys) w) := by
  have HL := Lib.hid hl
  have HM := Lib.hid hm
  have HS := Lib.hid h
  have HT := Lib.hid h'
  clear hl hm h h'
  by_cases hnm : n = m
  · subst hnm
    go_enter Tryz.func16, Tryz.ntmps16
    go_wp2_with fail
    go_loopw [5] (fun i wr => ∃ k : Nat, k ≤ n ∧ i = .int .i64 (k : Nat) ∧ belowT (xs.take k) (ys.take k) = true ∧ Below w.heap.size w wr) (fun i _ => n - (intOf i).toNat)
    case atStart => exact ⟨0, Nat.zero_le _, rfl, by simp [belowT], Below.refl _ _⟩
    case round =>
      obtain ⟨k, hk, rfl, heq, hbel⟩ := hrel
      have HE := Lib.hid heq
      have HB := Lib.hid hbel
      have hs := hbel.size
      clear heq hbel
      by_cases hlt : k < n
      · skip
        obtain ⟨x, hx⟩ : ∃ x, xs[k]? = some x := ⟨xs[k]'(by rw [HL.out]; exact hlt), List.getElem?_eq_getElem _⟩
        obtain ⟨y, hy⟩ : ∃ y, ys[k]? = some y := ⟨ys[k]'(by rw [HM.out]; exact hlt), List.getElem?_eq_getElem _⟩
        obtain ⟨a, cs, rfl, hab, hc, hr⟩ := HS.out.at hx
        obtain ⟨b, cs2, rfl, hbb, hc2, hr2⟩ := HT.out.at hy
        have HX := Lib.hid hx
        have HY := Lib.hid hy
        clear hx hy
        obtain ⟨rfl, -, -⟩ := hr
        obtain ⟨rfl, -, -⟩ := hr2
        have z0 := (HB.out.cell (p := a.add (k * 2)) (by rw [addBlock]; exact hab)).trans (hc 0 _ rfl)
        have z1 := (HB.out.cell (p := a.add (k * 2 + 1)) (by rw [addBlock]; exact hab)).trans (hc 1 _ rfl)
        rw [next_cell a (k * 2) 1 (by omega)] at z1
        have y0 := (HB.out.cell (p := b.add (k * 2)) (by rw [addBlock]; exact hbb)).trans (hc2 0 _ rfl)
        have y1 := (HB.out.cell (p := b.add (k * 2 + 1)) (by rw [addBlock]; exact hbb)).trans (hc2 1 _ rfl)
        rw [next_cell b (k * 2) 1 (by omega)] at y1
        have z0r := cell_regrown z0
        have z1r := cell_regrown z1
        have y0r := cell_regrown y0
        have y1r := cell_regrown y1
        have HP : Hid (∀ w1, Calls Tryz.prog 28 #[.agg #[.int .i64 x.1, .int .i64 x.2], .agg #[.int .i64 y.1, .int .i64 y.2]] w1 fun e w' => e = .returned (.bool (subT x y)) ∧ Below w1.heap.size w1 w') := fun w1 => rsub x.1 x.2 y.1 y.2 w1
        have HBR : Hid (∀ dq osq, Below w.heap.size w (Go.Sort.grow (redrawn wr dq) osq)) := fun dq osq => HB.out.trans ((below_regrown wr dq osq).mono HB.out.size)
        have k0' : 0 ≤ (k : Int) := by omega
        have k1' : (k : Int) < (n : Int) := by omega
        clear hc hc2
        cases hg : subT x y
        all_goals
          rw [hg] at HP
          have HG := Lib.hid hg
          clear hg
          go_wp2_with fail
          refine wp_region_quiet_below (by kernel_rfl) (by kernel_rfl) ?_
          repeat (quiet_step (first | with_reducible exact Calls.regrown_of (HP.out _)))
          refine wpQuiet_nil ?_
          intro _ hw'
          obtain ⟨⟨dq, osq⟩, hw''⟩ := hw'
          subst hw''
          have HX2 := Lib.hid (HBR.out dq osq)
          go_wp2_with fail
        · go_ret
          exact ⟨by rw [below_not HX.out HY.out HG.out]; rfl, HX2.out⟩
        · refine ⟨⟨k + 1, by omega, by simp, below_step HE.out HX.out HY.out HG.out, HX2.out⟩, by simp [intOf]; omega⟩
      · obtain rfl : k = n := by omega
        go_wp2_with fail
        go_ret
        refine ⟨?_, HB.out⟩
        have e := HE.out
        rw [List.take_of_length_le (by rw [HL.out]; exact Nat.le_refl _), List.take_of_length_le (by rw [HM.out]; exact Nat.le_refl _)] at e
        rw [e]
        rfl
  · have h1 : ((n : Int) != (m : Int)) = true := by simp; omega
    have h2 : (n != m) = true := by simpa using hnm
    have HNM := Lib.hid hnm
    clear hnm
    go_enter Tryz.func16, Tryz.ntmps16
    go_wp2_with fail
    go_ret
    refine ⟨?_, Below.refl _ _⟩
    rw [below_len_not (fun e => HNM.out (by rw [← HL.out, ← HM.out, e]))]
    rfl
end Go.Proofs.YtikhhcmfjncabaaGreat
