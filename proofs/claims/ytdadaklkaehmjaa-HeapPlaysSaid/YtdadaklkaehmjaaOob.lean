/-
  Arguments opened: objects, slices of them, that each of their parts is within what a machine reaches.
  Conditions: none.
-/
import Derived.Test.YtdadaklkaehmjaaOpz
import Derived.Test.YtdadaklkaehmjaaHo
namespace Go.Proofs.Ytdadaklkaehmjaa
open Go.ChangeShapes Go.WideShapes Go.ChangeAt Go.RowKit
set_option linter.unusedSimpArgs false
set_option linter.unusedVariables false

def octL : Lay Nat where
  k := 1
  R _ _ cs n := cs = [.int .u8 (n : Int)] ∧ n < 256
  len := by rintro S w cs x ⟨rfl, _⟩; rfl
  keep := by rintro S w w' cs x h _; exact h
  wide := by rintro S T w cs x h _; exact h
  one := by rintro S w cs x ⟨rfl, _⟩ u hu; simp at hu; subst hu; rfl
theorem byt_of_oct {S : Nat → Prop} {w : World} {cs : List Value} {xs : List Nat} (h : (slL octL).R S w cs xs) : bytL.R S w cs xs := by
  obtain ⟨A, c, rfl, h1, h2, h3⟩ := h
  refine ⟨A, c, rfl, h1, h2, fun hp => ?_, fun x hx => ?_⟩
  · obtain ⟨a, rfl, hs, hc⟩ := h3 hp
    refine ⟨a, rfl, hs, fun j hj => ?_⟩
    obtain ⟨cs, q1, rfl, q2⟩ := hc j _ (List.getElem?_eq_getElem hj)
    have := one_cell (K := octL.k) rfl (q1 0 _ rfl)
    simpa [hj] using this
  · obtain ⟨j, hj⟩ := List.mem_iff_getElem?.1 hx
    obtain ⟨a, cs, -, -, -, -, q⟩ := h3.at hj
    exact q
theorem opens_oct : Opens 5 octL := by
  intro H enc W cs x fuel hf
  obtain ⟨z, rfl, _, hw⟩ := DataW.trod_int Try.underlying5 hf
  have hb := bounds_u8 hw
  exact ⟨z.toNat, by show [Value.int .u8 z] = _; rw [Int.toNat_of_nonneg hb.1], by omega⟩
abbrev Zn : List Nat → Prop := fun xs => xs.length ≤ reachBytes
theorem opensZ_byt : OpensZ 26 bytL Zn := fun hf hw => by
  obtain ⟨xs, hx, hz⟩ := opensZ_slice (L := octL) (by decide) Try.underlying26 (by kernel_rfl) (by decide +kernel) (OpensZ.of opens_oct) hf hw
  exact ⟨xs, byt_of_oct hx, hz.1⟩
theorem opensZ_wrd : OpensZ 25 wrdL Zn := fun hf hw => by
  obtain ⟨xs, hx, hz⟩ := opensZ_slice (L := numL) (by decide) Try.underlying25 (by kernel_rfl) (by decide +kernel) (OpensZ.of opens_num) hf hw
  exact ⟨xs, hx, hz.1⟩
def Zo (o : Ob) : Prop := o.words.length ≤ reachBytes ∧ o.bytes.length ≤ reachBytes
set_option maxRecDepth 100000 in
theorem opensZ_ob : OpensZ 28 obL Zo := by
  intro H enc W cs x fuel hf hwt
  obtain ⟨xs, k, hk, hxy, hl, hxl, hfl⟩ := DataW.trod_struct Try.underlying28 hf
  rw [hxy] at hwt
  have hw := fun i f d => struct_weights (i := i) (f := f) (d := d) Try.underlying28 hwt
  rw [show Try.prog.cellsOf 28 = 4 by kernel_rfl] at hl
  match xs, hxl, cs, hl with
  | [y0, y1, y2, y3], _, [v0, v1, v2, v3], _ =>
    have g0 := hfl 0 _ rfl
    have g1 := hfl 1 _ rfl
    have g2 := hfl 2 _ rfl
    have g3 := hfl 3 _ rfl
    have w2 := hw 2 _ _ rfl rfl
    have w3 := hw 3 _ _ rfl rfl
    simp [show Try.prog.cellsOf 3 = 1 by kernel_rfl, show Try.prog.cellsOf 25 = 1 by kernel_rfl, show Try.prog.cellsOf 26 = 1 by kernel_rfl] at g0 g1 g2 g3
    obtain ⟨z0, e0, _, b0⟩ := DataW.trod_int Try.underlying3 g0
    obtain ⟨z1, e1, _, b1⟩ := DataW.trod_int Try.underlying3 g1
    simp at e0 e1
    subst e0 e1
    obtain ⟨xs, hx, zx⟩ := opensZ_wrd g2 w2
    obtain ⟨ys, hy, zy⟩ := opensZ_byt g3 w3
    exact ⟨⟨z0, z1, xs, ys⟩, ⟨v2, v3, rfl, i64_of b0, i64_of b1, hx, hy⟩, zx, zy⟩
theorem opensZ_obs : OpensZ 22 (slL obL) (Zl Zo) := opensZ_slice (L := obL) (by decide) Try.underlying22 (by kernel_rfl) (by decide +kernel) opensZ_ob
/-- An object that came in. -/
theorem open_obZ {H : Type} {enc : TypeId × Value → H} {W : World} {v : Value} {d : DataW H} {p : List MemPlace} (h : DataW.Trod enc Try.prog W 0 (fun _ => true) true 28 v d p) (hw : ∀ n ∈ d.weights Try.prog 28, n ≤ reachBytes) :
    ∃ cs o, v = vAgg cs ∧ obL.R (· < W.heap.size) W cs o ∧ Zo o := by
  obtain ⟨fuel, hf⟩ := h
  obtain ⟨o, ho, hz⟩ := opensZ_ob hf hw
  have hl := obL.len ho
  have hv : v = .agg v.cells := by
    cases v <;> first | rfl | exact absurd hl (by simp [Value.cells, obL])
  refine ⟨v.cells.toList, o, ?_, ho, hz⟩
  rw [vAgg, Array.toArray_toList]
  exact hv
/-- A slice of objects that came in. -/
theorem open_obsZ {H : Type} {enc : TypeId × Value → H} {W : World} {a : Option Addr} {len cap : Nat} {d : DataW H} {p : List MemPlace} (h : DataW.Trod enc Try.prog W 0 (fun _ => true) true 22 (.slice a len cap) d p) (hw : ∀ n ∈ d.weights Try.prog 22, n ≤ reachBytes) :
    ∃ O : List Ob, O.length = len ∧ (slL obL).R (· < W.heap.size) W [.slice a len cap] O ∧ Zl Zo O := by
  obtain ⟨fuel, hf⟩ := h
  obtain ⟨L, hL, hz⟩ := opensZ_obs hf hw
  have hL' : (slL obL).R (· < W.heap.size) W [.slice a len cap] L := by simpa [Value.cells] using hL
  have h2 := hL'
  obtain ⟨A, c, e, -⟩ := h2
  simp at e
  exact ⟨L, e.2.1.symm, hL', hz⟩
end Go.Proofs.Ytdadaklkaehmjaa
