/-
  Arguments opened: what a module that came in holds. Conditions: none.
  Arguments opened: what a module that came in holds, and that each of its lists is within what a machine reaches. Conditions: none.
  What the document's Var does. Conditions: as each theorem says.
  What the document's own Good does. Conditions: as each theorem says.
  What the document's Type does: the bytes of a type's two numbers. Conditions: the two numbers are of 64 bits.
  What the document's types does: how many types there are, and each, or that one of them is none. Conditions: as the theorem says.
  What inst's Args and the document's do. Conditions: none.
-/
import Derived.Test.YtpgfbnilnoopoaaQ01
import Derived.Test.YtpgfbnilnoopoaaQ02
import Derived.Test.YtpgfbnilnoopoaaQ03
import Derived.Deep.SlicePairs
import Derived.SizedLaws
import Derived.BigQuiet
namespace Go.Proofs.Ytpgfbnilnoopoaa
open Go.ChangeShapes Go.WideShapes Go.ChangeAt Go.RowKit

/-- Cells that are read as a datum of type t hold a thing, as L has it. -/
def Opens {α : Type} (t : TypeId) (L : Lay α) : Prop := ∀ {H : Type} {enc : TypeId × Value → H} {W : World} {cs : List Value} {x : DataW H × List MemPlace} {fuel : Nat}, DataW.trod enc Try.prog W 0 (fun _ => true) true fuel t cs = some x → ∃ y, L.R (· < W.heap.size) W cs y

instance : Inhabited Fn := ⟨⟨[], (0, 0), [], []⟩⟩
instance : Inhabited Imp := ⟨⟨[], (0, 0)⟩⟩
theorem opens_slice {α : Type} [Inhabited α] {t e : TypeId} {L : Lay α} (hk : 0 < L.k) (ht : Try.prog.underlying t = some (.slice e)) (hc : Try.prog.cellsOf e = L.k) (h : Opens e L) : Opens t (slL L) := by
  intro H enc W cs x fuel hf
  rcases Go.Deep.open_slice ht hf with ⟨hcs, _⟩ | ⟨a, l, c, m, n, D, Pl, hcs, _, hl, hm, hmm, _, hx⟩
  · exact ⟨[], none, 0, hcs, Nat.le_refl _, by simp [maxLen], Sq.nil _ _ _ _⟩
  · simp only [if_true] at hmm
    have hall : ∀ i, i < l → ∃ y cs', (∀ j u, cs'[j]? = some u → W.cell? (a.add (i * L.k + j)) = some u) ∧ L.R (· < W.heap.size) W cs' y := fun i hi => by
      obtain ⟨cs', h1, h2⟩ := hx i (by omega)
      rw [hc] at h1
      obtain ⟨_, hlen, hcell⟩ := World.cells?_some h1
      obtain ⟨y, hy⟩ := h h2
      refine ⟨y, cs', fun j u hu => ?_, hy⟩
      have hj : j < cs'.length := (List.getElem?_eq_some_iff.1 hu).1
      have := hcell j (by omega)
      rw [addAdd] at this
      rw [this, hu]
    obtain ⟨f, hf2⟩ := Go.Deep.choose_lt hall
    refine ⟨(List.range l).map f, some a, c, by simpa using hcs, by simpa using hl, hm, fun hpos => ⟨a, rfl, ?_, fun j y hj => ?_⟩⟩
    · simp at hpos
      obtain ⟨cs', h1, h2⟩ := hf2 0 hpos
      have hlen := L.len h2
      have := World.block_lt_of_cell? W _ (h1 0 (cs'[0]'(by omega)) (List.getElem?_eq_getElem _))
      rwa [addBlock] at this
    · have hjl : j < l := by
        have := (List.getElem?_eq_some_iff.1 hj).1
        simpa using this
      have e : f j = y := by simpa [hjl] using hj
      obtain ⟨cs', h1, h2⟩ := hf2 j hjl
      exact ⟨cs', h1, e ▸ h2⟩

theorem i64_of {n : Int} (h : (Lit.int .i64 n).wf = true) : I64 n := by
  have hmin : IntKind.i64.min = -9223372036854775808 := rfl
  have hmax : IntKind.i64.max = 9223372036854775807 := rfl
  simp only [Lit.wf, Bool.and_eq_true, decide_eq_true_eq] at h
  unfold I64
  omega

set_option maxRecDepth 100000 in
theorem opens_typ : Opens 34 typL := by
  intro H enc W cs x fuel hf
  obtain ⟨xs, k, hk, hxy, hl, hxl, hfl⟩ := DataW.trod_struct Try.underlying34 hf
  rw [show Try.prog.cellsOf 34 = 2 by kernel_rfl] at hl
  match xs, hxl, cs, hl with
  | [y0, y1], _, [v0, v1], _ =>
    have g0 := hfl 0 _ rfl
    have g1 := hfl 1 _ rfl
    simp [show Try.prog.cellsOf 3 = 1 by kernel_rfl] at g0 g1
    obtain ⟨z0, e0, _, w0⟩ := DataW.trod_int Try.underlying3 g0
    obtain ⟨z1, e1, _, w1⟩ := DataW.trod_int Try.underlying3 g1
    simp at e0 e1
    subst e0 e1
    exact ⟨(z0, z1), rfl, i64_of w0, i64_of w1⟩
set_option maxRecDepth 100000 in
theorem opens_ins : Opens 44 insL := by
  intro H enc W cs x fuel hf
  obtain ⟨xs, k, hk, hxy, hl, hxl, hfl⟩ := DataW.trod_struct Try.underlying44 hf
  rw [show Try.prog.cellsOf 44 = 3 by kernel_rfl] at hl
  match xs, hxl, cs, hl with
  | [y0, y1, y2], _, [v0, v1, v2], _ =>
    have g0 := hfl 0 _ rfl
    have g1 := hfl 1 _ rfl
    have g2 := hfl 2 _ rfl
    simp [show Try.prog.cellsOf 3 = 1 by kernel_rfl] at g0 g1 g2
    obtain ⟨z0, e0, _, w0⟩ := DataW.trod_int Try.underlying3 g0
    obtain ⟨z1, e1, _, w1⟩ := DataW.trod_int Try.underlying3 g1
    obtain ⟨z2, e2, _, w2⟩ := DataW.trod_int Try.underlying3 g2
    simp at e0 e1 e2
    subst e0 e1 e2
    exact ⟨(z0, z1, z2), rfl, i64_of w0, i64_of w1, i64_of w2⟩
theorem opens_num : Opens 40 numL := by
  intro H enc W cs x fuel hf
  obtain ⟨z, rfl, _, hw⟩ := DataW.trod_int Try.underlying40 hf
  have hb := bounds_u64 hw
  exact ⟨z.toNat, by show [Value.int .u64 z] = _; rw [Int.toNat_of_nonneg hb.1], by unfold B64; omega⟩
theorem opens_str : Opens 9 strL := by
  intro H enc W cs x fuel hf
  obtain ⟨s, rfl, _, _⟩ := DataW.trod_string Try.underlying9 hf
  exact ⟨strB s, s, rfl, rfl⟩
theorem opens_tys : Opens 35 tysL := opens_slice (by decide) Try.underlying35 (by kernel_rfl) opens_typ
theorem opens_cod : Opens 36 codL := opens_slice (by decide) Try.underlying36 (by kernel_rfl) opens_ins

set_option maxRecDepth 100000 in
theorem opens_fn : Opens 38 fnL := by
  intro H enc W cs x fuel hf
  obtain ⟨xs, k, hk, hxy, hl, hxl, hfl⟩ := DataW.trod_struct Try.underlying38 hf
  rw [show Try.prog.cellsOf 38 = 5 by kernel_rfl] at hl
  match xs, hxl, cs, hl with
  | [y0, y1, y2, y3], _, [v0, v1, v2, v3, v4], _ =>
    have g0 := hfl 0 _ rfl
    have g1 := hfl 1 _ rfl
    have g2 := hfl 2 _ rfl
    have g3 := hfl 3 _ rfl
    simp [show Try.prog.cellsOf 35 = 1 by kernel_rfl, show Try.prog.cellsOf 34 = 2 by kernel_rfl, show Try.prog.cellsOf 36 = 1 by kernel_rfl] at g0 g1 g2 g3
    obtain ⟨a, ha⟩ := opens_tys g0
    obtain ⟨r, hr, i1, i2⟩ := opens_typ g1
    obtain ⟨l, hl⟩ := opens_tys g2
    obtain ⟨c, hc⟩ := opens_cod g3
    simp at hr
    obtain ⟨rfl, rfl⟩ := hr
    exact ⟨⟨a, r, l, c⟩, v0, v3, v4, rfl, i1, i2, ha, hl, hc⟩
set_option maxRecDepth 100000 in
theorem opens_imp : Opens 42 impL := by
  intro H enc W cs x fuel hf
  obtain ⟨xs, k, hk, hxy, hl, hxl, hfl⟩ := DataW.trod_struct Try.underlying42 hf
  rw [show Try.prog.cellsOf 42 = 3 by kernel_rfl] at hl
  match xs, hxl, cs, hl with
  | [y0, y1], _, [v0, v1, v2], _ =>
    have g0 := hfl 0 _ rfl
    have g1 := hfl 1 _ rfl
    simp [show Try.prog.cellsOf 35 = 1 by kernel_rfl, show Try.prog.cellsOf 34 = 2 by kernel_rfl] at g0 g1
    obtain ⟨a, ha⟩ := opens_tys g0
    obtain ⟨r, hr, i1, i2⟩ := opens_typ g1
    simp at hr
    obtain ⟨rfl, rfl⟩ := hr
    exact ⟨⟨a, r⟩, v0, rfl, i1, i2, ha⟩
set_option maxRecDepth 100000 in
theorem opens_mod : Opens 28 modL := by
  intro H enc W cs x fuel hf
  obtain ⟨xs, k, hk, hxy, hl, hxl, hfl⟩ := DataW.trod_struct Try.underlying28 hf
  rw [show Try.prog.cellsOf 28 = 5 by kernel_rfl] at hl
  match xs, hxl, cs, hl with
  | [y0, y1, y2, y3, y4], _, [v0, v1, v2, v3, v4], _ =>
    have g0 := hfl 0 _ rfl
    have g1 := hfl 1 _ rfl
    have g2 := hfl 2 _ rfl
    have g3 := hfl 3 _ rfl
    have g4 := hfl 4 _ rfl
    simp [show Try.prog.cellsOf 22 = 1 by kernel_rfl, show Try.prog.cellsOf 23 = 1 by kernel_rfl, show Try.prog.cellsOf 24 = 1 by kernel_rfl, show Try.prog.cellsOf 25 = 1 by kernel_rfl, show Try.prog.cellsOf 26 = 1 by kernel_rfl] at g0 g1 g2 g3 g4
    obtain ⟨r, hr⟩ := opens_slice (L := tysL) (by decide) Try.underlying22 (by kernel_rfl) opens_tys g0
    obtain ⟨f, hf⟩ := opens_slice (L := fnL) (by decide) Try.underlying23 (by kernel_rfl) opens_fn g1
    obtain ⟨i, hi⟩ := opens_slice (L := impL) (by decide) Try.underlying24 (by kernel_rfl) opens_imp g2
    obtain ⟨n, hn⟩ := opens_slice (L := numL) (by decide) Try.underlying25 (by kernel_rfl) opens_num g3
    obtain ⟨s, hs⟩ := opens_slice (L := strL) (by decide) Try.underlying26 (by kernel_rfl) opens_str g4
    exact ⟨⟨r, f, i, n, s⟩, v0, v1, v2, v3, v4, rfl, hr, hf, hi, hn, hs⟩

/-- A module that came in. -/
theorem open_mod {H : Type} {enc : TypeId × Value → H} {W : World} {v : Value} {d : DataW H} {p : List MemPlace} (h : DataW.Trod enc Try.prog W 0 (fun _ => true) true 28 v d p) :
    ∃ cs m, v = vAgg cs ∧ modL.R (· < W.heap.size) W cs m := by
  obtain ⟨fuel, hf⟩ := h
  obtain ⟨m, hm⟩ := opens_mod hf
  have hl := modL.len hm
  have hv : v = .agg v.cells := by
    cases v <;> first | rfl | exact absurd hl (by simp [Value.cells, modL])
  refine ⟨v.cells.toList, m, ?_, hm⟩
  rw [vAgg, Array.toArray_toList]
  exact hv
end Go.Proofs.Ytpgfbnilnoopoaa
namespace Go.Proofs.Ytpgfbnilnoopoaa
open Go.ChangeShapes Go.WideShapes Go.ChangeAt Go.RowKit

def OpensZ {α : Type} (t : TypeId) (L : Lay α) (Z : α → Prop) : Prop := ∀ {H : Type} {enc : TypeId × Value → H} {W : World} {cs : List Value} {x : DataW H × List MemPlace} {fuel : Nat}, DataW.trod enc Try.prog W 0 (fun _ => true) true fuel t cs = some x →
  (∀ n ∈ x.1.weights Try.prog t, n ≤ reachBytes) → ∃ y, L.R (· < W.heap.size) W cs y ∧ Z y
/-- A list within reach, of things of which Z holds. -/
def Zl {α : Type} (Z : α → Prop) (xs : List α) : Prop := xs.length ≤ reachBytes ∧ ∀ x ∈ xs, Z x

theorem weightsAll_mem {H : Type} {P : Program} {e : TypeId} : ∀ {ds : List (DataW H)} {d : DataW H}, d ∈ ds → ∀ n ∈ d.weights P e, n ∈ DataW.weightsAll P e ds
  | d0 :: ds, d, hd, n, hn => by
    simp only [DataW.weightsAll, List.mem_append]
    rcases List.mem_cons.1 hd with rfl | h
    · exact .inl hn
    · exact .inr (weightsAll_mem h n hn)

theorem opensZ_slice {α : Type} [Inhabited α] {t e : TypeId} {L : Lay α} {Z : α → Prop} (hk : 0 < L.k) (ht : Try.prog.underlying t = some (.slice e)) (hc : Try.prog.cellsOf e = L.k) (hby : 0 < Try.prog.bytesOf e) (h : OpensZ e L Z) : OpensZ t (slL L) (Zl Z) := by
  intro H enc W cs x fuel hf hwt
  rcases Go.Deep.open_slice ht hf with ⟨hcs, _⟩ | ⟨a, l, c, m, n, D, Pl, hcs, _, hl, hm, hmm, hxx, hx⟩
  · exact ⟨[], ⟨none, 0, hcs, Nat.le_refl _, by simp [maxLen], Sq.nil _ _ _ _⟩, by simp, by simp⟩
  · simp only [if_true] at hmm
    rw [hxx] at hwt
    simp only [DataW.weights, ht] at hwt
    have hlr : l ≤ reachBytes := by
      have h1 := hwt _ (List.mem_cons_self ..)
      simp only [List.length_map, List.length_range] at h1
      have h2 := Nat.mul_le_mul (show l ≤ l + (m - l) by omega) (show 1 ≤ Try.prog.bytesOf e by omega)
      omega
    have hwe : ∀ i, i < l → ∀ n ∈ (D i).weights Try.prog e, n ≤ reachBytes := fun i hi n hn =>
      hwt n (List.mem_cons_of_mem _ (List.mem_append_left _ (weightsAll_mem (List.mem_map.2 ⟨i, List.mem_range.2 hi, rfl⟩) n hn)))
    have hall : ∀ i, i < l → ∃ y cs', (∀ j u, cs'[j]? = some u → W.cell? (a.add (i * L.k + j)) = some u) ∧ L.R (· < W.heap.size) W cs' y ∧ Z y := fun i hi => by
      obtain ⟨cs', h1, h2⟩ := hx i (by omega)
      rw [hc] at h1
      obtain ⟨_, hlen, hcell⟩ := World.cells?_some h1
      obtain ⟨y, hy⟩ := h h2 (hwe i hi)
      refine ⟨y, cs', fun j u hu => ?_, hy⟩
      have hj : j < cs'.length := (List.getElem?_eq_some_iff.1 hu).1
      have := hcell j (by omega)
      rw [addAdd] at this
      rw [this, hu]
    obtain ⟨f, hf2⟩ := Go.Deep.choose_lt hall
    refine ⟨(List.range l).map f, ⟨some a, c, by simpa using hcs, by simpa using hl, hm, fun hpos => ⟨a, rfl, ?_, fun j y hj => ?_⟩⟩, by simpa using hlr, fun y hy => ?_⟩
    · simp at hpos
      obtain ⟨cs', h1, h2, _⟩ := hf2 0 hpos
      have hlen := L.len h2
      have := World.block_lt_of_cell? W _ (h1 0 (cs'[0]'(by omega)) (List.getElem?_eq_getElem _))
      rwa [addBlock] at this
    · have hjl : j < l := by
        have := (List.getElem?_eq_some_iff.1 hj).1
        simpa using this
      have e : f j = y := by simpa [hjl] using hj
      obtain ⟨cs', h1, h2, _⟩ := hf2 j hjl
      exact ⟨cs', h1, e ▸ h2⟩
    · obtain ⟨i, hi, rfl⟩ := List.mem_map.1 hy
      obtain ⟨_, _, _, h3⟩ := hf2 i (List.mem_range.1 hi)
      exact h3

theorem OpensZ.of {α : Type} {t : TypeId} {L : Lay α} (h : Opens t L) : OpensZ t L (fun _ => True) := fun hf _ => by
  obtain ⟨y, hy⟩ := h hf
  exact ⟨y, hy, trivial⟩
theorem opensZ_str : OpensZ 9 strL (fun s => s.length ≤ reachBytes) := by
  intro H enc W cs x fuel hf hwt
  obtain ⟨s, rfl, hx, _⟩ := DataW.trod_string Try.underlying9 hf
  refine ⟨strB s, ⟨s, rfl, rfl⟩, ?_⟩
  have := hwt s.size (by rw [hx]; simp [DataW.weights])
  show (strB s).length ≤ reachBytes
  rw [strB_len]
  exact this
abbrev Zt : List Typ → Prop := Zl fun _ => True
theorem opensZ_tys : OpensZ 35 tysL Zt := opensZ_slice (by decide) Try.underlying35 (by kernel_rfl) (by decide +kernel) (OpensZ.of opens_typ)
theorem opensZ_cod : OpensZ 36 codL (Zl fun _ => True) := opensZ_slice (by decide) Try.underlying36 (by kernel_rfl) (by decide +kernel) (OpensZ.of opens_ins)
def Zf (f : Fn) : Prop := Zt f.args ∧ Zt f.locs ∧ Zl (fun _ => True) f.code
def Zi (f : Imp) : Prop := Zt f.args
def Zm (m : Mod) : Prop := Zl Zt m.recs ∧ Zl Zf m.funcs ∧ Zl Zi m.imps ∧ Zl (fun _ => True) m.ints ∧ Zl (fun s => s.length ≤ reachBytes) m.texts

theorem struct_weights {H : Type} {P : Program} {t : TypeId} {fs : Array Field} {parts : List (DataW H)} (ht : P.underlying t = some (.struct fs)) (h : ∀ n ∈ (DataW.agg parts).weights P t, n ≤ reachBytes) {i : Nat} {f : Field} {d : DataW H} (hf : fs[i]? = some f) (hd : parts[i]? = some d) : ∀ n ∈ d.weights P f.type, n ≤ reachBytes := by
  intro n hn
  refine h n ?_
  simp only [DataW.weights, ht]
  exact DataW.weights_mem_each (by simpa using ⟨f, hf, rfl⟩) hd n hn

set_option maxRecDepth 100000 in
theorem opensZ_fn : OpensZ 38 fnL Zf := by
  intro H enc W cs x fuel hf hwt
  obtain ⟨xs, k, hk, hxy, hl, hxl, hfl⟩ := DataW.trod_struct Try.underlying38 hf
  rw [hxy] at hwt
  have hw := fun i f d => struct_weights (i := i) (f := f) (d := d) Try.underlying38 hwt
  rw [show Try.prog.cellsOf 38 = 5 by kernel_rfl] at hl
  match xs, hxl, cs, hl with
  | [y0, y1, y2, y3], _, [v0, v1, v2, v3, v4], _ =>
    have g0 := hfl 0 _ rfl
    have g1 := hfl 1 _ rfl
    have g2 := hfl 2 _ rfl
    have g3 := hfl 3 _ rfl
    have w0 := hw 0 _ _ rfl rfl
    have w2 := hw 2 _ _ rfl rfl
    have w3 := hw 3 _ _ rfl rfl
    simp [show Try.prog.cellsOf 35 = 1 by kernel_rfl, show Try.prog.cellsOf 34 = 2 by kernel_rfl, show Try.prog.cellsOf 36 = 1 by kernel_rfl] at g0 g1 g2 g3
    obtain ⟨a, ha, za⟩ := opensZ_tys g0 w0
    obtain ⟨r, hr, i1, i2⟩ := opens_typ g1
    obtain ⟨l, hl, zl⟩ := opensZ_tys g2 w2
    obtain ⟨c, hc, zc⟩ := opensZ_cod g3 w3
    simp at hr
    obtain ⟨rfl, rfl⟩ := hr
    exact ⟨⟨a, r, l, c⟩, ⟨v0, v3, v4, rfl, i1, i2, ha, hl, hc⟩, za, zl, zc⟩
set_option maxRecDepth 100000 in
theorem opensZ_imp : OpensZ 42 impL Zi := by
  intro H enc W cs x fuel hf hwt
  obtain ⟨xs, k, hk, hxy, hl, hxl, hfl⟩ := DataW.trod_struct Try.underlying42 hf
  rw [hxy] at hwt
  have hw := fun i f d => struct_weights (i := i) (f := f) (d := d) Try.underlying42 hwt
  rw [show Try.prog.cellsOf 42 = 3 by kernel_rfl] at hl
  match xs, hxl, cs, hl with
  | [y0, y1], _, [v0, v1, v2], _ =>
    have g0 := hfl 0 _ rfl
    have g1 := hfl 1 _ rfl
    have w0 := hw 0 _ _ rfl rfl
    simp [show Try.prog.cellsOf 35 = 1 by kernel_rfl, show Try.prog.cellsOf 34 = 2 by kernel_rfl] at g0 g1
    obtain ⟨a, ha, za⟩ := opensZ_tys g0 w0
    obtain ⟨r, hr, i1, i2⟩ := opens_typ g1
    simp at hr
    obtain ⟨rfl, rfl⟩ := hr
    exact ⟨⟨a, r⟩, ⟨v0, rfl, i1, i2, ha⟩, za⟩
set_option maxRecDepth 100000 in
theorem opensZ_mod : OpensZ 28 modL Zm := by
  intro H enc W cs x fuel hf hwt
  obtain ⟨xs, k, hk, hxy, hl, hxl, hfl⟩ := DataW.trod_struct Try.underlying28 hf
  rw [hxy] at hwt
  have hw := fun i f d => struct_weights (i := i) (f := f) (d := d) Try.underlying28 hwt
  rw [show Try.prog.cellsOf 28 = 5 by kernel_rfl] at hl
  match xs, hxl, cs, hl with
  | [y0, y1, y2, y3, y4], _, [v0, v1, v2, v3, v4], _ =>
    have g0 := hfl 0 _ rfl
    have g1 := hfl 1 _ rfl
    have g2 := hfl 2 _ rfl
    have g3 := hfl 3 _ rfl
    have g4 := hfl 4 _ rfl
    have w0 := hw 0 _ _ rfl rfl
    have w1 := hw 1 _ _ rfl rfl
    have w2 := hw 2 _ _ rfl rfl
    have w3 := hw 3 _ _ rfl rfl
    have w4 := hw 4 _ _ rfl rfl
    simp [show Try.prog.cellsOf 22 = 1 by kernel_rfl, show Try.prog.cellsOf 23 = 1 by kernel_rfl, show Try.prog.cellsOf 24 = 1 by kernel_rfl, show Try.prog.cellsOf 25 = 1 by kernel_rfl, show Try.prog.cellsOf 26 = 1 by kernel_rfl] at g0 g1 g2 g3 g4
    obtain ⟨r, hr, zr⟩ := opensZ_slice (L := tysL) (by decide) Try.underlying22 (by kernel_rfl) (by decide +kernel) opensZ_tys g0 w0
    obtain ⟨f, hf, zf⟩ := opensZ_slice (L := fnL) (by decide) Try.underlying23 (by kernel_rfl) (by decide +kernel) opensZ_fn g1 w1
    obtain ⟨i, hi, zi⟩ := opensZ_slice (L := impL) (by decide) Try.underlying24 (by kernel_rfl) (by decide +kernel) opensZ_imp g2 w2
    obtain ⟨n, hn, zn⟩ := opensZ_slice (L := numL) (by decide) Try.underlying25 (by kernel_rfl) (by decide +kernel) (OpensZ.of opens_num) g3 w3
    obtain ⟨s, hs, zs⟩ := opensZ_slice (L := strL) (by decide) Try.underlying26 (by kernel_rfl) (by decide +kernel) opensZ_str g4 w4
    exact ⟨⟨r, f, i, n, s⟩, ⟨v0, v1, v2, v3, v4, rfl, hr, hf, hi, hn, hs⟩, zr, zf, zi, zn, zs⟩

/-- A module that came in. -/
theorem open_modZ {H : Type} {enc : TypeId × Value → H} {W : World} {v : Value} {d : DataW H} {p : List MemPlace} (h : DataW.Trod enc Try.prog W 0 (fun _ => true) true 28 v d p) (hw : ∀ n ∈ d.weights Try.prog 28, n ≤ reachBytes) :
    ∃ cs m, v = vAgg cs ∧ modL.R (· < W.heap.size) W cs m ∧ Zm m := by
  obtain ⟨fuel, hf⟩ := h
  obtain ⟨m, hm, hz⟩ := opensZ_mod hf hw
  have hl := modL.len hm
  have hv : v = .agg v.cells := by
    cases v <;> first | rfl | exact absurd hl (by simp [Value.cells, modL])
  refine ⟨v.cells.toList, m, ?_, hm, hz⟩
  rw [vAgg, Array.toArray_toList]
  exact hv
end Go.Proofs.Ytpgfbnilnoopoaa
namespace Go.Proofs.Ytpgfbnilnoopoaa
open Go.RowKit

set_option maxHeartbeats 1000000 in
theorem refVar_any (v : Nat) : ∀ (w : World), v < B64 →
    Calls Try.prog 44 #[.int .u64 (v : Nat)] w fun e w' => ∃ u, e = .returned u ∧ w'.ownsRow w.heap.size 5 1 u (vb v).length (Bs (vb v)) ∧ Below w.heap.size w w' := by
  induction v using Nat.strongRecOn with
  | _ v ih =>
    intro w hv
    by_cases hlt : v < 128
    · have h1 : decide ((v : Int) < 128) = true := by simp; omega
      clear ih
      go_enter Try.func44, Try.ntmps44
      go_wp2
      go_ret
      refine ⟨_, rfl, ?_, (Below.refl _ w).alloc (Nat.le_refl _) _⟩
      rw [vb_small v hlt]
      exact own_one w _ v rfl
    · have h1 : decide ((v : Int) < 128) = false := by simp; omega
      have IH := Lib.hid (fun w' => ih (v / 128) (by omega) w' (by omega))
      have HV := Lib.hid hv
      clear ih hv
      go_enter Try.func44, Try.ntmps44
      go_wp2_with fail
      have e1 : IntKind.u64.wrap ((v : Int) / 128) = ((v / 128 : Nat) : Int) := by have := HV.out; unfold B64 at this; rw [IntKind.wrap_u64]; omega
      rw [e1]
      clear e1
      refine (IH.out _).mono ?_
      rintro e w2 ⟨u, rfl, hown, hbel⟩
      obtain ⟨A, c, rfl, hl, hlc, hcm, hB⟩ := own_slice hown
      have hlen : (vb (v / 128)).length ≤ 10 := vb_len 9 _ (by have := HV.out; unfold B64 at this; omega)
      have HB := Lib.hid hB
      have hsz := hbel.size
      have HO := Lib.hid (own_below (own_one w (128 + (v : Int) % 128) (v % 128 + 128) (by omega)) hbel (Nat.le_refl _))
      simp at hsz
      clear hown hl hB
      go_wp2_with (at_builtin
                   refine walk_append _ rfl (.tmp 12) (.tmp 15) rfl w.heap.size (.slice (some ⟨w.heap.size, 0, none⟩) 1 1) 1 [v % 128 + 128] rfl HO.out A _ c (vb (v / 128)) rfl rfl _ HB.out (by omega) (by omega) ?_
                   intro v1 w1 hown1 hg1 _)
      go_ret
      refine ⟨v1, rfl, ?_, ?_⟩
      · rw [vb_big v hlt]
        have e : (vb (v / 128)).length + 1 = 1 + (vb (v / 128)).length := by omega
        rw [List.length_cons, e]
        exact hown1
      · refine (((Below.refl _ w).alloc (Nat.le_refl _) _).trans (hbel.mono (by simp))).grown hg1 (by omega) (fun k hk => ?_)
        simp [Value.ownBlock] at hk
        omega

theorem nat_u64 (a : Int) (h : (Lit.int .u64 a).wf = true) : ∃ v : Nat, a = (v : Int) ∧ v < B64 := by
  obtain ⟨h1, h2⟩ := bounds_u64 h
  exact ⟨a.toNat, by omega, by unfold B64; omega⟩

theorem nat_u8 (a : Int) (h : (Lit.int .u8 a).wf = true) : ∃ v : Nat, a = (v : Int) ∧ v < 256 := by
  obtain ⟨h1, h2⟩ := bounds_u8 h
  exact ⟨a.toNat, by omega, by omega⟩
end Go.Proofs.Ytpgfbnilnoopoaa
namespace Go.Proofs.Ytpgfbnilnoopoaa
open Go.RowKit
set_option linter.unusedSimpArgs false

theorem rgood (k n r : Int) (w : World) : Calls Try.prog 13 #[.agg #[.int .i64 k, .int .i64 n], .int .i64 r] w fun e w' => e = .returned (.bool (goodB k n r)) ∧ Below w.heap.size w w' := by
  by_cases h1 : k = 1
  · subst h1
    go_enter Try.func13, Try.ntmps13
    go_wp2_with fail
    go_ret
    exact ⟨rfl, (Below.refl _ _).alloc (Nat.le_refl _) _⟩
  by_cases h2 : k = 2
  · subst h2
    go_enter Try.func13, Try.ntmps13
    go_wp2_with fail
    go_ret
    exact ⟨rfl, (Below.refl _ _).alloc (Nat.le_refl _) _⟩
  by_cases h3 : k = 3
  · subst h3
    go_enter Try.func13, Try.ntmps13
    go_wp2_with fail
    go_ret
    exact ⟨rfl, (Below.refl _ _).alloc (Nat.le_refl _) _⟩
  by_cases h7 : k = 7
  · subst h7
    go_enter Try.func13, Try.ntmps13
    go_wp2_with fail
    go_ret
    exact ⟨rfl, (Below.refl _ _).alloc (Nat.le_refl _) _⟩
  by_cases h4 : k = 4
  · subst h4
    by_cases hn : 0 ≤ n
    · have e : goodB 4 n r = decide (n < r) := by simp [goodB, hn]
      rw [e]
      clear e
      go_enter Try.func13, Try.ntmps13
      go_wp2_with fail
      go_ret
      exact ⟨rfl, (Below.refl _ _).alloc (Nat.le_refl _) _⟩
    · have e : goodB 4 n r = false := by simp [goodB, hn]
      rw [e]
      clear e
      go_enter Try.func13, Try.ntmps13
      go_wp2_with fail
      go_ret
      exact ⟨rfl, (Below.refl _ _).alloc (Nat.le_refl _) _⟩
  by_cases h5 : k = 5
  · subst h5
    by_cases hn : 0 ≤ n
    · have e : goodB 5 n r = decide (n < 4) := by simp [goodB, hn]
      rw [e]
      clear e
      go_enter Try.func13, Try.ntmps13
      go_wp2_with fail
      go_ret
      exact ⟨rfl, (Below.refl _ _).alloc (Nat.le_refl _) _⟩
    · have e : goodB 5 n r = false := by simp [goodB, hn]
      rw [e]
      clear e
      go_enter Try.func13, Try.ntmps13
      go_wp2_with fail
      go_ret
      exact ⟨rfl, (Below.refl _ _).alloc (Nat.le_refl _) _⟩
  have e : goodB k n r = false := by simp [goodB, h1, h2, h3, h7, h4, h5]
  rw [e]
  clear e
  go_enter Try.func13, Try.ntmps13
  go_wp2_with fail
  go_ret
  exact ⟨rfl, (Below.refl _ _).alloc (Nat.le_refl _) _⟩
end Go.Proofs.Ytpgfbnilnoopoaa
namespace Go.Proofs.Ytpgfbnilnoopoaa
open Go.RowKit
set_option linter.unusedSimpArgs false

set_option maxHeartbeats 1000000 in
theorem rtype (k n : Int) (w : World) (hk : -9223372036854775808 ≤ k ∧ k ≤ 9223372036854775807) (hn : -9223372036854775808 ≤ n ∧ n ≤ 9223372036854775807) :
    Calls Try.prog 46 #[.agg #[.int .i64 k, .int .i64 n]] w fun e w' => ∃ u, e = .returned u ∧ w'.ownsRow w.heap.size 5 1 u (typB k n).length (Bs (typB k n)) ∧ Below w.heap.size w w' := by
  have hl : (vb k.toNat).length + (vb n.toNat).length ≤ 140737488355328 := by
    have := typB_len k n hk.2 hn.2
    simp [typB] at this
    omega
  have hk64 : k.toNat < B64 := by unfold B64; omega
  have hn64 : n.toNat < B64 := by unfold B64; omega
  unfold typB
  by_cases h1 : k < 0
  · rw [show k.toNat = 0 by omega] at hl hk64 ⊢
    by_cases h2 : n < 0
    · rw [show n.toNat = 0 by omega] at hl hn64 ⊢
      go_enter Try.func46, Try.ntmps46
      go_wp2_with fail
      refine wp_world fun W hW => ?_
      have c0 : W.cell? ⟨w.heap.size, 0, none⟩ = some (.int .i64 k) := by rw [hW]; simp [go_sem]
      have c1 : W.cell? ⟨w.heap.size, 1, none⟩ = some (.int .i64 n) := by rw [hW]; simp [go_sem]
      have HB0 : Hid (Below w.heap.size w W) := by
        show Below w.heap.size w W
        rw [hW]
        exact (Below.refl _ _).alloc (Nat.le_refl _) _
      clear hW
      go_quiet (fail)
      generalize hW1 : World.drewN W _ = W1
      have HB0' : Hid (Below w.heap.size w W1) := by
        show Below w.heap.size w W1
        rw [← hW1]
        exact ⟨HB0.out.os, HB0.out.tape, HB0.out.output, HB0.out.size, HB0.out.block⟩
      clear hW1 c0 c1 HB0
      go_wp2_with (first
        | (at_builtin
           refine walk_append _ rfl (.tmp 15) (.tmp 18) rfl W1.heap.size u1 (vb 0).length (vb 0) rfl HO1.out A2 (vb 0).length c2 (vb 0) rfl rfl _ HY2.out hl HS2.out ?_
           intro v3 w3 hown3 hg3 _
           have HO3 := Lib.hid hown3
           have HB3 := Lib.hid (HB2.out.grown hg3 HS2.out (fun i hi => (HO1.out.lt i hi).1))
           clear hown3 hg3)
        | (go_at_call 44
           have hp := HP1.out
           clear hp
           refine (refVar_any 0 _ (by decide)).mono ?_
           rintro e w2 ⟨u2, rfl, hown2, hb2⟩
           obtain ⟨A2, c2, rfl, -, -, -, hY2⟩ := own_slice hown2
           have HY2 := Lib.hid hY2
           have HB2 := Lib.hid (HB1.out.trans (hb2.mono HB1.out.size))
           have HO1 := Lib.hid (own_below HP1.out hb2 (Nat.le_refl _))
           have HS2 := Lib.hid HB2.out.size
           clear hown2 hY2 hb2)
        | (go_at_call 44
           refine (refVar_any 0 _ (by decide)).mono ?_
           rintro e w1 ⟨u1, rfl, hown1, hb1⟩
           have HP1 := Lib.hid hown1
           have HB1 := Lib.hid (hb1.mono (Nat.le_refl W1.heap.size))
           clear hown1 hb1))
      go_ret
      refine ⟨_, rfl, ?_, HB0'.out.trans (HB3.out.mono HB0'.out.size)⟩
      rw [List.length_append]
      exact own_wide HO3.out HB0'.out.size
    · obtain ⟨b, rfl⟩ : ∃ b : Nat, n = (b : Int) := ⟨n.toNat, by omega⟩
      rw [Int.toNat_natCast] at hl hn64 ⊢
      go_enter Try.func46, Try.ntmps46
      go_wp2_with fail
      refine wp_world fun W hW => ?_
      have c0 : W.cell? ⟨w.heap.size, 0, none⟩ = some (.int .i64 k) := by rw [hW]; simp [go_sem]
      have c1 : W.cell? ⟨w.heap.size, 1, none⟩ = some (.int .i64 (b : Int)) := by rw [hW]; simp [go_sem]
      have HB0 : Hid (Below w.heap.size w W) := by
        show Below w.heap.size w W
        rw [hW]
        exact (Below.refl _ _).alloc (Nat.le_refl _) _
      clear hW
      go_quiet (fail)
      generalize hW1 : World.drewN W _ = W1
      have HB0' : Hid (Below w.heap.size w W1) := by
        show Below w.heap.size w W1
        rw [← hW1]
        exact ⟨HB0.out.os, HB0.out.tape, HB0.out.output, HB0.out.size, HB0.out.block⟩
      clear hW1 c0 c1 HB0
      go_wp2_with (first
        | (at_builtin
           refine walk_append _ rfl (.tmp 15) (.tmp 18) rfl W1.heap.size u1 (vb 0).length (vb 0) rfl HO1.out A2 (vb b).length c2 (vb b) rfl rfl _ HY2.out hl HS2.out ?_
           intro v3 w3 hown3 hg3 _
           have HO3 := Lib.hid hown3
           have HB3 := Lib.hid (HB2.out.grown hg3 HS2.out (fun i hi => (HO1.out.lt i hi).1))
           clear hown3 hg3)
        | (go_at_call 44
           have hp := HP1.out
           clear hp
           refine (refVar_any b _ hn64).mono ?_
           rintro e w2 ⟨u2, rfl, hown2, hb2⟩
           obtain ⟨A2, c2, rfl, -, -, -, hY2⟩ := own_slice hown2
           have HY2 := Lib.hid hY2
           have HB2 := Lib.hid (HB1.out.trans (hb2.mono HB1.out.size))
           have HO1 := Lib.hid (own_below HP1.out hb2 (Nat.le_refl _))
           have HS2 := Lib.hid HB2.out.size
           clear hown2 hY2 hb2)
        | (go_at_call 44
           refine (refVar_any 0 _ (by decide)).mono ?_
           rintro e w1 ⟨u1, rfl, hown1, hb1⟩
           have HP1 := Lib.hid hown1
           have HB1 := Lib.hid (hb1.mono (Nat.le_refl W1.heap.size))
           clear hown1 hb1))
      go_ret
      refine ⟨_, rfl, ?_, HB0'.out.trans (HB3.out.mono HB0'.out.size)⟩
      rw [List.length_append]
      exact own_wide HO3.out HB0'.out.size
  · obtain ⟨a, rfl⟩ : ∃ a : Nat, k = (a : Int) := ⟨k.toNat, by omega⟩
    rw [Int.toNat_natCast] at hl hk64 ⊢
    by_cases h2 : n < 0
    · rw [show n.toNat = 0 by omega] at hl hn64 ⊢
      go_enter Try.func46, Try.ntmps46
      go_wp2_with fail
      refine wp_world fun W hW => ?_
      have c0 : W.cell? ⟨w.heap.size, 0, none⟩ = some (.int .i64 (a : Int)) := by rw [hW]; simp [go_sem]
      have c1 : W.cell? ⟨w.heap.size, 1, none⟩ = some (.int .i64 n) := by rw [hW]; simp [go_sem]
      have HB0 : Hid (Below w.heap.size w W) := by
        show Below w.heap.size w W
        rw [hW]
        exact (Below.refl _ _).alloc (Nat.le_refl _) _
      clear hW
      go_quiet (fail)
      generalize hW1 : World.drewN W _ = W1
      have HB0' : Hid (Below w.heap.size w W1) := by
        show Below w.heap.size w W1
        rw [← hW1]
        exact ⟨HB0.out.os, HB0.out.tape, HB0.out.output, HB0.out.size, HB0.out.block⟩
      clear hW1 c0 c1 HB0
      go_wp2_with (first
        | (at_builtin
           refine walk_append _ rfl (.tmp 15) (.tmp 18) rfl W1.heap.size u1 (vb a).length (vb a) rfl HO1.out A2 (vb 0).length c2 (vb 0) rfl rfl _ HY2.out hl HS2.out ?_
           intro v3 w3 hown3 hg3 _
           have HO3 := Lib.hid hown3
           have HB3 := Lib.hid (HB2.out.grown hg3 HS2.out (fun i hi => (HO1.out.lt i hi).1))
           clear hown3 hg3)
        | (go_at_call 44
           have hp := HP1.out
           clear hp
           refine (refVar_any 0 _ (by decide)).mono ?_
           rintro e w2 ⟨u2, rfl, hown2, hb2⟩
           obtain ⟨A2, c2, rfl, -, -, -, hY2⟩ := own_slice hown2
           have HY2 := Lib.hid hY2
           have HB2 := Lib.hid (HB1.out.trans (hb2.mono HB1.out.size))
           have HO1 := Lib.hid (own_below HP1.out hb2 (Nat.le_refl _))
           have HS2 := Lib.hid HB2.out.size
           clear hown2 hY2 hb2)
        | (go_at_call 44
           refine (refVar_any a _ hk64).mono ?_
           rintro e w1 ⟨u1, rfl, hown1, hb1⟩
           have HP1 := Lib.hid hown1
           have HB1 := Lib.hid (hb1.mono (Nat.le_refl W1.heap.size))
           clear hown1 hb1))
      go_ret
      refine ⟨_, rfl, ?_, HB0'.out.trans (HB3.out.mono HB0'.out.size)⟩
      rw [List.length_append]
      exact own_wide HO3.out HB0'.out.size
    · obtain ⟨b, rfl⟩ : ∃ b : Nat, n = (b : Int) := ⟨n.toNat, by omega⟩
      rw [Int.toNat_natCast] at hl hn64 ⊢
      go_enter Try.func46, Try.ntmps46
      go_wp2_with fail
      refine wp_world fun W hW => ?_
      have c0 : W.cell? ⟨w.heap.size, 0, none⟩ = some (.int .i64 (a : Int)) := by rw [hW]; simp [go_sem]
      have c1 : W.cell? ⟨w.heap.size, 1, none⟩ = some (.int .i64 (b : Int)) := by rw [hW]; simp [go_sem]
      have HB0 : Hid (Below w.heap.size w W) := by
        show Below w.heap.size w W
        rw [hW]
        exact (Below.refl _ _).alloc (Nat.le_refl _) _
      clear hW
      go_quiet (fail)
      generalize hW1 : World.drewN W _ = W1
      have HB0' : Hid (Below w.heap.size w W1) := by
        show Below w.heap.size w W1
        rw [← hW1]
        exact ⟨HB0.out.os, HB0.out.tape, HB0.out.output, HB0.out.size, HB0.out.block⟩
      clear hW1 c0 c1 HB0
      go_wp2_with (first
        | (at_builtin
           refine walk_append _ rfl (.tmp 15) (.tmp 18) rfl W1.heap.size u1 (vb a).length (vb a) rfl HO1.out A2 (vb b).length c2 (vb b) rfl rfl _ HY2.out hl HS2.out ?_
           intro v3 w3 hown3 hg3 _
           have HO3 := Lib.hid hown3
           have HB3 := Lib.hid (HB2.out.grown hg3 HS2.out (fun i hi => (HO1.out.lt i hi).1))
           clear hown3 hg3)
        | (go_at_call 44
           have hp := HP1.out
           clear hp
           refine (refVar_any b _ hn64).mono ?_
           rintro e w2 ⟨u2, rfl, hown2, hb2⟩
           obtain ⟨A2, c2, rfl, -, -, -, hY2⟩ := own_slice hown2
           have HY2 := Lib.hid hY2
           have HB2 := Lib.hid (HB1.out.trans (hb2.mono HB1.out.size))
           have HO1 := Lib.hid (own_below HP1.out hb2 (Nat.le_refl _))
           have HS2 := Lib.hid HB2.out.size
           clear hown2 hY2 hb2)
        | (go_at_call 44
           refine (refVar_any a _ hk64).mono ?_
           rintro e w1 ⟨u1, rfl, hown1, hb1⟩
           have HP1 := Lib.hid hown1
           have HB1 := Lib.hid (hb1.mono (Nat.le_refl W1.heap.size))
           clear hown1 hb1))
      go_ret
      refine ⟨_, rfl, ?_, HB0'.out.trans (HB3.out.mono HB0'.out.size)⟩
      rw [List.length_append]
      exact own_wide HO3.out HB0'.out.size
end Go.Proofs.Ytpgfbnilnoopoaa
namespace Go.Proofs.Ytpgfbnilnoopoaa
open Go.RowKit
set_option linter.unusedSimpArgs false
set_option linter.unusedVariables false

/-- What it answers. -/
def Typs (ts : List Typ) (r mo : Int) (w : World) (e : Ending) (w' : World) : Prop :=
  Below w.heap.size w w' ∧ ((ts.all (goodT r) = true ∧ ∃ u, e = .returned (.tuple #[u, .bool (decide ((ts.length : Int) ≤ mo))]) ∧ w'.ownsRow w.heap.size 5 1 u (lB tB ts).length (Bs (lB tB ts))) ∨
    (ts.all (goodT r) = false ∧ e = .returned (.tuple #[.slice none 0 0, .bool false])))

set_option maxRecDepth 100000 in
set_option maxHeartbeats 1000000 in
theorem rtypes_any (A : Option Addr) (n c : Nat) (xs : List Typ) (r mo : Int) (w : World) (hl : xs.length = n) (h : Sq typL (· < w.heap.size) w A xs) (hn2 : n ≤ 3000) (hr : r ≤ 8) :
    Calls Try.prog 45 #[.slice A n c, .int .i64 r, .int .i64 mo] w (Typs xs r mo w) := by
  have HL := Lib.hid hl
  have HS := Lib.hid h
  have HR8 := Lib.hid hr
  clear hl h hr
  have hn3 : n < B64 := by unfold B64; omega
  have hvn : (vb n).length ≤ 10 := vb_len 9 n (by simp; omega)
  have HW : Hid (IntKind.u64.wrap (n : Int) = (n : Int)) := by show IntKind.u64.wrap (n : Int) = _; rw [IntKind.wrap_u64]; omega
  have hw := HW.out
  go_enter Try.func45, Try.ntmps45
  go_wp2_with fail
  refine (refVar_any n w hn3).mono ?_
  rintro e w1 ⟨u1, rfl, hown1, hb1⟩
  have HO1 := Lib.hid hown1
  have HB1 := Lib.hid hb1
  clear hown1 hb1 hw
  go_wp2_with fail
  go_loopw [8, 9] (fun s i wr => ∃ k : Nat, k ≤ n ∧ i = .int .i64 (k : Nat) ∧ (xs.take k).all (goodT r) = true ∧ (∃ q, q = vb n ++ ((xs.take k).map tB).flatten ∧ q.length ≤ 10 + k * 4 ∧ wr.ownsRow w.heap.size 5 1 s q.length (Bs q)) ∧ Below w.heap.size w wr) (fun _ i _ => n - (intOf i).toNat)
  case atStart =>
    exact ⟨0, Nat.zero_le _, rfl, by simp, ⟨_, rfl, by simpa using hvn, by simpa using HO1.out⟩, HB1.out⟩
  case round =>
    obtain ⟨k, hk, rfl, hall, ⟨q, hq, hq2, hown⟩, hbel⟩ := hrel
    have HA := Lib.hid hall
    have HO := Lib.hid hown
    have HB := Lib.hid hbel
    have HQ := Lib.hid hq
    have hs := hbel.size
    clear hown hbel hq hall
    by_cases hlt : k < n
    · obtain ⟨x, hx⟩ : ∃ x, xs[k]? = some x := ⟨xs[k]'(by rw [HL.out]; exact hlt), List.getElem?_eq_getElem _⟩
      have HX := Lib.hid hx
      obtain ⟨a, cs, rfl, hab, hc, hr⟩ := HS.out.at hx
      have HF := Lib.hid (cut_flat tB xs k x hx)
      obtain ⟨rfl, i1, i2⟩ := hr
      have c0 := (HB.out.cell (p := a.add (k * 2)) (by rw [addBlock]; exact hab)).trans (hc 0 _ rfl)
      have c1 := (HB.out.cell (p := a.add (k * 2 + 1)) (by rw [addBlock]; exact hab)).trans (hc 1 _ rfl)
      have HC0 : Hid (∀ w1, Below w.heap.size w w1 → w1.cell? (a.add (k * 2)) = some (.int .i64 x.1) ∧ w1.cell? ⟨(a.add (k * 2)).block, (a.add (k * 2)).off + 1, none⟩ = some (.int .i64 x.2)) := fun w1 hb =>
        ⟨(hb.cell (p := a.add (k * 2)) (by rw [addBlock]; exact hab)).trans (hc 0 _ rfl), by rw [← next_cell a (k * 2) 1 (by omega)]; exact (hb.cell (p := a.add (k * 2 + 1)) (by rw [addBlock]; exact hab)).trans (hc 1 _ rfl)⟩
      rw [next_cell a (k * 2) 1 (by omega)] at c1
      clear hc hx
      go_wp2_with fail
      refine calls_world fun W hW => ?_
      have HBW : Hid (Below w.heap.size w W) := by show Below _ _ _; rw [hW]; first | exact HB.out | exact HB.out.alloc hs _
      have HOW : Hid (W.ownsRow w.heap.size 5 1 u8 q.length (Bs q)) := by show World.ownsRow _ _ _ _ _ _ _; rw [hW]; first | exact HO.out | exact HO.out.alloc _
      have hsW := HBW.out.size
      clear hW
      refine (rgood x.1 x.2 r W).mono ?_
      rintro e w2 ⟨rfl, hb2⟩
      have HB2 := Lib.hid (HBW.out.trans (hb2.mono hsW))
      have HO2 := Lib.hid (own_below HOW.out hb2 (Nat.le_refl _))
      have hs2 := HB2.out.size
      have hg : goodT r x = goodB x.1 x.2 r := rfl
      clear hb2 c0 c1
      cases hgd : goodB x.1 x.2 r
      · have HG : Hid (goodT r x = false) := hgd
        clear hg
        go_wp2_with fail
        go_ret2
        refine ⟨HB2.out, .inr ⟨?_, rfl⟩⟩
        rw [List.all_eq_false]
        exact ⟨x, List.mem_of_getElem? HX.out, by rw [HG.out]; simp⟩
      · have HG : Hid (goodT r x = true) := hgd
        have ht4 := tB_len HR8.out HG.out
        obtain ⟨c0, c1⟩ := HC0.out w2 HB2.out
        clear hg hgd
        go_wp2_with fail
        refine calls_world fun W3 hW3 => ?_
        have HB3 : Hid (Below w.heap.size w W3) := by show Below _ _ _; rw [hW3]; first | exact HB2.out | exact HB2.out.alloc hs2 _
        have HO3 : Hid (W3.ownsRow w.heap.size 5 1 u8 q.length (Bs q)) := by show World.ownsRow _ _ _ _ _ _ _; rw [hW3]; first | exact HO2.out | exact HO2.out.alloc _
        have hs3 := HB3.out.size
        clear hW3 c0 c1
        refine (rtype x.1 x.2 W3 i1 i2).mono ?_
        rintro e w4 ⟨u4, rfl, hown4, hb4⟩
        obtain ⟨A4, c4, rfl, -, -, -, hB4⟩ := own_slice hown4
        have HY4 := Lib.hid hB4
        have HB4 := Lib.hid (HB3.out.trans (hb4.mono hs3))
        have HO4 := Lib.hid (own_below HO3.out hb4 (Nat.le_refl _))
        have hs4 := HB4.out.size
        have ht5 : (typB x.1 x.2).length ≤ 4 := ht4
        clear hown4 hB4 hb4
        obtain ⟨y, hy⟩ : ∃ y, typB x.1 x.2 = y := ⟨_, rfl⟩
        have HYE : Hid (tB x = y) := hy
        rw [hy] at ht5 HY4 ⊢
        clear hy ht4
        go_wp2_with (at_builtin
                     refine walk_append _ rfl (.tmp 27) (.tmp 32) rfl w.heap.size u8 q.length q rfl HO4.out A4 y.length c4 y rfl rfl _ HY4.out (by omega) (by omega) ?_
                     intro v5 w5 hown5 hg5 _
                     have HO5 := Lib.hid hown5
                     have HB5 := Lib.hid (HB4.out.grown hg5 (by omega) (fun i hi => (HO4.out.lt i hi).1))
                     clear hown5 hg5)
        refine ⟨⟨k + 1, by omega, by simp, all_take HA.out HX.out HG.out, ⟨q ++ y, ?_, ?_, ?_⟩, HB5.out⟩, by simp [intOf]; omega⟩
        · rw [HF.out, HQ.out, HYE.out]
          simp [List.append_assoc]
        · simp [List.length_append]
          omega
        · rw [List.length_append]
          exact HO5.out
    · obtain rfl : k = n := by omega
      have e : lB tB xs = q := by
        rw [HQ.out, List.take_of_length_le (by rw [HL.out]; exact Nat.le_refl _), lB, HL.out]
      have ea := HA.out
      rw [List.take_of_length_le (by rw [HL.out]; exact Nat.le_refl _)] at ea
      have HE := Lib.hid e
      have HEA := Lib.hid ea
      clear e ea
      go_wp2_with fail
      go_ret2
      refine ⟨HB.out, .inl ⟨HEA.out, u8, ?_, ?_⟩⟩
      · rw [HL.out]
        rfl
      · rw [HE.out]
        exact HO.out
end Go.Proofs.Ytpgfbnilnoopoaa
namespace Go.Proofs.Ytpgfbnilnoopoaa
open Go.RowKit
set_option linter.unusedSimpArgs false

set_option maxHeartbeats 1000000 in
theorem args_any (op : Int) (w : World) : Calls Try.prog 74 #[.int .i64 op] w fun e w' => e = .returned (.int .i64 (argN op)) ∧ w = w' := by
  by_cases hc : op = 29 ∨ op = 30 ∨ op = 0 ∨ op = 1 ∨ op = 3 ∨ op = 4 ∨ op = 23 ∨ op = 24 ∨ op = 25 ∨ op = 27 ∨ op = 28
  · rcases hc with rfl | rfl | rfl | rfl | rfl | rfl | rfl | rfl | rfl | rfl | rfl
    all_goals
      go_enter Try.func74, Try.ntmps74
      go_wp2_with fail
      go_ret
      exact ⟨rfl, rfl⟩
  · obtain ⟨n29, n30, n0, n1, n3, n4, n23, n24, n25, n27, n28⟩ : op ≠ 29 ∧ op ≠ 30 ∧ op ≠ 0 ∧ op ≠ 1 ∧ op ≠ 3 ∧ op ≠ 4 ∧ op ≠ 23 ∧ op ≠ 24 ∧ op ≠ 25 ∧ op ≠ 27 ∧ op ≠ 28 := by omega
    clear hc
    by_cases hlo : op < 0
    · have e : argN op = -1 := by unfold argN; rw [if_neg (by omega), if_neg (by omega), if_pos (by omega)]
      rw [e]
      clear e
      go_enter Try.func74, Try.ntmps74
      go_wp2_with fail
      go_ret
      exact ⟨rfl, rfl⟩
    by_cases hhi : 42 ≤ op
    · have e : argN op = -1 := by unfold argN; rw [if_neg (by omega), if_neg (by omega), if_pos (by omega)]
      rw [e]
      clear e
      go_enter Try.func74, Try.ntmps74
      go_wp2_with fail
      go_ret
      exact ⟨rfl, rfl⟩
    have e : argN op = 0 := by unfold argN; rw [if_neg (by omega), if_neg (by omega), if_neg (by omega)]
    rw [e]
    clear e
    go_enter Try.func74, Try.ntmps74
    go_wp2_with fail
    go_ret
    exact ⟨rfl, rfl⟩
end Go.Proofs.Ytpgfbnilnoopoaa
