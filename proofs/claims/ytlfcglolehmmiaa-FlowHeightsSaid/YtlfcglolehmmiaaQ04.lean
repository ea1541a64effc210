/-
  Arguments opened: what a module that came in holds. Conditions: none.
  Arguments opened: what a module that came in holds, and that each of its lists is within what a machine reaches. Conditions: none.
  Arguments opened: what a slice of types that came in holds. Conditions: none.
  Arguments opened: what a function that came in holds, and that each of its lists is within what a machine reaches; a slice of types that is nil has no room. Conditions: none.
  Modules that hang together, as plain facts: what an instruction names, handles, what a host takes; what Check and Main come to. Conditions: none; nothing here speaks of a program.
  What an instruction does to types, as plain facts: what it takes and puts, where it leads, or why not; and that a stack that does for another one leads where that leads. Conditions: none; nothing here speaks of a program.
-/
import Derived.Test.YtlfcglolehmmiaaQ01
import Derived.Test.YtlfcglolehmmiaaQ03
import Derived.Deep.SlicePairs
import Derived.SizedLaws
namespace Go.Proofs.Ytlfcglolehmmiaa
open Go.ChangeShapes Go.WideShapes Go.ChangeAt Go.RowKit

/-- Cells that are read as a datum of type t hold a thing, as L has it. -/
def Opens {α : Type} (t : TypeId) (L : Lay α) : Prop := ∀ {H : Type} {enc : TypeId × Value → H} {W : World} {cs : List Value} {x : DataW H × List MemPlace} {fuel : Nat}, DataW.trod enc Try.prog W 0 (fun _ => true) true fuel t cs = some x → ∃ y, L.R (· < W.heap.size) W cs y

instance : Inhabited Fn := ⟨⟨[], (0, 0), [], []⟩⟩
instance : Inhabited Imp := ⟨⟨[], (0, 0)⟩⟩
theorem opens_slice {α : Type} [Inhabited α] {t e : TypeId} {L : Lay α} (hk : 0 < L.k) (ht : Try.prog.underlying t = some (.slice e)) (hc : Try.prog.cellsOf e = L.k) (h : Opens e L) : Opens t (slL L) := by
  intro H enc W cs x fuel hf
  rcases Go.Deep.open_slice ht hf with ⟨hcs, _⟩ | ⟨a, l, c, m, n, D, Pl, hcs, _, hl, hm, hmm, _, hx⟩
  · exact ⟨[], none, 0, hcs, Nat.le_refl _, by simp [maxLen], Sq.nil _ _ _ _⟩
  · simp only [if_true] at hmm
    have hall : ∀ i, i < l → ∃ y cs', (∀ j u, cs'[j]? = some u → W.cell? (a.add (i * L.k + j)) = some u) ∧ L.R (· < W.heap.size) W cs' y := fun i hi => by
      obtain ⟨cs', h1, h2⟩ := hx i (by omega)
      rw [hc] at h1
      obtain ⟨_, hlen, hcell⟩ := World.cells?_some h1
      obtain ⟨y, hy⟩ := h h2
      refine ⟨y, cs', fun j u hu => ?_, hy⟩
      have hj : j < cs'.length := (List.getElem?_eq_some_iff.1 hu).1
      have := hcell j (by omega)
      rw [addAdd] at this
      rw [this, hu]
    obtain ⟨f, hf2⟩ := Go.Deep.choose_lt hall
    refine ⟨(List.range l).map f, some a, c, by simpa using hcs, by simpa using hl, hm, fun hpos => ⟨a, rfl, ?_, fun j y hj => ?_⟩⟩
    · simp at hpos
      obtain ⟨cs', h1, h2⟩ := hf2 0 hpos
      have hlen := L.len h2
      have := World.block_lt_of_cell? W _ (h1 0 (cs'[0]'(by omega)) (List.getElem?_eq_getElem _))
      rwa [addBlock] at this
    · have hjl : j < l := by
        have := (List.getElem?_eq_some_iff.1 hj).1
        simpa using this
      have e : f j = y := by simpa [hjl] using hj
      obtain ⟨cs', h1, h2⟩ := hf2 j hjl
      exact ⟨cs', h1, e ▸ h2⟩

theorem i64_of {n : Int} (h : (Lit.int .i64 n).wf = true) : I64 n := by
  have hmin : IntKind.i64.min = -9223372036854775808 := rfl
  have hmax : IntKind.i64.max = 9223372036854775807 := rfl
  simp only [Lit.wf, Bool.and_eq_true, decide_eq_true_eq] at h
  unfold I64
  omega

set_option maxRecDepth 100000 in
theorem opens_typ : Opens 39 typL := by
  intro H enc W cs x fuel hf
  obtain ⟨xs, k, hk, hxy, hl, hxl, hfl⟩ := DataW.trod_struct Try.underlying39 hf
  rw [show Try.prog.cellsOf 39 = 2 by kernel_rfl] at hl
  match xs, hxl, cs, hl with
  | [y0, y1], _, [v0, v1], _ =>
    have g0 := hfl 0 _ rfl
    have g1 := hfl 1 _ rfl
    simp [show Try.prog.cellsOf 3 = 1 by kernel_rfl] at g0 g1
    obtain ⟨z0, e0, _, w0⟩ := DataW.trod_int Try.underlying3 g0
    obtain ⟨z1, e1, _, w1⟩ := DataW.trod_int Try.underlying3 g1
    simp at e0 e1
    subst e0 e1
    exact ⟨(z0, z1), rfl, i64_of w0, i64_of w1⟩
set_option maxRecDepth 100000 in
theorem opens_ins : Opens 50 insL := by
  intro H enc W cs x fuel hf
  obtain ⟨xs, k, hk, hxy, hl, hxl, hfl⟩ := DataW.trod_struct Try.underlying50 hf
  rw [show Try.prog.cellsOf 50 = 3 by kernel_rfl] at hl
  match xs, hxl, cs, hl with
  | [y0, y1, y2], _, [v0, v1, v2], _ =>
    have g0 := hfl 0 _ rfl
    have g1 := hfl 1 _ rfl
    have g2 := hfl 2 _ rfl
    simp [show Try.prog.cellsOf 3 = 1 by kernel_rfl] at g0 g1 g2
    obtain ⟨z0, e0, _, w0⟩ := DataW.trod_int Try.underlying3 g0
    obtain ⟨z1, e1, _, w1⟩ := DataW.trod_int Try.underlying3 g1
    obtain ⟨z2, e2, _, w2⟩ := DataW.trod_int Try.underlying3 g2
    simp at e0 e1 e2
    subst e0 e1 e2
    exact ⟨(z0, z1, z2), rfl, i64_of w0, i64_of w1, i64_of w2⟩
theorem opens_num : Opens 88 numL := by
  intro H enc W cs x fuel hf
  obtain ⟨z, rfl, _, hw⟩ := DataW.trod_int Try.underlying88 hf
  have hb := bounds_u64 hw
  exact ⟨z.toNat, by show [Value.int .u64 z] = _; rw [Int.toNat_of_nonneg hb.1], by unfold B64; omega⟩
theorem opens_str : Opens 9 strL := by
  intro H enc W cs x fuel hf
  obtain ⟨s, rfl, _, _⟩ := DataW.trod_string Try.underlying9 hf
  exact ⟨strB s, s, rfl, rfl⟩
theorem opens_tys : Opens 29 tysL := opens_slice (by decide) Try.underlying29 (by kernel_rfl) opens_typ
theorem opens_cod : Opens 40 codL := opens_slice (by decide) Try.underlying40 (by kernel_rfl) opens_ins

set_option maxRecDepth 100000 in
theorem opens_fn : Opens 42 fnL := by
  intro H enc W cs x fuel hf
  obtain ⟨xs, k, hk, hxy, hl, hxl, hfl⟩ := DataW.trod_struct Try.underlying42 hf
  rw [show Try.prog.cellsOf 42 = 5 by kernel_rfl] at hl
  match xs, hxl, cs, hl with
  | [y0, y1, y2, y3], _, [v0, v1, v2, v3, v4], _ =>
    have g0 := hfl 0 _ rfl
    have g1 := hfl 1 _ rfl
    have g2 := hfl 2 _ rfl
    have g3 := hfl 3 _ rfl
    simp [show Try.prog.cellsOf 29 = 1 by kernel_rfl, show Try.prog.cellsOf 39 = 2 by kernel_rfl, show Try.prog.cellsOf 40 = 1 by kernel_rfl] at g0 g1 g2 g3
    obtain ⟨a, ha⟩ := opens_tys g0
    obtain ⟨r, hr, i1, i2⟩ := opens_typ g1
    obtain ⟨l, hl⟩ := opens_tys g2
    obtain ⟨c, hc⟩ := opens_cod g3
    simp at hr
    obtain ⟨rfl, rfl⟩ := hr
    exact ⟨⟨a, r, l, c⟩, v0, v3, v4, rfl, i1, i2, ha, hl, hc⟩
set_option maxRecDepth 100000 in
theorem opens_imp : Opens 52 impL := by
  intro H enc W cs x fuel hf
  obtain ⟨xs, k, hk, hxy, hl, hxl, hfl⟩ := DataW.trod_struct Try.underlying52 hf
  rw [show Try.prog.cellsOf 52 = 3 by kernel_rfl] at hl
  match xs, hxl, cs, hl with
  | [y0, y1], _, [v0, v1, v2], _ =>
    have g0 := hfl 0 _ rfl
    have g1 := hfl 1 _ rfl
    simp [show Try.prog.cellsOf 29 = 1 by kernel_rfl, show Try.prog.cellsOf 39 = 2 by kernel_rfl] at g0 g1
    obtain ⟨a, ha⟩ := opens_tys g0
    obtain ⟨r, hr, i1, i2⟩ := opens_typ g1
    simp at hr
    obtain ⟨rfl, rfl⟩ := hr
    exact ⟨⟨a, r⟩, v0, rfl, i1, i2, ha⟩
set_option maxRecDepth 100000 in
theorem opens_mod : Opens 28 modL := by
  intro H enc W cs x fuel hf
  obtain ⟨xs, k, hk, hxy, hl, hxl, hfl⟩ := DataW.trod_struct Try.underlying28 hf
  rw [show Try.prog.cellsOf 28 = 5 by kernel_rfl] at hl
  match xs, hxl, cs, hl with
  | [y0, y1, y2, y3, y4], _, [v0, v1, v2, v3, v4], _ =>
    have g0 := hfl 0 _ rfl
    have g1 := hfl 1 _ rfl
    have g2 := hfl 2 _ rfl
    have g3 := hfl 3 _ rfl
    have g4 := hfl 4 _ rfl
    simp [show Try.prog.cellsOf 22 = 1 by kernel_rfl, show Try.prog.cellsOf 23 = 1 by kernel_rfl, show Try.prog.cellsOf 24 = 1 by kernel_rfl, show Try.prog.cellsOf 25 = 1 by kernel_rfl, show Try.prog.cellsOf 26 = 1 by kernel_rfl] at g0 g1 g2 g3 g4
    obtain ⟨r, hr⟩ := opens_slice (L := tysL) (by decide) Try.underlying22 (by kernel_rfl) opens_tys g0
    obtain ⟨f, hf⟩ := opens_slice (L := fnL) (by decide) Try.underlying23 (by kernel_rfl) opens_fn g1
    obtain ⟨i, hi⟩ := opens_slice (L := impL) (by decide) Try.underlying24 (by kernel_rfl) opens_imp g2
    obtain ⟨n, hn⟩ := opens_slice (L := numL) (by decide) Try.underlying25 (by kernel_rfl) opens_num g3
    obtain ⟨s, hs⟩ := opens_slice (L := strL) (by decide) Try.underlying26 (by kernel_rfl) opens_str g4
    exact ⟨⟨r, f, i, n, s⟩, v0, v1, v2, v3, v4, rfl, hr, hf, hi, hn, hs⟩

/-- A module that came in. -/
theorem open_mod {H : Type} {enc : TypeId × Value → H} {W : World} {v : Value} {d : DataW H} {p : List MemPlace} (h : DataW.Trod enc Try.prog W 0 (fun _ => true) true 28 v d p) :
    ∃ cs m, v = vAgg cs ∧ modL.R (· < W.heap.size) W cs m := by
  obtain ⟨fuel, hf⟩ := h
  obtain ⟨m, hm⟩ := opens_mod hf
  have hl := modL.len hm
  have hv : v = .agg v.cells := by
    cases v <;> first | rfl | exact absurd hl (by simp [Value.cells, modL])
  refine ⟨v.cells.toList, m, ?_, hm⟩
  rw [vAgg, Array.toArray_toList]
  exact hv
end Go.Proofs.Ytlfcglolehmmiaa
namespace Go.Proofs.Ytlfcglolehmmiaa
open Go.ChangeShapes Go.WideShapes Go.ChangeAt Go.RowKit

def OpensZ {α : Type} (t : TypeId) (L : Lay α) (Z : α → Prop) : Prop := ∀ {H : Type} {enc : TypeId × Value → H} {W : World} {cs : List Value} {x : DataW H × List MemPlace} {fuel : Nat}, DataW.trod enc Try.prog W 0 (fun _ => true) true fuel t cs = some x →
  (∀ n ∈ x.1.weights Try.prog t, n ≤ reachBytes) → ∃ y, L.R (· < W.heap.size) W cs y ∧ Z y
/-- A list within reach, of things of which Z holds. -/
def Zl {α : Type} (Z : α → Prop) (xs : List α) : Prop := xs.length ≤ reachBytes ∧ ∀ x ∈ xs, Z x

theorem weightsAll_mem {H : Type} {P : Program} {e : TypeId} : ∀ {ds : List (DataW H)} {d : DataW H}, d ∈ ds → ∀ n ∈ d.weights P e, n ∈ DataW.weightsAll P e ds
  | d0 :: ds, d, hd, n, hn => by
    simp only [DataW.weightsAll, List.mem_append]
    rcases List.mem_cons.1 hd with rfl | h
    · exact .inl hn
    · exact .inr (weightsAll_mem h n hn)

theorem opensZ_slice {α : Type} [Inhabited α] {t e : TypeId} {L : Lay α} {Z : α → Prop} (hk : 0 < L.k) (ht : Try.prog.underlying t = some (.slice e)) (hc : Try.prog.cellsOf e = L.k) (hby : 0 < Try.prog.bytesOf e) (h : OpensZ e L Z) : OpensZ t (slL L) (Zl Z) := by
  intro H enc W cs x fuel hf hwt
  rcases Go.Deep.open_slice ht hf with ⟨hcs, _⟩ | ⟨a, l, c, m, n, D, Pl, hcs, _, hl, hm, hmm, hxx, hx⟩
  · exact ⟨[], ⟨none, 0, hcs, Nat.le_refl _, by simp [maxLen], Sq.nil _ _ _ _⟩, by simp, by simp⟩
  · simp only [if_true] at hmm
    rw [hxx] at hwt
    simp only [DataW.weights, ht] at hwt
    have hlr : l ≤ reachBytes := by
      have h1 := hwt _ (List.mem_cons_self ..)
      simp only [List.length_map, List.length_range] at h1
      have h2 := Nat.mul_le_mul (show l ≤ l + (m - l) by omega) (show 1 ≤ Try.prog.bytesOf e by omega)
      omega
    have hwe : ∀ i, i < l → ∀ n ∈ (D i).weights Try.prog e, n ≤ reachBytes := fun i hi n hn =>
      hwt n (List.mem_cons_of_mem _ (List.mem_append_left _ (weightsAll_mem (List.mem_map.2 ⟨i, List.mem_range.2 hi, rfl⟩) n hn)))
    have hall : ∀ i, i < l → ∃ y cs', (∀ j u, cs'[j]? = some u → W.cell? (a.add (i * L.k + j)) = some u) ∧ L.R (· < W.heap.size) W cs' y ∧ Z y := fun i hi => by
      obtain ⟨cs', h1, h2⟩ := hx i (by omega)
      rw [hc] at h1
      obtain ⟨_, hlen, hcell⟩ := World.cells?_some h1
      obtain ⟨y, hy⟩ := h h2 (hwe i hi)
      refine ⟨y, cs', fun j u hu => ?_, hy⟩
      have hj : j < cs'.length := (List.getElem?_eq_some_iff.1 hu).1
      have := hcell j (by omega)
      rw [addAdd] at this
      rw [this, hu]
    obtain ⟨f, hf2⟩ := Go.Deep.choose_lt hall
    refine ⟨(List.range l).map f, ⟨some a, c, by simpa using hcs, by simpa using hl, hm, fun hpos => ⟨a, rfl, ?_, fun j y hj => ?_⟩⟩, by simpa using hlr, fun y hy => ?_⟩
    · simp at hpos
      obtain ⟨cs', h1, h2, _⟩ := hf2 0 hpos
      have hlen := L.len h2
      have := World.block_lt_of_cell? W _ (h1 0 (cs'[0]'(by omega)) (List.getElem?_eq_getElem _))
      rwa [addBlock] at this
    · have hjl : j < l := by
        have := (List.getElem?_eq_some_iff.1 hj).1
        simpa using this
      have e : f j = y := by simpa [hjl] using hj
      obtain ⟨cs', h1, h2, _⟩ := hf2 j hjl
      exact ⟨cs', h1, e ▸ h2⟩
    · obtain ⟨i, hi, rfl⟩ := List.mem_map.1 hy
      obtain ⟨_, _, _, h3⟩ := hf2 i (List.mem_range.1 hi)
      exact h3

theorem OpensZ.of {α : Type} {t : TypeId} {L : Lay α} (h : Opens t L) : OpensZ t L (fun _ => True) := fun hf _ => by
  obtain ⟨y, hy⟩ := h hf
  exact ⟨y, hy, trivial⟩
theorem opensZ_str : OpensZ 9 strL (fun s => s.length ≤ reachBytes) := by
  intro H enc W cs x fuel hf hwt
  obtain ⟨s, rfl, hx, _⟩ := DataW.trod_string Try.underlying9 hf
  refine ⟨strB s, ⟨s, rfl, rfl⟩, ?_⟩
  have := hwt s.size (by rw [hx]; simp [DataW.weights])
  show (strB s).length ≤ reachBytes
  rw [strB_len]
  exact this
abbrev Zt : List Typ → Prop := Zl fun _ => True
theorem opensZ_tys : OpensZ 29 tysL Zt := opensZ_slice (by decide) Try.underlying29 (by kernel_rfl) (by decide +kernel) (OpensZ.of opens_typ)
theorem opensZ_cod : OpensZ 40 codL (Zl fun _ => True) := opensZ_slice (by decide) Try.underlying40 (by kernel_rfl) (by decide +kernel) (OpensZ.of opens_ins)
def Zf (f : Fn) : Prop := Zt f.args ∧ Zt f.locs ∧ Zl (fun _ => True) f.code
def Zi (f : Imp) : Prop := Zt f.args
def Zm (m : Mod) : Prop := Zl Zt m.recs ∧ Zl Zf m.funcs ∧ Zl Zi m.imps ∧ Zl (fun _ => True) m.ints ∧ Zl (fun s => s.length ≤ reachBytes) m.texts

theorem struct_weights {H : Type} {P : Program} {t : TypeId} {fs : Array Field} {parts : List (DataW H)} (ht : P.underlying t = some (.struct fs)) (h : ∀ n ∈ (DataW.agg parts).weights P t, n ≤ reachBytes) {i : Nat} {f : Field} {d : DataW H} (hf : fs[i]? = some f) (hd : parts[i]? = some d) : ∀ n ∈ d.weights P f.type, n ≤ reachBytes := by
  intro n hn
  refine h n ?_
  simp only [DataW.weights, ht]
  exact DataW.weights_mem_each (by simpa using ⟨f, hf, rfl⟩) hd n hn

set_option maxRecDepth 100000 in
theorem opensZ_fn : OpensZ 42 fnL Zf := by
  intro H enc W cs x fuel hf hwt
  obtain ⟨xs, k, hk, hxy, hl, hxl, hfl⟩ := DataW.trod_struct Try.underlying42 hf
  rw [hxy] at hwt
  have hw := fun i f d => struct_weights (i := i) (f := f) (d := d) Try.underlying42 hwt
  rw [show Try.prog.cellsOf 42 = 5 by kernel_rfl] at hl
  match xs, hxl, cs, hl with
  | [y0, y1, y2, y3], _, [v0, v1, v2, v3, v4], _ =>
    have g0 := hfl 0 _ rfl
    have g1 := hfl 1 _ rfl
    have g2 := hfl 2 _ rfl
    have g3 := hfl 3 _ rfl
    have w0 := hw 0 _ _ rfl rfl
    have w2 := hw 2 _ _ rfl rfl
    have w3 := hw 3 _ _ rfl rfl
    simp [show Try.prog.cellsOf 29 = 1 by kernel_rfl, show Try.prog.cellsOf 39 = 2 by kernel_rfl, show Try.prog.cellsOf 40 = 1 by kernel_rfl] at g0 g1 g2 g3
    obtain ⟨a, ha, za⟩ := opensZ_tys g0 w0
    obtain ⟨r, hr, i1, i2⟩ := opens_typ g1
    obtain ⟨l, hl, zl⟩ := opensZ_tys g2 w2
    obtain ⟨c, hc, zc⟩ := opensZ_cod g3 w3
    simp at hr
    obtain ⟨rfl, rfl⟩ := hr
    exact ⟨⟨a, r, l, c⟩, ⟨v0, v3, v4, rfl, i1, i2, ha, hl, hc⟩, za, zl, zc⟩
set_option maxRecDepth 100000 in
theorem opensZ_imp : OpensZ 52 impL Zi := by
  intro H enc W cs x fuel hf hwt
  obtain ⟨xs, k, hk, hxy, hl, hxl, hfl⟩ := DataW.trod_struct Try.underlying52 hf
  rw [hxy] at hwt
  have hw := fun i f d => struct_weights (i := i) (f := f) (d := d) Try.underlying52 hwt
  rw [show Try.prog.cellsOf 52 = 3 by kernel_rfl] at hl
  match xs, hxl, cs, hl with
  | [y0, y1], _, [v0, v1, v2], _ =>
    have g0 := hfl 0 _ rfl
    have g1 := hfl 1 _ rfl
    have w0 := hw 0 _ _ rfl rfl
    simp [show Try.prog.cellsOf 29 = 1 by kernel_rfl, show Try.prog.cellsOf 39 = 2 by kernel_rfl] at g0 g1
    obtain ⟨a, ha, za⟩ := opensZ_tys g0 w0
    obtain ⟨r, hr, i1, i2⟩ := opens_typ g1
    simp at hr
    obtain ⟨rfl, rfl⟩ := hr
    exact ⟨⟨a, r⟩, ⟨v0, rfl, i1, i2, ha⟩, za⟩
set_option maxRecDepth 100000 in
theorem opensZ_mod : OpensZ 28 modL Zm := by
  intro H enc W cs x fuel hf hwt
  obtain ⟨xs, k, hk, hxy, hl, hxl, hfl⟩ := DataW.trod_struct Try.underlying28 hf
  rw [hxy] at hwt
  have hw := fun i f d => struct_weights (i := i) (f := f) (d := d) Try.underlying28 hwt
  rw [show Try.prog.cellsOf 28 = 5 by kernel_rfl] at hl
  match xs, hxl, cs, hl with
  | [y0, y1, y2, y3, y4], _, [v0, v1, v2, v3, v4], _ =>
    have g0 := hfl 0 _ rfl
    have g1 := hfl 1 _ rfl
    have g2 := hfl 2 _ rfl
    have g3 := hfl 3 _ rfl
    have g4 := hfl 4 _ rfl
    have w0 := hw 0 _ _ rfl rfl
    have w1 := hw 1 _ _ rfl rfl
    have w2 := hw 2 _ _ rfl rfl
    have w3 := hw 3 _ _ rfl rfl
    have w4 := hw 4 _ _ rfl rfl
    simp [show Try.prog.cellsOf 22 = 1 by kernel_rfl, show Try.prog.cellsOf 23 = 1 by kernel_rfl, show Try.prog.cellsOf 24 = 1 by kernel_rfl, show Try.prog.cellsOf 25 = 1 by kernel_rfl, show Try.prog.cellsOf 26 = 1 by kernel_rfl] at g0 g1 g2 g3 g4
    obtain ⟨r, hr, zr⟩ := opensZ_slice (L := tysL) (by decide) Try.underlying22 (by kernel_rfl) (by decide +kernel) opensZ_tys g0 w0
    obtain ⟨f, hf, zf⟩ := opensZ_slice (L := fnL) (by decide) Try.underlying23 (by kernel_rfl) (by decide +kernel) opensZ_fn g1 w1
    obtain ⟨i, hi, zi⟩ := opensZ_slice (L := impL) (by decide) Try.underlying24 (by kernel_rfl) (by decide +kernel) opensZ_imp g2 w2
    obtain ⟨n, hn, zn⟩ := opensZ_slice (L := numL) (by decide) Try.underlying25 (by kernel_rfl) (by decide +kernel) (OpensZ.of opens_num) g3 w3
    obtain ⟨s, hs, zs⟩ := opensZ_slice (L := strL) (by decide) Try.underlying26 (by kernel_rfl) (by decide +kernel) opensZ_str g4 w4
    exact ⟨⟨r, f, i, n, s⟩, ⟨v0, v1, v2, v3, v4, rfl, hr, hf, hi, hn, hs⟩, zr, zf, zi, zn, zs⟩

/-- A module that came in. -/
theorem open_modZ {H : Type} {enc : TypeId × Value → H} {W : World} {v : Value} {d : DataW H} {p : List MemPlace} (h : DataW.Trod enc Try.prog W 0 (fun _ => true) true 28 v d p) (hw : ∀ n ∈ d.weights Try.prog 28, n ≤ reachBytes) :
    ∃ cs m, v = vAgg cs ∧ modL.R (· < W.heap.size) W cs m ∧ Zm m := by
  obtain ⟨fuel, hf⟩ := h
  obtain ⟨m, hm, hz⟩ := opensZ_mod hf hw
  have hl := modL.len hm
  have hv : v = .agg v.cells := by
    cases v <;> first | rfl | exact absurd hl (by simp [Value.cells, modL])
  refine ⟨v.cells.toList, m, ?_, hm, hz⟩
  rw [vAgg, Array.toArray_toList]
  exact hv
end Go.Proofs.Ytlfcglolehmmiaa
namespace Go.Proofs.Ytlfcglolehmmiaa
open Go.ChangeShapes Go.WideShapes Go.ChangeAt Go.RowKit

theorem open_tys {H : Type} {enc : TypeId × Value → H} {W : World} {a : Option Addr} {len cap : Nat} {d : DataW H} {p : List MemPlace} (h : DataW.Trod enc Try.prog W 0 (fun _ => true) true 29 (.slice a len cap) d p) :
    ∃ ts : List Typ, ts.length = len ∧ tysL.R (· < W.heap.size) W [.slice a len cap] ts := by
  obtain ⟨fuel, hf⟩ := h
  obtain ⟨ts, hts⟩ := opens_tys hf
  have hts' : tysL.R (· < W.heap.size) W [.slice a len cap] ts := by simpa [Value.cells] using hts
  have h2 := hts'
  obtain ⟨A, c, e, -⟩ := h2
  simp at e
  exact ⟨ts, e.2.1.symm, hts'⟩
end Go.Proofs.Ytlfcglolehmmiaa
namespace Go.Proofs.Ytlfcglolehmmiaa
open Go.ChangeShapes Go.WideShapes Go.ChangeAt Go.RowKit

theorem open_fnZ {H : Type} {enc : TypeId × Value → H} {W : World} {v : Value} {d : DataW H} {p : List MemPlace} (h : DataW.Trod enc Try.prog W 0 (fun _ => true) true 42 v d p) (hw : ∀ n ∈ d.weights Try.prog 42, n ≤ reachBytes) :
    ∃ cs m, v = vAgg cs ∧ fnL.R (· < W.heap.size) W cs m ∧ Zf m := by
  obtain ⟨fuel, hf⟩ := h
  obtain ⟨m, hm, hz⟩ := opensZ_fn hf hw
  have hl := fnL.len hm
  have hv : v = .agg v.cells := by
    cases v <;> first | rfl | exact absurd hl (by simp [Value.cells, fnL])
  refine ⟨v.cells.toList, m, ?_, hm, hz⟩
  rw [vAgg, Array.toArray_toList]
  exact hv
theorem tys_nil {H : Type} {enc : TypeId × Value → H} {W : World} {a : Option Addr} {len cap : Nat} {d : DataW H} {p : List MemPlace} (h : DataW.Trod enc Try.prog W 0 (fun _ => true) true 29 (.slice a len cap) d p) : a = none → cap = 0 := by
  obtain ⟨fuel, hf⟩ := h
  rintro rfl
  rcases Go.Deep.open_slice Try.underlying29 hf with ⟨hcs, _⟩ | ⟨a, l, c, m, n, D, Pl, hcs, _⟩
  · simp [Value.cells] at hcs
    exact hcs.2
  · simp [Value.cells] at hcs
end Go.Proofs.Ytlfcglolehmmiaa
namespace Go.Proofs.Ytlfcglolehmmiaa

/-- Whether an instruction of the function f names what there is in the module m. -/
def namedB (m : Mod) (f : Fn) (i : Ins) : Bool :=
  if i.1 = 0 then decide (i.2.1 < (m.ints.length : Int))
  else if i.1 = 1 then decide (i.2.1 < (m.texts.length : Int))
  else if i.1 = 3 ∨ i.1 = 4 then decide (i.2.1 < (f.args.length : Int) + (f.locs.length : Int))
  else if i.1 = 23 ∨ i.1 = 24 then decide (i.2.1 < (f.code.length : Int))
  else if i.1 = 25 then decide (i.2.1 < (m.funcs.length : Int))
  else if i.1 = 27 then decide (i.2.1 < (m.imps.length : Int))
  else if i.1 = 28 then decide (i.2.1 < (m.recs.length : Int))
  else if i.1 = 29 ∨ i.1 = 30 then (match m.recs[i.2.1.toNat]? with | some r => decide (i.2.2 < (r.length : Int)) | none => false)
  else true
def hanB (t : Typ) : Bool := decide (t.1 = 5)
def hostB (t : Typ) : Bool := decide (t.1 = 1 ∨ t.1 = 5)
/-- What is wrong with a function. -/
def badFn (m : Mod) (f : Fn) : Bool := f.locs.any hanB || f.code.any fun i => !namedB m f i
/-- What is wrong with an import. -/
def badImp (i : Imp) : Bool := i.args.any (fun t => !hostB t) || !hostB i.ret
def badM (m : Mod) : Bool := m.funcs.any (badFn m) || m.imps.any badImp
/-- What Check comes to. -/
def checkN (m : Mod) : Int := if fitB m = false then 2 else if badM m = true then 1 else 0
/-- Whether it can begin. -/
def mainB (m : Mod) : Bool := decide (checkN m = 0) && (match m.funcs with | f :: _ => decide (f.args.length = 0) && decide (f.ret.1 = 1) | [] => false)

theorem checkN_unfit {m : Mod} (h : fitB m = false) : checkN m = 2 := by simp [checkN, h]
theorem checkN_bad {m : Mod} (h : fitB m = true) (hb : badM m = true) : checkN m = 1 := by simp [checkN, h, hb]
theorem checkN_ok {m : Mod} (h : fitB m = true) (hb : badM m = false) : checkN m = 0 := by simp [checkN, h, hb]
theorem checkN_range (m : Mod) : checkN m = 0 ∨ checkN m = 1 ∨ checkN m = 2 := by
  unfold checkN
  split
  · simp
  · split <;> simp
theorem mainB_not {m : Mod} (h : checkN m ≠ 0) : mainB m = false := by simp [mainB, h]
theorem mainB_yes {m : Mod} {f : Fn} {fs : List Fn} (h : checkN m = 0) (hf : m.funcs = f :: fs) : mainB m = (decide (f.args.length = 0) && decide (f.ret.1 = 1)) := by simp [mainB, h, hf]
theorem checkN_fit {m : Mod} (h : checkN m = 0) : fitB m = true := by
  cases hf : fitB m
  · rw [checkN_unfit hf] at h; cases h
  · rfl
theorem badFn_any {m : Mod} {f : Fn} (hf : f ∈ m.funcs) (h : badFn m f = true) : badM m = true := by
  rw [badM, Bool.or_eq_true]
  exact .inl (List.any_eq_true.2 ⟨f, hf, h⟩)
theorem badImp_any {m : Mod} {f : Imp} (hf : f ∈ m.imps) (h : badImp f = true) : badM m = true := by
  rw [badM, Bool.or_eq_true]
  exact .inr (List.any_eq_true.2 ⟨f, hf, h⟩)
theorem bad_loc {m : Mod} {f : Fn} {t : Typ} (ht : t ∈ f.locs) (h : hanB t = true) : badFn m f = true := by
  rw [badFn, Bool.or_eq_true]
  exact .inl (List.any_eq_true.2 ⟨t, ht, h⟩)
theorem bad_code {m : Mod} {f : Fn} {t : Ins} (ht : t ∈ f.code) (h : namedB m f t = false) : badFn m f = true := by
  rw [badFn, Bool.or_eq_true]
  exact .inr (List.any_eq_true.2 ⟨t, ht, by rw [h]; rfl⟩)
theorem any_take {α : Type} {g : α → Bool} {xs : List α} {k : Nat} {x : α} (h : (xs.take k).any g = false) (hx : xs[k]? = some x) (hg : g x = false) : (xs.take (k + 1)).any g = false := by
  obtain ⟨hk, rfl⟩ := List.getElem?_eq_some_iff.1 hx
  rw [List.take_succ_eq_append_getElem hk, List.any_append, h]
  simp [hg]
theorem any_here {α : Type} {g : α → Bool} {xs : List α} {x : α} (hx : x ∈ xs) (hg : g x = true) : xs.any g = true := List.any_eq_true.2 ⟨x, hx, hg⟩
theorem any_full {α : Type} {g : α → Bool} {xs : List α} {n : Nat} (h : (xs.take n).any g = false) (hl : xs.length = n) : xs.any g = false := by
  rwa [List.take_of_length_le (by omega)] at h
theorem dge (a b : Int) : decide (b ≤ a) = !decide (a < b) := by rw [Bool.eq_iff_iff]; simp
end Go.Proofs.Ytlfcglolehmmiaa
namespace Go.Proofs.Ytlfcglolehmmiaa

def subT (a b : Typ) : Bool := subB a.1 a.2 b.1 b.2
/-- Which stacks do for one another. -/
def belowT : List Typ → List Typ → Bool
  | [], [] => true
  | a :: xs, b :: ys => subT a b && belowT xs ys
  | _, _ => false
/-- The type of a local. -/
def locB (f : Fn) (n : Int) : Typ := if n < 0 then (8, 0) else ((f.args ++ f.locs)[n.toNat]?).getD (8, 0)
def fldB (m : Mod) (a b : Int) : Typ := (((m.recs[a.toNat]?).getD [])[b.toNat]?).getD (0, 0)
/-- What an instruction takes and puts, on a stack; none: it does not fit at all. -/
def ruleB (m : Mod) (f : Fn) (i : Ins) (s : List Typ) : Option (List Typ × List Typ) :=
  if i.1 = 0 then some ([], [(1, 0)])
  else if i.1 = 1 then some ([], [(2, 0)])
  else if i.1 = 2 then some ([], [(6, 0)])
  else if i.1 = 3 then some ([], [locB f i.2.1])
  else if i.1 = 4 then some ([locB f i.2.1], [])
  else if i.1 = 5 then some ([(8, 0)], [])
  else if i.1 = 6 then (match s.reverse with | x :: _ => some ([x], [x, x]) | _ => none)
  else if i.1 = 7 then (match s.reverse with | x :: y :: _ => some ([y, x], [x, y]) | _ => none)
  else if i.1 = 22 then some ([(1, 0), (1, 0)], [(1, 0), (1, 0)])
  else if i.1 = 23 then some ([], [])
  else if i.1 = 24 then some ([(1, 0)], [])
  else if i.1 = 25 then (match m.funcs[i.2.1.toNat]? with | some g => some (g.args, [g.ret]) | none => none)
  else if i.1 = 26 then some ([f.ret], [])
  else if i.1 = 27 then (match m.imps[i.2.1.toNat]? with | some g => some (g.args, [g.ret]) | none => none)
  else if i.1 = 28 then (match m.recs[i.2.1.toNat]? with | some r => some (r, [(4, i.2.1)]) | none => none)
  else if i.1 = 29 then some ([(4, i.2.1)], [fldB m i.2.1 i.2.2])
  else if i.1 = 30 then some ([(4, i.2.1), fldB m i.2.1 i.2.2], [])
  else if i.1 = 31 then some ([(1, 0)], [(3, 0)])
  else if i.1 = 32 then some ([(3, 0), (1, 0)], [(1, 0)])
  else if i.1 = 33 then some ([(3, 0), (1, 0), (1, 0)], [])
  else if i.1 = 34 then some ([(3, 0)], [(1, 0)])
  else if i.1 = 35 then some ([(1, 0)], [(2, 0)])
  else if i.1 = 36 then some ([(2, 0), (1, 0)], [(1, 0)])
  else if i.1 = 37 then some ([(2, 0), (1, 0), (1, 0)], [])
  else if i.1 = 38 then some ([(2, 0)], [(1, 0)])
  else if i.1 = 39 then some ([(7, 0)], [(1, 0)])
  else if i.1 = 40 then some ([(7, 0), (7, 0)], [(1, 0)])
  else if i.1 = 41 then (match s.reverse with | x :: _ => if x.1 = 5 then some ([x], []) else none | _ => none)
  else some ([(1, 0), (1, 0)], [(1, 0)])
/-- The stack behind what is taken and put; none: there are too few, one does not fit, or there are too many. -/
def movB (s ins outs : List Typ) : Option (List Typ) :=
  if ins.length ≤ s.length ∧ s.length - ins.length + outs.length ≤ 8 ∧ belowT (s.drop (s.length - ins.length)) ins = true then some (s.take (s.length - ins.length) ++ outs) else none
/-- Where it goes on; none: behind the last one. -/
def nextB (f : Fn) (i : Ins) (pc : Nat) : Option (List Int) :=
  if i.1 = 26 then some [] else if i.1 = 23 then some [i.2.1] else if f.code.length ≤ pc + 1 then none else if i.1 = 24 then some [(pc : Int) + 1, i.2.1] else some [(pc : Int) + 1]
/-- Of an instruction that there is: the error, the stack, where it goes on. -/
def insB8 (m : Mod) (f : Fn) (i : Ins) (pc : Nat) (s : List Typ) : Int × List Typ × List Int :=
  match ruleB m f i s with
  | none => (4, [], [])
  | some (ins, outs) => match movB s ins outs with
    | none => (4, [], [])
    | some t => match nextB f i pc with
      | none => (1, [], [])
      | some l => (0, t, l)
def flowB (m : Mod) (f pc : Int) (s : List Typ) : Int × List Typ × List Int :=
  if checkN m ≠ 0 ∨ f < 0 ∨ pc < 0 then (1, [], [])
  else match m.funcs[f.toNat]? with
    | none => (1, [], [])
    | some fn => match fn.code[pc.toNat]? with
      | none => (1, [], [])
      | some i => insB8 m fn i pc.toNat s

theorem subT_refl (a : Typ) : subT a a = true := by simp [subT, subB]
theorem subT_trans {a b c : Typ} (h1 : subT a b = true) (h2 : subT b c = true) : subT a c = true := by
  obtain ⟨a, a'⟩ := a
  obtain ⟨b, b'⟩ := b
  obtain ⟨c, c'⟩ := c
  simp only [subT, subB, refB, Bool.or_eq_true, Bool.and_eq_true, beq_iff_eq] at h1 h2 ⊢
  omega
theorem belowT_len {a b : List Typ} (h : belowT a b = true) : a.length = b.length := by
  induction a generalizing b with
  | nil => cases b <;> simp [belowT] at h ⊢
  | cons x a ih =>
    cases b with
    | nil => simp [belowT] at h
    | cons y b => simp only [belowT, Bool.and_eq_true] at h; simp [ih h.2]
theorem belowT_refl (a : List Typ) : belowT a a = true := by
  induction a with
  | nil => rfl
  | cons x a ih => simp [belowT, subT_refl, ih]
theorem belowT_trans {a b c : List Typ} (h1 : belowT a b = true) (h2 : belowT b c = true) : belowT a c = true := by
  induction a generalizing b c with
  | nil => cases b <;> cases c <;> simp [belowT] at h1 h2 ⊢
  | cons x a ih =>
    cases b with
    | nil => simp [belowT] at h1
    | cons y b =>
      cases c with
      | nil => simp [belowT] at h2
      | cons z c =>
        simp only [belowT, Bool.and_eq_true] at h1 h2 ⊢
        exact ⟨subT_trans h1.1 h2.1, ih h1.2 h2.2⟩
theorem belowT_app {a b c d : List Typ} (h1 : belowT a b = true) (h2 : belowT c d = true) : belowT (a ++ c) (b ++ d) = true := by
  induction a generalizing b with
  | nil => cases b <;> simp [belowT] at h1 ⊢; exact h2
  | cons x a ih =>
    cases b with
    | nil => simp [belowT] at h1
    | cons y b =>
      simp only [belowT, Bool.and_eq_true, List.cons_append] at h1 ⊢
      exact ⟨h1.1, ih h1.2⟩
theorem belowT_take {a b : List Typ} (h : belowT a b = true) (n : Nat) : belowT (a.take n) (b.take n) = true := by
  induction a generalizing b n with
  | nil => cases b <;> simp [belowT] at h ⊢
  | cons x a ih =>
    cases b with
    | nil => simp [belowT] at h
    | cons y b =>
      simp only [belowT, Bool.and_eq_true] at h
      cases n with
      | zero => rfl
      | succ n => simp only [List.take_succ_cons, belowT, Bool.and_eq_true]; exact ⟨h.1, ih h.2 n⟩
theorem belowT_drop {a b : List Typ} (h : belowT a b = true) (n : Nat) : belowT (a.drop n) (b.drop n) = true := by
  induction a generalizing b n with
  | nil => cases b <;> simp [belowT] at h ⊢
  | cons x a ih =>
    cases b with
    | nil => simp [belowT] at h
    | cons y b =>
      cases n with
      | zero => exact h
      | succ n =>
        simp only [belowT, Bool.and_eq_true] at h
        simpa using ih h.2 n
theorem belowT_snoc {a b : List Typ} {x y : Typ} (h : belowT (a ++ [x]) (b ++ [y]) = true) : belowT a b = true ∧ subT x y = true := by
  have hl := belowT_len h
  simp at hl
  refine ⟨?_, ?_⟩
  · have := belowT_take h a.length
    rwa [List.take_append_of_le_length (Nat.le_refl _), List.take_length, hl, List.take_append_of_le_length (Nat.le_refl _), List.take_length] at this
  · have := belowT_drop h a.length
    rw [List.drop_append_of_le_length (Nat.le_refl _), List.drop_length, hl, List.drop_append_of_le_length (Nat.le_refl _), List.drop_length] at this
    simpa [belowT] using this

/-- What is taken and put by a stack that does for another one. -/
theorem rule_below {m : Mod} {f : Fn} {i : Ins} {a b ins outs : List Typ} (h : belowT a b = true) (hr : ruleB m f i b = some (ins, outs)) :
    ∃ ins' outs', ruleB m f i a = some (ins', outs') ∧ ins'.length = ins.length ∧ belowT outs' outs = true ∧ (belowT (b.drop (b.length - ins.length)) ins = true → belowT (a.drop (a.length - ins'.length)) ins' = true) := by
  have hlen := belowT_len h
  have same : ruleB m f i a = ruleB m f i b → ∃ ins' outs', ruleB m f i a = some (ins', outs') ∧ ins'.length = ins.length ∧ belowT outs' outs = true ∧ (belowT (b.drop (b.length - ins.length)) ins = true → belowT (a.drop (a.length - ins'.length)) ins' = true) := fun e =>
    ⟨ins, outs, by rw [e, hr], rfl, belowT_refl _, fun hb => belowT_trans (by rw [hlen]; exact belowT_drop h _) hb⟩
  have tops : ∀ {y : Typ} {r : List Typ}, b.reverse = y :: r → ∃ x q, a.reverse = x :: q ∧ subT x y = true ∧ belowT q.reverse r.reverse = true := fun {y r} hb => by
    cases ha : a.reverse with
    | nil =>
      have e1 := congrArg List.length ha
      have e2 := congrArg List.length hb
      rw [List.length_reverse] at e1 e2
      simp only [List.length_nil, List.length_cons] at e1 e2
      omega
    | cons x q =>
      have ea : a = q.reverse ++ [x] := by rw [← List.reverse_reverse a, ha]; simp
      have eb : b = r.reverse ++ [y] := by rw [← List.reverse_reverse b, hb]; simp
      rw [ea, eb] at h
      exact ⟨x, q, rfl, (belowT_snoc h).2, (belowT_snoc h).1⟩
  have end1 : ∀ {x : Typ} {q : List Typ}, a.reverse = x :: q → a.drop (a.length - 1) = [x] := fun {x q} ha => by
    have ea : a = q.reverse ++ [x] := by rw [← List.reverse_reverse a, ha]; simp
    rw [ea]
    simp
  have end2 : ∀ {x y : Typ} {q : List Typ}, a.reverse = x :: y :: q → a.drop (a.length - 2) = [y, x] := fun {x y q} ha => by
    have ea : a = q.reverse ++ [y, x] := by rw [← List.reverse_reverse a, ha]; simp
    rw [ea]
    simp
  by_cases h6 : i.1 = 6
  · cases hb : b.reverse with
    | nil => simp [ruleB, h6, hb] at hr
    | cons y r =>
      obtain ⟨x, q, ha, hs, -⟩ := tops hb
      simp [ruleB, h6, hb] at hr
      obtain ⟨rfl, rfl⟩ := hr
      exact ⟨[x], [x, x], by simp [ruleB, h6, ha], rfl, by simp [belowT, hs], fun _ => by rw [List.length_singleton, end1 ha]; simp [belowT, subT_refl]⟩
  by_cases h7 : i.1 = 7
  · cases hb : b.reverse with
    | nil => simp [ruleB, h7, hb] at hr
    | cons y r =>
      cases r with
      | nil => simp [ruleB, h7, hb] at hr
      | cons y2 r =>
        obtain ⟨x, q, ha, hs, hq⟩ := tops hb
        cases q with
        | nil =>
          have := belowT_len hq
          simp at this
        | cons x2 q =>
          simp only [List.reverse_cons] at hq
          have hs2 := (belowT_snoc hq).2
          simp [ruleB, h7, hb] at hr
          obtain ⟨rfl, rfl⟩ := hr
          exact ⟨[x2, x], [x, x2], by simp [ruleB, h7, ha], rfl, by simp [belowT, hs, hs2], fun _ => by rw [show [x2, x].length = 2 from rfl, end2 ha]; simp [belowT, subT_refl]⟩
  by_cases h41 : i.1 = 41
  · cases hb : b.reverse with
    | nil => simp [ruleB, h41, hb] at hr
    | cons y r =>
      obtain ⟨x, q, ha, hs, -⟩ := tops hb
      by_cases hy : y.1 = 5
      · have hx : x.1 = 5 := by
          simp only [subT, subB, refB, Bool.or_eq_true, Bool.and_eq_true, beq_iff_eq] at hs
          omega
        simp [ruleB, h41, hb, hy] at hr
        obtain ⟨rfl, rfl⟩ := hr
        exact ⟨[x], [], by simp [ruleB, h41, ha, hx], rfl, rfl, fun _ => by rw [List.length_singleton, end1 ha]; simp [belowT, subT_refl]⟩
      · simp [ruleB, h41, hb, hy] at hr
  · exact same (by simp only [ruleB, h6, h7, h41, if_false])

/-- A stack that does for another one leads where that leads, with a stack that does for its. -/
theorem ins_below {m : Mod} {f : Fn} {i : Ins} {pc : Nat} {a b t : List Typ} {l : List Int} (h : belowT a b = true) (hf : insB8 m f i pc b = (0, t, l)) : ∃ s, insB8 m f i pc a = (0, s, l) ∧ belowT s t = true := by
  have hlen := belowT_len h
  cases hr : ruleB m f i b with
  | none => simp [insB8, hr] at hf
  | some p =>
    obtain ⟨ins, outs⟩ := p
    obtain ⟨ins', outs', hr', hl, ho, hb⟩ := rule_below h hr
    have hol := belowT_len ho
    cases hm : movB b ins outs with
    | none => simp [insB8, hr, hm] at hf
    | some u =>
      cases hn : nextB f i pc with
      | none => simp [insB8, hr, hm, hn] at hf
      | some q =>
        simp [insB8, hr, hm, hn] at hf
        obtain ⟨rfl, rfl⟩ := hf
        unfold movB at hm
        split at hm
        · rename_i hc
          obtain ⟨c1, c2, c3⟩ := hc
          injection hm with hm
          subst hm
          refine ⟨a.take (a.length - ins'.length) ++ outs', ?_, belowT_app (by rw [hlen, hl]; exact belowT_take h _) ho⟩
          simp only [insB8, hr', hn, movB]
          rw [if_pos ⟨by omega, by omega, hb c3⟩]
        · cases hm
theorem flow_below {m : Mod} {f pc : Int} {a b t : List Typ} {l : List Int} (h : belowT a b = true) (hf : flowB m f pc b = (0, t, l)) : ∃ s, flowB m f pc a = (0, s, l) ∧ belowT s t = true := by
  unfold flowB at hf ⊢
  split at hf
  · cases hf
  · rename_i hc
    rw [if_neg hc]
    split at hf
    · cases hf
    · split at hf
      · cases hf
      · exact ins_below h hf
theorem below_step {xs ys : List Typ} {k : Nat} {x y : Typ} (h : belowT (xs.take k) (ys.take k) = true) (hx : xs[k]? = some x) (hy : ys[k]? = some y) (hs : subT x y = true) : belowT (xs.take (k + 1)) (ys.take (k + 1)) = true := by
  obtain ⟨hk, rfl⟩ := List.getElem?_eq_some_iff.1 hx
  obtain ⟨hk2, rfl⟩ := List.getElem?_eq_some_iff.1 hy
  rw [List.take_succ_eq_append_getElem hk, List.take_succ_eq_append_getElem hk2]
  exact belowT_app h (by simp [belowT, hs])
theorem below_not {xs ys : List Typ} {k : Nat} {x y : Typ} (hx : xs[k]? = some x) (hy : ys[k]? = some y) (hs : subT x y = false) : belowT xs ys = false := by
  induction xs generalizing ys k with
  | nil => simp at hx
  | cons a xs ih =>
    cases ys with
    | nil => rfl
    | cons b ys =>
      cases k with
      | zero => simp at hx hy; subst hx hy; simp [belowT, hs]
      | succ k => simp only [belowT, ih (k := k) (by simpa using hx) (by simpa using hy), Bool.and_false]
theorem below_len_not {xs ys : List Typ} (h : xs.length ≠ ys.length) : belowT xs ys = false := by
  cases hb : belowT xs ys
  · rfl
  · exact absurd (belowT_len hb) h
end Go.Proofs.Ytlfcglolehmmiaa
