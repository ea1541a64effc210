/-
  Arguments opened: cells that are read as a datum hold a thing.
  Conditions: as each theorem says.
-/
import Derived.Test.YthahfhmkgkfoaaaOn0
import Derived.Test.YthahfhmkgkfoaaaLy
import Derived.Deep.SlicePairs
namespace Go.Proofs.Ythahfhmkgkfoaaa
open Go.ChangeShapes Go.WideShapes Go.ChangeAt Go.RowKit

/-- Cells that are read as a datum of type t hold a thing, as L has it. -/
def Opens {α : Type} (t : TypeId) (L : Lay α) : Prop := ∀ {H : Type} {enc : TypeId × Value → H} {W : World} {cs : List Value} {x : DataW H × List MemPlace} {fuel : Nat}, DataW.trod enc Try.prog W 0 (fun _ => true) true fuel t cs = some x → ∃ y, L.R (· < W.heap.size) W cs y

theorem opens_slice {α : Type} [Inhabited α] {t e : TypeId} {L : Lay α} (hk : 0 < L.k) (ht : Try.prog.underlying t = some (.slice e)) (hc : Try.prog.cellsOf e = L.k) (h : Opens e L) : Opens t (slL L) := by
  intro H enc W cs x fuel hf
  rcases Go.Deep.open_slice ht hf with ⟨hcs, _⟩ | ⟨a, l, c, m, n, D, Pl, hcs, _, hl, hm, hmm, _, hx⟩
  · exact ⟨[], none, 0, hcs, Nat.le_refl _, by simp [maxLen], Sq.nil _ _ _ _⟩
  · simp only [if_true] at hmm
    have hall : ∀ i, i < l → ∃ y cs', (∀ j u, cs'[j]? = some u → W.cell? (a.add (i * L.k + j)) = some u) ∧ L.R (· < W.heap.size) W cs' y := fun i hi => by
      obtain ⟨cs', h1, h2⟩ := hx i (by omega)
      rw [hc] at h1
      obtain ⟨_, hlen, hcell⟩ := World.cells?_some h1
      obtain ⟨y, hy⟩ := h h2
      refine ⟨y, cs', fun j u hu => ?_, hy⟩
      have hj : j < cs'.length := (List.getElem?_eq_some_iff.1 hu).1
      have := hcell j (by omega)
      rw [addAdd] at this
      rw [this, hu]
    obtain ⟨f, hf2⟩ := Go.Deep.choose_lt hall
    refine ⟨(List.range l).map f, some a, c, by simpa using hcs, by simpa using hl, hm, fun hpos => ⟨a, rfl, ?_, fun j y hj => ?_⟩⟩
    · simp at hpos
      obtain ⟨cs', h1, h2⟩ := hf2 0 hpos
      have hlen := L.len h2
      have := World.block_lt_of_cell? W _ (h1 0 (cs'[0]'(by omega)) (List.getElem?_eq_getElem _))
      rwa [addBlock] at this
    · have hjl : j < l := by
        have := (List.getElem?_eq_some_iff.1 hj).1
        simpa using this
      have e : f j = y := by simpa [hjl] using hj
      obtain ⟨cs', h1, h2⟩ := hf2 j hjl
      exact ⟨cs', h1, e ▸ h2⟩

theorem i64_of {n : Int} (h : (Lit.int .i64 n).wf = true) : I64 n := by
  have hmin : IntKind.i64.min = -9223372036854775808 := rfl
  have hmax : IntKind.i64.max = 9223372036854775807 := rfl
  simp only [Lit.wf, Bool.and_eq_true, decide_eq_true_eq] at h
  unfold I64
  omega

theorem opens_num : Opens 27 numL := by
  intro H enc W cs x fuel hf
  obtain ⟨z, rfl, _, hw⟩ := DataW.trod_int Try.underlying27 hf
  have hb := bounds_u64 hw
  exact ⟨z.toNat, by show [Value.int .u64 z] = _; rw [Int.toNat_of_nonneg hb.1], by unfold B64; omega⟩
end Go.Proofs.Ythahfhmkgkfoaaa
