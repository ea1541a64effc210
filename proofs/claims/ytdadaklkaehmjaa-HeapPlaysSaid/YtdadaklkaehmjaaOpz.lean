/-
  Arguments opened: each list is within what a machine reaches.
  Conditions: as each theorem says.
-/
import Derived.Test.YtdadaklkaehmjaaOps
import Derived.SizedLaws
namespace Go.Proofs.Ytdadaklkaehmjaa
open Go.ChangeShapes Go.WideShapes Go.ChangeAt Go.RowKit

def OpensZ {α : Type} (t : TypeId) (L : Lay α) (Z : α → Prop) : Prop := ∀ {H : Type} {enc : TypeId × Value → H} {W : World} {cs : List Value} {x : DataW H × List MemPlace} {fuel : Nat}, DataW.trod enc Try.prog W 0 (fun _ => true) true fuel t cs = some x →
  (∀ n ∈ x.1.weights Try.prog t, n ≤ reachBytes) → ∃ y, L.R (· < W.heap.size) W cs y ∧ Z y
/-- A list within reach, of things of which Z holds. -/
def Zl {α : Type} (Z : α → Prop) (xs : List α) : Prop := xs.length ≤ reachBytes ∧ ∀ x ∈ xs, Z x

theorem weightsAll_mem {H : Type} {P : Program} {e : TypeId} : ∀ {ds : List (DataW H)} {d : DataW H}, d ∈ ds → ∀ n ∈ d.weights P e, n ∈ DataW.weightsAll P e ds
  | d0 :: ds, d, hd, n, hn => by
    simp only [DataW.weightsAll, List.mem_append]
    rcases List.mem_cons.1 hd with rfl | h
    · exact .inl hn
    · exact .inr (weightsAll_mem h n hn)

theorem opensZ_slice {α : Type} [Inhabited α] {t e : TypeId} {L : Lay α} {Z : α → Prop} (hk : 0 < L.k) (ht : Try.prog.underlying t = some (.slice e)) (hc : Try.prog.cellsOf e = L.k) (hby : 0 < Try.prog.bytesOf e) (h : OpensZ e L Z) : OpensZ t (slL L) (Zl Z) := by
  intro H enc W cs x fuel hf hwt
  rcases Go.Deep.open_slice ht hf with ⟨hcs, _⟩ | ⟨a, l, c, m, n, D, Pl, hcs, _, hl, hm, hmm, hxx, hx⟩
  · exact ⟨[], ⟨none, 0, hcs, Nat.le_refl _, by simp [maxLen], Sq.nil _ _ _ _⟩, by simp, by simp⟩
  · simp only [if_true] at hmm
    rw [hxx] at hwt
    simp only [DataW.weights, ht] at hwt
    have hlr : l ≤ reachBytes := by
      have h1 := hwt _ (List.mem_cons_self ..)
      simp only [List.length_map, List.length_range] at h1
      have h2 := Nat.mul_le_mul (show l ≤ l + (m - l) by omega) (show 1 ≤ Try.prog.bytesOf e by omega)
      omega
    have hwe : ∀ i, i < l → ∀ n ∈ (D i).weights Try.prog e, n ≤ reachBytes := fun i hi n hn =>
      hwt n (List.mem_cons_of_mem _ (List.mem_append_left _ (weightsAll_mem (List.mem_map.2 ⟨i, List.mem_range.2 hi, rfl⟩) n hn)))
    have hall : ∀ i, i < l → ∃ y cs', (∀ j u, cs'[j]? = some u → W.cell? (a.add (i * L.k + j)) = some u) ∧ L.R (· < W.heap.size) W cs' y ∧ Z y := fun i hi => by
      obtain ⟨cs', h1, h2⟩ := hx i (by omega)
      rw [hc] at h1
      obtain ⟨_, hlen, hcell⟩ := World.cells?_some h1
      obtain ⟨y, hy⟩ := h h2 (hwe i hi)
      refine ⟨y, cs', fun j u hu => ?_, hy⟩
      have hj : j < cs'.length := (List.getElem?_eq_some_iff.1 hu).1
      have := hcell j (by omega)
      rw [addAdd] at this
      rw [this, hu]
    obtain ⟨f, hf2⟩ := Go.Deep.choose_lt hall
    refine ⟨(List.range l).map f, ⟨some a, c, by simpa using hcs, by simpa using hl, hm, fun hpos => ⟨a, rfl, ?_, fun j y hj => ?_⟩⟩, by simpa using hlr, fun y hy => ?_⟩
    · simp at hpos
      obtain ⟨cs', h1, h2, _⟩ := hf2 0 hpos
      have hlen := L.len h2
      have := World.block_lt_of_cell? W _ (h1 0 (cs'[0]'(by omega)) (List.getElem?_eq_getElem _))
      rwa [addBlock] at this
    · have hjl : j < l := by
        have := (List.getElem?_eq_some_iff.1 hj).1
        simpa using this
      have e : f j = y := by simpa [hjl] using hj
      obtain ⟨cs', h1, h2, _⟩ := hf2 j hjl
      exact ⟨cs', h1, e ▸ h2⟩
    · obtain ⟨i, hi, rfl⟩ := List.mem_map.1 hy
      obtain ⟨_, _, _, h3⟩ := hf2 i (List.mem_range.1 hi)
      exact h3

theorem OpensZ.of {α : Type} {t : TypeId} {L : Lay α} (h : Opens t L) : OpensZ t L (fun _ => True) := fun hf _ => by
  obtain ⟨y, hy⟩ := h hf
  exact ⟨y, hy, trivial⟩
theorem struct_weights {H : Type} {P : Program} {t : TypeId} {fs : Array Field} {parts : List (DataW H)} (ht : P.underlying t = some (.struct fs)) (h : ∀ n ∈ (DataW.agg parts).weights P t, n ≤ reachBytes) {i : Nat} {f : Field} {d : DataW H} (hf : fs[i]? = some f) (hd : parts[i]? = some d) : ∀ n ∈ d.weights P f.type, n ≤ reachBytes := by
  intro n hn
  refine h n ?_
  simp only [DataW.weights, ht]
  exact DataW.weights_mem_each (by simpa using ⟨f, hf, rfl⟩) hd n hn

end Go.Proofs.Ytdadaklkaehmjaa
