/-
  Arguments opened: what a type (a Kind and an N) that came in holds. Conditions: none.
  Words for the laws of layer 7: blocks that stay, two things in a row of their own, the laws' own modules. Conditions: as each theorem says.
  Arguments opened: what a slice of types that came in holds. Conditions: none.
-/
import Derived.Test.YtpgfbnilnoopoaaQ01
import Derived.Test.YtpgfbnilnoopoaaQ04
import Derived.Test.YtpgfbnilnoopoaaQ15
import Derived.Lib.SmallJoins
namespace Go.Proofs.Ytpgfbnilnoopoaa
open Go.ChangeShapes Go.WideShapes Go.ChangeAt Go.RowKit

theorem open_typ {H : Type} {enc : TypeId × Value → H} {W : World} {r : Reach} {b0 : Nat} {v : Value} {d : DataW H} {p : List MemPlace} (hv : Value.okWide Try.prog W r b0 34 v) (h : DataW.Trod enc Try.prog W 0 (fun _ => true) true 34 v d p) :
    ∃ k n : Int, v = .agg #[.int .i64 k, .int .i64 n] ∧ (Lit.int .i64 k).wf = true ∧ (Lit.int .i64 n).wf = true := by
  obtain ⟨v0, v1, y0, y1, m, rfl, _, _, h0, h1⟩ := Go.Joins.open_agg2 Try.underlying34 (by kernel_rfl) (by kernel_rfl) hv h
  obtain ⟨k, hk, _, wk⟩ := DataW.trod_int Try.underlying3 h0
  obtain ⟨n, hn, _, wn⟩ := DataW.trod_int Try.underlying3 h1
  injection hk with hk _
  injection hn with hn _
  subst hk hn
  exact ⟨k, n, rfl, wk, wn⟩
end Go.Proofs.Ytpgfbnilnoopoaa
namespace Go.Proofs.Ytpgfbnilnoopoaa
open Go.RowKit

theorem blk_other {v : World} {b t g i : Nat} {c : Array Value} {u : Value} (h : Blk v b t c) (hne : b ≠ g) : Blk (v.setCell ⟨g, i, none⟩ u) b t c := (Below.heap_setCell v ⟨g, i, none⟩ u b hne).trans h

/-- Two things in a row of their own. -/
theorem two_sl {α : Type} {L : Lay α} {S : Nat → Prop} {w : World} {g ty : Nat} {cs : Array Value} {c0 c1 : List Value} {x y : α} (h : Blk w g ty cs) (hg : S g) (hc : cs.toList = c0 ++ c1) (h0 : L.R S w c0 x) (h1 : L.R S w c1 y) : (slL L).R S w [.slice (some ⟨g, 0, none⟩) 2 2] [x, y] := by
  have l0 := L.len h0
  have l1 := L.len h1
  have hcell : ∀ i u, (c0 ++ c1)[i]? = some u → w.cell? ⟨g, i, none⟩ = some u := fun i u hu => by
    rw [h.cell i, ← hu, ← hc]
    simp
  have e : ∀ i, (⟨g, 0, none⟩ : Addr).add i = ⟨g, i, none⟩ := fun i => by unfold Addr.add; split <;> simp_all
  refine ⟨some ⟨g, 0, none⟩, 2, rfl, Nat.le_refl _, by simp [maxLen], fun _ => ⟨_, rfl, hg, fun j z hz => ?_⟩⟩
  match j, hz with
  | 0, hz =>
    simp at hz
    subst hz
    refine ⟨c0, fun i u hu => ?_, h0⟩
    rw [e, Nat.zero_mul, Nat.zero_add]
    have hi := (List.getElem?_eq_some_iff.1 hu).1
    exact hcell i u (by rw [List.getElem?_append_left hi]; exact hu)
  | 1, hz =>
    simp at hz
    subst hz
    refine ⟨c1, fun i u hu => ?_, h1⟩
    rw [e, Nat.one_mul]
    exact hcell _ u (by rw [List.getElem?_append_right (by omega)]; simpa [l0] using hu)
  | j + 2, hz => simp at hz

/-- The modules of SaneHandles. -/
def hm : Nat → Typ → Mod
  | 0, t => ⟨[[]], [fn0, ⟨[t], (1, 0), [], [(26, 0, 0)]⟩], [], [], []⟩
  | 1, t => ⟨[[]], [fn0, ⟨[], (1, 0), [t], [(26, 0, 0)]⟩], [], [], []⟩
  | 2, t => ⟨[[]], [fn0, fn0], [⟨[t], (1, 0)⟩], [], []⟩
  | _, t => ⟨[[]], [fn0, fn0], [⟨[], t⟩], [], []⟩
def hwant : Nat → Typ → Int
  | 0, _ => 0
  | 1, t => if t.1 = 5 then 1 else 0
  | _, t => if t.1 = 1 ∨ t.1 = 5 then 0 else 1
theorem hm_fit (c : Nat) (t : Typ) (h : goodT 1 t = true) : fitB (hm c t) = true := by
  have h1 : goodT 1 (1, 0) = true := by decide
  have h2 : goodIn (26, 0, 0) = true := by decide
  match c with
  | 0 => simp [hm, fitB, witB, recOk, fnOk, fn0, h, h1, h2]
  | 1 => simp [hm, fitB, witB, recOk, fnOk, fn0, h, h1, h2]
  | 2 => simp [hm, fitB, witB, recOk, fnOk, impOk, fn0, h, h1, h2]
  | c + 3 => simp [hm, fitB, witB, recOk, fnOk, impOk, fn0, h, h1, h2]
theorem hm_check (c : Nat) (t : Typ) (h : goodT 1 t = true) : checkN (hm c t) = hwant c t := by
  have hf := hm_fit c t h
  match c with
  | 0 => rw [checkN_ok hf (by simp [hm, badM, badFn, fn0, namedB])]; rfl
  | 1 =>
    by_cases h5 : t.1 = 5
    · rw [checkN_bad hf (by simp [hm, badM, badFn, fn0, namedB, hanB, h5])]; simp [hwant, h5]
    · rw [checkN_ok hf (by simp [hm, badM, badFn, fn0, namedB, hanB, h5])]; simp [hwant, h5]
  | 2 =>
    by_cases h5 : t.1 = 1 ∨ t.1 = 5
    · rw [checkN_ok hf (by simp [hm, badM, badFn, badImp, fn0, namedB, hostB]; omega)]; simp [hwant, h5]
    · rw [checkN_bad hf (by simp [hm, badM, badFn, badImp, fn0, namedB, hostB]; omega)]; simp [hwant, h5]
  | c + 3 =>
    by_cases h5 : t.1 = 1 ∨ t.1 = 5
    · rw [checkN_ok hf (by simp [hm, badM, badFn, badImp, fn0, namedB, hostB, h5])]; simp [hwant, h5]
    · rw [checkN_bad hf (by simp [hm, badM, badFn, badImp, fn0, namedB, hostB, h5])]; simp [hwant, h5]
theorem hm_main (c : Nat) (t : Typ) (h : goodT 1 t = true) : mainB (hm c t) = decide (hwant c t = 0) := by
  rw [← hm_check c t h]
  match c with
  | 0 => simp [mainB, hm, fn0]
  | 1 => simp [mainB, hm, fn0]
  | 2 => simp [mainB, hm, fn0]
  | c + 3 => simp [mainB, hm, fn0]

/-- The module of SaneMain. -/
def mm (t : Typ) (ts : List Typ) : Mod := ⟨[[]], [⟨ts, t, [], [(26, 0, 0)]⟩], [], [], []⟩
theorem mm_main (t : Typ) (ts : List Typ) : mainB (mm t ts) = (decide (ts.length = 0) && (t.1 == 1 && t.2 == 0)) := by
  have h2 : goodIn (26, 0, 0) = true := by decide
  cases ts with
  | nil =>
    cases hg : goodT 1 t
    · have hf : fitB (mm t []) = false := by simp [mm, fitB, witB, recOk, fnOk, hg]
      rw [mainB_not (by rw [checkN_unfit hf]; decide)]
      have : ¬ (t.1 = 1 ∧ t.2 = 0) := fun ⟨a, b⟩ => by
        rw [show t = (1, 0) from Prod.ext a b] at hg
        revert hg
        decide
      symm
      simpa using this
    · have hf : fitB (mm t []) = true := by simp [mm, fitB, witB, recOk, fnOk, hg, h2]
      have hc : checkN (mm t []) = 0 := checkN_ok hf (by simp [mm, badM, badFn, namedB])
      rw [mainB_yes hc rfl, Bool.eq_iff_iff]
      simp only [List.length_nil, decide_true, Bool.true_and, decide_eq_true_eq, Bool.and_eq_true, beq_iff_eq]
      refine ⟨fun h => ⟨h, ?_⟩, fun h => h.1⟩
      obtain ⟨k, n⟩ := t
      simp only at h
      subst h
      simpa [goodT, goodB] using hg
  | cons a ts =>
    by_cases hc : checkN (mm t (a :: ts)) = 0
    · rw [mainB_yes hc rfl]
      simp
    · rw [mainB_not hc]
      simp
end Go.Proofs.Ytpgfbnilnoopoaa
namespace Go.Proofs.Ytpgfbnilnoopoaa
open Go.ChangeShapes Go.WideShapes Go.ChangeAt Go.RowKit

theorem open_tys {H : Type} {enc : TypeId × Value → H} {W : World} {a : Option Addr} {len cap : Nat} {d : DataW H} {p : List MemPlace} (h : DataW.Trod enc Try.prog W 0 (fun _ => true) true 35 (.slice a len cap) d p) :
    ∃ ts : List Typ, ts.length = len ∧ tysL.R (· < W.heap.size) W [.slice a len cap] ts := by
  obtain ⟨fuel, hf⟩ := h
  obtain ⟨ts, hts⟩ := opens_tys hf
  have hts' : tysL.R (· < W.heap.size) W [.slice a len cap] ts := by simpa [Value.cells] using hts
  have h2 := hts'
  obtain ⟨A, c, e, -⟩ := h2
  simp at e
  exact ⟨ts, e.2.1.symm, hts'⟩
end Go.Proofs.Ytpgfbnilnoopoaa
