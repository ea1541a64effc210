/-
  Arguments opened: what happens to a heap, as the law has it: acts, and slices of them.
  Conditions: none.
-/
import Derived.Test.YtdadaklkaehmjaaOob
namespace Go.Proofs.Ytdadaklkaehmjaa
open Go.ChangeShapes Go.WideShapes Go.ChangeAt Go.RowKit
set_option linter.unusedSimpArgs false
set_option linter.unusedVariables false

/-- Something that happens. -/
structure Hap where
  what : Int
  obj : Ob
  ref : Nat
  n : Nat
  v : Nat
instance : Inhabited Hap := ⟨⟨0, ob0, 0, 0, 0⟩⟩
def hapL : Lay Hap where
  k := 8
  R S w cs a := ∃ k m v0 v1, cs = [.int .i64 a.what, k, m, v0, v1, .int .u64 (a.ref : Int), .int .u64 (a.n : Int), .int .u64 (a.v : Int)] ∧ I64 a.what ∧ a.ref < B64 ∧ a.n < B64 ∧ a.v < B64 ∧ obL.R S w [k, m, v0, v1] a.obj
  len := by rintro S w cs x ⟨k, m, v0, v1, rfl, _⟩; rfl
  keep := by rintro S w w' cs x ⟨k, m, v0, v1, rfl, h1, h2, h3, h4, h5⟩ hk; exact ⟨k, m, v0, v1, rfl, h1, h2, h3, h4, obL.keep h5 hk⟩
  wide := by rintro S T w cs x ⟨k, m, v0, v1, rfl, h1, h2, h3, h4, h5⟩ hk; exact ⟨k, m, v0, v1, rfl, h1, h2, h3, h4, obL.wide h5 hk⟩
  one := by
    rintro S w cs x ⟨k, m, v0, v1, rfl, h1, h2, h3, h4, h5⟩ u hu
    have h6 := obL.one h5
    simp only [List.mem_cons, List.not_mem_nil, or_false] at hu h6
    rcases hu with rfl | rfl | rfl | rfl | rfl | rfl | rfl | rfl
    · rfl
    · exact h6 _ (.inl rfl)
    · exact h6 _ (.inr (.inl rfl))
    · exact h6 _ (.inr (.inr (.inl rfl)))
    · exact h6 _ (.inr (.inr (.inr rfl)))
    · rfl
    · rfl
    · rfl
def Zh (a : Hap) : Prop := Zo a.obj
set_option maxRecDepth 100000 in
theorem opensZ_hap : OpensZ 38 hapL Zh := by
  intro H enc W cs x fuel hf hwt
  obtain ⟨xs, k, hk, hxy, hl, hxl, hfl⟩ := DataW.trod_struct Try.underlying38 hf
  rw [hxy] at hwt
  have hw := fun i f d => struct_weights (i := i) (f := f) (d := d) Try.underlying38 hwt
  rw [show Try.prog.cellsOf 38 = 8 by kernel_rfl] at hl
  match xs, hxl, cs, hl with
  | [y0, y1, y2, y3, y4], _, [v0, v1, v2, v3, v4, v5, v6, v7], _ =>
    have g0 := hfl 0 _ rfl
    have g1 := hfl 1 _ rfl
    have g2 := hfl 2 _ rfl
    have g3 := hfl 3 _ rfl
    have g4 := hfl 4 _ rfl
    have w1 := hw 1 _ _ rfl rfl
    simp [show Try.prog.cellsOf 3 = 1 by kernel_rfl, show Try.prog.cellsOf 31 = 1 by kernel_rfl, show Try.prog.cellsOf 28 = 4 by kernel_rfl] at g0 g1 g2 g3 g4
    obtain ⟨z0, e0, _, b0⟩ := DataW.trod_int Try.underlying3 g0
    obtain ⟨o, ho, zo⟩ := opensZ_ob g1 w1
    obtain ⟨z2, e2, _, b2⟩ := DataW.trod_int Try.underlying31 g2
    obtain ⟨z3, e3, _, b3⟩ := DataW.trod_int Try.underlying31 g3
    obtain ⟨z4, e4, _, b4⟩ := DataW.trod_int Try.underlying31 g4
    simp at e0 e2 e3 e4
    subst e0 e2 e3 e4
    have c2 := bounds_u64 b2
    have c3 := bounds_u64 b3
    have c4 := bounds_u64 b4
    refine ⟨⟨z0, o, z2.toNat, z3.toNat, z4.toNat⟩, ⟨v1, v2, v3, v4, ?_, i64_of b0, ?_, ?_, ?_, ho⟩, zo⟩
    · show [Value.int .i64 z0, v1, v2, v3, v4, Value.int .u64 z2, Value.int .u64 z3, Value.int .u64 z4] = [Value.int .i64 z0, v1, v2, v3, v4, Value.int .u64 (z2.toNat : Int), Value.int .u64 (z3.toNat : Int), Value.int .u64 (z4.toNat : Int)]
      rw [Int.toNat_of_nonneg c2.1, Int.toNat_of_nonneg c3.1, Int.toNat_of_nonneg c4.1]
    · show z2.toNat < B64; unfold B64; omega
    · show z3.toNat < B64; unfold B64; omega
    · show z4.toNat < B64; unfold B64; omega
theorem opensZ_haps : OpensZ 23 (slL hapL) (Zl Zh) := opensZ_slice (L := hapL) (by decide) Try.underlying23 (by kernel_rfl) (by decide +kernel) opensZ_hap
theorem open_actsZ {H : Type} {enc : TypeId × Value → H} {W : World} {a : Option Addr} {len cap : Nat} {d : DataW H} {p : List MemPlace} (h : DataW.Trod enc Try.prog W 0 (fun _ => true) true 23 (.slice a len cap) d p) (hw : ∀ n ∈ d.weights Try.prog 23, n ≤ reachBytes) :
    ∃ T : List Hap, T.length = len ∧ (slL hapL).R (· < W.heap.size) W [.slice a len cap] T ∧ Zl Zh T := by
  obtain ⟨fuel, hf⟩ := h
  obtain ⟨L, hL, hz⟩ := opensZ_haps hf hw
  have hL' : (slL hapL).R (· < W.heap.size) W [.slice a len cap] L := by simpa [Value.cells] using hL
  have h2 := hL'
  obtain ⟨A, c, e, -⟩ := h2
  simp at e
  exact ⟨L, e.2.1.symm, hL', hz⟩
end Go.Proofs.Ytdadaklkaehmjaa
