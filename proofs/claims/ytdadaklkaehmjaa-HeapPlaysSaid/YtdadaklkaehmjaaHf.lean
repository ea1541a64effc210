/-
  A heap in memory; what its find and ask do.
  Conditions: as each theorem says.
-/
import Derived.Test.YtdadaklkaehmjaaHr
import Derived.Deep.RegionHeld3
import Derived.Deep.DeepCutAuto
namespace Go.Proofs.Ytdadaklkaehmjaa
open Go.RowKit
set_option linter.unusedSimpArgs false
set_option linter.unusedVariables false

/-- A heap of the objects O in the blocks of which S says yes, its own at g. -/
def IsHp (S : Nat → Prop) (w : World) (g : Nat) (O : List Ob) (q u : Int) : Prop :=
  ∃ v css tag, Blk w g 62 #[v, .int .i64 q, .int .i64 u] ∧ S g ∧ tag g = 0 ∧ Row S tag w v css O
theorem IsHp.keep {S : Nat → Prop} {w w' : World} {g : Nat} {O : List Ob} {q u : Int} (h : IsHp S w g O q u) (hk : ∀ b, b < w.heap.size → S b → w'.heap[b]? = w.heap[b]?) (hS : ∀ b, S b → b < w.heap.size) : IsHp S w' g O q u := by
  obtain ⟨v, css, tag, h1, h2, h3, h4⟩ := h
  exact ⟨v, css, tag, (hk g h1.lt h2).trans h1, h2, h3, h4.keep fun b hb _ => hk b (hS b hb) hb⟩
theorem IsHp.wide {S T : Nat → Prop} {w : World} {g : Nat} {O : List Ob} {q u : Int} (h : IsHp S w g O q u) (hk : ∀ b, S b → T b) : IsHp T w g O q u := by
  obtain ⟨v, css, tag, h1, h2, h3, h4⟩ := h
  exact ⟨v, css, tag, h1, hk g h2, h3, h4.wide hk⟩
/-- Only blocks of which S says yes, and new ones, have turned. -/
structure Trn (S : Nat → Prop) (w w' : World) : Prop where
  os : w'.os = w.os
  tape : w'.tape = w.tape
  output : w'.output = w.output
  size : w.heap.size ≤ w'.heap.size
  block : ∀ b, b < w.heap.size → ¬ S b → w'.heap[b]? = w.heap[b]?
theorem Trn.refl (S : Nat → Prop) (w : World) : Trn S w w := ⟨rfl, rfl, rfl, Nat.le_refl _, fun _ _ _ => rfl⟩
theorem Trn.trans {S T : Nat → Prop} {a b c : World} (h : Trn S a b) (k : Trn T b c) (hT : ∀ i, i < a.heap.size → T i → S i) : Trn S a c :=
  ⟨k.os.trans h.os, k.tape.trans h.tape, k.output.trans h.output, Nat.le_trans h.size k.size, fun i hi hn => (k.block i (Nat.lt_of_lt_of_le hi h.size) fun q => hn (hT i hi q)).trans (h.block i hi hn)⟩
theorem Trn.of_below {S : Nat → Prop} {a b : World} (h : Below a.heap.size a b) : Trn S a b := ⟨h.os, h.tape, h.output, h.size, fun i hi _ => h.block i hi⟩
theorem Trn.below {S : Nat → Prop} {B : Nat} {a b : World} (h : Trn S a b) (hB : B ≤ a.heap.size) (hS : ∀ i, S i → B ≤ i) : Below B a b :=
  ⟨h.os, h.tape, h.output, h.size, fun i hi => h.block i (Nat.lt_of_lt_of_le hi hB) fun q => by have := hS i q; omega⟩
theorem Trn.set {S : Nat → Prop} {a b : World} (h : Trn S a b) {g i : Nat} (hg : S g) (u : Value) : Trn S a (b.setCell ⟨g, i, none⟩ u) :=
  ⟨h.os, h.tape, h.output, by simpa [World.setCell] using h.size, fun k hk hn => (Below.heap_setCell _ _ _ _ (fun (e : k = g) => hn (by rw [e]; exact hg))).trans (h.block k hk hn)⟩
theorem Trn.then {S : Nat → Prop} {a b c : World} (h : Trn S a b) (k : Below b.heap.size b c) : Trn S a c := h.trans (T := S) (Trn.of_below k) fun _ _ q => q

/-- What find answers: there is none; or the cells of the one. -/
def Found (n r : Nat) (css : List (List Value)) (e : Ending) : Prop :=
  ((r = 0 ∨ n < r) ∧ e = .returned (.tuple #[.agg #[.int .i64 0, .int .i64 0, .slice none 0 0, .slice none 0 0], .bool false])) ∨
  ((0 < r ∧ r ≤ n) ∧ ∃ k m A p c B q d, css[r - 1]? = some [.int .i64 k, .int .i64 m, .slice A p c, .slice B q d] ∧ e = .returned (.tuple #[.agg #[.int .i64 k, .int .i64 m, .slice A p c, .slice B q d], .bool true]))

set_option maxRecDepth 100000 in
theorem find_nil (r : Nat) (w : World) : Calls Try.prog 26 #[.pointer none, .int .u64 (r : Int)] w fun e w' => Below w.heap.size w w' ∧ e = .returned (.tuple #[.agg #[.int .i64 0, .int .i64 0, .slice none 0 0, .slice none 0 0], .bool false]) := by
  go_enter Try.func26, Try.ntmps26
  go_wp2
  refine bodyPost_ret (v := .tuple #[.agg #[.int .i64 0, .int .i64 0, .slice none 0 0, .slice none 0 0], .bool false]) (by simp [results, Try.results26, go_sem]) rfl ⟨?_, rfl⟩
  exact (Below.refl _ _).alloc (Nat.le_refl _) _

set_option maxRecDepth 100000 in
set_option maxHeartbeats 1000000 in
theorem find_any {S : Nat → Prop} {tag : Nat → Nat} {v : Value} {css : List (List Value)} {O : List Ob} {q u : Int} (g r : Nat) (w : World) (hb : Blk w g 62 #[v, .int .i64 q, .int .i64 u]) (hr : Row S tag w v css O) (h64 : r < B64) (hO : O.length ≤ 1000000) :
    Calls Try.prog 26 #[.pointer (some ⟨g, 0, none⟩), .int .u64 (r : Int)] w fun e w' => Below w.heap.size w w' ∧ Found O.length r css e := by
  unfold B64 at h64
  obtain ⟨A, c, rfl, hc1, hc2⟩ := hr.shape
  have HR := Lib.hid hr
  have hgl := hb.lt
  have c0 := hb.cell 0
  have c0' := fun ob => ((blk_keep (o := ob) hb).cell 0)
  have HN : Hid (∀ V, Below w.heap.size w V → V.cell? ⟨g, 0, none⟩ = some (.slice A O.length c)) := fun V hV => (hV.cell (p := ⟨g, 0, none⟩) hgl).trans c0
  clear hr
  by_cases h0 : r = 0
  · subst h0
    generalize O.length = n at *
    go_enter Try.func26, Try.ntmps26
    go_wp2
    refine bodyPost_ret (v := .tuple #[.agg #[.int .i64 0, .int .i64 0, .slice none 0 0, .slice none 0 0], .bool false]) (by simp [results, Try.results26, go_sem]) rfl ⟨?_, .inl ⟨.inl rfl, rfl⟩⟩
    exact (Below.refl _ _).alloc (Nat.le_refl _) _
  have h0' : (r : Int) ≠ 0 := by omega
  by_cases h1 : O.length < r
  · generalize O.length = n at *
    have h1' : (n : Int) < (r : Int) := by omega
    go_enter Try.func26, Try.ntmps26
    go_wp2
    refine bodyPost_ret (v := .tuple #[.agg #[.int .i64 0, .int .i64 0, .slice none 0 0, .slice none 0 0], .bool false]) (by simp [results, Try.results26, go_sem]) rfl ⟨?_, .inl ⟨.inr h1, rfl⟩⟩
    exact (Below.refl _ _).alloc (Nat.le_refl _) _
  obtain ⟨o, ho⟩ : ∃ o, O[r - 1]? = some o := ⟨O[r - 1]'(by omega), List.getElem?_eq_getElem _⟩
  obtain ⟨gr, cs, rfl, hsr, -, hlr, hcs, hcell, -, hob⟩ := HR.out.cells ho
  obtain ⟨A1, c1, B1, d1, rfl, -, -⟩ := hob.parts
  have k0 := hcell 0 _ rfl
  have k1 := hcell 1 _ rfl
  have k2 := hcell 2 _ rfl
  have k3 := hcell 3 _ rfl
  have HQ := Lib.hid hcs
  clear hcell hob hcs ho HR
  generalize O.length = n at *
  obtain ⟨k, rfl⟩ : ∃ k, r = k + 1 := ⟨r - 1, by omega⟩
  rw [Nat.add_sub_cancel] at k0 k1 k2 k3 HQ
  rw [Nat.add_zero] at k0
  generalize o.kind = kk at *
  generalize o.n = nn at *
  generalize o.words.length = pp at *
  generalize o.bytes.length = qq at *
  have h1' : ((k : Int) + 1) ≤ (n : Int) := by omega
  have hz : (((k : Int) + 1) == 0) = false := by simp; omega
  have hd : decide ((n : Int) < (k : Int) + 1) = false := by simp; omega
  go_enter Try.func26, Try.ntmps26
  go_wp2
  refine bodyPost_ret (v := .tuple #[.agg #[.int .i64 kk, .int .i64 nn, .slice A1 pp c1, .slice B1 qq d1], .bool true]) (by simp [results, Try.results26, go_sem]) rfl ⟨?_, .inr ⟨⟨by omega, by omega⟩, _, _, _, _, _, _, _, _, HQ.out, rfl⟩⟩
  exact (Below.refl _ _).alloc (Nat.le_refl _) _

set_option maxRecDepth 100000 in
theorem ask_any (t : Bool) (n m : Nat) (w : World) (hn : n < B64) (hm : m ≤ 1000000000) : Calls Try.prog 27 #[.bool t, .int .u64 (n : Int), .int .i64 (m : Int)] w fun e w' => e = .returned (.int .i64 (if t = false then 4 else if m ≤ n then 3 else 0)) ∧ w = w' := by
  unfold B64 at hn
  go_enter Try.func27, Try.ntmps27
  cases t
  · go_wp2
    go_ret
    exact ⟨rfl, rfl⟩
  by_cases h : m ≤ n
  · have h' : (m : Int) ≤ (n : Int) := by omega
    go_wp2
    go_ret
    exact ⟨by simp [h], rfl⟩
  · have h' : (n : Int) < (m : Int) := by omega
    go_wp2
    go_ret
    exact ⟨by simp [h], rfl⟩
end Go.Proofs.Ytdadaklkaehmjaa
