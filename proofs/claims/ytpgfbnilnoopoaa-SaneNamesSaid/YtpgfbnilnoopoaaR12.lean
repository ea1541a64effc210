/-
  SaneNames' memory: six rows that grow, a module's box and a type's box; what each step does to them; and what the law's modules come to. Conditions: as each theorem says.
-/
import Derived.Test.YtpgfbnilnoopoaaR11
namespace Go.Proofs.Ytpgfbnilnoopoaa
open Go.RowKit
set_option linter.unusedSimpArgs false
set_option linter.unusedVariables false

theorem inf_fn : (Try.prog.info? 38).map (fun i => (i.zero, i.size, i.bytes)) = some (some (.agg #[.slice none 0 0, .int .i64 0, .int .i64 0, .slice none 0 0, .slice none 0 0]), 5, 88) := by kernel_rfl
theorem inf_imp : (Try.prog.info? 42).map (fun i => (i.zero, i.size, i.bytes)) = some (some (.agg #[.slice none 0 0, .int .i64 0, .int .i64 0]), 3, 40) := by kernel_rfl
theorem inf_num : (Try.prog.info? 40).map (fun i => (i.zero, i.size, i.bytes)) = some (some (.int .u64 0), 1, 8) := by kernel_rfl
theorem inf_rec : (Try.prog.info? 35).map (fun i => (i.zero, i.size, i.bytes)) = some (some (.slice none 0 0), 1, 24) := by kernel_rfl
theorem inf_str : (Try.prog.info? 9).map (fun i => (i.zero, i.size, i.bytes)) = some (some (.string ⟨#[]⟩), 1, 16) := by kernel_rfl
theorem inf_typ : (Try.prog.info? 34).map (fun i => (i.zero, i.size, i.bytes)) = some (some (.agg #[.int .i64 0, .int .i64 0]), 2, 16) := by kernel_rfl

/-- Six things by their numbers. -/
def vec {α : Type} (d x0 x1 x2 x3 x4 x5 : α) : Nat → α
  | 0 => x0 | 1 => x1 | 2 => x2 | 3 => x3 | 4 => x4 | 5 => x5 | _ => d
def upd {α : Type} (f : Nat → α) (i : Nat) (x : α) : Nat → α := fun j => if j = i then x else f j
theorem upd_vec0 {α : Type} (d x0 x1 x2 x3 x4 x5 y : α) : upd (vec d x0 x1 x2 x3 x4 x5) 0 y = vec d y x1 x2 x3 x4 x5 := by
  funext n
  match n with
  | 0 => rfl
  | 1 => rfl
  | 2 => rfl
  | 3 => rfl
  | 4 => rfl
  | 5 => rfl
  | n + 6 => simp [upd, vec]
theorem upd_vec1 {α : Type} (d x0 x1 x2 x3 x4 x5 y : α) : upd (vec d x0 x1 x2 x3 x4 x5) 1 y = vec d x0 y x2 x3 x4 x5 := by
  funext n
  match n with
  | 0 => rfl
  | 1 => rfl
  | 2 => rfl
  | 3 => rfl
  | 4 => rfl
  | 5 => rfl
  | n + 6 => simp [upd, vec]
theorem upd_vec2 {α : Type} (d x0 x1 x2 x3 x4 x5 y : α) : upd (vec d x0 x1 x2 x3 x4 x5) 2 y = vec d x0 x1 y x3 x4 x5 := by
  funext n
  match n with
  | 0 => rfl
  | 1 => rfl
  | 2 => rfl
  | 3 => rfl
  | 4 => rfl
  | 5 => rfl
  | n + 6 => simp [upd, vec]
theorem upd_vec3 {α : Type} (d x0 x1 x2 x3 x4 x5 y : α) : upd (vec d x0 x1 x2 x3 x4 x5) 3 y = vec d x0 x1 x2 y x4 x5 := by
  funext n
  match n with
  | 0 => rfl
  | 1 => rfl
  | 2 => rfl
  | 3 => rfl
  | 4 => rfl
  | 5 => rfl
  | n + 6 => simp [upd, vec]
theorem upd_vec4 {α : Type} (d x0 x1 x2 x3 x4 x5 y : α) : upd (vec d x0 x1 x2 x3 x4 x5) 4 y = vec d x0 x1 x2 x3 y x5 := by
  funext n
  match n with
  | 0 => rfl
  | 1 => rfl
  | 2 => rfl
  | 3 => rfl
  | 4 => rfl
  | 5 => rfl
  | n + 6 => simp [upd, vec]
theorem upd_vec5 {α : Type} (d x0 x1 x2 x3 x4 x5 y : α) : upd (vec d x0 x1 x2 x3 x4 x5) 5 y = vec d x0 x1 x2 x3 x4 y := by
  funext n
  match n with
  | 0 => rfl
  | 1 => rfl
  | 2 => rfl
  | 3 => rfl
  | 4 => rfl
  | 5 => rfl
  | n + 6 => simp [upd, vec]
def rty : Nat → Nat
  | 0 => 35 | 1 => 38 | 2 => 42 | 3 => 40 | 4 => 9 | _ => 34
def rk : Nat → Nat
  | 0 => 1 | 1 => 5 | 2 => 3 | 3 => 1 | 4 => 1 | _ => 2

/-- What is known: each block has a tag (which row it is of, 0 to 5; a type's, 6; an instruction's, 7; the type's box N, 8; the module's box N + 2, 9). -/
structure Nm (N : Nat) (w : World) (tg : Nat → Nat) (V : Nat → Value) (C : Nat → List (List Value)) (B : Array Value) (wr : World) : Prop where
  low : Below N w wr
  sz : N + 4 ≤ wr.heap.size
  t8 : tg N = 8
  t9 : tg (N + 2) = 9
  num : Blk wr N 34 tA
  mod : Blk wr (N + 2) 28 B
  row : ∀ i, i < 6 → wr.ownsRow (N + 1) (rty i) (rk i) (V i) (C i).length (C i).flatten ∧ ∀ b, (V i).ownBlock = some b → tg b = i
  el6 : ∀ b, b < wr.heap.size → tg b = 6 → Blk wr b 34 tA
  el7 : ∀ b, b < wr.heap.size → tg b = 7 → Blk wr b 44 iA
  e0 : ∀ cs ∈ C 0, ∃ b, b < wr.heap.size ∧ tg b = 6 ∧ cs = [.slice (some ⟨b, 0, none⟩) 1 1]
  e1 : ∀ cs ∈ (C 1).drop 1, ∃ b, b < wr.heap.size ∧ tg b = 7 ∧ cs = [.slice none 0 0, .int .i64 1, .int .i64 0, .slice none 0 0, .slice (some ⟨b, 0, none⟩) 1 1]

theorem own_keep {w w' : World} {base e size n : Nat} {v : Value} {xs : List Value} (h : w.ownsRow base e size v n xs) (hk : ∀ b, v.ownBlock = some b → b < w.heap.size → w'.heap[b]? = w.heap[b]?) : w'.ownsRow base e size v n xs := by
  refine ⟨h.1, ?_⟩
  rcases h.2 with hn | ⟨g, cap, cur, rfl, hb, hgg, rest⟩
  · exact .inl hn
  · exact .inr ⟨g, cap, cur, rfl, hb, (hk g rfl (Array.getElem?_eq_some_iff.1 hgg).1).trans hgg, rest⟩

section
variable {N : Nat} {w : World} {tg : Nat → Nat} {V : Nat → Value} {C : Nat → List (List Value)} {B : Array Value} {wr : World}

/-- A new block, with the tag t. -/
theorem Nm.alloc (h : Nm N w tg V C B wr) (t : Nat) (o : Obj) (h6 : t = 6 → o = .cells tA 34) (h7 : t = 7 → o = .cells iA 44) : Nm N w (fun b => if b < wr.heap.size then tg b else t) V C B (wr.alloc o) := by
  have hz := h.sz
  have hk : ∀ b, b < wr.heap.size → (wr.alloc o).heap[b]? = wr.heap[b]? := fun b hb => Below.heap_alloc wr o b hb
  have hsz : (wr.alloc o).heap.size = wr.heap.size + 1 := by simp
  refine ⟨h.low.alloc (by omega) _, by omega, ?_, ?_, blk_keep h.num, blk_keep h.mod, fun i hi => ⟨own_keep (h.row i hi).1 fun b _ hb => hk b hb, fun b hb => ?_⟩, fun b hb ht => ?_, fun b hb ht => ?_, fun cs hcs => ?_, fun cs hcs => ?_⟩
  · show (if N < wr.heap.size then tg N else t) = 8
    rw [if_pos (by omega)]; exact h.t8
  · show (if N + 2 < wr.heap.size then tg (N + 2) else t) = 9
    rw [if_pos (by omega)]; exact h.t9
  · show (if b < wr.heap.size then tg b else t) = i
    rw [if_pos ((h.row i hi).1.lt b hb).2]; exact (h.row i hi).2 b hb
  · by_cases hb2 : b < wr.heap.size
    · replace ht : (if b < wr.heap.size then tg b else t) = 6 := ht
      rw [if_pos hb2] at ht
      exact blk_keep (h.el6 b hb2 ht)
    · replace ht : (if b < wr.heap.size then tg b else t) = 6 := ht
      rw [if_neg hb2] at ht
      obtain rfl : b = wr.heap.size := by omega
      rw [h6 ht]
      exact blk_at rfl
  · by_cases hb2 : b < wr.heap.size
    · replace ht : (if b < wr.heap.size then tg b else t) = 7 := ht
      rw [if_pos hb2] at ht
      exact blk_keep (h.el7 b hb2 ht)
    · replace ht : (if b < wr.heap.size then tg b else t) = 7 := ht
      rw [if_neg hb2] at ht
      obtain rfl : b = wr.heap.size := by omega
      rw [h7 ht]
      exact blk_at rfl
  · obtain ⟨b, h1, h2, h3⟩ := h.e0 cs hcs
    exact ⟨b, by omega, by show (if b < wr.heap.size then tg b else t) = 6; rw [if_pos h1]; exact h2, h3⟩
  · obtain ⟨b, h1, h2, h3⟩ := h.e1 cs hcs
    exact ⟨b, by omega, by show (if b < wr.heap.size then tg b else t) = 7; rw [if_pos h1]; exact h2, h3⟩

/-- One thing more in the row i. -/
theorem Nm.app (h : Nm N w tg V C B wr) {i : Nat} (hi : i < 6) {ys : List Value} {v' : Value} {w2 : World} (hown : w2.ownsRow (N + 1) (rty i) (rk i) v' ((C i).length + 1) ((C i).flatten ++ ys)) (hg : wr.grownBy w2 (V i).ownBlock)
    (h5 : v'.ownBlock = (V i).ownBlock ∨ v'.ownBlock = some wr.heap.size) (hy0 : i = 0 → ∃ b, b < wr.heap.size ∧ tg b = 6 ∧ ys = [.slice (some ⟨b, 0, none⟩) 1 1])
    (hy1 : i = 1 → ∃ b, b < wr.heap.size ∧ tg b = 7 ∧ ys = [.slice none 0 0, .int .i64 1, .int .i64 0, .slice none 0 0, .slice (some ⟨b, 0, none⟩) 1 1]) :
    Nm N w (fun b => if b < wr.heap.size then tg b else i) (upd V i v') (upd C i (C i ++ [ys])) B w2 := by
  have hz := h.sz
  have hs := hg.size
  have hri := h.row i hi
  have hk : ∀ b, b < wr.heap.size → tg b ≠ i → w2.heap[b]? = wr.heap[b]? := fun b hb ht => hg.block b hb fun e => ht (hri.2 b e.symm)
  have hN : tg N ≠ i := by rw [h.t8]; omega
  have hN2 : tg (N + 2) ≠ i := by rw [h.t9]; omega
  have T : ∀ {b c : Nat}, b < wr.heap.size → tg b = c → (fun b => if b < wr.heap.size then tg b else i) b = c := fun {b c} hb h => by
    show (if b < wr.heap.size then tg b else i) = c
    rw [if_pos hb]; exact h
  have hel : ∀ b c, b < w2.heap.size → c ≠ i → (fun b => if b < wr.heap.size then tg b else i) b = c → b < wr.heap.size ∧ tg b = c := fun b c hb hc ht => by
    replace ht : (if b < wr.heap.size then tg b else i) = c := ht
    by_cases hb2 : b < wr.heap.size
    · rw [if_pos hb2] at ht; exact ⟨hb2, ht⟩
    · rw [if_neg hb2] at ht; exact absurd ht.symm hc
  refine ⟨h.low.trans (below_grown hg (by omega) fun j hj => by have := (hri.1.lt j hj).1; omega), by omega, T (by omega) h.t8, T (by omega) h.t9, (hk N (by omega) hN).trans h.num, (hk (N + 2) (by omega) hN2).trans h.mod, fun j hj => ?_, fun b hb ht => ?_, fun b hb ht => ?_, fun cs hcs => ?_, fun cs hcs => ?_⟩
  · by_cases hji : j = i
    · subst hji
      simp only [upd, if_true]
      refine ⟨by simpa using hown, fun b hb => ?_⟩
      rcases h5 with e | e
      · rw [e] at hb
        exact T (hri.1.lt b hb).2 (hri.2 b hb)
      · rw [e] at hb
        injection hb with hb
        subst hb
        show (if wr.heap.size < wr.heap.size then tg wr.heap.size else j) = j
        rw [if_neg (by omega)]
    · simp only [upd, hji, if_false]
      have hrj := h.row j hj
      exact ⟨own_keep hrj.1 fun b hb hbl => hk b hbl (by rw [hrj.2 b hb]; exact hji), fun b hb => T (hrj.1.lt b hb).2 (hrj.2 b hb)⟩
  · obtain ⟨h1, h2⟩ := hel b 6 hb (by omega) ht
    exact (hk b h1 (by rw [h2]; omega)).trans (h.el6 b h1 h2)
  · obtain ⟨h1, h2⟩ := hel b 7 hb (by omega) ht
    exact (hk b h1 (by rw [h2]; omega)).trans (h.el7 b h1 h2)
  · have : cs ∈ C 0 ∨ (i = 0 ∧ cs = ys) := by
      by_cases h0 : 0 = i
      · subst h0
        simpa [upd] using hcs
      · exact .inl (by simpa [upd, h0] using hcs)
    rcases this with hc | ⟨h0, rfl⟩
    · obtain ⟨b, h1, h2, h3⟩ := h.e0 cs hc
      exact ⟨b, by omega, T h1 h2, h3⟩
    · obtain ⟨b, h1, h2, h3⟩ := hy0 h0
      exact ⟨b, by omega, T h1 h2, h3⟩
  · have : cs ∈ (C 1).drop 1 ∨ (i = 1 ∧ cs = ys) := by
      by_cases h0 : 1 = i
      · subst h0
        simp only [upd, if_true, List.drop_append, List.mem_append] at hcs
        rcases hcs with hc | hc
        · exact .inl hc
        · exact .inr ⟨rfl, by simpa using List.mem_of_mem_drop hc⟩
      · exact .inl (by simpa [upd, h0] using hcs)
    rcases this with hc | ⟨h0, rfl⟩
    · obtain ⟨b, h1, h2, h3⟩ := h.e1 cs hc
      exact ⟨b, by omega, T h1 h2, h3⟩
    · obtain ⟨b, h1, h2, h3⟩ := hy1 h0
      exact ⟨b, by omega, T h1 h2, h3⟩

/-- A cell of the module's box. -/
theorem Nm.box (h : Nm N w tg V C B wr) (c : Nat) (u : Value) : Nm N w tg V C (B.setIfInBounds c u) (wr.setCell ⟨N + 2, c, none⟩ u) := by
  have hk : ∀ b, b ≠ N + 2 → (wr.setCell ⟨N + 2, c, none⟩ u).heap[b]? = wr.heap[b]? := fun b hb => Below.heap_setCell wr ⟨N + 2, c, none⟩ u b hb
  have hsz : (wr.setCell ⟨N + 2, c, none⟩ u).heap.size = wr.heap.size := by simp
  refine ⟨h.low.setCell (by simp) _, by rw [hsz]; exact h.sz, h.t8, h.t9, (hk N (by omega)).trans h.num, h.mod.set c u, fun i hi => ⟨own_keep (h.row i hi).1 fun b hb _ => hk b fun e => ?_, (h.row i hi).2⟩, fun b hb ht => ?_, fun b hb ht => ?_, ?_, ?_⟩
  · have := (h.row i hi).2 b hb
    rw [e, h.t9] at this
    omega
  · exact (hk b (fun e => by rw [e, h.t9] at ht; omega)).trans (h.el6 b (by omega) ht)
  · exact (hk b (fun e => by rw [e, h.t9] at ht; omega)).trans (h.el7 b (by omega) ht)
  · rw [hsz]; exact h.e0
  · rw [hsz]; exact h.e1

/-- A cell of the first function. -/
theorem Nm.cell (h : Nm N w tg V C B wr) {g n cap p : Nat} {u : Value} {c0 : List Value} {rest : List (List Value)} (hV : V 1 = .slice (some ⟨g, 0, none⟩) n cap) (hC : C 1 = c0 :: rest) (hl : c0.length = 5) (hp : p < 5) :
    Nm N w tg V (upd C 1 (c0.set p u :: rest)) B (wr.setCell ⟨g, p, none⟩ u) := by
  have hr := h.row 1 (by omega)
  have hg : tg g = 1 := hr.2 g (by rw [hV]; rfl)
  have hgl := hr.1.lt g (by rw [hV]; rfl)
  have hk : ∀ b, b ≠ g → (wr.setCell ⟨g, p, none⟩ u).heap[b]? = wr.heap[b]? := fun b hb => Below.heap_setCell wr ⟨g, p, none⟩ u b hb
  have hsz : (wr.setCell ⟨g, p, none⟩ u).heap.size = wr.heap.size := by simp
  refine ⟨h.low.setCell (by show N ≤ g; omega) _, by rw [hsz]; exact h.sz, h.t8, h.t9, (hk N (fun e => by rw [← e, h.t8] at hg; omega)).trans h.num, (hk (N + 2) (fun e => by rw [← e, h.t9] at hg; omega)).trans h.mod, fun i hi => ?_, fun b hb ht => ?_, fun b hb ht => ?_, ?_, ?_⟩
  · by_cases hi1 : i = 1
    · subst hi1
      refine ⟨?_, hr.2⟩
      have h1 := hr.1
      rw [hC] at h1
      simp only [upd, if_true]
      have hlen : (c0.set p u :: rest).length = (c0 :: rest).length := by simp
      have hfl : (c0.set p u :: rest).flatten = (c0 :: rest).flatten.set p u := by
        simp only [List.flatten_cons]
        rw [List.set_append_left _ _ (by omega)]
      rw [hlen, hfl]
      refine ⟨by rw [List.length_set]; exact h1.1, ?_⟩
      rcases h1.2 with ⟨hn, _⟩ | ⟨g', cap', cur, hv, hb, hgg, q1, q2, q3, q4⟩
      · rw [hV] at hn; cases hn
      · have hv' := hv
        rw [hV] at hv'
        simp only [Value.slice.injEq, Option.some.injEq, Addr.mk.injEq, and_true] at hv'
        obtain ⟨rfl, _, _⟩ := hv'
        have hbk : Blk wr g (rty 1) cur := hgg
        refine .inr ⟨g, cap', cur.setIfInBounds p u, hv, hb, hbk.set p u, q1, q2, by simpa using q3, ?_⟩
        rw [Array.toList_setIfInBounds, List.take_set, q4]
    · simp only [upd, hi1, if_false]
      have hri := h.row i hi
      exact ⟨own_keep hri.1 fun b hb _ => hk b fun e => hi1 (by rw [← hri.2 b hb, e]; exact hg), hri.2⟩
  · exact (hk b (fun e => by rw [e, hg] at ht; omega)).trans (h.el6 b (by omega) ht)
  · exact (hk b (fun e => by rw [e, hg] at ht; omega)).trans (h.el7 b (by omega) ht)
  · rw [hsz]; simpa [upd] using h.e0
  · rw [hsz]
    have := h.e1
    rw [hC] at this
    simpa [upd] using this
end

theorem cell_at (w : World) (t : TypeId) (cs : List Value) (b : Nat) (h : w.heap.size = b) : ∀ j u, cs[j]? = some u → (w.alloc (.cells cs.toArray t)).cell? ((⟨b, 0, none⟩ : Addr).add j) = some u := by
  subst h
  exact cell_new w t cs

section
variable {N : Nat} {w : World} {tg : Nat → Nat} {V : Nat → Value} {C : Nat → List (List Value)} {B : Array Value} {wr : World}
theorem Nm.drew (h : Nm N w tg V C B wr) : Nm N w tg V C B wr.drew := ⟨h.low.drew, h.sz, h.t8, h.t9, h.num, h.mod, h.row, h.el6, h.el7, h.e0, h.e1⟩
theorem Nm.below (h : Nm N w tg V C B wr) {w' : World} (hb : Below wr.heap.size wr w') : Nm N w (fun b => if b < wr.heap.size then tg b else 10) V C B w' := by
  have hz := h.sz
  have hs := hb.size
  have T : ∀ {b c : Nat}, b < wr.heap.size → tg b = c → (fun b => if b < wr.heap.size then tg b else 10) b = c := fun {b c} hb h => by
    show (if b < wr.heap.size then tg b else 10) = c
    rw [if_pos hb]; exact h
  have hel : ∀ b c, c ≠ 10 → (fun b => if b < wr.heap.size then tg b else 10) b = c → b < wr.heap.size ∧ tg b = c := fun b c hc ht => by
    replace ht : (if b < wr.heap.size then tg b else 10) = c := ht
    by_cases hb2 : b < wr.heap.size
    · rw [if_pos hb2] at ht; exact ⟨hb2, ht⟩
    · rw [if_neg hb2] at ht; exact absurd ht.symm hc
  refine ⟨h.low.trans (hb.mono (by omega)), by omega, T (by omega) h.t8, T (by omega) h.t9, (hb.block N (by omega)).trans h.num, (hb.block (N + 2) (by omega)).trans h.mod, fun i hi => ⟨own_keep (h.row i hi).1 fun b _ hl => hb.block b hl, fun b hv => T ((h.row i hi).1.lt b hv).2 ((h.row i hi).2 b hv)⟩, fun b _ ht => ?_, fun b _ ht => ?_, fun cs hcs => ?_, fun cs hcs => ?_⟩
  · obtain ⟨h1, h2⟩ := hel b 6 (by omega) ht
    exact (hb.block b h1).trans (h.el6 b h1 h2)
  · obtain ⟨h1, h2⟩ := hel b 7 (by omega) ht
    exact (hb.block b h1).trans (h.el7 b h1 h2)
  · obtain ⟨b, h1, h2, h3⟩ := h.e0 cs hcs
    exact ⟨b, by omega, T h1 h2, h3⟩
  · obtain ⟨b, h1, h2, h3⟩ := h.e1 cs hcs
    exact ⟨b, by omega, T h1 h2, h3⟩
theorem Nm.fst (h : Nm N w tg V C B wr) {c0 : List Value} {rest : List (List Value)} (hC : C 1 = c0 :: rest) : ∃ g m q, V 1 = .slice (some ⟨g, 0, none⟩) m q ∧ 0 < m := by
  have h1 := (h.row 1 (by omega)).1
  rw [hC] at h1
  rcases h1.2 with ⟨_, hn⟩ | ⟨g, cap, cur, hv, _⟩
  · simp at hn
  · exact ⟨g, _, cap, hv, by simp⟩
theorem Nm.fcell (h : Nm N w tg V C B wr) {g m q : Nat} (hV : V 1 = .slice (some ⟨g, 0, none⟩) m q) {c0 : List Value} {rest : List (List Value)} (hC : C 1 = c0 :: rest) {p : Nat} {u : Value} (hp : c0[p]? = some u) :
    wr.cell? ⟨g, p, none⟩ = some u ∧ wr.frozen? ⟨g, p, none⟩ = false := by
  have h1 := (h.row 1 (by omega)).1
  rw [hC, hV] at h1
  have e : (⟨g, 0, none⟩ : Addr).add p = ⟨g, p, none⟩ := by unfold Addr.add; split <;> simp_all
  have hc := h1.cells rfl p u (by rw [List.flatten_cons, List.getElem?_append_left (List.getElem?_eq_some_iff.1 hp).1]; exact hp)
  rw [e] at hc
  refine ⟨hc, ?_⟩
  rcases h1.2 with ⟨hn, _⟩ | ⟨g', cap', cur, hv, hb, hgg, _⟩
  · cases hn
  · simp only [Value.slice.injEq, Option.some.injEq, Addr.mk.injEq, and_true] at hv
    obtain ⟨rfl, _, _⟩ := hv
    exact Blk.frozen (cs := cur) hgg p
end
theorem Nm.put0 {N : Nat} {w : World} {tg : Nat → Nat} {V : Nat → Value} {C : Nat → List (List Value)} {b0 b1 b2 b3 b4 : Value} {wr : World} (h : Nm N w tg V C #[b0, b1, b2, b3, b4] wr) (u : Value) : Nm N w tg V C #[u, b1, b2, b3, b4] (wr.setCell ⟨N + 2, 0, none⟩ u) := h.box 0 u
theorem Nm.put1 {N : Nat} {w : World} {tg : Nat → Nat} {V : Nat → Value} {C : Nat → List (List Value)} {b0 b1 b2 b3 b4 : Value} {wr : World} (h : Nm N w tg V C #[b0, b1, b2, b3, b4] wr) (u : Value) : Nm N w tg V C #[b0, u, b2, b3, b4] (wr.setCell ⟨N + 2, 1, none⟩ u) := h.box 1 u
theorem Nm.put2 {N : Nat} {w : World} {tg : Nat → Nat} {V : Nat → Value} {C : Nat → List (List Value)} {b0 b1 b2 b3 b4 : Value} {wr : World} (h : Nm N w tg V C #[b0, b1, b2, b3, b4] wr) (u : Value) : Nm N w tg V C #[b0, b1, u, b3, b4] (wr.setCell ⟨N + 2, 2, none⟩ u) := h.box 2 u
theorem Nm.put3 {N : Nat} {w : World} {tg : Nat → Nat} {V : Nat → Value} {C : Nat → List (List Value)} {b0 b1 b2 b3 b4 : Value} {wr : World} (h : Nm N w tg V C #[b0, b1, b2, b3, b4] wr) (u : Value) : Nm N w tg V C #[b0, b1, b2, u, b4] (wr.setCell ⟨N + 2, 3, none⟩ u) := h.box 3 u
theorem Nm.put4 {N : Nat} {w : World} {tg : Nat → Nat} {V : Nat → Value} {C : Nat → List (List Value)} {b0 b1 b2 b3 b4 : Value} {wr : World} (h : Nm N w tg V C #[b0, b1, b2, b3, b4] wr) (u : Value) : Nm N w tg V C #[b0, b1, b2, b3, u] (wr.setCell ⟨N + 2, 4, none⟩ u) := h.box 4 u

def fC (v u : Value) : List Value := [.slice none 0 0, .int .i64 1, .int .i64 0, v, u]
def iC : List Value := [.slice none 0 0, .int .i64 1, .int .i64 0]
def nC : List Value := [.int .u64 7]
def sC : List Value := [.string ⟨#[120]⟩]
def tC : List Value := [.int .i64 1, .int .i64 0]
/-- The modules of SaneNames. -/
def nmod (k : Nat) (op a : Int) : Mod := ⟨List.replicate (k + 1) [(1, 0)], ⟨[], (1, 0), List.replicate (k + 1) (1, 0), [(op, a, 0)]⟩ :: List.replicate k fn0, List.replicate (k + 1) ⟨[], (1, 0)⟩, List.replicate (k + 1) 7, List.replicate (k + 1) [120]⟩
def nops : List Int := [0, 1, 3, 25, 27, 28]
theorem nops_val {i : Nat} {op : Int} (h : nops[i]? = some op) {hi : i < ([.int .i64 0, .int .i64 1, .int .i64 3, .int .i64 25, .int .i64 27, .int .i64 28] : List Value).length} : ([.int .i64 0, .int .i64 1, .int .i64 3, .int .i64 25, .int .i64 27, .int .i64 28] : List Value)[i]'hi = .int .i64 op := by
  have e : (nops.map (Value.int .i64))[i]? = some (.int .i64 op) := by rw [List.getElem?_map, h]; rfl
  exact (List.getElem?_eq_some_iff.1 e).2
theorem nmod_check : ∀ k, k < 8 → ∀ op ∈ nops, checkN (nmod k op k) = 0 ∧ checkN (nmod k op (k + 1)) = 1 := by decide +kernel
theorem raw_sl2 {α : Type} {L : Lay α} {S : Nat → Prop} {ty base : Nat} {w : World} {v : Value} {xs : List α} {css : List (List Value)} (hl : css.length = xs.length) (hown : w.ownsRow base ty L.k v css.length css.flatten)
    (hR : ∀ (j : Nat) (x : α) (cs : List Value), xs[j]? = some x → css[j]? = some cs → L.R S w cs x) (hS : ∀ b, base ≤ b → b < w.heap.size → S b) : (slL L).R S w [v] xs := raw_sl hl (by rw [← hl]; exact hown) hR hS
theorem get_rep {α : Type} {n j : Nat} {x y : α} (h : (List.replicate n x)[j]? = some y) : y = x := (List.mem_replicate.1 (List.mem_of_getElem? h)).2
/-- The law's module, as it lies. -/
theorem nm_laid {N : Nat} {w : World} {tg : Nat → Nat} {v0 v1 v2 v3 v4 v5 : Value} {cR cF : List (List Value)} {B : Array Value} {W : World} {b k : Nat} {op a : Int}
    (h : Nm N w tg (vec .nilFunc v0 v1 v2 v3 v4 v5) (vec [] cR (fC v5 (.slice (some ⟨b, 0, none⟩) 1 1) :: cF) (List.replicate (k + 1) iC) (List.replicate (k + 1) nC) (List.replicate (k + 1) sC) (List.replicate (k + 1) tC)) B W)
    (hb : Blk W b 44 #[.int .i64 op, .int .i64 a, .int .i64 0]) (hR : cR.length = k + 1) (hF : cF.length = k) (ho : I64 op) (ha : I64 a) : modL.R (· < W.heap.size) W [v0, v1, v2, v3, v4] (nmod k op a) := by
  have z : I64 0 := by unfold I64; omega
  have o1 : I64 1 := by unfold I64; omega
  have o26 : I64 26 := by unfold I64; omega
  have hT : tysL.R (· < W.heap.size) W [v5] (List.replicate (k + 1) (1, 0)) := by
    skip
    refine raw_sl2 (L := typL) (css := List.replicate (k + 1) tC) (by simp) (h.row 5 (by omega)).1 (fun i x cs h1 h2 => ?_) (fun b _ hb => hb)
    obtain rfl := get_rep h1
    obtain rfl := get_rep h2
    exact ⟨rfl, o1, z⟩
  refine ⟨v0, v1, v2, v3, v4, rfl, ?_, ?_, ?_, ?_, ?_⟩
  · skip
    refine raw_sl2 (L := tysL) (css := cR) (by simp [nmod, hR]) (h.row 0 (by omega)).1 (fun i x cs h1 h2 => ?_) (fun b _ hb => hb)
    obtain rfl := get_rep h1
    obtain ⟨b', hb1, hb2, rfl⟩ := h.e0 cs (List.mem_of_getElem? h2)
    exact one_sl (x := (1, 0)) (h.el6 b' hb1 hb2) hb1 ⟨rfl, o1, z⟩
  · skip
    refine raw_sl2 (L := fnL) (css := fC v5 (.slice (some ⟨b, 0, none⟩) 1 1) :: cF) (by simp [nmod, hF]) (h.row 1 (by omega)).1 (fun i x cs h1 h2 => ?_) (fun b _ hb => hb)
    cases i with
    | zero =>
      simp [nmod] at h1 h2
      subst h1 h2
      exact ⟨_, _, _, rfl, o1, z, nil_sl _ _ _, hT, one_sl (x := (op, a, 0)) hb hb.lt ⟨rfl, ho, ha, z⟩⟩
    | succ i =>
      simp only [nmod, List.getElem?_cons_succ] at h1 h2
      obtain rfl := get_rep h1
      obtain ⟨b', hb1, hb2, rfl⟩ := h.e1 cs (by simpa [vec] using List.mem_of_getElem? h2)
      exact ⟨_, _, _, rfl, o1, z, nil_sl _ _ _, nil_sl _ _ _, one_sl (x := (26, 0, 0)) (h.el7 b' hb1 hb2) hb1 ⟨rfl, o26, z, z⟩⟩
  · skip
    refine raw_sl2 (L := impL) (css := List.replicate (k + 1) iC) (by simp [nmod]) (h.row 2 (by omega)).1 (fun i x cs h1 h2 => ?_) (fun b _ hb => hb)
    obtain rfl := get_rep h1
    obtain rfl := get_rep h2
    exact ⟨_, rfl, o1, z, nil_sl _ _ _⟩
  · skip
    refine raw_sl2 (L := numL) (css := List.replicate (k + 1) nC) (by simp [nmod]) (h.row 3 (by omega)).1 (fun i x cs h1 h2 => ?_) (fun b _ hb => hb)
    obtain rfl := get_rep h1
    obtain rfl := get_rep h2
    exact ⟨rfl, by unfold B64; omega⟩
  · skip
    refine raw_sl2 (L := strL) (css := List.replicate (k + 1) sC) (by simp [nmod]) (h.row 4 (by omega)).1 (fun i x cs h1 h2 => ?_) (fun b _ hb => hb)
    obtain rfl := get_rep h1
    obtain rfl := get_rep h2
    exact ⟨⟨#[120]⟩, rfl, rfl⟩
section
variable {N : Nat} {w : World} {tg : Nat → Nat} {v0 v2 v3 v4 v5 u c : Value} {g m q : Nat} {cR cF c2 c3 c4 c5 : List (List Value)} {B : Array Value} {wr : World}
/-- The first function's code. -/
theorem Nm.code1 (h : Nm N w tg (vec .nilFunc v0 (.slice (some ⟨g, 0, none⟩) m q) v2 v3 v4 v5) (vec [] cR (fC v5 c :: cF) c2 c3 c4 c5) B wr) (t : Nat) (o : Array Value) :
    ∃ tg', Nm N w tg' (vec .nilFunc v0 (.slice (some ⟨g, 0, none⟩) m q) v2 v3 v4 v5) (vec [] cR (fC v5 u :: cF) c2 c3 c4 c5) B ((wr.alloc (.cells o t)).setCell ⟨g, 4, none⟩ u) ∧ Blk ((wr.alloc (.cells o t)).setCell ⟨g, 4, none⟩ u) wr.heap.size t o := by
  have hg := ((h.row 1 (by omega)).1.lt g rfl).2
  have h2 := (h.alloc 10 (.cells o t) (fun h => by cases h) (fun h => by cases h)).cell (g := g) (n := m) (cap := q) (p := 4) (u := u) rfl rfl rfl (by omega)
  rw [upd_vec1] at h2
  exact ⟨_, h2, blk_other (blk_at rfl) (by omega)⟩
theorem Nm.code2 (h : Nm N w tg (vec .nilFunc v0 (.slice (some ⟨g, 0, none⟩) m q) v2 v3 v4 v5) (vec [] cR (fC v5 c :: cF) c2 c3 c4 c5) B wr) (t : Nat) (o : Array Value) :
    ∃ tg', Nm N w tg' (vec .nilFunc v0 (.slice (some ⟨g, 0, none⟩) m q) v2 v3 v4 v5) (vec [] cR (fC v5 u :: cF) c2 c3 c4 c5) B ((wr.setCell ⟨g, 4, none⟩ u).alloc (.cells o t)) ∧ Blk ((wr.setCell ⟨g, 4, none⟩ u).alloc (.cells o t)) wr.heap.size t o := by
  have h2 := h.cell (g := g) (n := m) (cap := q) (p := 4) (u := u) rfl rfl rfl (by omega)
  rw [upd_vec1] at h2
  exact ⟨_, h2.alloc 10 (.cells o t) (fun h => by cases h) (fun h => by cases h), blk_at (by simp)⟩
end
end Go.Proofs.Ytpgfbnilnoopoaa
