/-
  What happens to a row of objects that is somebody's own: one more behind the others, a word or a byte of one is written, one is laid in another's place, a row just made.
  Conditions: as each theorem says.
-/
import Derived.Test.YtdadaklkaehmjaaHo
namespace Go.Proofs.Ytdadaklkaehmjaa
open Go.RowKit
set_option linter.unusedSimpArgs false
set_option linter.unusedVariables false

theorem ob_info : (Try.prog.info? 28).map (fun i => (i.zero, i.size, i.bytes)) = some (some (.agg #[.int .i64 0, .int .i64 0, .slice none 0 0, .slice none 0 0]), 4, 64) := by kernel_rfl

/-- One more. -/
theorem Row.push {S P0 P1 : Nat → Prop} {tag : Nat → Nat} {w w' : World} {v v' : Value} {css : List (List Value)} {cs : List Value} {O : List Ob} {o : Ob} (h : Row S tag w v css O) (hS : ∀ b, S b → b < w.heap.size)
    (hob : Obj1 P0 P1 w cs o) (p0 : ∀ b, P0 b → b < w.heap.size ∧ ¬ S b) (p1 : ∀ b, P1 b → b < w.heap.size ∧ ¬ S b) (p01 : ∀ b, P0 b → ¬ P1 b)
    (hown : w'.ownsRow 0 28 4 v' (O.length + 1) (css.flatten ++ cs)) (hg : w.grownBy w' v.ownBlock) (hv : v'.ownBlock = v.ownBlock ∨ v'.ownBlock = some w.heap.size) :
    ∃ tag', Row (fun b => S b ∨ P0 b ∨ P1 b ∨ (w.heap.size ≤ b ∧ b < w'.heap.size)) tag' w' v' (css ++ [cs]) (O ++ [o]) ∧ ∀ b, S b → tag' b = tag b := by
  classical
  obtain ⟨hl, hown0, hb, hR⟩ := h
  have hT : ∃ tag' : Nat → Nat, (∀ b, S b → tag' b = tag b) ∧ (∀ b, P0 b → tag' b = 2 * O.length + 2) ∧ (∀ b, P1 b → tag' b = 2 * O.length + 3) ∧ tag' w.heap.size = 1 := by
    refine ⟨fun b => if S b then tag b else if P0 b then 2 * O.length + 2 else if P1 b then 2 * O.length + 3 else 1, fun b hb => by simp [hb], fun b hb => ?_, fun b hb => ?_, ?_⟩
    · show (if S b then tag b else if P0 b then _ else _) = _
      rw [if_neg (p0 b hb).2, if_pos hb]
    · show (if S b then tag b else if P0 b then _ else if P1 b then _ else _) = _
      rw [if_neg (p1 b hb).2, if_neg (fun q => p01 b q hb), if_pos hb]
    · show (if S w.heap.size then _ else if P0 w.heap.size then _ else if P1 w.heap.size then _ else _) = _
      rw [if_neg (fun q => Nat.lt_irrefl _ (hS _ q)), if_neg (fun q => Nat.lt_irrefl _ (p0 _ q).1), if_neg (fun q => Nat.lt_irrefl _ (p1 _ q).1)]
  obtain ⟨tag', t1, t2, t3, t4⟩ := hT
  have hne : ∀ b, b < w.heap.size → v.ownBlock ≠ some b → w'.heap[b]? = w.heap[b]? := fun b h1 h2 => hg.block b h1 fun e => h2 e.symm
  have hns : ∀ b, ¬ S b → v.ownBlock ≠ some b := fun b h1 e => h1 (hb b e).1
  refine ⟨tag', ⟨by simp [hl], by simpa using hown, fun b e => ?_, fun j x ds e1 e2 => ?_⟩, t1⟩
  · rcases hv with e' | e'
    · rw [e'] at e
      obtain ⟨q1, q2⟩ := hb b e
      exact ⟨.inl q1, by rw [t1 b q1]; exact q2⟩
    · rw [e'] at e
      injection e with e
      subst e
      have hlt := hown.lt _ e'
      exact ⟨.inr (.inr (.inr ⟨Nat.le_refl _, hlt.2⟩)), t4⟩
  · rcases Nat.lt_or_ge j O.length with hj | hj
    · rw [List.getElem?_append_left hj] at e1
      rw [List.getElem?_append_left (by omega)] at e2
      have q := hR j x ds e1 e2
      refine (q.keep (w' := w') (fun b hb' => hne b (hS b hb'.1) fun e => ?_) fun b hb' => hne b (hS b hb'.1) fun e => ?_).wide (fun b _ hb' => ⟨.inl hb'.1, by rw [t1 b hb'.1]; exact hb'.2⟩) fun b _ hb' => ⟨.inl hb'.1, by rw [t1 b hb'.1]; exact hb'.2⟩
      · have := (hb b e).2; omega
      · have := (hb b e).2; omega
    · rw [List.getElem?_append_right hj] at e1
      rw [List.getElem?_append_right (by omega), hl] at e2
      have e0 : j - O.length = 0 := by
        rcases Nat.eq_zero_or_pos (j - O.length) with h | h
        · exact h
        · rw [List.getElem?_eq_none (by simp; omega)] at e1
          cases e1
      rw [e0] at e1 e2
      simp at e1 e2
      subst e1 e2
      have ej : j = O.length := by omega
      subst ej
      refine (hob.keep (w' := w') (fun b hb' => hne b (p0 b hb').1 (hns b (p0 b hb').2)) fun b hb' => hne b (p1 b hb').1 (hns b (p1 b hb').2)).wide (fun b _ hb' => ⟨.inr (.inl hb'), t2 b hb'⟩) fun b _ hb' => ⟨.inr (.inr (.inl hb')), t3 b hb'⟩

/-- The words of one object: their block. -/
theorem Row.word_at {S : Nat → Prop} {tag : Nat → Nat} {w : World} {v : Value} {css : List (List Value)} {O : List Ob} (h : Row S tag w v css O) {j : Nat} {o : Ob} {k n z : Value} {A : Option Addr} {m c : Nat} (hj : O[j]? = some o) (hc : css[j]? = some [k, n, .slice A m c, z]) (hm : 0 < m) :
    m = o.words.length ∧ ∃ g, A = some ⟨g, 0, none⟩ ∧ S g ∧ tag g = 2 * j + 2 ∧ g < w.heap.size ∧ (∀ i, w.frozen? ⟨g, i, none⟩ = false) ∧ ∀ (i x : Nat), o.words[i]? = some x → w.cell? ⟨g, i, none⟩ = some (.int .u64 (x : Int)) := by
  obtain ⟨v0, v1, e, h1, h2, h3, h4, e0, e1⟩ := h.2.2.2 j o _ hj hc
  simp only [List.cons.injEq, and_true] at e
  obtain ⟨rfl, rfl, rfl, rfl⟩ := e
  have hm' : m = o.words.length := by
    obtain ⟨A', c', e, -⟩ := e0
    simp only [Value.slice.injEq] at e
    rw [e.2.1, Ns_length]
  obtain ⟨g, cur, rfl, ⟨hs, ht⟩, hb, hcells⟩ := e0.head hm
  refine ⟨hm', g, rfl, hs, ht, hb.lt, fun i => hb.frozen i, fun i x hx => ?_⟩
  rw [hb.cell]
  exact hcells i _ (Ns_at hx)
theorem Row.byte_at {S : Nat → Prop} {tag : Nat → Nat} {w : World} {v : Value} {css : List (List Value)} {O : List Ob} (h : Row S tag w v css O) {j : Nat} {o : Ob} {k n z : Value} {A : Option Addr} {m c : Nat} (hj : O[j]? = some o) (hc : css[j]? = some [k, n, z, .slice A m c]) (hm : 0 < m) :
    m = o.bytes.length ∧ ∃ g, A = some ⟨g, 0, none⟩ ∧ S g ∧ tag g = 2 * j + 3 ∧ g < w.heap.size ∧ (∀ i, w.frozen? ⟨g, i, none⟩ = false) ∧ ∀ (i x : Nat), o.bytes[i]? = some x → w.cell? ⟨g, i, none⟩ = some (.int .u8 (x : Int)) := by
  obtain ⟨v0, v1, e, h1, h2, h3, h4, e0, e1⟩ := h.2.2.2 j o _ hj hc
  simp only [List.cons.injEq, and_true] at e
  obtain ⟨rfl, rfl, rfl, rfl⟩ := e
  have hm' : m = o.bytes.length := by
    obtain ⟨A', c', e, -⟩ := e1
    simp only [Value.slice.injEq] at e
    rw [e.2.1, Bs_length]
  obtain ⟨g, cur, rfl, ⟨hs, ht⟩, hb, hcells⟩ := e1.head hm
  refine ⟨hm', g, rfl, hs, ht, hb.lt, fun i => hb.frozen i, fun i x hx => ?_⟩
  rw [hb.cell]
  exact hcells i _ (Bs_at hx)

/-- A word of one object is written. -/
theorem Row.setWord {S : Nat → Prop} {tag : Nat → Nat} {w : World} {v : Value} {css : List (List Value)} {O : List Ob} (h : Row S tag w v css O) {j : Nat} {o : Ob} {k n z : Value} {g m c i x : Nat} (hj : O[j]? = some o) (hc : css[j]? = some [k, n, .slice (some ⟨g, 0, none⟩) m c, z]) (hm : 0 < m) (hx : x < B64) :
    Row S tag (w.setCell ⟨g, i, none⟩ (.int .u64 (x : Int))) v css (O.set j { o with words := o.words.set i x }) := by
  obtain ⟨hm', g', eg, hs, ht, -, -, -⟩ := h.word_at hj hc hm
  simp only [Option.some.injEq, Addr.mk.injEq, and_true] at eg
  subst eg
  obtain ⟨hl, hown, hb, hR⟩ := h
  have hk : ∀ b, b ≠ g → (w.setCell ⟨g, i, none⟩ (.int .u64 (x : Int))).heap[b]? = w.heap[b]? := fun b hb' => Below.heap_setCell _ _ _ _ hb'
  have hjl := (List.getElem?_eq_some_iff.1 hj).1
  refine ⟨by simpa using hl, by rw [List.length_set]; exact ownr_keep hown fun b e => hk b (fun q => by subst q; have := (hb _ e).2; omega), hb, fun j' o' cs' h1 h2 => ?_⟩
  · rw [List.getElem?_set] at h1
    by_cases e : j = j'
    · subst e
      rw [if_pos rfl, if_pos hjl] at h1
      injection h1 with h1
      subst h1
      rw [hc] at h2
      injection h2 with h2
      subst h2
      obtain ⟨v0, v1, e, q1, q2, h3, h4, e0, e1⟩ := hR j o _ hj hc
      simp only [List.cons.injEq, and_true] at e
      obtain ⟨rfl, rfl, rfl, rfl⟩ := e
      refine ⟨_, _, rfl, q1, q2, fun y hy => ?_, h4, ?_, e1.keep fun b hb' => hk b (fun q => by subst q; omega)⟩
      · rcases List.mem_or_eq_of_mem_set hy with h | h
        · exact h3 y h
        · rw [h]; exact hx
      · have := e0.set (i := i) hm (.int .u64 (x : Int))
        rw [Ns_set] at this
        exact this
    · rw [if_neg e] at h1
      exact (hR j' o' cs' h1 h2).keep (fun b hb' => hk b (fun q => by subst q; omega)) fun b hb' => hk b (fun q => by subst q; omega)
theorem Row.setByte {S : Nat → Prop} {tag : Nat → Nat} {w : World} {v : Value} {css : List (List Value)} {O : List Ob} (h : Row S tag w v css O) {j : Nat} {o : Ob} {k n z : Value} {g m c i x : Nat} (hj : O[j]? = some o) (hc : css[j]? = some [k, n, z, .slice (some ⟨g, 0, none⟩) m c]) (hm : 0 < m) (hx : x < 256) :
    Row S tag (w.setCell ⟨g, i, none⟩ (.int .u8 (x : Int))) v css (O.set j { o with bytes := o.bytes.set i x }) := by
  obtain ⟨hm', g', eg, hs, ht, -, -, -⟩ := h.byte_at hj hc hm
  simp only [Option.some.injEq, Addr.mk.injEq, and_true] at eg
  subst eg
  obtain ⟨hl, hown, hb, hR⟩ := h
  have hk : ∀ b, b ≠ g → (w.setCell ⟨g, i, none⟩ (.int .u8 (x : Int))).heap[b]? = w.heap[b]? := fun b hb' => Below.heap_setCell _ _ _ _ hb'
  have hjl := (List.getElem?_eq_some_iff.1 hj).1
  refine ⟨by simpa using hl, by rw [List.length_set]; exact ownr_keep hown fun b e => hk b (fun q => by subst q; have := (hb _ e).2; omega), hb, fun j' o' cs' h1 h2 => ?_⟩
  · rw [List.getElem?_set] at h1
    by_cases e : j = j'
    · subst e
      rw [if_pos rfl, if_pos hjl] at h1
      injection h1 with h1
      subst h1
      rw [hc] at h2
      injection h2 with h2
      subst h2
      obtain ⟨v0, v1, e, q1, q2, h3, h4, e0, e1⟩ := hR j o _ hj hc
      simp only [List.cons.injEq, and_true] at e
      obtain ⟨rfl, rfl, rfl, rfl⟩ := e
      refine ⟨_, _, rfl, q1, q2, h3, fun y hy => ?_, e0.keep fun b hb' => hk b (fun q => by subst q; omega), ?_⟩
      · rcases List.mem_or_eq_of_mem_set hy with h | h
        · exact h4 y h
        · rw [h]; exact hx
      · have := e1.set (i := i) hm (.int .u8 (x : Int))
        rw [Bs_set'] at this
        exact this
    · rw [if_neg e] at h1
      exact (hR j' o' cs' h1 h2).keep (fun b hb' => hk b (fun q => by subst q; omega)) fun b hb' => hk b (fun q => by subst q; omega)

/-- Four cells, one behind the other. -/
def put4 (w : World) (g i : Nat) (u0 u1 u2 u3 : Value) : World := (((w.setCell ⟨g, i, none⟩ u0).setCell ⟨g, i + 1, none⟩ u1).setCell ⟨g, i + 2, none⟩ u2).setCell ⟨g, i + 3, none⟩ u3
theorem put4_block (w : World) (g i : Nat) (u0 u1 u2 u3 : Value) (b : Nat) (hb : b ≠ g) : (put4 w g i u0 u1 u2 u3).heap[b]? = w.heap[b]? := by
  unfold put4
  rw [Below.heap_setCell _ _ _ _ hb, Below.heap_setCell _ _ _ _ hb, Below.heap_setCell _ _ _ _ hb, Below.heap_setCell _ _ _ _ hb]
theorem put4_size (w : World) (g i : Nat) (u0 u1 u2 u3 : Value) : (put4 w g i u0 u1 u2 u3).heap.size = w.heap.size := by simp [put4, World.setCell]
theorem put4_only (w : World) (g i : Nat) (u0 u1 u2 u3 : Value) : Only g w (put4 w g i u0 u1 u2 u3) := only_set (only_set (only_set (only_set (only_refl g w) _ _) _ _) _ _) _ _
theorem put4_own {w : World} {base ty g n c j : Nat} {css : List (List Value)} {cs : List Value} (hk : ∀ ds ∈ css, ds.length = 4) (hj : css[j]? = some cs) (h : w.ownsRow base ty 4 (.slice (some ⟨g, 0, none⟩) n c) n css.flatten) (u0 u1 u2 u3 : Value) :
    (put4 w g (j * 4) u0 u1 u2 u3).ownsRow base ty 4 (.slice (some ⟨g, 0, none⟩) n c) n (css.set j [u0, u1, u2, u3]).flatten := by
  have h4 : cs.length = 4 := hk cs (List.mem_of_getElem? hj)
  have hjl := (List.getElem?_eq_some_iff.1 hj).1
  have s0 := (h.stored (j * 4) u0).1
  rw [show j * 4 = j * 4 + 0 from rfl, flat_set hk hj (by omega) u0, Nat.add_zero] at s0
  have k1 : ∀ ds ∈ css.set j (cs.set 0 u0), ds.length = 4 := fun ds hd => by
    rcases List.mem_or_eq_of_mem_set hd with h | h
    · exact hk ds h
    · rw [h, List.length_set]; exact h4
  have j1 : (css.set j (cs.set 0 u0))[j]? = some (cs.set 0 u0) := by rw [List.getElem?_set_self hjl]
  have s1 := (s0.stored (j * 4 + 1) u1).1
  rw [flat_set k1 j1 (by omega) u1, List.set_set] at s1
  have k2 : ∀ ds ∈ css.set j ((cs.set 0 u0).set 1 u1), ds.length = 4 := fun ds hd => by
    rcases List.mem_or_eq_of_mem_set hd with h | h
    · exact hk ds h
    · rw [h, List.length_set, List.length_set]; exact h4
  have j2 : (css.set j ((cs.set 0 u0).set 1 u1))[j]? = some ((cs.set 0 u0).set 1 u1) := by rw [List.getElem?_set_self hjl]
  have s2 := (s1.stored (j * 4 + 2) u2).1
  rw [flat_set k2 j2 (by omega) u2, List.set_set] at s2
  have k3 : ∀ ds ∈ css.set j (((cs.set 0 u0).set 1 u1).set 2 u2), ds.length = 4 := fun ds hd => by
    rcases List.mem_or_eq_of_mem_set hd with h | h
    · exact hk ds h
    · rw [h, List.length_set, List.length_set, List.length_set]; exact h4
  have j3 : (css.set j (((cs.set 0 u0).set 1 u1).set 2 u2))[j]? = some (((cs.set 0 u0).set 1 u1).set 2 u2) := by rw [List.getElem?_set_self hjl]
  have s3 := (s2.stored (j * 4 + 3) u3).1
  rw [flat_set k3 j3 (by omega) u3, List.set_set] at s3
  have e : (((cs.set 0 u0).set 1 u1).set 2 u2).set 3 u3 = [u0, u1, u2, u3] := by
    match cs, h4 with
    | [a, b, c, d], _ => rfl
  rw [e] at s3
  exact s3
/-- An object is laid in another's place. -/
theorem Row.put {S P0 P1 : Nat → Prop} {tag : Nat → Nat} {w : World} {g n c j : Nat} {css : List (List Value)} {O : List Ob} {o : Ob} {u0 u1 u2 u3 : Value} (h : Row S tag w (.slice (some ⟨g, 0, none⟩) n c) css O) (hj : j < O.length)
    (hob : Obj1 P0 P1 w [u0, u1, u2, u3] o) (p0 : ∀ b, P0 b → ¬ S b) (p1 : ∀ b, P1 b → ¬ S b) (p01 : ∀ b, P0 b → ¬ P1 b) :
    ∃ tag', Row (fun b => S b ∨ P0 b ∨ P1 b) tag' (put4 w g (j * 4) u0 u1 u2 u3) (.slice (some ⟨g, 0, none⟩) n c) (css.set j [u0, u1, u2, u3]) (O.set j o) ∧ ∀ b, S b → tag' b = tag b := by
  classical
  have h4 := h.len4
  obtain ⟨hl, hown, hb, hR⟩ := h
  have hT : ∃ tag' : Nat → Nat, (∀ b, S b → tag' b = tag b) ∧ (∀ b, P0 b → tag' b = 2 * j + 2) ∧ (∀ b, P1 b → tag' b = 2 * j + 3) := by
    refine ⟨fun b => if S b then tag b else if P0 b then 2 * j + 2 else 2 * j + 3, fun b hb => by simp [hb], fun b hb => ?_, fun b hb => ?_⟩
    · show (if S b then tag b else if P0 b then _ else _) = _
      rw [if_neg (p0 b hb), if_pos hb]
    · show (if S b then tag b else if P0 b then _ else _) = _
      rw [if_neg (p1 b hb), if_neg (fun q => p01 b q hb)]
  obtain ⟨tag', t1, t2, t3⟩ := hT
  have hg := hb g rfl
  have hjl : j < css.length := by rw [hl]; exact hj
  have hjc : css[j]? = some (css[j]'hjl) := List.getElem?_eq_getElem _
  have en : n = O.length := by
    obtain ⟨g', c', e, -⟩ := ownr_some hown (by omega)
    simp only [Value.slice.injEq] at e
    exact e.2.1
  have hown' : (put4 w g (j * 4) u0 u1 u2 u3).ownsRow 0 28 4 (.slice (some ⟨g, 0, none⟩) n c) n (css.set j [u0, u1, u2, u3]).flatten := put4_own h4 hjc (by rw [en]; rw [en] at hown; exact hown) u0 u1 u2 u3
  refine ⟨tag', ⟨by simp [hl], by rw [List.length_set, ← en]; exact hown', fun b e => ⟨.inl (hb b e).1, by rw [t1 b (hb b e).1]; exact (hb b e).2⟩, fun j' o' cs' h1 h2 => ?_⟩, t1⟩
  rw [List.getElem?_set] at h1 h2
  by_cases e : j = j'
  · subst e
    rw [if_pos rfl, if_pos hj] at h1
    rw [if_pos rfl, if_pos (by omega)] at h2
    injection h1 with h1
    injection h2 with h2
    subst h1 h2
    exact (hob.keep (w' := put4 w g (j * 4) u0 u1 u2 u3) (fun b hb' => put4_block w g _ _ _ _ _ b (fun q => p0 b hb' (by rw [q]; exact hg.1))) fun b hb' => put4_block w g _ _ _ _ _ b (fun q => p1 b hb' (by rw [q]; exact hg.1))).wide (fun b _ hb' => ⟨.inr (.inl hb'), t2 b hb'⟩) fun b _ hb' => ⟨.inr (.inr hb'), t3 b hb'⟩
  · rw [if_neg e] at h1 h2
    exact ((hR j' o' cs' h1 h2).keep (w' := put4 w g (j * 4) u0 u1 u2 u3) (fun b hb' => put4_block w g _ _ _ _ _ b (fun q => by subst q; have := hg.2; omega)) fun b hb' => put4_block w g _ _ _ _ _ b (fun q => by subst q; have := hg.2; omega)).wide (fun b _ hb' => ⟨.inl hb'.1, by rw [t1 b hb'.1]; exact hb'.2⟩) fun b _ hb' => ⟨.inl hb'.1, by rw [t1 b hb'.1]; exact hb'.2⟩

def zer4 : List Value := [.int .i64 0, .int .i64 0, .slice none 0 0, .slice none 0 0]
theorem made_C4 (n : Nat) : (madeCells #[.int .i64 0, .int .i64 0, .slice none 0 0, .slice none 0 0] (n * 4)).toList = (List.replicate n zer4).flatten := by
  have hk : ∀ ds ∈ List.replicate n zer4, ds.length = 4 := fun ds hd => by rw [List.eq_of_mem_replicate hd]; rfl
  apply List.ext_getElem?
  intro i
  by_cases hi : i < n * 4
  · have hj : i / 4 < n := by omega
    have hr : (List.replicate n zer4)[i / 4]? = some zer4 := by simp [hj]
    have h0 := flat_get hk hr (i % 4) (by omega)
    rw [show i / 4 * 4 + i % 4 = i by omega] at h0
    rw [h0]
    have hm : i % 4 = 0 ∨ i % 4 = 1 ∨ i % 4 = 2 ∨ i % 4 = 3 := by omega
    rcases hm with e | e | e | e <;> simp [madeCells, hi, e, zer4]
  · rw [List.getElem?_eq_none (by simp [madeCells]; omega), List.getElem?_eq_none (by rw [flat_len hk]; simp; omega)]
theorem run_make_ob (n : Nat) (hn : n ≤ 1000000) (w : World) : (Instr.makeSlice 22 (.int .i64 (n : Nat)) (.int .i64 (n : Nat))).run Try.prog w = .ok (.slice (some ⟨w.heap.size, 0, none⟩) n n) (w.alloc (.cells (madeCells #[.int .i64 0, .int .i64 0, .slice none 0 0, .slice none 0 0] (n * 4)) 28)) := by
  obtain ⟨i, hi, hz, hs, hb⟩ := info_parts ob_info
  have := run_make (P := Try.prog) w 22 28 i _ Try.underlying22 hi hz .i64 .i64 (n : Int) (n : Int) (by omega) (Int.le_refl _) (by rw [hb]; omega) (by omega)
  rw [hs, Int.toNat_natCast] at this
  exact this
/-- A row just made. -/
theorem Row.made (w : World) (n : Nat) (hn : n ≤ 1000000) : Row (fun b => b = w.heap.size) (fun _ => 1) (w.alloc (.cells (madeCells #[.int .i64 0, .int .i64 0, .slice none 0 0, .slice none 0 0] (n * 4)) 28)) (.slice (some ⟨w.heap.size, 0, none⟩) n n) (List.replicate n zer4) (List.replicate n ob0) := by
  refine ⟨by simp, ?_, fun b e => ?_, fun j o cs h1 h2 => ?_⟩
  · rw [← made_C4, List.length_replicate]
    exact World.ownsRow_lit (base := 0) w _ n (Nat.zero_le _) (by simp only [maxLen]; omega) (by rw [size_madeCells])
  · simp [Value.ownBlock] at e
    exact ⟨e.symm, rfl⟩
  · rw [List.eq_of_mem_replicate (List.mem_of_getElem? h1), List.eq_of_mem_replicate (List.mem_of_getElem? h2)]
    exact ob0_one _ _ _
theorem Row.frozen0 {S : Nat → Prop} {tag : Nat → Nat} {w : World} {v : Value} {g n c : Nat} {css : List (List Value)} {O : List Ob} (h : Row S tag w v css O) (hv : v = .slice (some ⟨g, 0, none⟩) n c) (hn : 0 < O.length) (i : Nat) : w.frozen? ⟨g, i, none⟩ = false := by
  obtain ⟨g', c', e, -⟩ := ownr_some h.2.1 hn
  subst hv
  simp only [Value.slice.injEq, Option.some.injEq, Addr.mk.injEq, and_true] at e
  obtain ⟨rfl, rfl, rfl⟩ := e
  exact h.2.1.frozenAt i
/-- The four cells of one of its objects. -/
theorem Row.four {S : Nat → Prop} {tag : Nat → Nat} {w : World} {g n c : Nat} {css : List (List Value)} {O : List Ob} (h : Row S tag w (.slice (some ⟨g, 0, none⟩) n c) css O) {j : Nat} (hj : j < O.length) :
    ∃ x0 x1 x2 x3, w.cell? ⟨g, j * 4, none⟩ = some x0 ∧ w.cell? ⟨g, j * 4 + 1, none⟩ = some x1 ∧ w.cell? ⟨g, j * 4 + 2, none⟩ = some x2 ∧ w.cell? ⟨g, j * 4 + 3, none⟩ = some x3 := by
  obtain ⟨g', cs, e, -, -, -, -, hc, -, ho⟩ := h.cells (List.getElem?_eq_getElem hj)
  simp only [Option.some.injEq, Addr.mk.injEq, and_true] at e
  subst e
  obtain ⟨A, c, B, d, rfl, -⟩ := ho.parts
  exact ⟨_, _, _, _, hc 0 _ rfl, hc 1 _ rfl, hc 2 _ rfl, hc 3 _ rfl⟩
end Go.Proofs.Ytdadaklkaehmjaa
