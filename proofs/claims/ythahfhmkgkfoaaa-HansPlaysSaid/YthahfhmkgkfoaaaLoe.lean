/-
  What appending one thing to a list of the call's own does.
  Conditions: as each theorem says.
-/
import Derived.Test.YthahfhmkgkfoaaaLy
import Derived.Test.YthahfhmkgkfoaaaBk0
import Derived.Test.YthahfhmkgkfoaaaRaw
import Derived.Maps.AppendAt
namespace Go.Proofs.Ythahfhmkgkfoaaa
open Go.RowKit
set_option linter.unusedSimpArgs false
set_option linter.unusedVariables false

theorem Owns.push {α : Type} {L : Lay α} {ty base : Nat} {w w' : World} {v v' : Value} {xs : List α} {css : List (List Value)} {cs : List Value} {x : α} (hl : css.length = xs.length)
    (hR : ∀ (j : Nat) (x : α) (cs : List Value), xs[j]? = some x → css[j]? = some cs → L.R (fun b => base ≤ b ∧ b < w.heap.size ∧ v.ownBlock ≠ some b) w cs x)
    (hx : L.R (fun b => base ≤ b ∧ b < w.heap.size ∧ v.ownBlock ≠ some b) w cs x) (hown : w'.ownsRow base ty L.k v' (xs.length + 1) (css.flatten ++ cs)) (hg : w.grownBy w' v.ownBlock)
    (hv : v'.ownBlock = v.ownBlock ∨ v'.ownBlock = some w.heap.size) : Owns L ty base w' v' (xs ++ [x]) := by
  have hk : ∀ {cs : List Value} {x : α}, L.R (fun b => base ≤ b ∧ b < w.heap.size ∧ v.ownBlock ≠ some b) w cs x → L.R (fun b => base ≤ b ∧ b < w'.heap.size ∧ v'.ownBlock ≠ some b) w' cs x := fun h =>
    L.wide (L.keep h fun b hb => hg.block b hb.2.1 (fun e => hb.2.2 e.symm)) fun b hb => ⟨hb.1, Nat.lt_of_lt_of_le hb.2.1 hg.size, by
      rcases hv with e | e
      · rw [e]; exact hb.2.2
      · rw [e]; intro e2; injection e2 with e2; omega⟩
  refine ⟨css ++ [cs], by simp [hl], by simpa using hown, fun j y ds h1 h2 => ?_⟩
  rcases Nat.lt_or_ge j xs.length with hj | hj
  · rw [List.getElem?_append_left hj] at h1
    rw [List.getElem?_append_left (by omega)] at h2
    exact hk (hR j y ds h1 h2)
  · rw [List.getElem?_append_right hj] at h1
    rw [List.getElem?_append_right (by omega), hl] at h2
    have e0 : j - xs.length = 0 := by
      rcases Nat.eq_zero_or_pos (j - xs.length) with h | h
      · exact h
      · rw [List.getElem?_eq_none (by simp; omega)] at h1
        cases h1
    rw [e0] at h1 h2
    simp at h1 h2
    subst h1 h2
    exact hk hx

set_option maxRecDepth 100000 in
theorem walk_append_el {α : Type} (L : Lay α) (w : World) {ops : Array Oper} {rest : List Oper} {o : Oper} {a : Act} {Q : Exit → Act → World → Prop} (hgd : o.guard = none) (s x : Operand) (T E : TypeId)
    (ho : o.op = .call { callee := .builtin .append, args := #[s, x], argTypes := #[T, T] })
    (z : Value) (B : Nat) (hT : Try.prog.underlying T = some (.slice E)) (hI : (Try.prog.info? E).map (fun i => (i.zero, i.size, i.bytes)) = some (some z, L.k, B)) (hz : z.cells.size = L.k) (hk : 0 < L.k) (hB : B ≤ 100)
    (base : Nat) (v : Value) (xs : List α) (hs : a.eval s = v) (hO : Owns L E base w v xs) (ad : Addr) (d : Nat) (hx : a.eval x = .slice (some ad) 1 d) (cs : List Value) (y : α)
    (hc : ∀ j u, cs[j]? = some u → w.cell? (ad.add j) = some u) (hR : L.R (fun b => base ≤ b ∧ b < w.heap.size ∧ v.ownBlock ≠ some b) w cs y) (hbig : xs.length ≤ 1000000) (hbase : base ≤ w.heap.size)
    (h : ∀ v' w', Owns L E base w' v' (xs ++ [y]) → w.grownBy w' v.ownBlock → wpList Try.prog ops Q rest (a.put o.dst v') w') : wpList Try.prog ops Q (o :: rest) a w := by
  refine wpList_plain hgd fun _ hK => ?_
  obtain ⟨i0, hi0, hz0, hz1, hz2⟩ := info_parts hI
  obtain ⟨css, hl, hown, hRs⟩ := hO
  have hBx : (xs.length + 1) * B ≤ 140737488355328 := by
    have := Nat.mul_le_mul (show xs.length + 1 ≤ 1000001 by omega) hB
    omega
  obtain ⟨v', w', hrun, h2, h3, _, h5⟩ := run_append_own_at (P := Try.prog) w base T o.type E i0 z L.k B hT hi0 hz0 hz1 hz2 hz hk v xs.length css.flatten hown ad 1 d cs (by rw [L.len hR, Nat.one_mul]) hc (L.one hR)
    (by simp only [maxLen]; omega) hBx hbase
  unfold Oper.wp execOp
  simp only [ho, resolve, invoke, builtin, Sem.run_bind, Sem.run_pure, Result.andThen_ok, List.map_toArray, List.map_cons, List.map_nil, hs, hx, hrun]
  exact hK _ _ (h v' w' (Owns.push hl hRs hR h2 h3 h5) h3)

set_option maxRecDepth 100000 in
theorem walk_append_el2 {α : Type} (L : Lay α) (w : World) {ops : Array Oper} {rest : List Oper} {o : Oper} {a : Act} {Q : Exit → Act → World → Prop} (hgd : o.guard = none) (s x : Operand) (T E : TypeId)
    (ho : o.op = .call { callee := .builtin .append, args := #[s, x], argTypes := #[T, T] })
    (z : Value) (B : Nat) (hT : Try.prog.underlying T = some (.slice E)) (hI : (Try.prog.info? E).map (fun i => (i.zero, i.size, i.bytes)) = some (some z, L.k, B)) (hz : z.cells.size = L.k) (hk : 0 < L.k) (hB : B ≤ 100)
    (base : Nat) (v : Value) (xs : List α) (hs : a.eval s = v) (hO : Owns L E base w v xs) (ad : Addr) (d : Nat) (hx : a.eval x = .slice (some ad) 1 d) (cs : List Value) (y : α)
    (hc : ∀ j u, cs[j]? = some u → w.cell? (ad.add j) = some u) (hR : L.R (fun b => base ≤ b ∧ b < w.heap.size ∧ v.ownBlock ≠ some b) w cs y) (hbig : xs.length ≤ 1000000) (hbase : base ≤ w.heap.size)
    (h : ∀ v' w', Owns L E base w' v' (xs ++ [y]) → w.grownBy w' v.ownBlock → (v'.ownBlock = v.ownBlock ∨ v'.ownBlock = some w.heap.size) → wpList Try.prog ops Q rest (a.put o.dst v') w') : wpList Try.prog ops Q (o :: rest) a w := by
  refine wpList_plain hgd fun _ hK => ?_
  obtain ⟨i0, hi0, hz0, hz1, hz2⟩ := info_parts hI
  obtain ⟨css, hl, hown, hRs⟩ := hO
  have hBx : (xs.length + 1) * B ≤ 140737488355328 := by
    have := Nat.mul_le_mul (show xs.length + 1 ≤ 1000001 by omega) hB
    omega
  obtain ⟨v', w', hrun, h2, h3, _, h5⟩ := run_append_own_at (P := Try.prog) w base T o.type E i0 z L.k B hT hi0 hz0 hz1 hz2 hz hk v xs.length css.flatten hown ad 1 d cs (by rw [L.len hR, Nat.one_mul]) hc (L.one hR)
    (by simp only [maxLen]; omega) hBx hbase
  unfold Oper.wp execOp
  simp only [ho, resolve, invoke, builtin, Sem.run_bind, Sem.run_pure, Result.andThen_ok, List.map_toArray, List.map_cons, List.map_nil, hs, hx, hrun]
  exact hK _ _ (h v' w' (Owns.push hl hRs hR h2 h3 h5) h3 h5)
theorem only_grown {g : Nat} {w0 w w' : World} {row : Option Nat} (h : Only g w0 w) (hg : w.grownBy w' row) (hr : ∀ i, row = some i → w0.heap.size ≤ i) : Only g w0 w' :=
  ⟨hg.os.trans h.os, hg.tape.trans h.tape, hg.output.trans h.output, Nat.le_trans h.size hg.size, fun i hi hne => (hg.block i (Nat.lt_of_lt_of_le hi h.size) (fun e => by have := hr i e.symm; omega)).trans (h.block i hi hne)⟩
/-- What is laid by one way is laid by another. -/
theorem Owns.turn {α : Type} {L L' : Lay α} {ty base : Nat} {w : World} {v : Value} {xs : List α} (h : Owns L ty base w v xs) (hk : L'.k = L.k) (hR : ∀ cs x, x ∈ xs → L.R (fun b => base ≤ b ∧ b < w.heap.size ∧ v.ownBlock ≠ some b) w cs x → L'.R (fun b => base ≤ b ∧ b < w.heap.size ∧ v.ownBlock ≠ some b) w cs x) : Owns L' ty base w v xs := by
  obtain ⟨css, hl, hown, hr⟩ := h
  exact ⟨css, hl, by rw [hk]; exact hown, fun j x cs h1 h2 => hR cs x (List.mem_of_getElem? h1) (hr j x cs h1 h2)⟩
/-- What only makes memory leaves it. -/
theorem Owns.below {α : Type} {L : Lay α} {ty base : Nat} {w w' : World} {v : Value} {xs : List α} (h : Owns L ty base w v xs) (hb : Below w.heap.size w w') : Owns L ty base w' v xs := by
  obtain ⟨css, hl, hown, hR⟩ := h
  exact ⟨css, hl, raw_below hown hb (Nat.le_refl _), fun j x cs h1 h2 => L.wide (L.keep (hR j x cs h1 h2) fun b hb2 => hb.block b hb2.2.1) fun b hb2 => ⟨hb2.1, Nat.lt_of_lt_of_le hb2.2.1 hb.size, hb2.2.2⟩⟩
end Go.Proofs.Ythahfhmkgkfoaaa
