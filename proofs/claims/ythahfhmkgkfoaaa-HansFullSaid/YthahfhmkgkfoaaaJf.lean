/-
  What appending a whole list to an empty row of the call's own does.
  Conditions: as each theorem says.
-/
import Derived.Test.YthahfhmkgkfoaaaLoe
import Derived.Test.YthahfhmkgkfoaaaRaw
namespace Go.Proofs.Ythahfhmkgkfoaaa
open Go.RowKit
set_option linter.unusedSimpArgs false
set_option linter.unusedVariables false

theorem flat_len {css : List (List Value)} {k : Nat} (hk : ∀ cs ∈ css, cs.length = k) : css.flatten.length = css.length * k := by
  induction css with
  | nil => simp
  | cons c css ih =>
    rw [List.flatten_cons, List.length_append, hk c (by simp), ih fun x hx => hk x (by simp [hx]), List.length_cons, Nat.add_mul]
    omega
/-- The cells of things, where they lie. -/
theorem sq_css {α : Type} {La : Lay α} {S : Nat → Prop} {w : World} {a : Addr} {xs : List α} (hk : 0 < La.k) (h : Sq La S w (some a) xs) :
    ∃ css : List (List Value), css.length = xs.length ∧ (∀ (j : Nat) (x : α) (cs : List Value), xs[j]? = some x → css[j]? = some cs → La.R S w cs x) ∧ (∀ (j : Nat) (u : Value), css.flatten[j]? = some u → w.cell? (a.add j) = some u) ∧ (∀ u ∈ css.flatten, u.oneCell' = true) ∧ css.flatten.length = xs.length * La.k := by
  have hex : ∀ j : Fin xs.length, ∃ cs : List Value, (∀ i u, cs[i]? = some u → w.cell? (a.add (j.1 * La.k + i)) = some u) ∧ La.R S w cs xs[j.1] := fun j => by
    obtain ⟨a', cs, e, hs, hc, hr⟩ := h.at (List.getElem?_eq_getElem j.2)
    injection e with e
    subst e
    exact ⟨cs, hc, hr⟩
  obtain ⟨css, hl, hget⟩ : ∃ css : List (List Value), css.length = xs.length ∧ ∀ (j : Nat) (x : α) (cs : List Value), xs[j]? = some x → css[j]? = some cs → (∀ i u, cs[i]? = some u → w.cell? (a.add (j * La.k + i)) = some u) ∧ La.R S w cs x := by
    refine ⟨List.ofFn fun j => Classical.choose (hex j), by simp, fun j x cs h1 h2 => ?_⟩
    obtain ⟨hj, e1⟩ := List.getElem?_eq_some_iff.1 h1
    obtain ⟨hj2, e2⟩ := List.getElem?_eq_some_iff.1 h2
    rw [List.getElem_ofFn] at e2
    subst e1 e2
    exact Classical.choose_spec (hex ⟨j, hj⟩)
  have hlen : ∀ cs ∈ css, cs.length = La.k := fun cs hcs => by
    obtain ⟨j, hj⟩ := List.mem_iff_getElem?.1 hcs
    have hjl : j < xs.length := by rw [← hl]; exact (List.getElem?_eq_some_iff.1 hj).1
    exact La.len (hget j _ cs (List.getElem?_eq_getElem hjl) hj).2
  have hfl : css.flatten.length = xs.length * La.k := by rw [flat_len hlen, hl]
  refine ⟨css, hl, fun j x cs h1 h2 => (hget j x cs h1 h2).2, fun j u hu => ?_, fun u hu => ?_, hfl⟩
  · have hj := (List.getElem?_eq_some_iff.1 hu).1
    rw [hfl] at hj
    have hq : j / La.k < xs.length := (Nat.div_lt_iff_lt_mul hk).2 hj
    have hr : j % La.k < La.k := Nat.mod_lt _ hk
    have hcs : css[j / La.k]? = some (css[j / La.k]'(by omega)) := List.getElem?_eq_getElem _
    have e : j / La.k * La.k + j % La.k = j := by rw [Nat.mul_comm]; exact Nat.div_add_mod j La.k
    have hf := flat_get hlen hcs (j % La.k) hr
    rw [e] at hf
    rw [hf] at hu
    have := (hget _ _ _ (List.getElem?_eq_getElem hq) hcs).1 _ u hu
    rwa [e] at this
  · obtain ⟨cs, hcs, hu⟩ := List.mem_flatten.1 hu
    obtain ⟨j, hj⟩ := List.mem_iff_getElem?.1 hcs
    have hjl : j < xs.length := by rw [← hl]; exact (List.getElem?_eq_some_iff.1 hj).1
    exact La.one (hget j _ cs (List.getElem?_eq_getElem hjl) hj).2 u hu

set_option maxRecDepth 100000 in
/-- append of a whole list to an empty row of the call's own. -/
theorem walk_append_all {α : Type} (La : Lay α) (w : World) {ops : Array Oper} {rest : List Oper} {o : Oper} {a : Act} {Q : Exit → Act → World → Prop} (hgd : o.guard = none) (s x : Operand) (T E : TypeId)
    (ho : o.op = .call { callee := .builtin .append, args := #[s, x], argTypes := #[T, T] })
    (z : Value) (B : Nat) (hT : Try.prog.underlying T = some (.slice E)) (hI : (Try.prog.info? E).map (fun i => (i.zero, i.size, i.bytes)) = some (some z, La.k, B)) (hz : z.cells.size = La.k) (hk : 0 < La.k) (hB : B ≤ 100)
    (base : Nat) (v : Value) (hs : a.eval s = v) (hO : w.ownsRow base E La.k v 0 []) (ad : Addr) (m d : Nat) (xs : List α) (hx : a.eval x = .slice (some ad) m d) (hl : xs.length = m) (S : Nat → Prop) (hS : Sq La S w (some ad) xs) (hbig : m ≤ 1000000) (hbase : base ≤ w.heap.size)
    (h : ∀ (v' : Value) (w' : World) (css : List (List Value)), css.length = m → w'.ownsRow base E La.k v' m css.flatten → (∀ (j : Nat) (x : α) (cs : List Value), xs[j]? = some x → css[j]? = some cs → La.R S w cs x) → w.grownBy w' v.ownBlock → wpList Try.prog ops Q rest (a.put o.dst v') w') : wpList Try.prog ops Q (o :: rest) a w := by
  refine wpList_plain hgd fun _ hK => ?_
  obtain ⟨i0, hi0, hz0, hz1, hz2⟩ := info_parts hI
  obtain ⟨css, hcl, hR, hc, hone, hfl⟩ := sq_css hk hS
  have hBx : (0 + m) * B ≤ 140737488355328 := by
    have := Nat.mul_le_mul (show 0 + m ≤ 1000000 by omega) hB
    omega
  obtain ⟨v', w', hrun, h2, h3, _, h5⟩ := run_append_own_at (P := Try.prog) w base T o.type E i0 z La.k B hT hi0 hz0 hz1 hz2 hz hk v 0 [] hO ad m d css.flatten (by rw [hfl, hl]) hc hone
    (by simp only [maxLen]; omega) hBx hbase
  unfold Oper.wp execOp
  simp only [ho, resolve, invoke, builtin, Sem.run_bind, Sem.run_pure, Result.andThen_ok, List.map_toArray, List.map_cons, List.map_nil, hs, hx, hrun]
  rw [Nat.zero_add, List.nil_append] at h2
  exact hK _ _ (h v' w' css (hcl.trans hl) h2 hR h3)
set_option maxRecDepth 100000 in
/-- The same, where the list may be nil. -/
theorem walk_append_opt {α : Type} (La : Lay α) (w : World) {ops : Array Oper} {rest : List Oper} {o : Oper} {a : Act} {Q : Exit → Act → World → Prop} (hgd : o.guard = none) (s x : Operand) (T E : TypeId)
    (ho : o.op = .call { callee := .builtin .append, args := #[s, x], argTypes := #[T, T] })
    (z : Value) (B : Nat) (hT : Try.prog.underlying T = some (.slice E)) (hI : (Try.prog.info? E).map (fun i => (i.zero, i.size, i.bytes)) = some (some z, La.k, B)) (hz : z.cells.size = La.k) (hk : 0 < La.k) (hB : B ≤ 100)
    (base : Nat) (v : Value) (hs : a.eval s = v) (hO : w.ownsRow base E La.k v 0 []) (A : Option Addr) (m d : Nat) (xs : List α) (hx : a.eval x = .slice A m d) (hl : xs.length = m) (S : Nat → Prop) (hS : Sq La S w A xs) (hbig : m ≤ 1000000) (hbase : base ≤ w.heap.size)
    (h : ∀ (v' : Value) (w' : World) (css : List (List Value)), css.length = m → w'.ownsRow base E La.k v' m css.flatten → (∀ (j : Nat) (x : α) (cs : List Value), xs[j]? = some x → css[j]? = some cs → La.R S w cs x) → w.grownBy w' v.ownBlock → wpList Try.prog ops Q rest (a.put o.dst v') w') : wpList Try.prog ops Q (o :: rest) a w := by
  rcases A with _ | ad
  · have h0 : xs = [] := by
      cases xs with
      | nil => rfl
      | cons y ys => obtain ⟨a, e, -⟩ := hS (by simp); cases e
    subst h0
    have hl : 0 = m := hl
    subst hl
    refine wpList_plain hgd fun _ hK => ?_
    obtain ⟨i0, hi0, hz0, hz1, hz2⟩ := info_parts hI
    have ht := run_underlying (P := Try.prog) (w := w) hT
    have hrun : (Builtin.append_ #[T, T] o.type #[v, .slice none 0 d]).run Try.prog w = .ok v w := by
      rcases hO.2 with ⟨rfl, -⟩ | ⟨g, cap, cur, rfl, _, _, hnc, _⟩
      · simp [Builtin.append_, ht, sizeOf, typeInfo, hi0, Builtin.lenOf, Builtin.firstCells]
      · simp [Builtin.append_, ht, sizeOf, typeInfo, hi0, Builtin.lenOf, Builtin.firstCells, hnc, storeCells]
    unfold Oper.wp execOp
    simp only [ho, resolve, invoke, builtin, Sem.run_bind, Sem.run_pure, Result.andThen_ok, List.map_toArray, List.map_cons, List.map_nil, hs, hx, hrun]
    exact hK _ _ (h v w [] rfl (by simpa using hO) (fun j x cs h1 => by simp at h1) ⟨rfl, rfl, rfl, Nat.le_refl _, fun _ _ _ => rfl⟩)
  · exact walk_append_all La w hgd s x T E ho z B hT hI hz hk hB base v hs hO ad m d xs hx hl S hS hbig hbase h
/-- One cell of one thing in a row is another. -/
theorem flat_set {css : List (List Value)} {K : Nat} (hk : ∀ cs ∈ css, cs.length = K) {j : Nat} {cs : List Value} (hj : css[j]? = some cs) {i : Nat} (hi : i < K) (u : Value) : css.flatten.set (j * K + i) u = (css.set j (cs.set i u)).flatten := by
  induction css generalizing j with
  | nil => simp at hj
  | cons c css ih =>
    have hc := hk c (by simp)
    cases j with
    | zero =>
      simp at hj
      subst hj
      rw [List.flatten_cons, Nat.zero_mul, Nat.zero_add, List.set_append_left _ _ (by omega), List.set_cons_zero, List.flatten_cons]
    | succ j =>
      rw [List.flatten_cons, List.set_append_right _ _ (by rw [hc, Nat.succ_mul]; omega), hc, show (j + 1) * K + i - K = j * K + i by rw [Nat.succ_mul]; omega, ih (fun x hx => hk x (by simp [hx])) (by simpa using hj), List.set_cons_succ, List.flatten_cons]
theorem ownr_keep {w w' : World} {base ty k n : Nat} {v : Value} {xs : List Value} (h : w.ownsRow base ty k v n xs) (hk : ∀ b, v.ownBlock = some b → w'.heap[b]? = w.heap[b]?) : w'.ownsRow base ty k v n xs := by
  refine ⟨h.1, ?_⟩
  rcases h.2 with h0 | ⟨g', cap, cur, e, q1, q2, q3⟩
  · exact .inl h0
  · refine .inr ⟨g', cap, cur, e, q1, ?_, q3⟩
    rw [hk g' (by rw [e]; rfl)]
    exact q2
/-- A row of some things is a slice of its own block. -/
theorem ownr_some {w : World} {base ty k n : Nat} {v : Value} {xs : List Value} (h : w.ownsRow base ty k v n xs) (hn : 0 < n) : ∃ g c, v = .slice (some ⟨g, 0, none⟩) n c ∧ base ≤ g ∧ g < w.heap.size := by
  rcases h.2 with ⟨_, h0⟩ | ⟨g, cap, cur, rfl, hb, hg, _⟩
  · omega
  · exact ⟨g, cap, rfl, hb, (Array.getElem?_eq_some_iff.1 hg).1⟩
theorem ownr_empty (w : World) (ty k : Nat) : (w.alloc (.cells #[] ty)).ownsRow w.heap.size ty k (.slice (some ⟨w.heap.size, 0, none⟩) 0 0) 0 [] :=
  World.ownsRow_made w #[] 0 (Nat.le_refl _) (by simp [maxLen]) (by simp)
end Go.Proofs.Ythahfhmkgkfoaaa
