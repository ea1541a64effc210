/-
  Loe Vwc Jf Vrx Vrk Vmk
-/
import Derived.Test.YtikhhcmfjncabaaGreatQ02
import Derived.Test.YtikhhcmfjncabaaGreatQ08
import Derived.Test.YtikhhcmfjncabaaGreatQ10
import Derived.Maps.AppendAt
import Derived.Laws.OwnMore
import Derived.OwnWalk
import Derived.Lib.QuietBelow
set_option linter.unusedSimpArgs false
set_option linter.unusedVariables false
namespace Go.Proofs.YtikhhcmfjncabaaGreat
open Go.RowKit

theorem Owns.push {α : Type} {L : Lay α} {ty base : Nat} {w w' : World} {v v' : Value} {xs : List α} {css : List (List Value)} {cs : List Value} {x : α} (hl : css.length = xs.length)
    (hR : ∀ (j : Nat) (x : α) (cs : List Value), xs[j]? = some x → css[j]? = some cs → L.R (fun b => base ≤ b ∧ b < w.heap.size ∧ v.ownBlock ≠ some b) w cs x)
    (hx : L.R (fun b => base ≤ b ∧ b < w.heap.size ∧ v.ownBlock ≠ some b) w cs x) (hown : w'.ownsRow base ty L.k v' (xs.length + 1) (css.flatten ++ cs)) (hg : w.grownBy w' v.ownBlock)
    (hv : v'.ownBlock = v.ownBlock ∨ v'.ownBlock = some w.heap.size) : Owns L ty base w' v' (xs ++ [x]) := by
  have hk : ∀ {cs : List Value} {x : α}, L.R (fun b => base ≤ b ∧ b < w.heap.size ∧ v.ownBlock ≠ some b) w cs x → L.R (fun b => base ≤ b ∧ b < w'.heap.size ∧ v'.ownBlock ≠ some b) w' cs x := fun h =>
    L.wide (L.keep h fun b hb => hg.block b hb.2.1 (fun e => hb.2.2 e.symm)) fun b hb => ⟨hb.1, Nat.lt_of_lt_of_le hb.2.1 hg.size, by
      rcases hv with e | e
      · rw [e]; exact hb.2.2
      · rw [e]; intro e2; injection e2 with e2; omega⟩
  refine ⟨css ++ [cs], by simp [hl], by simpa using hown, fun j y ds h1 h2 => ?_⟩
  rcases Nat.lt_or_ge j xs.length with hj | hj
  · rw [List.getElem?_append_left hj] at h1
    rw [List.getElem?_append_left (by omega)] at h2
    exact hk (hR j y ds h1 h2)
  · rw [List.getElem?_append_right hj] at h1
    rw [List.getElem?_append_right (by omega), hl] at h2
    have e0 : j - xs.length = 0 := by
      rcases Nat.eq_zero_or_pos (j - xs.length) with h | h
      · exact h
      · rw [List.getElem?_eq_none (by simp; omega)] at h1
        cases h1
    rw [e0] at h1 h2
    simp at h1 h2
    subst h1 h2
    exact hk hx

set_option maxRecDepth 100000 in
theorem walk_append_el {α : Type} (L : Lay α) (w : World) {ops : Array Oper} {rest : List Oper} {o : Oper} {a : Act} {Q : Exit → Act → World → Prop} (hgd : o.guard = none) (s x : Operand) (T E : TypeId)
    (ho : o.op = .call { callee := .builtin .append, args := #[s, x], argTypes := #[T, T] })
    (z : Value) (B : Nat) (hT : Tryz.prog.underlying T = some (.slice E)) (hI : (Tryz.prog.info? E).map (fun i => (i.zero, i.size, i.bytes)) = some (some z, L.k, B)) (hz : z.cells.size = L.k) (hk : 0 < L.k) (hB : B ≤ 100)
    (base : Nat) (v : Value) (xs : List α) (hs : a.eval s = v) (hO : Owns L E base w v xs) (ad : Addr) (d : Nat) (hx : a.eval x = .slice (some ad) 1 d) (cs : List Value) (y : α)
    (hc : ∀ j u, cs[j]? = some u → w.cell? (ad.add j) = some u) (hR : L.R (fun b => base ≤ b ∧ b < w.heap.size ∧ v.ownBlock ≠ some b) w cs y) (hbig : xs.length ≤ 1000000) (hbase : base ≤ w.heap.size)
    (h : ∀ v' w', Owns L E base w' v' (xs ++ [y]) → w.grownBy w' v.ownBlock → wpList Tryz.prog ops Q rest (a.put o.dst v') w') : wpList Tryz.prog ops Q (o :: rest) a w := by
  refine wpList_plain hgd fun _ hK => ?_
  obtain ⟨i0, hi0, hz0, hz1, hz2⟩ := info_parts hI
  obtain ⟨css, hl, hown, hRs⟩ := hO
  have hBx : (xs.length + 1) * B ≤ 140737488355328 := by
    have := Nat.mul_le_mul (show xs.length + 1 ≤ 1000001 by omega) hB
    omega
  obtain ⟨v', w', hrun, h2, h3, _, h5⟩ := run_append_own_at (P := Tryz.prog) w base T o.type E i0 z L.k B hT hi0 hz0 hz1 hz2 hz hk v xs.length css.flatten hown ad 1 d cs (by rw [L.len hR, Nat.one_mul]) hc (L.one hR)
    (by simp only [maxLen]; omega) hBx hbase
  unfold Oper.wp execOp
  simp only [ho, resolve, invoke, builtin, Sem.run_bind, Sem.run_pure, Result.andThen_ok, List.map_toArray, List.map_cons, List.map_nil, hs, hx, hrun]
  exact hK _ _ (h v' w' (Owns.push hl hRs hR h2 h3 h5) h3)

theorem Owns.below {α : Type} {L : Lay α} {ty base : Nat} {w w' : World} {v : Value} {xs : List α} (h : Owns L ty base w v xs) (hb : Below w.heap.size w w') : Owns L ty base w' v xs := by
  obtain ⟨css, hl, hown, hR⟩ := h
  exact ⟨css, hl, raw_below hown hb (Nat.le_refl _), fun j x cs h1 h2 => L.wide (L.keep (hR j x cs h1 h2) fun b hb2 => hb.block b hb2.2.1) fun b hb2 => ⟨hb2.1, Nat.lt_of_lt_of_le hb2.2.1 hb.size, hb2.2.2⟩⟩
end Go.Proofs.YtikhhcmfjncabaaGreat
namespace Go.Proofs.YtikhhcmfjncabaaGreat
open Go.RowKit

def CS2 : List (Bool × Value) → List Value
  | [] => []
  | x :: xs => .bool x.1 :: x.2 :: CS2 xs
theorem CS2_length (r : List (Bool × Value)) : (CS2 r).length = r.length * 2 := by
  induction r with
  | nil => rfl
  | cons t r ih => simp [CS2, ih]; omega
theorem CS2_get0 {r : List (Bool × Value)} {j : Nat} {x : Bool × Value} (h : r[j]? = some x) : (CS2 r)[j * 2]? = some (.bool x.1) := by
  induction r generalizing j with
  | nil => simp at h
  | cons u r ih =>
    cases j with
    | zero => simp at h; subst h; simp [CS2]
    | succ j => rw [show (j + 1) * 2 = j * 2 + 1 + 1 by omega]; simp [CS2]; exact ih (by simpa using h)
theorem CS2_get1 {r : List (Bool × Value)} {j : Nat} {x : Bool × Value} (h : r[j]? = some x) : (CS2 r)[j * 2 + 1]? = some x.2 := by
  induction r generalizing j with
  | nil => simp at h
  | cons u r ih =>
    cases j with
    | zero => simp at h; subst h; simp [CS2]
    | succ j => rw [show (j + 1) * 2 + 1 = j * 2 + 1 + 1 + 1 by omega]; simp [CS2]; exact ih (by simpa using h)
theorem CS2_set0 {r : List (Bool × Value)} {k : Nat} {x : Bool × Value} {b : Bool} (h : r[k]? = some x) : (CS2 r).set (k * 2) (.bool b) = CS2 (r.set k (b, x.2)) := by
  induction r generalizing k with
  | nil => simp at h
  | cons u r ih =>
    cases k with
    | zero => simp at h; subst h; simp [CS2]
    | succ k =>
      rw [show (k + 1) * 2 = k * 2 + 1 + 1 by omega]
      simp only [CS2, List.set_cons_succ]
      rw [ih (by simpa using h)]
theorem CS2_set1 {r : List (Bool × Value)} {k : Nat} {x : Bool × Value} {v : Value} (h : r[k]? = some x) : (CS2 r).set (k * 2 + 1) v = CS2 (r.set k (x.1, v)) := by
  induction r generalizing k with
  | nil => simp at h
  | cons u r ih =>
    cases k with
    | zero => simp at h; subst h; simp [CS2]
    | succ k =>
      rw [show (k + 1) * 2 + 1 = k * 2 + 1 + 1 + 1 by omega]
      simp only [CS2, List.set_cons_succ]
      rw [ih (by simpa using h)]
def Bl (ws : List Bool) : List Value := ws.map .bool
theorem T2_set0 {ts : List Typ} {k : Nat} {t : Typ} {z : Int} (h : ts[k]? = some t) : (T2 ts).set (k * 2) (.int .i64 z) = T2 (ts.set k (z, t.2)) := by
  induction ts generalizing k with
  | nil => simp at h
  | cons u ts ih =>
    cases k with
    | zero => simp at h; subst h; simp [T2]
    | succ k =>
      rw [show (k + 1) * 2 = k * 2 + 1 + 1 by omega]
      simp only [T2, List.set_cons_succ]
      rw [ih (by simpa using h)]
theorem T2_set1 {ts : List Typ} {k : Nat} {t : Typ} {z : Int} (h : ts[k]? = some t) : (T2 ts).set (k * 2 + 1) (.int .i64 z) = T2 (ts.set k (t.1, z)) := by
  induction ts generalizing k with
  | nil => simp at h
  | cons u ts ih =>
    cases k with
    | zero => simp at h; subst h; simp [T2]
    | succ k =>
      rw [show (k + 1) * 2 + 1 = k * 2 + 1 + 1 + 1 by omega]
      simp only [T2, List.set_cons_succ]
      rw [ih (by simpa using h)]

def Stk (n0 : Nat) (w : World) (v : Value) (s : List Typ) : Prop :=
  (s = [] ∧ ∃ A c, v = .slice A 0 c ∧ c ≤ maxLen ∧ (A = none → c = 0)) ∨ (0 < s.length ∧ A64 s ∧ ∃ b c, v = .slice (some ⟨b, 0, none⟩) s.length c ∧ s.length ≤ c ∧ c ≤ maxLen ∧ w.ownsRow n0 41 2 (.slice (some ⟨b, 0, none⟩) s.length c) s.length (T2 s))
theorem Stk.shape {n0 : Nat} {w : World} {v : Value} {s : List Typ} (h : Stk n0 w v s) : ∃ A c, v = .slice A s.length c ∧ s.length ≤ c ∧ c ≤ maxLen ∧ (A = none → c = 0) := by
  rcases h with ⟨rfl, A, c, rfl, h1, h2⟩ | ⟨h0, -, b, c, rfl, h1, h2, -⟩
  · exact ⟨A, c, rfl, Nat.zero_le _, h1, h2⟩
  · exact ⟨_, c, rfl, h1, h2, fun h => by cases h⟩
theorem Stk.a64 {n0 : Nat} {w : World} {v : Value} {s : List Typ} (h : Stk n0 w v s) : A64 s := by
  rcases h with ⟨rfl, -⟩ | ⟨-, h, -⟩
  · exact A64.nil
  · exact h
theorem Stk.keep {n0 : Nat} {w w' : World} {v : Value} {s : List Typ} (h : Stk n0 w v s) (hk : 0 < s.length → ∀ b, v.ownBlock = some b → w'.heap[b]? = w.heap[b]?) : Stk n0 w' v s := by
  rcases h with h | ⟨h0, ha, b, c, rfl, h1, h2, ho⟩
  · exact .inl h
  · refine .inr ⟨h0, ha, b, c, rfl, h1, h2, ho.1, ?_⟩
    rcases ho.2 with ⟨e, _⟩ | ⟨g', cap, cur, e, q1, q2, q3⟩
    · cases e
    · refine .inr ⟨g', cap, cur, e, q1, ?_, q3⟩
      simp only [Value.slice.injEq, Option.some.injEq, Addr.mk.injEq, and_true, true_and] at e
      obtain ⟨rfl, -⟩ := e
      rw [hk h0 b rfl]
      exact q2
theorem Stk.own {n0 : Nat} {w : World} {v : Value} {s : List Typ} (h : Stk n0 w v s) (h0 : 0 < s.length) : ∃ b, v.ownBlock = some b ∧ n0 ≤ b ∧ b < w.heap.size := by
  rcases h with ⟨rfl, -⟩ | ⟨_, _, b, c, rfl, _, _, ho⟩
  · simp at h0
  · exact ⟨b, rfl, ho.lt b rfl⟩

structure Turn (Z : Nat → Option Nat) (w w' : World) : Prop where
  os : w'.os = w.os
  tape : w'.tape = w.tape
  output : w'.output = w.output
  size : w.heap.size ≤ w'.heap.size
  block : ∀ b, b < w.heap.size → Z b = none → w'.heap[b]? = w.heap[b]?
theorem Turn.refl (Z : Nat → Option Nat) (w : World) : Turn Z w w := ⟨rfl, rfl, rfl, Nat.le_refl _, fun _ _ _ => rfl⟩
theorem Turn.trans {Z Z' : Nat → Option Nat} {a b c : World} (h : Turn Z a b) (k : Turn Z' b c) (hz : ∀ i, i < a.heap.size → Z i = none → Z' i = none) : Turn Z a c :=
  ⟨k.os.trans h.os, k.tape.trans h.tape, k.output.trans h.output, Nat.le_trans h.size k.size, fun i hi hn => (k.block i (Nat.lt_of_lt_of_le hi h.size) (hz i hi hn)).trans (h.block i hi hn)⟩
theorem Turn.of_below {Z : Nat → Option Nat} {a b : World} (h : Below a.heap.size a b) : Turn Z a b := ⟨h.os, h.tape, h.output, h.size, fun i hi _ => h.block i hi⟩
theorem Turn.below {Z : Nat → Option Nat} {n0 : Nat} {a b : World} (h : Turn Z a b) (hn : n0 ≤ a.heap.size) (hz : ∀ i, i < n0 → Z i = none) : Below n0 a b := ⟨h.os, h.tape, h.output, h.size, fun i hi => h.block i (Nat.lt_of_lt_of_le hi hn) (hz i hi)⟩
theorem Turn.set {Z : Nat → Option Nat} {a b : World} (h : Turn Z a b) {g i : Nat} (hg : Z g ≠ none) (u : Value) : Turn Z a (b.setCell ⟨g, i, none⟩ u) :=
  ⟨h.os, h.tape, h.output, by simpa [World.setCell] using h.size, fun k hk hn => (Below.heap_setCell b ⟨g, i, none⟩ u k (fun e => by rw [e] at hn; exact hg hn)).trans (h.block k hk hn)⟩
theorem Turn.then {Z : Nat → Option Nat} {a b c : World} (h : Turn Z a b) (k : Below b.heap.size b c) : Turn Z a c := h.trans (Turn.of_below (Z := Z) k) (fun _ _ h => h)

theorem row_keep {w w' : World} {n0 ty size p n c : Nat} {xs : List Value} (h : w.ownsRow n0 ty size (.slice (some ⟨p, 0, none⟩) n c) n xs) (hk : w'.heap[p]? = w.heap[p]?) : w'.ownsRow n0 ty size (.slice (some ⟨p, 0, none⟩) n c) n xs := by
  refine ⟨h.1, ?_⟩
  rcases h.2 with ⟨e, _⟩ | ⟨g', cap, cur, e, q1, q2, q3⟩
  · cases e
  · refine .inr ⟨g', cap, cur, e, q1, ?_, q3⟩
    simp only [Value.slice.injEq, Option.some.injEq, Addr.mk.injEq, and_true, true_and] at e
    obtain ⟨rfl, -⟩ := e
    rw [hk]
    exact q2
end Go.Proofs.YtikhhcmfjncabaaGreat
namespace Go.Proofs.YtikhhcmfjncabaaGreat
open Go.RowKit

theorem flat_len {css : List (List Value)} {k : Nat} (hk : ∀ cs ∈ css, cs.length = k) : css.flatten.length = css.length * k := by
  induction css with
  | nil => simp
  | cons c css ih =>
    rw [List.flatten_cons, List.length_append, hk c (by simp), ih fun x hx => hk x (by simp [hx]), List.length_cons, Nat.add_mul]
    omega
theorem sq_css {α : Type} {La : Lay α} {S : Nat → Prop} {w : World} {a : Addr} {xs : List α} (hk : 0 < La.k) (h : Sq La S w (some a) xs) :
    ∃ css : List (List Value), css.length = xs.length ∧ (∀ (j : Nat) (x : α) (cs : List Value), xs[j]? = some x → css[j]? = some cs → La.R S w cs x) ∧ (∀ (j : Nat) (u : Value), css.flatten[j]? = some u → w.cell? (a.add j) = some u) ∧ (∀ u ∈ css.flatten, u.oneCell' = true) ∧ css.flatten.length = xs.length * La.k := by
  have hex : ∀ j : Fin xs.length, ∃ cs : List Value, (∀ i u, cs[i]? = some u → w.cell? (a.add (j.1 * La.k + i)) = some u) ∧ La.R S w cs xs[j.1] := fun j => by
    obtain ⟨a', cs, e, hs, hc, hr⟩ := h.at (List.getElem?_eq_getElem j.2)
    injection e with e
    subst e
    exact ⟨cs, hc, hr⟩
  obtain ⟨css, hl, hget⟩ : ∃ css : List (List Value), css.length = xs.length ∧ ∀ (j : Nat) (x : α) (cs : List Value), xs[j]? = some x → css[j]? = some cs → (∀ i u, cs[i]? = some u → w.cell? (a.add (j * La.k + i)) = some u) ∧ La.R S w cs x := by
    refine ⟨List.ofFn fun j => Classical.choose (hex j), by simp, fun j x cs h1 h2 => ?_⟩
    obtain ⟨hj, e1⟩ := List.getElem?_eq_some_iff.1 h1
    obtain ⟨hj2, e2⟩ := List.getElem?_eq_some_iff.1 h2
    rw [List.getElem_ofFn] at e2
    subst e1 e2
    exact Classical.choose_spec (hex ⟨j, hj⟩)
  have hlen : ∀ cs ∈ css, cs.length = La.k := fun cs hcs => by
    obtain ⟨j, hj⟩ := List.mem_iff_getElem?.1 hcs
    have hjl : j < xs.length := by rw [← hl]; exact (List.getElem?_eq_some_iff.1 hj).1
    exact La.len (hget j _ cs (List.getElem?_eq_getElem hjl) hj).2
  have hfl : css.flatten.length = xs.length * La.k := by rw [flat_len hlen, hl]
  refine ⟨css, hl, fun j x cs h1 h2 => (hget j x cs h1 h2).2, fun j u hu => ?_, fun u hu => ?_, hfl⟩
  · have hj := (List.getElem?_eq_some_iff.1 hu).1
    rw [hfl] at hj
    have hq : j / La.k < xs.length := (Nat.div_lt_iff_lt_mul hk).2 hj
    have hr : j % La.k < La.k := Nat.mod_lt _ hk
    have hcs : css[j / La.k]? = some (css[j / La.k]'(by omega)) := List.getElem?_eq_getElem _
    have e : j / La.k * La.k + j % La.k = j := by rw [Nat.mul_comm]; exact Nat.div_add_mod j La.k
    have hf := flat_get hlen hcs (j % La.k) hr
    rw [e] at hf
    rw [hf] at hu
    have := (hget _ _ _ (List.getElem?_eq_getElem hq) hcs).1 _ u hu
    rwa [e] at this
  · obtain ⟨cs, hcs, hu⟩ := List.mem_flatten.1 hu
    obtain ⟨j, hj⟩ := List.mem_iff_getElem?.1 hcs
    have hjl : j < xs.length := by rw [← hl]; exact (List.getElem?_eq_some_iff.1 hj).1
    exact La.one (hget j _ cs (List.getElem?_eq_getElem hjl) hj).2 u hu

set_option maxRecDepth 100000 in
theorem walk_append_all {α : Type} (La : Lay α) (w : World) {ops : Array Oper} {rest : List Oper} {o : Oper} {a : Act} {Q : Exit → Act → World → Prop} (hgd : o.guard = none) (s x : Operand) (T E : TypeId)
    (ho : o.op = .call { callee := .builtin .append, args := #[s, x], argTypes := #[T, T] })
    (z : Value) (B : Nat) (hT : Tryz.prog.underlying T = some (.slice E)) (hI : (Tryz.prog.info? E).map (fun i => (i.zero, i.size, i.bytes)) = some (some z, La.k, B)) (hz : z.cells.size = La.k) (hk : 0 < La.k) (hB : B ≤ 100)
    (base : Nat) (v : Value) (hs : a.eval s = v) (hO : w.ownsRow base E La.k v 0 []) (ad : Addr) (m d : Nat) (xs : List α) (hx : a.eval x = .slice (some ad) m d) (hl : xs.length = m) (S : Nat → Prop) (hS : Sq La S w (some ad) xs) (hbig : m ≤ 1000) (hbase : base ≤ w.heap.size)
    (h : ∀ (v' : Value) (w' : World) (css : List (List Value)), css.length = m → w'.ownsRow base E La.k v' m css.flatten → (∀ (j : Nat) (x : α) (cs : List Value), xs[j]? = some x → css[j]? = some cs → La.R S w cs x) → w.grownBy w' v.ownBlock → wpList Tryz.prog ops Q rest (a.put o.dst v') w') : wpList Tryz.prog ops Q (o :: rest) a w := by
  refine wpList_plain hgd fun _ hK => ?_
  obtain ⟨i0, hi0, hz0, hz1, hz2⟩ := info_parts hI
  obtain ⟨css, hcl, hR, hc, hone, hfl⟩ := sq_css hk hS
  have hBx : (0 + m) * B ≤ 140737488355328 := by
    have := Nat.mul_le_mul (show 0 + m ≤ 1000 by omega) hB
    omega
  obtain ⟨v', w', hrun, h2, h3, _, h5⟩ := run_append_own_at (P := Tryz.prog) w base T o.type E i0 z La.k B hT hi0 hz0 hz1 hz2 hz hk v 0 [] hO ad m d css.flatten (by rw [hfl, hl]) hc hone
    (by simp only [maxLen]; omega) hBx hbase
  unfold Oper.wp execOp
  simp only [ho, resolve, invoke, builtin, Sem.run_bind, Sem.run_pure, Result.andThen_ok, List.map_toArray, List.map_cons, List.map_nil, hs, hx, hrun]
  rw [Nat.zero_add, List.nil_append] at h2
  exact hK _ _ (h v' w' css (hcl.trans hl) h2 hR h3)
theorem flat_set {css : List (List Value)} {K : Nat} (hk : ∀ cs ∈ css, cs.length = K) {j : Nat} {cs : List Value} (hj : css[j]? = some cs) {i : Nat} (hi : i < K) (u : Value) : css.flatten.set (j * K + i) u = (css.set j (cs.set i u)).flatten := by
  induction css generalizing j with
  | nil => simp at hj
  | cons c css ih =>
    have hc := hk c (by simp)
    cases j with
    | zero =>
      simp at hj
      subst hj
      rw [List.flatten_cons, Nat.zero_mul, Nat.zero_add, List.set_append_left _ _ (by omega), List.set_cons_zero, List.flatten_cons]
    | succ j =>
      rw [List.flatten_cons, List.set_append_right _ _ (by rw [hc, Nat.succ_mul]; omega), hc, show (j + 1) * K + i - K = j * K + i by rw [Nat.succ_mul]; omega, ih (fun x hx => hk x (by simp [hx])) (by simpa using hj), List.set_cons_succ, List.flatten_cons]
theorem ownr_keep {w w' : World} {base ty k n : Nat} {v : Value} {xs : List Value} (h : w.ownsRow base ty k v n xs) (hk : ∀ b, v.ownBlock = some b → w'.heap[b]? = w.heap[b]?) : w'.ownsRow base ty k v n xs := by
  refine ⟨h.1, ?_⟩
  rcases h.2 with h0 | ⟨g', cap, cur, e, q1, q2, q3⟩
  · exact .inl h0
  · refine .inr ⟨g', cap, cur, e, q1, ?_, q3⟩
    rw [hk g' (by rw [e]; rfl)]
    exact q2
theorem ownr_some {w : World} {base ty k n : Nat} {v : Value} {xs : List Value} (h : w.ownsRow base ty k v n xs) (hn : 0 < n) : ∃ g c, v = .slice (some ⟨g, 0, none⟩) n c ∧ base ≤ g ∧ g < w.heap.size := by
  rcases h.2 with ⟨_, h0⟩ | ⟨g, cap, cur, rfl, hb, hg, _⟩
  · omega
  · exact ⟨g, cap, rfl, hb, (Array.getElem?_eq_some_iff.1 hg).1⟩
theorem ownr_empty (w : World) (ty k : Nat) : (w.alloc (.cells #[] ty)).ownsRow w.heap.size ty k (.slice (some ⟨w.heap.size, 0, none⟩) 0 0) 0 [] :=
  World.ownsRow_made w #[] 0 (Nat.le_refl _) (by simp [maxLen]) (by simp)
end Go.Proofs.YtikhhcmfjncabaaGreat
namespace Go.Proofs.YtikhhcmfjncabaaGreat
open Go.RowKit

def mixJ (u t : List Typ) (k : Nat) : List Typ := joinL (u.take k) (t.take k) ++ u.drop k
theorem mixJ_zero (u t : List Typ) : mixJ u t 0 = u := by simp [mixJ, joinL]
theorem mixJ_all {u t : List Typ} (h : u.length = t.length) : mixJ u t t.length = joinL u t := by
  unfold mixJ
  rw [List.take_of_length_le (by omega), List.take_of_length_le (by omega), List.drop_eq_nil_of_le (by omega), List.append_nil]
theorem joinL_snoc {a b : List Typ} (h : a.length = b.length) (x y : Typ) : joinL (a ++ [x]) (b ++ [y]) = joinL a b ++ [joinT x y] := by
  induction a generalizing b with
  | nil =>
    cases b with
    | nil => rfl
    | cons _ _ => simp at h
  | cons z a ih =>
    cases b with
    | nil => simp at h
    | cons z' b => simp only [List.cons_append, joinL, ih (by simpa using h)]
theorem takeJ {u t : List Typ} {k : Nat} {x y : Typ} (hx : u[k]? = some x) (hy : t[k]? = some y) : joinL (u.take (k + 1)) (t.take (k + 1)) = joinL (u.take k) (t.take k) ++ [joinT x y] := by
  obtain ⟨h1, rfl⟩ := List.getElem?_eq_some_iff.1 hx
  obtain ⟨h2, rfl⟩ := List.getElem?_eq_some_iff.1 hy
  rw [List.take_succ_eq_append_getElem h1, List.take_succ_eq_append_getElem h2]
  exact joinL_snoc (by rw [List.length_take, List.length_take]; omega) _ _
theorem lenJ {u t : List Typ} {k : Nat} (h1 : k ≤ u.length) (h2 : k ≤ t.length) : (joinL (u.take k) (t.take k)).length = k := by
  rw [joinL_len (by rw [List.length_take, List.length_take]; omega), List.length_take]
  omega
theorem mixJ_get {u t : List Typ} {k : Nat} {x y : Typ} (hx : u[k]? = some x) (hy : t[k]? = some y) : (mixJ u t k)[k]? = some x := by
  have h1 := (List.getElem?_eq_some_iff.1 hx).1
  have h2 := (List.getElem?_eq_some_iff.1 hy).1
  unfold mixJ
  rw [List.getElem?_append_right (by rw [lenJ (by omega) (by omega)]; exact Nat.le_refl _), lenJ (by omega) (by omega), List.getElem?_drop]
  simpa using hx
theorem mixJ_step {u t : List Typ} {k : Nat} {x y : Typ} (hx : u[k]? = some x) (hy : t[k]? = some y) : mixJ u t (k + 1) = (mixJ u t k).set k (joinT x y) := by
  have h1 := (List.getElem?_eq_some_iff.1 hx).1
  have h2 := (List.getElem?_eq_some_iff.1 hy).1
  unfold mixJ
  rw [takeJ hx hy, List.set_append_right _ _ (by rw [lenJ (by omega) (by omega)]; exact Nat.le_refl _), lenJ (by omega) (by omega), Nat.sub_self, List.drop_eq_getElem_cons h1, List.set_cons_zero, List.append_assoc]
  rfl
theorem joinT_64 {x y : Typ} (hx : I64 x.1 ∧ I64 x.2) (hy : I64 y.1 ∧ I64 y.2) : I64 (joinT x y).1 ∧ I64 (joinT x y).2 := by
  rcases joinT_cases x y with ⟨_, e⟩ | ⟨_, _, e⟩ | ⟨_, _, _, _, e⟩ | ⟨_, _, _, e⟩ <;> rw [e]
  · exact hy
  · exact hx
  · exact ⟨⟨by decide, by decide⟩, ⟨by decide, by decide⟩⟩
  · exact ⟨⟨by decide, by decide⟩, ⟨by decide, by decide⟩⟩
end Go.Proofs.YtikhhcmfjncabaaGreat
namespace Go.Proofs.YtikhhcmfjncabaaGreat
open Go.RowKit

theorem least_of {P : Nat → Prop} (h : ∃ n, P n) : ∃ m, P m ∧ ∀ k, P k → m ≤ k := by
  obtain ⟨n, hn⟩ := h
  induction n using Nat.strongRecOn with
  | _ n ih =>
    by_cases hk : ∃ k, k < n ∧ P k
    · obtain ⟨k, h1, h2⟩ := hk
      exact ih k h1 h2
    · exact ⟨n, hn, fun k h => Nat.le_of_not_lt fun h1 => hk ⟨k, h1, h⟩⟩
theorem rank_of {σ : Type} (J : Nat → σ → Prop) : ∃ f : σ → Nat, ∀ s, (∃ n, J n s) → J (f s) s ∧ ∀ k, J k s → f s ≤ k := by
  refine Classical.axiomOfChoice (r := fun (s : σ) (m : Nat) => (∃ n, J n s) → J m s ∧ ∀ k, J k s → m ≤ k) fun s => ?_
  by_cases h : ∃ n, J n s
  · obtain ⟨m, hm⟩ := least_of h
    exact ⟨m, fun _ => hm⟩
  · exact ⟨0, fun h' => absurd h' h⟩

theorem joinL_64 {a b : List Typ} (ha : A64 a) (hb : A64 b) : A64 (joinL a b) := by
  induction a generalizing b with
  | nil => intro t ht; cases b <;> simp [joinL] at ht
  | cons x a ih =>
    cases b with
    | nil => intro t ht; simp [joinL] at ht
    | cons y b =>
      intro t ht
      simp only [joinL, List.mem_cons] at ht
      rcases ht with rfl | ht
      · exact joinT_64 (ha x (by simp)) (hb y (by simp))
      · exact ih (fun t ht => ha t (by simp [ht])) (fun t ht => hb t (by simp [ht])) t ht
structure Rk (B p : Nat) (w : World) (l : List Shape) (r : List (Bool × Value)) : Prop where
  hp : B ≤ p
  row : w.ownsRow B 38 2 (.slice (some ⟨p, 0, none⟩) l.length l.length) l.length (CS2 r)
  stk : ∀ (k : Nat) (x : Shape), l[k]? = some x → ∃ A c, r[k]? = some (x.1, .slice A x.2.length c) ∧ x.2.length ≤ c ∧ c ≤ maxLen ∧ (A = none → c = 0) ∧ Sq typL (fun b => B ≤ b ∧ b < w.heap.size ∧ b ≠ p) w A x.2
theorem Rk.lenr {B p : Nat} {w : World} {l : List Shape} {r : List (Bool × Value)} (h : Rk B p w l r) : r.length = l.length := by
  have := h.row.1
  rw [CS2_length] at this
  omega
theorem Rk.lt {B p : Nat} {w : World} {l : List Shape} {r : List (Bool × Value)} (h : Rk B p w l r) : p < w.heap.size := (h.row.lt p rfl).2
theorem Rk.below {B p : Nat} {w w' : World} {l : List Shape} {r : List (Bool × Value)} (h : Rk B p w l r) (hb : Below w.heap.size w w') : Rk B p w' l r := by
  refine ⟨h.hp, row_keep h.row (hb.block p h.lt), fun k x hx => ?_⟩
  obtain ⟨A, c, h1, h2, h3, h4, h5⟩ := h.stk k x hx
  exact ⟨A, c, h1, h2, h3, h4, (h5.keep fun b hb2 => hb.block b hb2.2.1).wide fun b hb2 => ⟨hb2.1, Nat.lt_of_lt_of_le hb2.2.1 hb.size, hb2.2.2⟩⟩
theorem Rk.cells {B p : Nat} {w : World} {l : List Shape} {r : List (Bool × Value)} (h : Rk B p w l r) {k : Nat} {x : Shape} (hx : l[k]? = some x) :
    ∃ A c, r[k]? = some (x.1, .slice A x.2.length c) ∧ w.cell? ⟨p, k * 2, none⟩ = some (.bool x.1) ∧ w.cell? ⟨p, k * 2 + 1, none⟩ = some (.slice A x.2.length c) ∧ x.2.length ≤ c ∧ c ≤ maxLen ∧ (A = none → c = 0) ∧ Sq typL (fun b => B ≤ b ∧ b < w.heap.size ∧ b ≠ p) w A x.2 := by
  obtain ⟨A, c, h1, h2, h3, h4, h5⟩ := h.stk k x hx
  have hk := (List.getElem?_eq_some_iff.1 hx).1
  exact ⟨A, c, h1, (h.row.cellAt (k * 2) (by omega)).trans (CS2_get0 h1), (h.row.cellAt (k * 2 + 1) (by omega)).trans (CS2_get1 h1), h2, h3, h4, h5⟩
theorem Rk.seen {B p : Nat} {w : World} {l : List Shape} {r : List (Bool × Value)} (h : Rk B p w l r) {k : Nat} (hk : k < l.length) {A : Option Addr} {c : Nat} {t : List Typ} (h1 : t.length ≤ c) (h2 : c ≤ maxLen) (h3 : A = none → c = 0) (h4 : Sq typL (fun b => B ≤ b ∧ b < w.heap.size ∧ b ≠ p) w A t) :
    Rk B p ((w.setCell ⟨p, k * 2, none⟩ (.bool true)).setCell ⟨p, k * 2 + 1, none⟩ (.slice A t.length c)) (l.set k (true, t)) (r.set k (true, .slice A t.length c)) := by
  have hz : ∀ i, i ≠ p → ((w.setCell ⟨p, k * 2, none⟩ (.bool true)).setCell ⟨p, k * 2 + 1, none⟩ (.slice A t.length c)).heap[i]? = w.heap[i]? := fun i hi => (Below.heap_setCell _ ⟨p, k * 2 + 1, none⟩ _ i hi).trans (Below.heap_setCell w ⟨p, k * 2, none⟩ (.bool true) i hi)
  have hsz : ((w.setCell ⟨p, k * 2, none⟩ (.bool true)).setCell ⟨p, k * 2 + 1, none⟩ (.slice A t.length c)).heap.size = w.heap.size := by simp [World.setCell]
  obtain ⟨x, hx⟩ : ∃ x, l[k]? = some x := ⟨_, List.getElem?_eq_getElem hk⟩
  obtain ⟨A0, c0, hr0, -⟩ := h.stk k x hx
  refine ⟨h.hp, ?_, fun j y hy => ?_⟩
  · have k1 := (h.row.stored (k * 2) (.bool true)).1
    have k2 := (k1.stored (k * 2 + 1) (.slice A t.length c)).1
    have hr1 : (r.set k (true, .slice A0 x.2.length c0))[k]? = some (true, .slice A0 x.2.length c0) := by rw [List.getElem?_set_self (by rw [h.lenr]; exact hk)]
    rw [CS2_set0 hr0, CS2_set1 hr1, List.set_set] at k2
    simpa using k2
  · rw [List.getElem?_set] at hy
    by_cases e : k = j
    · subst e
      rw [if_pos rfl, if_pos hk] at hy
      injection hy with hy
      subst hy
      exact ⟨A, c, by rw [List.getElem?_set_self (by rw [h.lenr]; exact hk)], h1, h2, h3, (h4.keep fun b hb => hz b hb.2.2).wide fun b hb => by rw [hsz]; exact hb⟩
    · rw [if_neg e] at hy
      obtain ⟨A1, c1, q1, q2, q3, q4, q5⟩ := h.stk j y hy
      exact ⟨A1, c1, by rw [List.getElem?_set_ne e]; exact q1, q2, q3, q4, (q5.keep fun b hb => hz b hb.2.2).wide fun b hb => by rw [hsz]; exact hb⟩
theorem Rk.stack {B p : Nat} {w : World} {l : List Shape} {r : List (Bool × Value)} (h : Rk B p w l r) {k : Nat} {u : List Typ} (hx : l[k]? = some (true, u)) {A : Option Addr} {c : Nat} {t : List Typ} (h1 : t.length ≤ c) (h2 : c ≤ maxLen) (h3 : A = none → c = 0) (h4 : Sq typL (fun b => B ≤ b ∧ b < w.heap.size ∧ b ≠ p) w A t) :
    Rk B p (w.setCell ⟨p, k * 2 + 1, none⟩ (.slice A t.length c)) (l.set k (true, t)) (r.set k (true, .slice A t.length c)) := by
  have hk := (List.getElem?_eq_some_iff.1 hx).1
  have hz : ∀ i, i ≠ p → (w.setCell ⟨p, k * 2 + 1, none⟩ (.slice A t.length c)).heap[i]? = w.heap[i]? := fun i hi => Below.heap_setCell _ ⟨p, k * 2 + 1, none⟩ _ i hi
  have hsz : (w.setCell ⟨p, k * 2 + 1, none⟩ (.slice A t.length c)).heap.size = w.heap.size := by simp [World.setCell]
  obtain ⟨A0, c0, hr0, -⟩ := h.stk k _ hx
  refine ⟨h.hp, ?_, fun j y hy => ?_⟩
  · have k2 := (h.row.stored (k * 2 + 1) (.slice A t.length c)).1
    rw [CS2_set1 hr0] at k2
    simpa using k2
  · rw [List.getElem?_set] at hy
    by_cases e : k = j
    · subst e
      rw [if_pos rfl, if_pos hk] at hy
      injection hy with hy
      subst hy
      exact ⟨A, c, by rw [List.getElem?_set_self (by rw [h.lenr]; exact hk)], h1, h2, h3, (h4.keep fun b hb => hz b hb.2.2).wide fun b hb => by rw [hsz]; exact hb⟩
    · rw [if_neg e] at hy
      obtain ⟨A1, c1, q1, q2, q3, q4, q5⟩ := h.stk j y hy
      exact ⟨A1, c1, by rw [List.getElem?_set_ne e]; exact q1, q2, q3, q4, (q5.keep fun b hb => hz b hb.2.2).wide fun b hb => by rw [hsz]; exact hb⟩
theorem Rk.mark {B p : Nat} {w : World} {l : List Shape} {r : List (Bool × Value)} (h : Rk B p w l r) {k : Nat} {b : Bool} {u : List Typ} (hx : l[k]? = some (b, u)) : ∃ r', Rk B p (w.setCell ⟨p, k * 2, none⟩ (.bool true)) (l.set k (true, u)) r' := by
  have hk := (List.getElem?_eq_some_iff.1 hx).1
  have hz : ∀ i, i ≠ p → (w.setCell ⟨p, k * 2, none⟩ (.bool true)).heap[i]? = w.heap[i]? := fun i hi => Below.heap_setCell _ ⟨p, k * 2, none⟩ _ i hi
  have hsz : (w.setCell ⟨p, k * 2, none⟩ (.bool true)).heap.size = w.heap.size := by simp [World.setCell]
  obtain ⟨A0, c0, hr0, g1, g2, g3, g4⟩ := h.stk k _ hx
  refine ⟨r.set k (true, .slice A0 u.length c0), h.hp, ?_, fun j y hy => ?_⟩
  · have k2 := (h.row.stored (k * 2) (.bool true)).1
    rw [CS2_set0 hr0] at k2
    simpa using k2
  · rw [List.getElem?_set] at hy
    by_cases e : k = j
    · subst e
      rw [if_pos rfl, if_pos hk] at hy
      injection hy with hy
      subst hy
      exact ⟨A0, c0, by rw [List.getElem?_set_self (by rw [h.lenr]; exact hk)], g1, g2, g3, (g4.keep fun b hb => hz b hb.2.2).wide fun b hb => by rw [hsz]; exact hb⟩
    · rw [if_neg e] at hy
      obtain ⟨A1, c1, q1, q2, q3, q4, q5⟩ := h.stk j y hy
      exact ⟨A1, c1, by rw [List.getElem?_set_ne e]; exact q1, q2, q3, q4, (q5.keep fun b hb => hz b hb.2.2).wide fun b hb => by rw [hsz]; exact hb⟩
theorem rk_begin {w W : World} {n p : Nat} (hn : n ≤ 1000) (hp : w.heap.size ≤ p) (hP : Blk W p 38 (madeCells #[.bool false, .slice none 0 0] (n * 2))) (hm : (madeCells #[.bool false, .slice none 0 0] (n * 2)).toList = CS2 (List.replicate n (false, .slice none 0 0))) : Rk w.heap.size p W (List.replicate n (false, [])) (List.replicate n (false, .slice none 0 0)) := by
  have hnm : n ≤ maxLen := by unfold maxLen; omega
  refine ⟨hp, ?_, fun k x hx => ?_⟩
  · rw [List.length_replicate]
    refine ⟨by rw [CS2_length, List.length_replicate], .inr ⟨p, n, _, rfl, hp, hP, Nat.le_refl _, hnm, size_madeCells _ _, ?_⟩⟩
    rw [hm, List.take_of_length_le (by rw [CS2_length, List.length_replicate]; exact Nat.le_refl _)]
  · have hk := (List.getElem?_eq_some_iff.1 hx).1
    rw [List.length_replicate] at hk
    rw [List.getElem?_replicate, if_pos hk] at hx
    injection hx with hx
    subst hx
    exact ⟨none, 0, (by rw [List.getElem?_replicate, if_pos hk]; rfl), Nat.le_refl _, by simp [maxLen], fun _ => rfl, Sq.nil _ _ _ _⟩
theorem Rk.done {B p : Nat} {w : World} {l : List Shape} {r : List (Bool × Value)} (h : Rk B p w l r) : rowL.R (fun b => B ≤ b ∧ b < w.heap.size) w [.slice (some ⟨p, 0, none⟩) l.length l.length] l := by
  have hlm : l.length ≤ maxLen := by
    rcases h.row.2 with ⟨e, _⟩ | ⟨g', cap, cur, e, _, _, hnc, hcm, _⟩
    · cases e
    · omega
  refine ⟨_, _, rfl, Nat.le_refl _, hlm, fun _ => ⟨_, rfl, ⟨h.hp, h.lt⟩, fun k x hx => ?_⟩⟩
  obtain ⟨A, c, hr, h0, h1, h2, h3, h4, h5⟩ := h.cells hx
  have e : ∀ i, (⟨p, 0, none⟩ : Addr).add i = ⟨p, i, none⟩ := fun i => by unfold Addr.add; split <;> simp_all
  refine ⟨[.bool x.1, .slice A x.2.length c], fun i u hu => ?_, _, rfl, A, c, rfl, h2, h3, h4, h5.wide fun b hb => ⟨hb.1, hb.2.1⟩⟩
  rw [e]
  match i, hu with
  | 0, hu => simp at hu; subst hu; exact h0
  | 1, hu => simp at hu; subst hu; exact h1
  | i + 2, hu => simp at hu

structure Rnd (m : Mod) (fn : Fn) (l0 l : List Shape) (b : Bool) (ok : Prop) : Prop where
  runF : RunF m fn l
  out : ∀ (p : Nat) (s : List Typ), l[p]? = some (false, s) → s = []
  same : b = false → l = l0 ∧ ok
  less : b = true → rkS (toS l) fn.code.length < rkS (toS l0) fn.code.length
theorem Rnd.ok {m : Mod} {fn : Fn} {l0 l : List Shape} {b : Bool} {ok ok' : Prop} (h : Rnd m fn l0 l b ok) (hk : b = false → l = l0 → ok → ok') : Rnd m fn l0 l b ok' :=
  ⟨h.runF, h.out, fun hb => ⟨(h.same hb).1, hk hb (h.same hb).1 (h.same hb).2⟩, h.less⟩
theorem Rnd.le {m : Mod} {fn : Fn} {l0 l : List Shape} {b : Bool} {ok : Prop} (h : Rnd m fn l0 l b ok) : rkS (toS l) fn.code.length ≤ rkS (toS l0) fn.code.length := by
  cases b
  · rw [(h.same rfl).1]; exact Nat.le_refl _
  · exact Nat.le_of_lt (h.less rfl)
theorem Rnd.seen {m : Mod} {fn : Fn} {l0 l : List Shape} {b : Bool} {ok ok' : Prop} {pc k : Nat} {i : Ins} {s t : List Typ} {ks : List Int} (h : Rnd m fn l0 l b ok) {z : List Typ} (hx : l[k]? = some (false, z)) (hu : Und m fn pc s) (hi : fn.code[pc]? = some i) (hf : insB8 m fn i pc s = (0, t, ks)) (hk : (k : Int) ∈ ks) (hc : canL t) (h8 : t.length ≤ 8) : Rnd m fn l0 (l.set k (true, t)) true ok' := by
  have hlk := (List.getElem?_eq_some_iff.1 hx).1
  have hlt : k < fn.code.length := by rw [← h.runF.len]; exact hlk
  refine ⟨⟨by simpa using h.runF.len, by rw [toS_set hlk]; exact run_new h.runF.run hu hi hf hk (toS_no hx) hc h8 hlt⟩, fun p s hp => ?_, fun e => (by cases e), fun _ => ?_⟩
  · by_cases e : k = p
    · subst e
      rw [List.getElem?_set_self hlk] at hp
      cases hp
    · rw [List.getElem?_set_ne e] at hp
      exact h.out p s hp
  · rw [toS_set hlk]
    exact Nat.lt_of_lt_of_le (rkS_new hlt (toS_no hx) h8) h.le
theorem Rnd.join {m : Mod} {fn : Fn} {l0 l : List Shape} {b : Bool} {ok ok' : Prop} {pc k : Nat} {i : Ins} {s t u : List Typ} {ks : List Int} (h : Rnd m fn l0 l b ok) (hx : l[k]? = some (true, u)) (hu : Und m fn pc s) (hi : fn.code[pc]? = some i) (hf : insB8 m fn i pc s = (0, t, ks)) (hk : (k : Int) ∈ ks) (hn : u.length = t.length) (hc : canL t) (hne : joinL u t ≠ u) : Rnd m fn l0 (l.set k (true, joinL u t)) true ok' := by
  have hlk := (List.getElem?_eq_some_iff.1 hx).1
  have hlt : k < fn.code.length := by rw [← h.runF.len]; exact hlk
  have hcu := (h.runF.run.can k u (toS_yes hx)).1
  refine ⟨⟨by simpa using h.runF.len, by rw [toS_set hlk]; exact run_join h.runF.run hu hi hf hk (toS_yes hx) hn hc⟩, fun p s hp => ?_, fun e => (by cases e), fun _ => ?_⟩
  · by_cases e : k = p
    · subst e
      rw [List.getElem?_set_self hlk] at hp
      cases hp
    · rw [List.getElem?_set_ne e] at hp
      exact h.out p s hp
  · rw [toS_set hlk]
    exact Nat.lt_of_lt_of_le (rkS_join hlt (toS_yes hx) hcu hc hn hne) h.le
end Go.Proofs.YtikhhcmfjncabaaGreat
namespace Go.Proofs.YtikhhcmfjncabaaGreat
open Go.RowKit

theorem made_C2 (n : Nat) : (madeCells #[.bool false, .slice none 0 0] (n * 2)).toList = CS2 (List.replicate n (false, .slice none 0 0)) := by
  apply List.ext_getElem?
  intro i
  by_cases hi : i < n * 2
  · have hj : i / 2 < n := by omega
    have hr : (List.replicate n ((false, .slice none 0 0) : Bool × Value))[i / 2]? = some (false, .slice none 0 0) := by simp [hj]
    rcases Nat.mod_two_eq_zero_or_one i with e | e
    · have h0 := CS2_get0 hr
      rw [show i / 2 * 2 = i by omega] at h0
      rw [h0]
      simp [madeCells, hi, e]
    · have h0 := CS2_get1 hr
      rw [show i / 2 * 2 + 1 = i by omega] at h0
      rw [h0]
      simp [madeCells, hi, e]
  · rw [List.getElem?_eq_none (by simp [madeCells]; omega), List.getElem?_eq_none (by rw [CS2_length]; simp; omega)]
theorem shp_info : (Tryz.prog.info? 38).map (fun i => (i.zero, i.size, i.bytes)) = some (some (.agg #[.bool false, .slice none 0 0]), 2, 32) := by kernel_rfl
theorem run_make_shp (n : Nat) (hn : n ≤ 1000) (w : World) : (Instr.makeSlice 32 (.int .i64 (n : Nat)) (.int .i64 (n : Nat))).run Tryz.prog w = .ok (.slice (some ⟨w.heap.size, 0, none⟩) n n) (w.alloc (.cells (madeCells #[.bool false, .slice none 0 0] (n * 2)) 38)) := by
  obtain ⟨i, hi, hz, hs, hb⟩ := info_parts shp_info
  have := run_make (P := Tryz.prog) w 32 38 i _ Tryz.underlying32 hi hz .i64 .i64 (n : Int) (n : Int) (by omega) (Int.le_refl _) (by rw [hb]; omega) (by omega)
  rw [hs, Int.toNat_natCast] at this
  exact this
theorem own_stk {n0 n : Nat} {w : World} {v : Value} {ts : List Typ} (h : w.ownsRow n0 41 2 v n (T2 ts)) (ha : A64 ts) (hl : ts.length = n) : Stk n0 w v ts := by
  subst hl
  rcases Nat.eq_zero_or_pos ts.length with h0 | h0
  · rcases h.2 with ⟨rfl, _⟩ | ⟨g, cap, cur, rfl, _, _, hnc, hcm, _, _⟩
    · exact .inl ⟨List.eq_nil_of_length_eq_zero h0, none, 0, rfl, by simp [maxLen], fun _ => rfl⟩
    · rw [h0]
      exact .inl ⟨List.eq_nil_of_length_eq_zero h0, _, cap, rfl, hcm, fun h => by cases h⟩
  · have h2 := h
    rcases h.2 with ⟨_, h1⟩ | ⟨g, cap, cur, rfl, _, _, hnc, hcm, _, _⟩
    · omega
    · exact .inr ⟨h0, ha, g, cap, rfl, hnc, hcm, h2⟩

end Go.Proofs.YtikhhcmfjncabaaGreat
