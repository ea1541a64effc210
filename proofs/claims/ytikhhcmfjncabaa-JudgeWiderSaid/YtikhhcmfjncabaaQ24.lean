/-
  Loe Vwc Jf Vli Vmk Jt
-/
import Derived.Test.YtikhhcmfjncabaaQ01
import Derived.Test.YtikhhcmfjncabaaQ02
import Derived.Test.YtikhhcmfjncabaaQ08
import Derived.Test.YtikhhcmfjncabaaQ09
import Derived.Test.YtikhhcmfjncabaaQ22
import Derived.Maps.AppendAt
import Derived.Laws.OwnMore
import Derived.OwnWalk
import Derived.Lib.QuietBelow
set_option linter.unusedSimpArgs false
set_option linter.unusedVariables false
namespace Go.Proofs.Ytikhhcmfjncabaa
open Go.RowKit

theorem Owns.below {α : Type} {L : Lay α} {ty base : Nat} {w w' : World} {v : Value} {xs : List α} (h : Owns L ty base w v xs) (hb : Below w.heap.size w w') : Owns L ty base w' v xs := by
  obtain ⟨css, hl, hown, hR⟩ := h
  exact ⟨css, hl, raw_below hown hb (Nat.le_refl _), fun j x cs h1 h2 => L.wide (L.keep (hR j x cs h1 h2) fun b hb2 => hb.block b hb2.2.1) fun b hb2 => ⟨hb2.1, Nat.lt_of_lt_of_le hb2.2.1 hb.size, hb2.2.2⟩⟩
end Go.Proofs.Ytikhhcmfjncabaa
namespace Go.Proofs.Ytikhhcmfjncabaa
open Go.RowKit

def CS2 : List (Bool × Value) → List Value
  | [] => []
  | x :: xs => .bool x.1 :: x.2 :: CS2 xs
def Bl (ws : List Bool) : List Value := ws.map .bool
def Stk (n0 : Nat) (w : World) (v : Value) (s : List Typ) : Prop :=
  (s = [] ∧ ∃ A c, v = .slice A 0 c ∧ c ≤ maxLen ∧ (A = none → c = 0)) ∨ (0 < s.length ∧ A64 s ∧ ∃ b c, v = .slice (some ⟨b, 0, none⟩) s.length c ∧ s.length ≤ c ∧ c ≤ maxLen ∧ w.ownsRow n0 27 2 (.slice (some ⟨b, 0, none⟩) s.length c) s.length (T2 s))
theorem Stk.a64 {n0 : Nat} {w : World} {v : Value} {s : List Typ} (h : Stk n0 w v s) : A64 s := by
  rcases h with ⟨rfl, -⟩ | ⟨-, h, -⟩
  · exact A64.nil
  · exact h
theorem Stk.keep {n0 : Nat} {w w' : World} {v : Value} {s : List Typ} (h : Stk n0 w v s) (hk : 0 < s.length → ∀ b, v.ownBlock = some b → w'.heap[b]? = w.heap[b]?) : Stk n0 w' v s := by
  rcases h with h | ⟨h0, ha, b, c, rfl, h1, h2, ho⟩
  · exact .inl h
  · refine .inr ⟨h0, ha, b, c, rfl, h1, h2, ho.1, ?_⟩
    rcases ho.2 with ⟨e, _⟩ | ⟨g', cap, cur, e, q1, q2, q3⟩
    · cases e
    · refine .inr ⟨g', cap, cur, e, q1, ?_, q3⟩
      simp only [Value.slice.injEq, Option.some.injEq, Addr.mk.injEq, and_true, true_and] at e
      obtain ⟨rfl, -⟩ := e
      rw [hk h0 b rfl]
      exact q2
theorem Stk.own {n0 : Nat} {w : World} {v : Value} {s : List Typ} (h : Stk n0 w v s) (h0 : 0 < s.length) : ∃ b, v.ownBlock = some b ∧ n0 ≤ b ∧ b < w.heap.size := by
  rcases h with ⟨rfl, -⟩ | ⟨_, _, b, c, rfl, _, _, ho⟩
  · simp at h0
  · exact ⟨b, rfl, ho.lt b rfl⟩

structure Turn (Z : Nat → Option Nat) (w w' : World) : Prop where
  os : w'.os = w.os
  tape : w'.tape = w.tape
  output : w'.output = w.output
  size : w.heap.size ≤ w'.heap.size
  block : ∀ b, b < w.heap.size → Z b = none → w'.heap[b]? = w.heap[b]?
theorem Turn.refl (Z : Nat → Option Nat) (w : World) : Turn Z w w := ⟨rfl, rfl, rfl, Nat.le_refl _, fun _ _ _ => rfl⟩
theorem Turn.trans {Z Z' : Nat → Option Nat} {a b c : World} (h : Turn Z a b) (k : Turn Z' b c) (hz : ∀ i, i < a.heap.size → Z i = none → Z' i = none) : Turn Z a c :=
  ⟨k.os.trans h.os, k.tape.trans h.tape, k.output.trans h.output, Nat.le_trans h.size k.size, fun i hi hn => (k.block i (Nat.lt_of_lt_of_le hi h.size) (hz i hi hn)).trans (h.block i hi hn)⟩
theorem Turn.of_below {Z : Nat → Option Nat} {a b : World} (h : Below a.heap.size a b) : Turn Z a b := ⟨h.os, h.tape, h.output, h.size, fun i hi _ => h.block i hi⟩
theorem Turn.below {Z : Nat → Option Nat} {n0 : Nat} {a b : World} (h : Turn Z a b) (hn : n0 ≤ a.heap.size) (hz : ∀ i, i < n0 → Z i = none) : Below n0 a b := ⟨h.os, h.tape, h.output, h.size, fun i hi => h.block i (Nat.lt_of_lt_of_le hi hn) (hz i hi)⟩
theorem Turn.set {Z : Nat → Option Nat} {a b : World} (h : Turn Z a b) {g i : Nat} (hg : Z g ≠ none) (u : Value) : Turn Z a (b.setCell ⟨g, i, none⟩ u) :=
  ⟨h.os, h.tape, h.output, by simpa [World.setCell] using h.size, fun k hk hn => (Below.heap_setCell b ⟨g, i, none⟩ u k (fun e => by rw [e] at hn; exact hg hn)).trans (h.block k hk hn)⟩
theorem Turn.then {Z : Nat → Option Nat} {a b c : World} (h : Turn Z a b) (k : Below b.heap.size b c) : Turn Z a c := h.trans (Turn.of_below (Z := Z) k) (fun _ _ h => h)

end Go.Proofs.Ytikhhcmfjncabaa
namespace Go.Proofs.Ytikhhcmfjncabaa
open Go.RowKit

theorem flat_len {css : List (List Value)} {k : Nat} (hk : ∀ cs ∈ css, cs.length = k) : css.flatten.length = css.length * k := by
  induction css with
  | nil => simp
  | cons c css ih =>
    rw [List.flatten_cons, List.length_append, hk c (by simp), ih fun x hx => hk x (by simp [hx]), List.length_cons, Nat.add_mul]
    omega
theorem sq_css {α : Type} {La : Lay α} {S : Nat → Prop} {w : World} {a : Addr} {xs : List α} (hk : 0 < La.k) (h : Sq La S w (some a) xs) :
    ∃ css : List (List Value), css.length = xs.length ∧ (∀ (j : Nat) (x : α) (cs : List Value), xs[j]? = some x → css[j]? = some cs → La.R S w cs x) ∧ (∀ (j : Nat) (u : Value), css.flatten[j]? = some u → w.cell? (a.add j) = some u) ∧ (∀ u ∈ css.flatten, u.oneCell' = true) ∧ css.flatten.length = xs.length * La.k := by
  have hex : ∀ j : Fin xs.length, ∃ cs : List Value, (∀ i u, cs[i]? = some u → w.cell? (a.add (j.1 * La.k + i)) = some u) ∧ La.R S w cs xs[j.1] := fun j => by
    obtain ⟨a', cs, e, hs, hc, hr⟩ := h.at (List.getElem?_eq_getElem j.2)
    injection e with e
    subst e
    exact ⟨cs, hc, hr⟩
  obtain ⟨css, hl, hget⟩ : ∃ css : List (List Value), css.length = xs.length ∧ ∀ (j : Nat) (x : α) (cs : List Value), xs[j]? = some x → css[j]? = some cs → (∀ i u, cs[i]? = some u → w.cell? (a.add (j * La.k + i)) = some u) ∧ La.R S w cs x := by
    refine ⟨List.ofFn fun j => Classical.choose (hex j), by simp, fun j x cs h1 h2 => ?_⟩
    obtain ⟨hj, e1⟩ := List.getElem?_eq_some_iff.1 h1
    obtain ⟨hj2, e2⟩ := List.getElem?_eq_some_iff.1 h2
    rw [List.getElem_ofFn] at e2
    subst e1 e2
    exact Classical.choose_spec (hex ⟨j, hj⟩)
  have hlen : ∀ cs ∈ css, cs.length = La.k := fun cs hcs => by
    obtain ⟨j, hj⟩ := List.mem_iff_getElem?.1 hcs
    have hjl : j < xs.length := by rw [← hl]; exact (List.getElem?_eq_some_iff.1 hj).1
    exact La.len (hget j _ cs (List.getElem?_eq_getElem hjl) hj).2
  have hfl : css.flatten.length = xs.length * La.k := by rw [flat_len hlen, hl]
  refine ⟨css, hl, fun j x cs h1 h2 => (hget j x cs h1 h2).2, fun j u hu => ?_, fun u hu => ?_, hfl⟩
  · have hj := (List.getElem?_eq_some_iff.1 hu).1
    rw [hfl] at hj
    have hq : j / La.k < xs.length := (Nat.div_lt_iff_lt_mul hk).2 hj
    have hr : j % La.k < La.k := Nat.mod_lt _ hk
    have hcs : css[j / La.k]? = some (css[j / La.k]'(by omega)) := List.getElem?_eq_getElem _
    have e : j / La.k * La.k + j % La.k = j := by rw [Nat.mul_comm]; exact Nat.div_add_mod j La.k
    have hf := flat_get hlen hcs (j % La.k) hr
    rw [e] at hf
    rw [hf] at hu
    have := (hget _ _ _ (List.getElem?_eq_getElem hq) hcs).1 _ u hu
    rwa [e] at this
  · obtain ⟨cs, hcs, hu⟩ := List.mem_flatten.1 hu
    obtain ⟨j, hj⟩ := List.mem_iff_getElem?.1 hcs
    have hjl : j < xs.length := by rw [← hl]; exact (List.getElem?_eq_some_iff.1 hj).1
    exact La.one (hget j _ cs (List.getElem?_eq_getElem hjl) hj).2 u hu

set_option maxRecDepth 100000 in
theorem walk_append_all {α : Type} (La : Lay α) (w : World) {ops : Array Oper} {rest : List Oper} {o : Oper} {a : Act} {Q : Exit → Act → World → Prop} (hgd : o.guard = none) (s x : Operand) (T E : TypeId)
    (ho : o.op = .call { callee := .builtin .append, args := #[s, x], argTypes := #[T, T] })
    (z : Value) (B : Nat) (hT : Try.prog.underlying T = some (.slice E)) (hI : (Try.prog.info? E).map (fun i => (i.zero, i.size, i.bytes)) = some (some z, La.k, B)) (hz : z.cells.size = La.k) (hk : 0 < La.k) (hB : B ≤ 100)
    (base : Nat) (v : Value) (hs : a.eval s = v) (hO : w.ownsRow base E La.k v 0 []) (ad : Addr) (m d : Nat) (xs : List α) (hx : a.eval x = .slice (some ad) m d) (hl : xs.length = m) (S : Nat → Prop) (hS : Sq La S w (some ad) xs) (hbig : m ≤ 1000) (hbase : base ≤ w.heap.size)
    (h : ∀ (v' : Value) (w' : World) (css : List (List Value)), css.length = m → w'.ownsRow base E La.k v' m css.flatten → (∀ (j : Nat) (x : α) (cs : List Value), xs[j]? = some x → css[j]? = some cs → La.R S w cs x) → w.grownBy w' v.ownBlock → wpList Try.prog ops Q rest (a.put o.dst v') w') : wpList Try.prog ops Q (o :: rest) a w := by
  refine wpList_plain hgd fun _ hK => ?_
  obtain ⟨i0, hi0, hz0, hz1, hz2⟩ := info_parts hI
  obtain ⟨css, hcl, hR, hc, hone, hfl⟩ := sq_css hk hS
  have hBx : (0 + m) * B ≤ 140737488355328 := by
    have := Nat.mul_le_mul (show 0 + m ≤ 1000 by omega) hB
    omega
  obtain ⟨v', w', hrun, h2, h3, _, h5⟩ := run_append_own_at (P := Try.prog) w base T o.type E i0 z La.k B hT hi0 hz0 hz1 hz2 hz hk v 0 [] hO ad m d css.flatten (by rw [hfl, hl]) hc hone
    (by simp only [maxLen]; omega) hBx hbase
  unfold Oper.wp execOp
  simp only [ho, resolve, invoke, builtin, Sem.run_bind, Sem.run_pure, Result.andThen_ok, List.map_toArray, List.map_cons, List.map_nil, hs, hx, hrun]
  rw [Nat.zero_add, List.nil_append] at h2
  exact hK _ _ (h v' w' css (hcl.trans hl) h2 hR h3)
theorem flat_set {css : List (List Value)} {K : Nat} (hk : ∀ cs ∈ css, cs.length = K) {j : Nat} {cs : List Value} (hj : css[j]? = some cs) {i : Nat} (hi : i < K) (u : Value) : css.flatten.set (j * K + i) u = (css.set j (cs.set i u)).flatten := by
  induction css generalizing j with
  | nil => simp at hj
  | cons c css ih =>
    have hc := hk c (by simp)
    cases j with
    | zero =>
      simp at hj
      subst hj
      rw [List.flatten_cons, Nat.zero_mul, Nat.zero_add, List.set_append_left _ _ (by omega), List.set_cons_zero, List.flatten_cons]
    | succ j =>
      rw [List.flatten_cons, List.set_append_right _ _ (by rw [hc, Nat.succ_mul]; omega), hc, show (j + 1) * K + i - K = j * K + i by rw [Nat.succ_mul]; omega, ih (fun x hx => hk x (by simp [hx])) (by simpa using hj), List.set_cons_succ, List.flatten_cons]
theorem ownr_keep {w w' : World} {base ty k n : Nat} {v : Value} {xs : List Value} (h : w.ownsRow base ty k v n xs) (hk : ∀ b, v.ownBlock = some b → w'.heap[b]? = w.heap[b]?) : w'.ownsRow base ty k v n xs := by
  refine ⟨h.1, ?_⟩
  rcases h.2 with h0 | ⟨g', cap, cur, e, q1, q2, q3⟩
  · exact .inl h0
  · refine .inr ⟨g', cap, cur, e, q1, ?_, q3⟩
    rw [hk g' (by rw [e]; rfl)]
    exact q2
theorem ownr_some {w : World} {base ty k n : Nat} {v : Value} {xs : List Value} (h : w.ownsRow base ty k v n xs) (hn : 0 < n) : ∃ g c, v = .slice (some ⟨g, 0, none⟩) n c ∧ base ≤ g ∧ g < w.heap.size := by
  rcases h.2 with ⟨_, h0⟩ | ⟨g, cap, cur, rfl, hb, hg, _⟩
  · omega
  · exact ⟨g, cap, rfl, hb, (Array.getElem?_eq_some_iff.1 hg).1⟩
theorem ownr_empty (w : World) (ty k : Nat) : (w.alloc (.cells #[] ty)).ownsRow w.heap.size ty k (.slice (some ⟨w.heap.size, 0, none⟩) 0 0) 0 [] :=
  World.ownsRow_made w #[] 0 (Nat.le_refl _) (by simp [maxLen]) (by simp)
end Go.Proofs.Ytikhhcmfjncabaa
namespace Go.Proofs.Ytikhhcmfjncabaa
open Go.RowKit

theorem I3_one (ts : List Ins) : ∀ u ∈ I3 ts, u.oneCell' = true := by
  induction ts with
  | nil => simp [I3]
  | cons t ts ih =>
    intro u hu
    simp only [I3, i3, List.cons_append, List.nil_append, List.mem_cons] at hu
    rcases hu with rfl | rfl | rfl | hu
    · rfl
    · rfl
    · rfl
    · exact ih u hu
theorem walk_append_inss (w : World) {ops : Array Oper} {rest : List Oper} {o : Oper} {a : Act} {Q : Exit → Act → World → Prop} (hgd : o.guard = none) (s x : Operand)
    (ho : o.op = .call { callee := .builtin .append, args := #[s, x], argTypes := #[30, 30] })
    (base : Nat) (v : Value) (n : Nat) (ts : List Ins) (hs : a.eval s = v) (hown : w.ownsRow base 29 3 v n (I3 ts)) (ad : Addr) (m d : Nat) (us : List Ins) (hx : a.eval x = .slice (some ad) m d) (hm : us.length = m)
    (hc : ∀ j u, (I3 us)[j]? = some u → w.cell? (ad.add j) = some u) (hbig : n + m ≤ 1000000) (hbase : base ≤ w.heap.size)
    (h : ∀ v' w', w'.ownsRow base 29 3 v' (n + m) (I3 (ts ++ us)) → w.grownBy w' v.ownBlock → (v'.ownBlock = v.ownBlock ∨ v'.ownBlock = some w.heap.size) → wpList Try.prog ops Q rest (a.put o.dst v') w') :
    wpList Try.prog ops Q (o :: rest) a w := by
  refine wpList_plain hgd fun _ hK => ?_
  obtain ⟨i0, hi0, hz0, hz1, hz2⟩ := info_parts ins_info
  obtain ⟨v', w', hrun, h2, h3, _, h5⟩ := run_append_own_at (P := Try.prog) w base 30 o.type 29 i0 (.agg #[.int .i64 0, .int .i64 0, .int .i64 0]) 3 24 Try.underlying30 hi0 hz0 hz1 hz2 rfl (by omega) v n (I3 ts) hown ad m d (I3 us) (by rw [I3_length]; omega) hc (I3_one us)
    (by simp only [maxLen]; omega) (by omega) hbase
  rw [← I3_app] at h2
  unfold Oper.wp execOp
  simp only [ho, resolve, invoke, builtin, Sem.run_bind, Sem.run_pure, Result.andThen_ok, List.map_toArray, List.map_cons, List.map_nil, hs, hx, hrun]
  exact hK _ _ (h v' w' h2 h3 h5)
theorem own_cod {w : World} {base n : Nat} {v : Value} {ts : List Ins} (h : w.ownsRow base 29 3 v n (I3 ts)) (hI : ∀ t ∈ ts, I64 t.1 ∧ I64 t.2.1 ∧ I64 t.2.2) : ∃ A c, v = .slice A n c ∧ codL.R (· < w.heap.size) w [.slice A n c] ts := by
  have hn : n = ts.length := by have := h.1; rw [I3_length] at this; omega
  subst hn
  rcases h.2 with ⟨rfl, h0⟩ | ⟨g, cap, cur, rfl, hb, hg, hnc, hcm, _, _⟩
  · exact ⟨none, 0, by rw [h0], none, 0, by rw [h0], by omega, by simp [maxLen], fun hpos => absurd hpos (by omega)⟩
  · refine ⟨_, cap, rfl, _, cap, rfl, hnc, hcm, fun _ => ⟨_, rfl, (Array.getElem?_eq_some_iff.1 hg).1, fun j t hj => ?_⟩⟩
    have hjl := (List.getElem?_eq_some_iff.1 hj).1
    refine ⟨[.int .i64 t.1, .int .i64 t.2.1, .int .i64 t.2.2], fun i u hu => ?_, rfl, hI t (List.mem_of_getElem? hj)⟩
    have hi : i < 3 := by have := (List.getElem?_eq_some_iff.1 hu).1; simpa using this
    refine h.cells rfl (j * 3 + i) u ?_
    rw [I3_get ts j i hjl hi, hj]
    exact hu

theorem blk_own {w : World} {g base ty k n : Nat} {cs : Array Value} (h : Blk w g ty cs) (hb : base ≤ g) (hn : 0 < n) (hk : cs.size = n * k) (hm : n ≤ maxLen) : w.ownsRow base ty k (.slice (some ⟨g, 0, none⟩) n n) n cs.toList :=
  ⟨by simp [hk], .inr ⟨g, n, cs, rfl, hb, h, Nat.le_refl _, hm, by omega, by rw [List.take_of_length_le (by simp [hk])]⟩⟩
end Go.Proofs.Ytikhhcmfjncabaa
namespace Go.Proofs.Ytikhhcmfjncabaa
open Go.RowKit

theorem shp_info : (Try.prog.info? 32).map (fun i => (i.zero, i.size, i.bytes)) = some (some (.agg #[.bool false, .slice none 0 0]), 2, 32) := by kernel_rfl
end Go.Proofs.Ytikhhcmfjncabaa
namespace Go.Proofs.Ytikhhcmfjncabaa
open Go.RowKit

def No3 (vc va vb : Value) (b : Nat) : Prop := vc.ownBlock ≠ some b ∧ va.ownBlock ≠ some b ∧ vb.ownBlock ≠ some b
def Rw3 (base : Nat) (N : Nat → Prop) (w : World) (v : Value) (xs : List Shape) : Prop :=
  ∃ css : List (List Value), css.length = xs.length ∧ w.ownsRow base 32 2 v xs.length css.flatten ∧ ∀ (j : Nat) (x : Shape) (cs : List Value), xs[j]? = some x → css[j]? = some cs → shpL.R (fun b => b < w.heap.size ∧ N b) w cs x
structure Tri (base : Nat) (w : World) (vc va vb : Value) (xc : List Ins) (xa xb : List Shape) : Prop where
  code : w.ownsRow base 29 3 vc xc.length (I3 xc)
  ra : Rw3 base (No3 vc va vb) w va xa
  rb : Rw3 base (No3 vc va vb) w vb xb
  ca : ∀ b, vc.ownBlock = some b → va.ownBlock ≠ some b
  cb : ∀ b, vc.ownBlock = some b → vb.ownBlock ≠ some b
  ab : ∀ b, va.ownBlock = some b → vb.ownBlock ≠ some b
theorem Rw3.mono {base : Nat} {N N' : Nat → Prop} {w : World} {v : Value} {xs : List Shape} (h : Rw3 base N w v xs) (hn : ∀ b, N b → N' b) : Rw3 base N' w v xs := by
  obtain ⟨css, h1, h2, h3⟩ := h
  exact ⟨css, h1, h2, fun j x cs a b => shpL.wide (h3 j x cs a b) fun i hi => ⟨hi.1, hn i hi.2⟩⟩
theorem Rw3.keep {base : Nat} {N N' : Nat → Prop} {w w' : World} {v : Value} {xs : List Shape} (h : Rw3 base N w v xs) (hs : w.heap.size ≤ w'.heap.size) (hv : ∀ b, v.ownBlock = some b → w'.heap[b]? = w.heap[b]?) (hn : ∀ b, b < w.heap.size → N b → w'.heap[b]? = w.heap[b]? ∧ N' b) : Rw3 base N' w' v xs := by
  obtain ⟨css, h1, h2, h3⟩ := h
  exact ⟨css, h1, ownr_keep h2 hv, fun j x cs a b => shpL.wide (shpL.keep (h3 j x cs a b) fun i hi => (hn i hi.1 hi.2).1) fun i hi => ⟨Nat.lt_of_lt_of_le hi.1 hs, (hn i hi.1 hi.2).2⟩⟩
theorem Rw3.lt {base : Nat} {N : Nat → Prop} {w : World} {v : Value} {xs : List Shape} (h : Rw3 base N w v xs) : ∀ b, v.ownBlock = some b → base ≤ b ∧ b < w.heap.size := by
  obtain ⟨css, h1, h2, h3⟩ := h
  exact fun b hb => ⟨(h2.lt b hb).1, (h2.lt b hb).2⟩
theorem Tri.swap {base : Nat} {w : World} {vc va vb : Value} {xc : List Ins} {xa xb : List Shape} (h : Tri base w vc va vb xc xa xb) : Tri base w vc vb va xc xb xa :=
  ⟨h.code, h.rb.mono fun b hb => ⟨hb.1, hb.2.2, hb.2.1⟩, h.ra.mono fun b hb => ⟨hb.1, hb.2.2, hb.2.1⟩, h.cb, h.ca, fun b h1 h2 => h.ab b h2 h1⟩
theorem Tri.below {base : Nat} {w w' : World} {vc va vb : Value} {xc : List Ins} {xa xb : List Shape} (h : Tri base w vc va vb xc xa xb) (hb : Below w.heap.size w w') : Tri base w' vc va vb xc xa xb :=
  ⟨ownr_keep h.code fun b e => hb.block b (h.code.lt b e).2, h.ra.keep hb.size (fun b e => hb.block b (h.ra.lt b e).2) fun b h1 h2 => ⟨hb.block b h1, h2⟩, h.rb.keep hb.size (fun b e => hb.block b (h.rb.lt b e).2) fun b h1 h2 => ⟨hb.block b h1, h2⟩, h.ca, h.cb, h.ab⟩
theorem Tri.grow_c {base m : Nat} {w w' : World} {vc vc' va vb : Value} {xc us : List Ins} {xa xb : List Shape} (h : Tri base w vc va vb xc xa xb) (hm : us.length = m) (hown : w'.ownsRow base 29 3 vc' (xc.length + m) (I3 (xc ++ us))) (hg : w.grownBy w' vc.ownBlock) (hv : vc'.ownBlock = vc.ownBlock ∨ vc'.ownBlock = some w.heap.size) : Tri base w' vc' va vb (xc ++ us) xa xb := by
  have hne : ∀ b, b < w.heap.size → vc.ownBlock ≠ some b → w'.heap[b]? = w.heap[b]? := fun b h1 h2 => hg.block b h1 fun e => h2 e.symm
  have hnv : ∀ b, b < w.heap.size → vc.ownBlock ≠ some b → vc'.ownBlock ≠ some b := fun b h1 h2 => by
    rcases hv with e | e
    · rw [e]; exact h2
    · rw [e]; intro e2; injection e2 with e2; omega
  refine ⟨by rw [List.length_append, hm]; exact hown, h.ra.keep hg.size (fun b e => hne b (h.ra.lt b e).2 fun e2 => h.ca b e2 e) fun b h1 h2 => ⟨hne b h1 h2.1, hnv b h1 h2.1, h2.2⟩, h.rb.keep hg.size (fun b e => hne b (h.rb.lt b e).2 fun e2 => h.cb b e2 e) fun b h1 h2 => ⟨hne b h1 h2.1, hnv b h1 h2.1, h2.2⟩, fun b e e2 => ?_, fun b e e2 => ?_, h.ab⟩
  · exact hnv b (h.ra.lt b e2).2 (fun e3 => h.ca b e3 e2) e
  · exact hnv b (h.rb.lt b e2).2 (fun e3 => h.cb b e3 e2) e
theorem Tri.grow_a {base : Nat} {w w' : World} {vc va va' vb : Value} {xc : List Ins} {xa xb : List Shape} {y1 y2 : Shape} {c1 c2 : List Value} {css : List (List Value)} (h : Tri base w vc va vb xc xa xb) (hl : css.length = xa.length)
    (hR : ∀ (j : Nat) (x : Shape) (cs : List Value), xa[j]? = some x → css[j]? = some cs → shpL.R (fun b => b < w.heap.size ∧ No3 vc va vb b) w cs x) (h1 : shpL.R (fun b => b < w.heap.size ∧ No3 vc va vb b) w c1 y1) (h2 : shpL.R (fun b => b < w.heap.size ∧ No3 vc va vb b) w c2 y2)
    (hown : w'.ownsRow base 32 2 va' (xa.length + 2) (css.flatten ++ (c1 ++ c2))) (hg : w.grownBy w' va.ownBlock) (hv : va'.ownBlock = va.ownBlock ∨ va'.ownBlock = some w.heap.size) : Tri base w' vc va' vb xc (xa ++ [y1, y2]) xb := by
  have hne : ∀ b, b < w.heap.size → va.ownBlock ≠ some b → w'.heap[b]? = w.heap[b]? := fun b h1 h2 => hg.block b h1 fun e => h2 e.symm
  have hnv : ∀ b, b < w.heap.size → va.ownBlock ≠ some b → va'.ownBlock ≠ some b := fun b h1 h2 => by
    rcases hv with e | e
    · rw [e]; exact h2
    · rw [e]; intro e2; injection e2 with e2; omega
  have hk : ∀ {cs : List Value} {x : Shape}, shpL.R (fun b => b < w.heap.size ∧ No3 vc va vb b) w cs x → shpL.R (fun b => b < w'.heap.size ∧ No3 vc va' vb b) w' cs x := fun hr =>
    shpL.wide (shpL.keep hr fun b hb => hne b hb.1 hb.2.2.1) fun b hb => ⟨Nat.lt_of_lt_of_le hb.1 hg.size, hb.2.1, hnv b hb.1 hb.2.2.1, hb.2.2.2⟩
  refine ⟨ownr_keep h.code fun b e => hne b (h.code.lt b e).2 (h.ca b e), ⟨css ++ [c1, c2], by simp [hl], by simpa using hown, fun j x cs e1 e2 => ?_⟩, h.rb.keep hg.size (fun b e => hne b (h.rb.lt b e).2 fun e2 => h.ab b e2 e) fun b h1 h2 => ⟨hne b h1 h2.2.1, h2.1, hnv b h1 h2.2.1, h2.2.2⟩, fun b e e2 => ?_, h.cb, fun b e e2 => ?_⟩
  · rcases Nat.lt_or_ge j xa.length with hj | hj
    · rw [List.getElem?_append_left hj] at e1
      rw [List.getElem?_append_left (by omega)] at e2
      exact hk (hR j x cs e1 e2)
    · rw [List.getElem?_append_right hj] at e1
      rw [List.getElem?_append_right (by omega), hl] at e2
      generalize j - xa.length = i at e1 e2
      match i, e1, e2 with
      | 0, e1, e2 => simp at e1 e2; subst e1 e2; exact hk h1
      | 1, e1, e2 => simp at e1 e2; subst e1 e2; exact hk h2
      | i + 2, e1, e2 => simp at e1
  · exact hnv b (h.code.lt b e).2 (h.ca b e) e2
  · exact hnv b (h.rb.lt b e2).2 (fun e3 => h.ab b e3 e2) e

set_option maxRecDepth 100000 in
theorem walk_append_a (w : World) {ops : Array Oper} {rest : List Oper} {o : Oper} {a : Act} {Q : Exit → Act → World → Prop} (hgd : o.guard = none) (s x : Operand)
    (ho : o.op = .call { callee := .builtin .append, args := #[s, x], argTypes := #[33, 33] })
    (base : Nat) (vc va vb : Value) (xc : List Ins) (xa xb : List Shape) (hs : a.eval s = va) (hT : Tri base w vc va vb xc xa xb) (ad : Addr) (d : Nat) (hx : a.eval x = .slice (some ad) 2 d) (c1 c2 : List Value) (y1 y2 : Shape)
    (hc : ∀ (j : Nat) (u : Value), (c1 ++ c2)[j]? = some u → w.cell? (ad.add j) = some u) (h1 : shpL.R (fun b => b < w.heap.size ∧ No3 vc va vb b) w c1 y1) (h2 : shpL.R (fun b => b < w.heap.size ∧ No3 vc va vb b) w c2 y2) (hbig : xa.length ≤ 1000) (hbase : base ≤ w.heap.size)
    (h : ∀ (va' : Value) (w' : World), Tri base w' vc va' vb xc (xa ++ [y1, y2]) xb → Below base w w' → wpList Try.prog ops Q rest (a.put o.dst va') w') : wpList Try.prog ops Q (o :: rest) a w := by
  refine wpList_plain hgd fun _ hK => ?_
  obtain ⟨i0, hi0, hz0, hz1, hz2⟩ := info_parts shp_info
  obtain ⟨css, hl, hown, hRs⟩ := hT.ra
  obtain ⟨v', w', hrun, q2, q3, _, q5⟩ := run_append_own_at (P := Try.prog) w base 33 o.type 32 i0 (.agg #[.bool false, .slice none 0 0]) 2 32 Try.underlying33 hi0 hz0 hz1 hz2 rfl (by omega) va xa.length css.flatten hown ad 2 d (c1 ++ c2)
    (by rw [List.length_append, shpL.len h1, shpL.len h2]; rfl) hc (fun u hu => by
      rcases List.mem_append.1 hu with hu | hu
      · exact shpL.one h1 u hu
      · exact shpL.one h2 u hu)
    (by simp only [maxLen]; omega) (by omega) hbase
  unfold Oper.wp execOp
  simp only [ho, resolve, invoke, builtin, Sem.run_bind, Sem.run_pure, Result.andThen_ok, List.map_toArray, List.map_cons, List.map_nil, hs, hx, hrun]
  exact hK _ _ (h v' w' (hT.grow_a hl hRs h1 h2 q2 q3 q5) (below_grown q3 hbase fun i hi => (hT.ra.lt i hi).1))
set_option maxRecDepth 100000 in
theorem walk_append_b (w : World) {ops : Array Oper} {rest : List Oper} {o : Oper} {a : Act} {Q : Exit → Act → World → Prop} (hgd : o.guard = none) (s x : Operand)
    (ho : o.op = .call { callee := .builtin .append, args := #[s, x], argTypes := #[33, 33] })
    (base : Nat) (vc va vb : Value) (xc : List Ins) (xa xb : List Shape) (hs : a.eval s = vb) (hT : Tri base w vc va vb xc xa xb) (ad : Addr) (d : Nat) (hx : a.eval x = .slice (some ad) 2 d) (c1 c2 : List Value) (y1 y2 : Shape)
    (hc : ∀ (j : Nat) (u : Value), (c1 ++ c2)[j]? = some u → w.cell? (ad.add j) = some u) (h1 : shpL.R (fun b => b < w.heap.size ∧ No3 vc va vb b) w c1 y1) (h2 : shpL.R (fun b => b < w.heap.size ∧ No3 vc va vb b) w c2 y2) (hbig : xb.length ≤ 1000) (hbase : base ≤ w.heap.size)
    (h : ∀ (vb' : Value) (w' : World), Tri base w' vc va vb' xc xa (xb ++ [y1, y2]) → Below base w w' → wpList Try.prog ops Q rest (a.put o.dst vb') w') : wpList Try.prog ops Q (o :: rest) a w :=
  walk_append_a w hgd s x ho base vc vb va xc xb xa hs hT.swap ad d hx c1 c2 y1 y2 hc (shpL.wide h1 fun b hb => ⟨hb.1, hb.2.1, hb.2.2.2, hb.2.2.1⟩) (shpL.wide h2 fun b hb => ⟨hb.1, hb.2.1, hb.2.2.2, hb.2.2.1⟩) hbig hbase fun v' w' k1 k2 => h v' w' k1.swap k2
theorem Rw3.sl {base : Nat} {N : Nat → Prop} {w : World} {v : Value} {xs : List Shape} (h : Rw3 base N w v xs) : (slL shpL).R (· < w.heap.size) w [v] xs := by
  obtain ⟨css, h1, h2, h3⟩ := h
  exact raw_sl h1 h2 (fun j x cs a b => shpL.wide (h3 j x cs a b) fun i hi => hi.1) fun b _ hb => hb
theorem Rw3.some {base : Nat} {N : Nat → Prop} {w : World} {v : Value} {xs : List Shape} {n : Nat} (h : Rw3 base N w v xs) (hn : xs.length = n) (h0 : 0 < n) : ∃ g c, v = .slice (.some ⟨g, 0, none⟩) n c := by
  obtain ⟨css, h1, h2, h3⟩ := h
  rw [hn] at h2
  obtain ⟨g, c, e, -, -⟩ := ownr_some h2 h0
  exact ⟨g, c, e⟩
theorem Tri.no3 {base : Nat} {w : World} {vc va vb : Value} {xc : List Ins} {xa xb : List Shape} (h : Tri base w vc va vb xc xa xb) {b : Nat} (hb : w.heap.size ≤ b) : No3 vc va vb b :=
  ⟨fun e => by have := (h.code.lt b e).2; omega, fun e => by have := (h.ra.lt b e).2; omega, fun e => by have := (h.rb.lt b e).2; omega⟩

theorem list_world {P : Program} {ops : Array Oper} {Q : Exit → Act → World → Prop} {l : List Oper} {a : Act} {w : World} (h : ∀ W, W = w → wpList P ops Q l a W) : wpList P ops Q l a w := h w rfl
theorem blk_cells {w : World} {g ty : Nat} {cs : Array Value} (h : Blk w g ty cs) (j : Nat) (u : Value) (hu : cs.toList[j]? = some u) : w.cell? ((⟨g, 0, none⟩ : Addr).add j) = some u := by
  have e : (⟨g, 0, none⟩ : Addr).add j = ⟨g, j, none⟩ := by unfold Addr.add; split <;> simp_all
  rw [e]
  have := h.cell j
  rw [this]
  simpa using hu
theorem w_num {S : Nat → Prop} {w : World} : typL.R S w [.int .i64 1, .int .i64 0] (1, 0) := ⟨rfl, ⟨by decide, by decide⟩, ⟨by decide, by decide⟩⟩
theorem w_non {S : Nat → Prop} {w : World} : typL.R S w [.int .i64 8, .int .i64 0] (8, 0) := ⟨rfl, ⟨by decide, by decide⟩, ⟨by decide, by decide⟩⟩

theorem row_low {w v : World} {cs : List Value} {l : List Shape} (h : rowL.R (· < w.heap.size) w cs l) (hb : Below w.heap.size w v) : rowL.R (· < v.heap.size) v cs l :=
  rowL.wide (rowL.keep h fun b h1 => hb.block b h1) fun b h1 => Nat.lt_of_lt_of_le h1 hb.size
def wCode : Nat → List Ins
  | 0 => [(0, 0, 0), (0, 0, 0)]
  | j + 1 => wCode j ++ [(5, 0, 0), (0, 0, 0)]
def wA : Nat → List Shape
  | 0 => [(true, []), (true, [(1, 0)])]
  | j + 1 => wA j ++ [(true, [(1, 0), (1, 0)]), (true, [(1, 0)])]
def wB : Nat → List Shape
  | 0 => [(true, []), (true, [(1, 0)])]
  | j + 1 => wB j ++ [(true, [(1, 0), (8, 0)]), (true, [(1, 0)])]
theorem wCode_len (j : Nat) : (wCode j).length = 2 + 2 * j := by
  induction j with
  | zero => rfl
  | succ j ih => simp only [wCode, List.length_append, ih, List.length_cons, List.length_nil]; omega
theorem wA_len (j : Nat) : (wA j).length = 2 + 2 * j := by
  induction j with
  | zero => rfl
  | succ j ih => simp only [wA, List.length_append, ih, List.length_cons, List.length_nil]; omega
theorem wB_len (j : Nat) : (wB j).length = 2 + 2 * j := by
  induction j with
  | zero => rfl
  | succ j ih => simp only [wB, List.length_append, ih, List.length_cons, List.length_nil]; omega
theorem tri_begin {w : World} {base gc sa ga sb gb : Nat} (hc : Blk w gc 29 #[.int .i64 0, .int .i64 0, .int .i64 0, .int .i64 0, .int .i64 0, .int .i64 0]) (hsa : Blk w sa 27 #[.int .i64 1, .int .i64 0]) (ha : Blk w ga 32 #[.bool true, .slice none 0 0, .bool true, .slice (some ⟨sa, 0, none⟩) 1 1])
    (hsb : Blk w sb 27 #[.int .i64 1, .int .i64 0]) (hb : Blk w gb 32 #[.bool true, .slice none 0 0, .bool true, .slice (some ⟨sb, 0, none⟩) 1 1]) (h1 : base ≤ gc) (h2 : gc < sa) (h3 : sa < ga) (h4 : ga < sb) (h5 : sb < gb) :
    Tri base w (.slice (some ⟨gc, 0, none⟩) 2 2) (.slice (some ⟨ga, 0, none⟩) 2 2) (.slice (some ⟨gb, 0, none⟩) 2 2) (wCode 0) (wA 0) (wB 0) := by
  have no : ∀ b, b ≠ gc → b ≠ ga → b ≠ gb → No3 (.slice (some ⟨gc, 0, none⟩) 2 2) (.slice (some ⟨ga, 0, none⟩) 2 2) (.slice (some ⟨gb, 0, none⟩) 2 2) b := fun b k1 k2 k3 =>
    ⟨fun e => by simp [Value.ownBlock] at e; omega, fun e => by simp [Value.ownBlock] at e; omega, fun e => by simp [Value.ownBlock] at e; omega⟩
  refine ⟨blk_own (n := 2) (k := 3) hc h1 (by omega) rfl (by simp [maxLen]), ⟨[[.bool true, .slice none 0 0], [.bool true, .slice (some ⟨sa, 0, none⟩) 1 1]], rfl, blk_own (n := 2) (k := 2) ha (by omega) (by omega) rfl (by simp [maxLen]), fun j x cs e1 e2 => ?_⟩, ⟨[[.bool true, .slice none 0 0], [.bool true, .slice (some ⟨sb, 0, none⟩) 1 1]], rfl, blk_own (n := 2) (k := 2) hb (by omega) (by omega) rfl (by simp [maxLen]), fun j x cs e1 e2 => ?_⟩, fun b e e2 => ?_, fun b e e2 => ?_, fun b e e2 => ?_⟩
  · match j, e1, e2 with
    | 0, e1, e2 => simp [wA] at e1 e2; subst e1 e2; exact shp_none _ _ _
    | 1, e1, e2 => simp [wA] at e1 e2; subst e1 e2; exact shp_of (one_sl (L := typL) (x := (1, 0)) hsa ⟨hsa.lt, no sa (by omega) (by omega) (by omega)⟩ w_num)
    | j + 2, e1, e2 => simp [wA] at e1
  · match j, e1, e2 with
    | 0, e1, e2 => simp [wB] at e1 e2; subst e1 e2; exact shp_none _ _ _
    | 1, e1, e2 => simp [wB] at e1 e2; subst e1 e2; exact shp_of (one_sl (L := typL) (x := (1, 0)) hsb ⟨hsb.lt, no sb (by omega) (by omega) (by omega)⟩ w_num)
    | j + 2, e1, e2 => simp [wB] at e1
  · simp [Value.ownBlock] at e e2; omega
  · simp [Value.ownBlock] at e e2; omega
  · simp [Value.ownBlock] at e e2; omega
def wFn (k : Nat) : Fn := ⟨[], (1, 0), [], wCode k ++ [(5, 0, 0), (26, 0, 0)]⟩
def wMod (k : Nat) : Mod := ⟨[], [wFn k], [], [1], []⟩
def wC (k : Nat) : List Shape := (wB (k + 1)).set (3 + 2 * k) (true, [(8, 0)])
theorem w_main : ∀ k < 6, mainB (wMod k) = true := by decide +kernel
theorem w_i64 : ∀ k < 6, ∀ t ∈ (wFn k).code, (-9223372036854775808 ≤ t.1 ∧ t.1 ≤ 9223372036854775807) ∧ (-9223372036854775808 ≤ t.2.1 ∧ t.2.1 ≤ 9223372036854775807) ∧ (-9223372036854775808 ≤ t.2.2 ∧ t.2.2 ≤ 9223372036854775807) := by decide +kernel
theorem w_a1 : ∀ k < 6, (wA (k + 1)).all (fun x => decide (x.2.length ≤ 8)) = true := by decide +kernel
theorem w_a2 : ∀ k < 6, (List.range (wFn k).code.length).all (okF (wMod k) (wFn k) (wA (k + 1))) = true := by decide +kernel
theorem w_b1 : ∀ k < 6, (wB (k + 1)).all (fun x => decide (x.2.length ≤ 8)) = true := by decide +kernel
theorem w_b2 : ∀ k < 6, (List.range (wFn k).code.length).all (okF (wMod k) (wFn k) (wB (k + 1))) = true := by decide +kernel
theorem w_c : ∀ k < 6, okF (wMod k) (wFn k) (wC k) (3 + 2 * k) = false := by decide +kernel
theorem wA_zero (k : Nat) : (wA k)[0]? = some (true, []) := by
  induction k with
  | zero => rfl
  | succ k ih => rw [wA, List.getElem?_append_left (by rw [wA_len]; omega)]; exact ih
theorem wB_zero (k : Nat) : (wB k)[0]? = some (true, []) := by
  induction k with
  | zero => rfl
  | succ k ih => rw [wB, List.getElem?_append_left (by rw [wB_len]; omega)]; exact ih
theorem wFn_len (k : Nat) : (wFn k).code.length = 4 + 2 * k := by simp only [wFn, List.length_append, wCode_len, List.length_cons, List.length_nil]; omega
theorem w_right_a {k : Nat} (hk : k < 6) : RightM (wMod k) [wA (k + 1)] := rightM_one (fn := wFn k) rfl (by rw [wA_len, wFn_len]; omega) (w_a1 k hk) (wA_zero _) (w_a2 k hk)
theorem w_right_b {k : Nat} (hk : k < 6) : RightM (wMod k) [wB (k + 1)] := rightM_one (fn := wFn k) rfl (by rw [wB_len, wFn_len]; omega) (w_b1 k hk) (wB_zero _) (w_b2 k hk)
theorem w_right_c {k : Nat} (hk : k < 6) : ¬ RightM (wMod k) [wC k] := rightM_not (fn := wFn k) (3 + 2 * k) rfl (by rw [wFn_len]; omega) (w_c k hk)
end Go.Proofs.Ytikhhcmfjncabaa
