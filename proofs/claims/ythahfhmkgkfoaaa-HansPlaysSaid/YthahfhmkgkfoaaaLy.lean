/-
  Words on how things lie in memory, whatever they are: slices of them, and slices of them that the call owns.
  Conditions: as each theorem says.
-/
import Derived.Test.YthahfhmkgkfoaaaMath
import Derived.Test.YthahfhmkgkfoaaaOw0
namespace Go.Proofs.Ythahfhmkgkfoaaa
open Go.RowKit

/-- How a thing lies in memory: in k cells, which say by R what it is; what they point to lies in blocks of which S says yes. -/
structure Lay (α : Type) where
  k : Nat
  R : (Nat → Prop) → World → List Value → α → Prop
  len : ∀ {S w cs x}, R S w cs x → cs.length = k
  keep : ∀ {S : Nat → Prop} {w w' : World} {cs : List Value} {x : α}, R S w cs x → (∀ b, S b → w'.heap[b]? = w.heap[b]?) → R S w' cs x
  wide : ∀ {S T : Nat → Prop} {w : World} {cs : List Value} {x : α}, R S w cs x → (∀ b, S b → T b) → R T w cs x
  one : ∀ {S w cs x}, R S w cs x → ∀ u ∈ cs, u.oneCell' = true

/-- A slice with the address A holds the things xs. -/
def Sq {α : Type} (L : Lay α) (S : Nat → Prop) (w : World) (A : Option Addr) (xs : List α) : Prop :=
  0 < xs.length → ∃ a, A = some a ∧ S a.block ∧ ∀ j x, xs[j]? = some x → ∃ cs, (∀ i u, cs[i]? = some u → w.cell? (a.add (j * L.k + i)) = some u) ∧ L.R S w cs x

theorem Sq.nil {α : Type} (L : Lay α) (S : Nat → Prop) (w : World) (A : Option Addr) : Sq L S w A [] := fun h => absurd h (by simp)
theorem Sq.keep {α : Type} {L : Lay α} {S : Nat → Prop} {w w' : World} {A : Option Addr} {xs : List α} (h : Sq L S w A xs) (hk : ∀ b, S b → w'.heap[b]? = w.heap[b]?) : Sq L S w' A xs := fun hn => by
  obtain ⟨a, e, hs, hc⟩ := h hn
  refine ⟨a, e, hs, fun j x hx => ?_⟩
  obtain ⟨cs, h1, h2⟩ := hc j x hx
  exact ⟨cs, fun i u hu => (World.cell?_of_block (hk _ (by rw [addBlock]; exact hs))).trans (h1 i u hu), L.keep h2 hk⟩
theorem Sq.wide {α : Type} {L : Lay α} {S T : Nat → Prop} {w : World} {A : Option Addr} {xs : List α} (h : Sq L S w A xs) (hk : ∀ b, S b → T b) : Sq L T w A xs := fun hn => by
  obtain ⟨a, e, hs, hc⟩ := h hn
  refine ⟨a, e, hk _ hs, fun j x hx => ?_⟩
  obtain ⟨cs, h1, h2⟩ := hc j x hx
  exact ⟨cs, h1, L.wide h2 hk⟩
theorem Sq.below {α : Type} {L : Lay α} {B B' : Nat} {w w' : World} {A : Option Addr} {xs : List α} (h : Sq L (· < B) w A xs) (hb : Below B' w w') (hB : B ≤ B') : Sq L (· < B) w' A xs := h.keep fun b h1 => hb.block b (Nat.lt_of_lt_of_le h1 hB)
theorem Sq.at {α : Type} {L : Lay α} {S : Nat → Prop} {w : World} {A : Option Addr} {xs : List α} (h : Sq L S w A xs) {k : Nat} {x : α} (hk : xs[k]? = some x) :
    ∃ a cs, A = some a ∧ S a.block ∧ (∀ i u, cs[i]? = some u → w.cell? (a.add (k * L.k + i)) = some u) ∧ L.R S w cs x := by
  obtain ⟨a, e, hs, hc⟩ := h (by have := (List.getElem?_eq_some_iff.1 hk).1; omega)
  obtain ⟨cs, h1, h2⟩ := hc k x hk
  exact ⟨a, cs, e, hs, h1, h2⟩

/-- A slice, as one cell. -/
def slL {α : Type} (L : Lay α) : Lay (List α) where
  k := 1
  R S w cs xs := ∃ A c, cs = [.slice A xs.length c] ∧ xs.length ≤ c ∧ c ≤ maxLen ∧ Sq L S w A xs
  len := by rintro S w cs x ⟨A, c, rfl, _⟩; rfl
  keep := by rintro S w w' cs x ⟨A, c, rfl, h1, h2, h3⟩ hk; exact ⟨A, c, rfl, h1, h2, h3.keep hk⟩
  wide := by rintro S T w cs x ⟨A, c, rfl, h1, h2, h3⟩ hk; exact ⟨A, c, rfl, h1, h2, h3.wide hk⟩
  one := by rintro S w cs x ⟨A, c, rfl, _⟩ u hu; simp at hu; subst hu; rfl

/-- A number of 64 bits. -/
def I64 (n : Int) : Prop := -9223372036854775808 ≤ n ∧ n ≤ 9223372036854775807
def numL : Lay Nat where
  k := 1
  R _ _ cs n := cs = [.int .u64 (n : Int)] ∧ n < B64
  len := by rintro S w cs x ⟨rfl, _⟩; rfl
  keep := by rintro S w w' cs x h _; exact h
  wide := by rintro S T w cs x h _; exact h
  one := by rintro S w cs x ⟨rfl, _⟩ u hu; simp at hu; subst hu; rfl
/-- The slice v, which the call owns, holds the things xs; what these point to are blocks of the call's own, and not the slice's. -/
def Owns {α : Type} (L : Lay α) (ty base : Nat) (w : World) (v : Value) (xs : List α) : Prop :=
  ∃ css : List (List Value), css.length = xs.length ∧ w.ownsRow base ty L.k v xs.length css.flatten ∧
    ∀ (j : Nat) (x : α) (cs : List Value), xs[j]? = some x → css[j]? = some cs → L.R (fun b => base ≤ b ∧ b < w.heap.size ∧ v.ownBlock ≠ some b) w cs x

theorem Owns.nil {α : Type} (L : Lay α) (ty base : Nat) (w : World) : Owns L ty base w (.slice none 0 0) ([] : List α) :=
  ⟨[], rfl, World.ownsRow_nil _ _ _ _, fun j x cs h => by simp at h⟩

theorem flat_get {css : List (List Value)} {k : Nat} (hk : ∀ cs ∈ css, cs.length = k) {j : Nat} {cs : List Value} (hj : css[j]? = some cs) (i : Nat) (hi : i < k) : css.flatten[j * k + i]? = cs[i]? := by
  induction css generalizing j with
  | nil => simp at hj
  | cons c css ih =>
    have hc := hk c (by simp)
    cases j with
    | zero =>
      simp at hj
      subst hj
      rw [List.flatten_cons, List.getElem?_append_left (by omega)]
      simp
    | succ j =>
      rw [List.flatten_cons, List.getElem?_append_right (by rw [hc, Nat.succ_mul]; omega), hc, show (j + 1) * k + i - k = j * k + i by rw [Nat.succ_mul]; omega]
      exact ih (fun x hx => hk x (by simp [hx])) (by simpa using hj)

/-- What the call owns is a slice that holds the things. -/
theorem Owns.slice {α : Type} {L : Lay α} {ty base : Nat} {w : World} {v : Value} {xs : List α} (h : Owns L ty base w v xs) :
    (slL L).R (fun b => base ≤ b ∧ b < w.heap.size) w [v] xs := by
  obtain ⟨css, hl, hown, hR⟩ := h
  have hk : ∀ cs ∈ css, cs.length = L.k := fun cs hcs => by
    obtain ⟨j, hj⟩ := List.mem_iff_getElem?.1 hcs
    have hjl : j < xs.length := by rw [← hl]; exact (List.getElem?_eq_some_iff.1 hj).1
    exact L.len (hR j _ cs (List.getElem?_eq_getElem hjl) hj)
  rcases hown.2 with ⟨rfl, h0⟩ | ⟨g, cap, cur, rfl, hb, hg, hnc, hcm, _, _⟩
  · exact ⟨none, 0, by rw [h0], by omega, by simp [maxLen], fun hpos => absurd hpos (by omega)⟩
  · refine ⟨some ⟨g, 0, none⟩, cap, rfl, hnc, hcm, fun _ => ⟨⟨g, 0, none⟩, rfl, ⟨hb, (Array.getElem?_eq_some_iff.1 hg).1⟩, fun j x hx => ?_⟩⟩
    have hjl : j < css.length := by rw [hl]; exact (List.getElem?_eq_some_iff.1 hx).1
    have hcs := List.getElem?_eq_getElem hjl
    have hr := hR j x _ hx hcs
    refine ⟨_, fun i u hu => ?_, L.wide hr fun b hb => ⟨hb.1, hb.2.1⟩⟩
    have hi : i < L.k := by rw [← L.len hr]; exact (List.getElem?_eq_some_iff.1 hu).1
    exact hown.cells rfl (j * L.k + i) u (by rw [flat_get hk hcs i hi]; exact hu)

theorem Owns.lt {α : Type} {L : Lay α} {ty base : Nat} {w : World} {v : Value} {xs : List α} (h : Owns L ty base w v xs) : ∀ i, v.ownBlock = some i → base ≤ i ∧ i < w.heap.size := by
  obtain ⟨css, hl, hown, hR⟩ := h
  exact fun i hi => ⟨(hown.lt i hi).1, (hown.lt i hi).2⟩

/-- It stays where nothing below has changed but a block that is not among its own. -/
theorem Owns.kept {α : Type} {L : Lay α} {ty base : Nat} {w w' : World} {v : Value} {xs : List α} (h : Owns L ty base w v xs) {g : Nat} (hg : g < base) (ho : Only g w w') : Owns L ty base w' v xs := by
  have hlt := h.lt
  obtain ⟨css, hl, hown, hR⟩ := h
  refine ⟨css, hl, hown.kept (row := some g) ho (.inr fun e => by have := hlt g e; omega), fun j x cs h1 h2 => ?_⟩
  refine L.wide (L.keep (hR j x cs h1 h2) fun b hb => ho.block b hb.2.1 (fun e => by injection e; omega)) fun b hb => ⟨hb.1, Nat.lt_of_lt_of_le hb.2.1 ho.size, hb.2.2⟩

def vOne : List Value → Value
  | [v] => v
  | _ => .nilFunc
def vAgg (cs : List Value) : Value := .agg cs.toArray
/-- It answers b; nothing is changed. -/
def Tells (b : Bool) (w : World) (e : Ending) (w' : World) : Prop := e = .returned (.bool b) ∧ Below w.heap.size w w'
theorem all_take {α : Type} {g : α → Bool} {xs : List α} {k : Nat} {x : α} (h : (xs.take k).all g = true) (hx : xs[k]? = some x) (hg : g x = true) : (xs.take (k + 1)).all g = true := by
  obtain ⟨hk, rfl⟩ := List.getElem?_eq_some_iff.1 hx
  rw [List.take_succ_eq_append_getElem hk, List.all_append, h]
  simp [hg]
theorem one_cell {w : World} {a : Addr} {k K : Nat} {o : Option Value} (hK : K = 1) (h : w.cell? (a.add (k * K + 0)) = o) : w.cell? (a.add k) = o := by
  subst hK
  simpa using h
theorem take_same {α : Type} {xs ys : List α} {k : Nat} {x y : α} (h : xs.take k = ys.take k) (hx : xs[k]? = some x) (hy : ys[k]? = some y) (e : x = y) : xs.take (k + 1) = ys.take (k + 1) := by
  obtain ⟨hk, rfl⟩ := List.getElem?_eq_some_iff.1 hx
  obtain ⟨hk2, rfl⟩ := List.getElem?_eq_some_iff.1 hy
  rw [List.take_succ_eq_append_getElem hk, List.take_succ_eq_append_getElem hk2, h, e]
theorem get_ne {α : Type} {xs ys : List α} {k : Nat} {x y : α} (hx : xs[k]? = some x) (hy : ys[k]? = some y) (e : ¬ x = y) : xs ≠ ys := by
  rintro rfl
  rw [hx] at hy
  exact e (Option.some.inj hy)
theorem next_cell (a : Addr) (m i : Nat) (hi : 0 < i) : a.add (m + i) = ⟨(a.add m).block, (a.add m).off + i, none⟩ := by
  rw [← addAdd]
  generalize a.add m = x
  have : i ≠ 0 := by omega
  simp [Addr.add, this]
theorem cell_new (w : World) (t : TypeId) (cs : List Value) : ∀ j u, cs[j]? = some u → (w.alloc (.cells cs.toArray t)).cell? ((⟨w.heap.size, 0, none⟩ : Addr).add j) = some u := fun j u hu => by
  have e : (⟨w.heap.size, 0, none⟩ : Addr).add j = ⟨w.heap.size, j, none⟩ := by unfold Addr.add; split <;> simp_all
  rw [e, World.cell?_alloc_mark]
  simpa using hu
theorem below_grown {B : Nat} {w w' : World} {row : Option Nat} (hg : w.grownBy w' row) (hB : B ≤ w.heap.size) (hr : ∀ i, row = some i → B ≤ i) : Below B w w' := (Below.refl B w).grown hg hB hr
theorem below_drewN (w : World) (q : Nat) : Below w.heap.size w (w.drewN q) := ⟨rfl, rfl, rfl, Nat.le_refl _, fun _ _ => rfl⟩
theorem below_drews' {B : Nat} {w w1 : World} (h : Below B w w1) (q : Nat) (hB : B ≤ w1.heap.size) : Below B w (w1.drewN q) := h.trans ((below_drewN w1 q).mono hB)
end Go.Proofs.Ythahfhmkgkfoaaa
