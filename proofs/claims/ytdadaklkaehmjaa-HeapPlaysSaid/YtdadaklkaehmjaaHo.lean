/-
  Words on objects: how they lie in memory, those that came in and those in rows of somebody's own, which are written in place.
  Conditions: as each theorem says.
-/
import Derived.Test.YtdadaklkaehmjaaJf
import Derived.Test.YtdadaklkaehmjaaKwo
import Derived.Laws.OwnMore
namespace Go.Proofs.Ytdadaklkaehmjaa
open Go.RowKit
set_option linter.unusedSimpArgs false
set_option linter.unusedVariables false

/-- An object. -/
structure Ob where
  kind : Int
  n : Int
  words : List Nat
  bytes : List Nat
theorem Ob.eq_of {a b : Ob} (h1 : a.kind = b.kind) (h2 : a.n = b.n) (h3 : a.words = b.words) (h4 : a.bytes = b.bytes) : a = b := by
  cases a; cases b; simp_all
instance : DecidableEq Ob := fun a b => decidable_of_iff (a.kind = b.kind ∧ a.n = b.n ∧ a.words = b.words ∧ a.bytes = b.bytes) ⟨fun h => Ob.eq_of h.1 h.2.1 h.2.2.1 h.2.2.2, fun h => by subst h; exact ⟨rfl, rfl, rfl, rfl⟩⟩
instance : Inhabited Ob := ⟨⟨0, 0, [], []⟩⟩
def ob0 : Ob := ⟨0, 0, [], []⟩
/-- What it costs. -/
def Ob.cost (o : Ob) : Int := 16 + 8 * (o.words.length : Int) + (o.bytes.length : Int)
/-- It is of a size that there may be. -/
def Ob.small (o : Ob) : Prop := o.words.length ≤ 100000 ∧ o.bytes.length ≤ 100000

/-- The cells that hold the numbers xs. -/
def Ns (xs : List Nat) : List Value := xs.map fun x : Nat => Value.int .u64 (x : Int)
theorem Ns_length (xs : List Nat) : (Ns xs).length = xs.length := by simp [Ns]
theorem Ns_at {xs : List Nat} {j x : Nat} (h : xs[j]? = some x) : (Ns xs)[j]? = some (.int .u64 (x : Int)) := by simp [Ns, h]
theorem Ns_app (xs ys : List Nat) : Ns (xs ++ ys) = Ns xs ++ Ns ys := by simp [Ns]
theorem Ns_one (xs : List Nat) : ∀ u ∈ Ns xs, u.oneCell' = true := by
  intro u hu
  obtain ⟨x, _, rfl⟩ := List.mem_map.1 hu
  rfl
theorem Ns_set (xs : List Nat) (k x : Nat) : (Ns xs).set k (.int .u64 (x : Int)) = Ns (xs.set k x) := by simp [Ns, List.map_set]
theorem Bs_at {xs : List Nat} {j x : Nat} (h : xs[j]? = some x) : (Bs xs)[j]? = some (.int .u8 (x : Int)) := by simp [Bs, h]
theorem Bs_set' (xs : List Nat) (k x : Nat) : (Bs xs).set k (.int .u8 (x : Int)) = Bs (xs.set k x) := by simp [Bs, List.map_set]

abbrev wrdL : Lay (List Nat) := slL numL
/-- A slice of bytes, as one cell. -/
def bytL : Lay (List Nat) where
  k := 1
  R S w cs xs := ∃ A c, cs = [.slice A xs.length c] ∧ xs.length ≤ c ∧ c ≤ maxLen ∧ Byt S w A xs ∧ ∀ x ∈ xs, x < 256
  len := by rintro S w cs x ⟨A, c, rfl, _⟩; rfl
  keep := by rintro S w w' cs x ⟨A, c, rfl, h1, h2, h3, h4⟩ hk; exact ⟨A, c, rfl, h1, h2, h3.keep hk, h4⟩
  wide := by rintro S T w cs x ⟨A, c, rfl, h1, h2, h3, h4⟩ hk; exact ⟨A, c, rfl, h1, h2, h3.wide hk, h4⟩
  one := by rintro S w cs x ⟨A, c, rfl, _⟩ u hu; simp at hu; subst hu; rfl
def obL : Lay Ob where
  k := 4
  R S w cs o := ∃ v0 v1, cs = [.int .i64 o.kind, .int .i64 o.n, v0, v1] ∧ I64 o.kind ∧ I64 o.n ∧ wrdL.R S w [v0] o.words ∧ bytL.R S w [v1] o.bytes
  len := by rintro S w cs x ⟨v0, v1, rfl, _⟩; rfl
  keep := by rintro S w w' cs x ⟨v0, v1, rfl, h1, h2, h3, h4⟩ hk; exact ⟨v0, v1, rfl, h1, h2, wrdL.keep h3 hk, bytL.keep h4 hk⟩
  wide := by rintro S T w cs x ⟨v0, v1, rfl, h1, h2, h3, h4⟩ hk; exact ⟨v0, v1, rfl, h1, h2, wrdL.wide h3 hk, bytL.wide h4 hk⟩
  one := by
    rintro S w cs x ⟨v0, v1, rfl, h1, h2, h3, h4⟩ u hu
    simp at hu
    rcases hu with rfl | rfl | rfl | rfl
    · rfl
    · rfl
    · exact wrdL.one h3 _ (by simp)
    · exact bytL.one h4 _ (by simp)
/-- An object's cells, each part by itself. -/
theorem ob_parts {S : Nat → Prop} {w : World} {cs : List Value} {o : Ob} (h : obL.R S w cs o) :
    ∃ A c B d, cs = [.int .i64 o.kind, .int .i64 o.n, .slice A o.words.length c, .slice B o.bytes.length d] ∧ o.words.length ≤ c ∧ c ≤ maxLen ∧ o.bytes.length ≤ d ∧ d ≤ maxLen ∧ Sq numL S w A o.words ∧ Byt S w B o.bytes ∧ (∀ x ∈ o.bytes, x < 256) ∧ I64 o.kind ∧ I64 o.n := by
  obtain ⟨v0, v1, rfl, h1, h2, ⟨A, c, e0, a1, a2, a3⟩, ⟨B, d, e1, b1, b2, b3, b4⟩⟩ := h
  simp only [List.cons.injEq, and_true] at e0 e1
  subst e0 e1
  exact ⟨A, c, B, d, rfl, a1, a2, b1, b2, a3, b3, b4, h1, h2⟩
theorem ob_make {S : Nat → Prop} {w : World} {o : Ob} {A B : Option Addr} {c d : Nat} (h1 : o.words.length ≤ c) (h2 : c ≤ maxLen) (h3 : o.bytes.length ≤ d) (h4 : d ≤ maxLen) (h5 : Sq numL S w A o.words) (h6 : Byt S w B o.bytes) (h7 : ∀ x ∈ o.bytes, x < 256) (h8 : I64 o.kind) (h9 : I64 o.n) :
    obL.R S w [.int .i64 o.kind, .int .i64 o.n, .slice A o.words.length c, .slice B o.bytes.length d] o :=
  ⟨_, _, rfl, h8, h9, ⟨A, c, rfl, h1, h2, h5⟩, ⟨B, d, rfl, h3, h4, h6, h7⟩⟩

theorem add_off (g i j : Nat) : (⟨g, i, none⟩ : Addr).add j = ⟨g, i + j, none⟩ := by unfold Addr.add; split <;> simp_all
theorem add_zero (g j : Nat) : (⟨g, 0, none⟩ : Addr).add j = ⟨g, j, none⟩ := by rw [add_off, Nat.zero_add]
/-- A slice of numbers at an address: its cells. -/
theorem num_at {S : Nat → Prop} {w : World} {A : Option Addr} {xs : List Nat} (h : Sq numL S w A xs) {k x : Nat} (hk : xs[k]? = some x) : ∃ a, A = some a ∧ S a.block ∧ w.cell? (a.add k) = some (.int .u64 (x : Int)) ∧ x < B64 := by
  obtain ⟨a, cs, e, hs, hc, rfl, hb⟩ := h.at hk
  exact ⟨a, e, hs, one_cell rfl (hc 0 _ rfl), hb⟩
theorem num_lt {S : Nat → Prop} {w : World} {A : Option Addr} {xs : List Nat} (h : Sq numL S w A xs) : ∀ x ∈ xs, x < B64 := fun x hx => by
  obtain ⟨j, hj⟩ := List.mem_iff_getElem?.1 hx
  obtain ⟨a, e, hs, hc, hb⟩ := num_at h hj
  exact hb

/-- A part of an object that is somebody's own: where there is something it lies at the head of a block of which P says yes. -/
def Part (P : Nat → Prop) (w : World) (ty : TypeId) (v : Value) (cs : List Value) : Prop :=
  ∃ A c, v = .slice A cs.length c ∧ cs.length ≤ c ∧ c ≤ maxLen ∧ (0 < cs.length → ∃ (g : Nat) (cur : Array Value), A = some ⟨g, 0, none⟩ ∧ P g ∧ Blk w g ty cur ∧ ∀ (i : Nat) (u : Value), cs[i]? = some u → cur[i]? = some u)
theorem Part.nil (P : Nat → Prop) (w : World) (ty : TypeId) : Part P w ty (.slice none 0 0) [] := ⟨none, 0, rfl, Nat.le_refl _, by simp [maxLen], fun h => absurd h (by simp)⟩
theorem Part.keep {P : Nat → Prop} {w w' : World} {ty : TypeId} {v : Value} {cs : List Value} (h : Part P w ty v cs) (hk : ∀ b, P b → w'.heap[b]? = w.heap[b]?) : Part P w' ty v cs := by
  obtain ⟨A, c, e, h1, h2, h3⟩ := h
  refine ⟨A, c, e, h1, h2, fun hp => ?_⟩
  obtain ⟨g, cur, e1, hP, hb, hc⟩ := h3 hp
  exact ⟨g, cur, e1, hP, (hk g hP).trans hb, hc⟩
theorem Part.wide {P Q : Nat → Prop} {w : World} {ty : TypeId} {v : Value} {cs : List Value} (h : Part P w ty v cs) (hk : ∀ b, b < w.heap.size → P b → Q b) : Part Q w ty v cs := by
  obtain ⟨A, c, e, h1, h2, h3⟩ := h
  refine ⟨A, c, e, h1, h2, fun hp => ?_⟩
  obtain ⟨g, cur, e1, hP, hb, hc⟩ := h3 hp
  exact ⟨g, cur, e1, hk g hb.lt hP, hb, hc⟩
theorem Part.of_own {w : World} {base : Nat} {ty : TypeId} {v : Value} {n : Nat} {cs : List Value} (h : w.ownsRow base ty 1 v n cs) : Part (fun b => base ≤ b ∧ b < w.heap.size) w ty v cs := by
  have hl : cs.length = n := by have := h.1; omega
  rcases h.2 with ⟨rfl, rfl⟩ | ⟨g, cap, cur, rfl, hb, hg, hnc, hcm, hcs, ht⟩
  · obtain rfl : cs = [] := List.eq_nil_of_length_eq_zero hl
    exact Part.nil _ _ _
  · refine ⟨some ⟨g, 0, none⟩, cap, by rw [hl], by omega, hcm, fun _ => ⟨g, cur, rfl, ⟨hb, (Array.getElem?_eq_some_iff.1 hg).1⟩, hg, fun i u hu => ?_⟩⟩
    have hi := (List.getElem?_eq_some_iff.1 hu).1
    rw [← ht, List.getElem?_take_of_lt (by omega)] at hu
    simpa using hu
theorem Part.shape {P : Nat → Prop} {w : World} {ty : TypeId} {v : Value} {cs : List Value} (h : Part P w ty v cs) : ∃ A c, v = .slice A cs.length c ∧ cs.length ≤ c ∧ c ≤ maxLen := by
  obtain ⟨A, c, e, h1, h2, -⟩ := h
  exact ⟨A, c, e, h1, h2⟩
theorem Part.head {P : Nat → Prop} {w : World} {ty : TypeId} {A : Option Addr} {n c : Nat} {cs : List Value} (h : Part P w ty (.slice A n c) cs) (hn : 0 < n) :
    ∃ (g : Nat) (cur : Array Value), A = some ⟨g, 0, none⟩ ∧ P g ∧ Blk w g ty cur ∧ ∀ (i : Nat) (u : Value), cs[i]? = some u → cur[i]? = some u := by
  obtain ⟨A', c', e, h1, h2, h3⟩ := h
  simp only [Value.slice.injEq] at e
  obtain ⟨rfl, e2, rfl⟩ := e
  exact h3 (by omega)
/-- One cell of it is written. -/
theorem Part.set {P : Nat → Prop} {w : World} {ty : TypeId} {g n c i : Nat} {cs : List Value} (h : Part P w ty (.slice (some ⟨g, 0, none⟩) n c) cs) (hn : 0 < n) (u : Value) : Part P (w.setCell ⟨g, i, none⟩ u) ty (.slice (some ⟨g, 0, none⟩) n c) (cs.set i u) := by
  obtain ⟨g', cur, e, hP, hb, hc⟩ := h.head hn
  simp only [Option.some.injEq, Addr.mk.injEq, and_true] at e
  subst e
  obtain ⟨A', c', e, h1, h2, h3⟩ := h
  simp only [Value.slice.injEq] at e
  obtain ⟨rfl, e2, rfl⟩ := e
  refine ⟨some ⟨g, 0, none⟩, c, by rw [List.length_set, e2], by rw [List.length_set]; exact h1, h2, fun _ => ⟨g, _, rfl, hP, hb.set i u, fun j x hx => ?_⟩⟩
  rw [List.getElem?_set] at hx
  rw [Array.getElem?_setIfInBounds]
  split at hx
  · subst i
    have hj : j < cur.size := by
      split at hx
      · have := hc j cs[j] (List.getElem?_eq_getElem (by assumption))
        exact (Array.getElem?_eq_some_iff.1 this).1
      · cases hx
    rw [if_pos rfl, if_pos hj]
    split at hx
    · exact hx
    · cases hx
  · rw [if_neg (by assumption)]
    exact hc j x hx
theorem Part.words {P : Nat → Prop} {w : World} {v : Value} {xs : List Nat} (h : Part P w 31 v (Ns xs)) (hb : ∀ x ∈ xs, x < B64) : wrdL.R P w [v] xs := by
  obtain ⟨A, c, rfl, h1, h2, h3⟩ := h
  rw [Ns_length] at h1 h3 ⊢
  refine ⟨A, c, rfl, h1, h2, fun hp => ?_⟩
  obtain ⟨g, cur, rfl, hP, hg, hc⟩ := h3 hp
  refine ⟨_, rfl, hP, fun j x hx => ⟨[.int .u64 (x : Int)], fun i u hu => ?_, rfl, hb x (List.mem_of_getElem? hx)⟩⟩
  match i, hu with
  | 0, hu =>
    simp at hu
    subst hu
    rw [add_zero, show j * numL.k + 0 = j by show j * 1 + 0 = j; omega, hg.cell]
    exact hc j _ (Ns_at hx)
  | i + 1, hu => simp at hu
theorem Part.bytes {P : Nat → Prop} {w : World} {v : Value} {xs : List Nat} (h : Part P w 5 v (Bs xs)) (hb : ∀ x ∈ xs, x < 256) : bytL.R P w [v] xs := by
  obtain ⟨A, c, rfl, h1, h2, h3⟩ := h
  rw [Bs_length] at h1 h3 ⊢
  refine ⟨A, c, rfl, h1, h2, fun hp => ?_, hb⟩
  obtain ⟨g, cur, rfl, hP, hg, hc⟩ := h3 hp
  refine ⟨_, rfl, hP, fun j hj => ?_⟩
  rw [add_zero, hg.cell]
  exact hc j _ (Bs_get xs j hj)

/-- An object in cells, its parts somebody's own. -/
def Obj1 (P0 P1 : Nat → Prop) (w : World) (cs : List Value) (o : Ob) : Prop :=
  ∃ v0 v1, cs = [.int .i64 o.kind, .int .i64 o.n, v0, v1] ∧ I64 o.kind ∧ I64 o.n ∧ (∀ x ∈ o.words, x < B64) ∧ (∀ x ∈ o.bytes, x < 256) ∧ Part P0 w 31 v0 (Ns o.words) ∧ Part P1 w 5 v1 (Bs o.bytes)
theorem Obj1.keep {P0 P1 : Nat → Prop} {w w' : World} {cs : List Value} {o : Ob} (h : Obj1 P0 P1 w cs o) (h0 : ∀ b, P0 b → w'.heap[b]? = w.heap[b]?) (h1 : ∀ b, P1 b → w'.heap[b]? = w.heap[b]?) : Obj1 P0 P1 w' cs o := by
  obtain ⟨v0, v1, e, a, b, c, d, e0, e1⟩ := h
  exact ⟨v0, v1, e, a, b, c, d, e0.keep h0, e1.keep h1⟩
theorem Obj1.wide {P0 P1 Q0 Q1 : Nat → Prop} {w : World} {cs : List Value} {o : Ob} (h : Obj1 P0 P1 w cs o) (h0 : ∀ b, b < w.heap.size → P0 b → Q0 b) (h1 : ∀ b, b < w.heap.size → P1 b → Q1 b) : Obj1 Q0 Q1 w cs o := by
  obtain ⟨v0, v1, e, a, b, c, d, e0, e1⟩ := h
  exact ⟨v0, v1, e, a, b, c, d, e0.wide h0, e1.wide h1⟩
theorem Obj1.len {P0 P1 : Nat → Prop} {w : World} {cs : List Value} {o : Ob} (h : Obj1 P0 P1 w cs o) : cs.length = 4 := by
  obtain ⟨v0, v1, rfl, -⟩ := h
  rfl
theorem Obj1.one {P0 P1 : Nat → Prop} {w : World} {cs : List Value} {o : Ob} (h : Obj1 P0 P1 w cs o) : ∀ u ∈ cs, u.oneCell' = true := by
  obtain ⟨v0, v1, rfl, -, -, -, -, e0, e1⟩ := h
  obtain ⟨A, c, rfl, -⟩ := e0
  obtain ⟨B, d, rfl, -⟩ := e1
  intro u hu
  simp at hu
  rcases hu with rfl | rfl | rfl | rfl <;> rfl
theorem Obj1.ob {P0 P1 S : Nat → Prop} {w : World} {cs : List Value} {o : Ob} (h : Obj1 P0 P1 w cs o) (h0 : ∀ b, P0 b → S b) (h1 : ∀ b, P1 b → S b) : obL.R S w cs o := by
  obtain ⟨v0, v1, rfl, a, b, c, d, e0, e1⟩ := h
  exact ⟨v0, v1, rfl, a, b, wrdL.wide (e0.words c) h0, bytL.wide (e1.bytes d) h1⟩
/-- Its cells, each by itself. -/
theorem Obj1.parts {P0 P1 : Nat → Prop} {w : World} {cs : List Value} {o : Ob} (h : Obj1 P0 P1 w cs o) :
    ∃ A c B d, cs = [.int .i64 o.kind, .int .i64 o.n, .slice A o.words.length c, .slice B o.bytes.length d] ∧ Part P0 w 31 (.slice A o.words.length c) (Ns o.words) ∧ Part P1 w 5 (.slice B o.bytes.length d) (Bs o.bytes) := by
  obtain ⟨v0, v1, rfl, a, b, x, y, e0, e1⟩ := h
  obtain ⟨A, c, rfl, q⟩ := id e0
  obtain ⟨B, d, rfl, q'⟩ := id e1
  rw [Ns_length] at e0 ⊢
  rw [Bs_length] at e1 ⊢
  exact ⟨A, c, B, d, rfl, e0, e1⟩
theorem ob0_one (P0 P1 : Nat → Prop) (w : World) : Obj1 P0 P1 w [.int .i64 0, .int .i64 0, .slice none 0 0, .slice none 0 0] ob0 :=
  ⟨_, _, rfl, ⟨by decide, by decide⟩, ⟨by decide, by decide⟩, by simp [ob0], by simp [ob0], Part.nil _ _ _, Part.nil _ _ _⟩

/-- A row of objects that is somebody's own: tag tells what each block is: 1 the row, 2 j + 2 the words of object j, 2 j + 3 its bytes. -/
def Row (S : Nat → Prop) (tag : Nat → Nat) (w : World) (v : Value) (css : List (List Value)) (O : List Ob) : Prop :=
  css.length = O.length ∧ w.ownsRow 0 28 4 v O.length css.flatten ∧ (∀ b, v.ownBlock = some b → S b ∧ tag b = 1) ∧
    ∀ (j : Nat) (o : Ob) (cs : List Value), O[j]? = some o → css[j]? = some cs → Obj1 (fun b => S b ∧ tag b = 2 * j + 2) (fun b => S b ∧ tag b = 2 * j + 3) w cs o
theorem Row.len4 {S : Nat → Prop} {tag : Nat → Nat} {w : World} {v : Value} {css : List (List Value)} {O : List Ob} (h : Row S tag w v css O) : ∀ cs ∈ css, cs.length = 4 := fun cs hcs => by
  obtain ⟨j, hj⟩ := List.mem_iff_getElem?.1 hcs
  have hjl : j < O.length := by rw [← h.1]; exact (List.getElem?_eq_some_iff.1 hj).1
  exact (h.2.2.2 j _ cs (List.getElem?_eq_getElem hjl) hj).len
theorem Row.keep {S : Nat → Prop} {tag : Nat → Nat} {w w' : World} {v : Value} {css : List (List Value)} {O : List Ob} (h : Row S tag w v css O) (hk : ∀ b, S b → 0 < tag b → w'.heap[b]? = w.heap[b]?) : Row S tag w' v css O :=
  ⟨h.1, ownr_keep h.2.1 fun b e => hk b (h.2.2.1 b e).1 (by have := (h.2.2.1 b e).2; omega), h.2.2.1, fun j o cs h1 h2 => (h.2.2.2 j o cs h1 h2).keep (fun b hb => hk b hb.1 (by omega)) fun b hb => hk b hb.1 (by omega)⟩
theorem Row.wide {S T : Nat → Prop} {tag : Nat → Nat} {w : World} {v : Value} {css : List (List Value)} {O : List Ob} (h : Row S tag w v css O) (hk : ∀ b, S b → T b) : Row T tag w v css O :=
  ⟨h.1, h.2.1, fun b e => ⟨hk b (h.2.2.1 b e).1, (h.2.2.1 b e).2⟩, fun j o cs h1 h2 => (h.2.2.2 j o cs h1 h2).wide (fun b _ hb => ⟨hk b hb.1, hb.2⟩) fun b _ hb => ⟨hk b hb.1, hb.2⟩⟩
theorem Row.nil (S : Nat → Prop) (tag : Nat → Nat) (w : World) : Row S tag w (.slice none 0 0) [] [] :=
  ⟨rfl, World.ownsRow_nil _ _ _ _, fun b e => by simp [Value.ownBlock] at e, fun j o cs h => by simp at h⟩
/-- It is a slice that holds the objects. -/
theorem Row.sl {S : Nat → Prop} {tag : Nat → Nat} {w : World} {v : Value} {css : List (List Value)} {O : List Ob} (h : Row S tag w v css O) : (slL obL).R S w [v] O := by
  obtain ⟨hl, hown, hb, hR⟩ := h
  have hR' : ∀ (j : Nat) (o : Ob) (cs : List Value), O[j]? = some o → css[j]? = some cs → obL.R S w cs o := fun j o cs h1 h2 => (hR j o cs h1 h2).ob (fun b hb => hb.1) fun b hb => hb.1
  have hk : ∀ cs ∈ css, cs.length = obL.k := fun cs hcs => by
    obtain ⟨j, hj⟩ := List.mem_iff_getElem?.1 hcs
    have hjl : j < O.length := by rw [← hl]; exact (List.getElem?_eq_some_iff.1 hj).1
    exact obL.len (hR' j _ cs (List.getElem?_eq_getElem hjl) hj)
  rcases hown.2 with ⟨rfl, h0⟩ | ⟨g, cap, cur, rfl, hb', hg, hnc, hcm, _, _⟩
  · exact ⟨none, 0, by rw [h0], by omega, by simp [maxLen], fun hpos => absurd hpos (by omega)⟩
  · refine ⟨some ⟨g, 0, none⟩, cap, rfl, hnc, hcm, fun _ => ⟨⟨g, 0, none⟩, rfl, (hb g rfl).1, fun j x hx => ?_⟩⟩
    have hjl : j < css.length := by rw [hl]; exact (List.getElem?_eq_some_iff.1 hx).1
    have hcs := List.getElem?_eq_getElem hjl
    have hr := hR' j x _ hx hcs
    refine ⟨_, fun i u hu => ?_, hr⟩
    have hi : i < obL.k := by rw [← obL.len hr]; exact (List.getElem?_eq_some_iff.1 hu).1
    exact hown.cells rfl (j * obL.k + i) u (by rw [flat_get hk hcs i hi]; exact hu)
theorem Row.shape {S : Nat → Prop} {tag : Nat → Nat} {w : World} {v : Value} {css : List (List Value)} {O : List Ob} (h : Row S tag w v css O) : ∃ A c, v = .slice A O.length c ∧ O.length ≤ c ∧ c ≤ maxLen := by
  obtain ⟨A, c, e, h1, h2, -⟩ := h.sl
  simp only [List.cons.injEq, and_true] at e
  exact ⟨A, c, e, h1, h2⟩
/-- An object's cells in the row, where they lie. -/
theorem Row.cells {S : Nat → Prop} {tag : Nat → Nat} {w : World} {A : Option Addr} {n c : Nat} {css : List (List Value)} {O : List Ob} (h : Row S tag w (.slice A n c) css O) {j : Nat} {o : Ob} (hj : O[j]? = some o) :
    ∃ g cs, A = some ⟨g, 0, none⟩ ∧ S g ∧ tag g = 1 ∧ g < w.heap.size ∧ css[j]? = some cs ∧ (∀ i u, cs[i]? = some u → w.cell? ⟨g, j * 4 + i, none⟩ = some u) ∧ (∀ i, w.frozen? ⟨g, i, none⟩ = false) ∧
      Obj1 (fun b => S b ∧ tag b = 2 * j + 2) (fun b => S b ∧ tag b = 2 * j + 3) w cs o := by
  have hk := h.len4
  obtain ⟨hl, hown, hb, hR⟩ := h
  have hjl : j < css.length := by rw [hl]; exact (List.getElem?_eq_some_iff.1 hj).1
  have hcs := List.getElem?_eq_getElem hjl
  have hr := hR j o _ hj hcs
  obtain ⟨g, c', e, -, hg⟩ := ownr_some hown (by omega)
  simp only [Value.slice.injEq] at e
  obtain ⟨rfl, rfl, rfl⟩ := e
  refine ⟨g, _, rfl, (hb g rfl).1, (hb g rfl).2, hg, hcs, fun i u hu => ?_, fun i => hown.frozenAt i, hr⟩
  have hi : i < 4 := by rw [← hr.len]; exact (List.getElem?_eq_some_iff.1 hu).1
  have := hown.cells rfl (j * 4 + i) u (by rw [flat_get hk hcs i hi]; exact hu)
  rwa [add_zero] at this
end Go.Proofs.Ytdadaklkaehmjaa
