/-
  Words on handles: how they lie in memory, rows of them that are somebody's own, a table of them.
  Conditions: as each theorem says.
-/
import Derived.Test.YthahfhmkgkfoaaaJf
import Derived.Test.YthahfhmkgkfoaaaKwo
import Derived.Test.YthahfhmkgkfoaaaBk0
import Derived.Laws.OwnMore
namespace Go.Proofs.Ythahfhmkgkfoaaa
open Go.RowKit
set_option linter.unusedSimpArgs false
set_option linter.unusedVariables false

/-- A handle. -/
structure Hnd where
  kind : Int
  desc : Nat
  opn : Bool
theorem Hnd.eq_of {a b : Hnd} (h1 : a.kind = b.kind) (h2 : a.desc = b.desc) (h3 : a.opn = b.opn) : a = b := by
  cases a; cases b; simp_all
instance : DecidableEq Hnd := fun a b => decidable_of_iff (a.kind = b.kind ∧ a.desc = b.desc ∧ a.opn = b.opn) ⟨fun h => Hnd.eq_of h.1 h.2.1 h.2.2, fun h => by subst h; exact ⟨rfl, rfl, rfl⟩⟩
instance : Inhabited Hnd := ⟨⟨0, 0, false⟩⟩
/-- Its cells. -/
def hdC (h : Hnd) : List Value := [.int .i64 h.kind, .int .u64 (h.desc : Int), .bool h.opn]
theorem hdC_len (h : Hnd) : (hdC h).length = 3 := rfl
theorem hdC_one (h : Hnd) : ∀ u ∈ hdC h, u.oneCell' = true := by
  intro u hu
  simp only [hdC, List.mem_cons, List.not_mem_nil, or_false] at hu
  rcases hu with rfl | rfl | rfl <;> rfl
def hdL : Lay Hnd where
  k := 3
  R _ _ cs h := cs = hdC h ∧ I64 h.kind ∧ h.desc < B64
  len := by rintro S w cs x ⟨rfl, _⟩; rfl
  keep := by rintro S w w' cs x h _; exact h
  wide := by rintro S T w cs x h _; exact h
  one := by rintro S w cs x ⟨rfl, _⟩ u hu; exact hdC_one x u hu
def HOk (H : List Hnd) : Prop := ∀ h ∈ H, I64 h.kind ∧ h.desc < B64
theorem HOk.nil : HOk [] := fun h hh => by simp at hh
theorem HOk.app {H K : List Hnd} (h : HOk H) (k : HOk K) : HOk (H ++ K) := fun x hx => (List.mem_append.1 hx).elim (h x) (k x)
theorem HOk.set {H : List Hnd} (h : HOk H) (j : Nat) {x : Hnd} (hx : I64 x.kind ∧ x.desc < B64) : HOk (H.set j x) := fun y hy => by
  rcases List.mem_or_eq_of_mem_set hy with q | q
  · exact h y q
  · rw [q]; exact hx
/-- The cells of a row of them. -/
def Hcs (H : List Hnd) : List Value := (H.map hdC).flatten
theorem Hcs_k (H : List Hnd) : ∀ cs ∈ H.map hdC, cs.length = 3 := fun cs hc => by
  obtain ⟨h, -, rfl⟩ := List.mem_map.1 hc
  rfl
theorem Hcs_len (H : List Hnd) : (Hcs H).length = H.length * 3 := by
  unfold Hcs
  rw [flat_len (Hcs_k H), List.length_map]
theorem Hcs_at {H : List Hnd} {j : Nat} {h : Hnd} (hj : H[j]? = some h) (i : Nat) (hi : i < 3) : (Hcs H)[j * 3 + i]? = (hdC h)[i]? := flat_get (Hcs_k H) (by simp [hj]) i hi
theorem Hcs_app (H K : List Hnd) : Hcs (H ++ K) = Hcs H ++ Hcs K := by simp [Hcs]
theorem Hcs_one (h : Hnd) : Hcs [h] = hdC h := by simp [Hcs]
theorem Hcs_set {H : List Hnd} {j : Nat} {h : Hnd} (hj : H[j]? = some h) {i : Nat} (hi : i < 3) (u : Value) {h' : Hnd} (e : (hdC h).set i u = hdC h') : (Hcs H).set (j * 3 + i) u = Hcs (H.set j h') := by
  unfold Hcs
  rw [flat_set (Hcs_k H) (cs := hdC h) (by simp [hj]) hi u, e, List.map_set]
theorem hds_flat {S : Nat → Prop} {w : World} : ∀ {css : List (List Value)} {H : List Hnd}, css.length = H.length → (∀ (j : Nat) (x : Hnd) (cs : List Value), H[j]? = some x → css[j]? = some cs → hdL.R S w cs x) → css.flatten = Hcs H
  | [], [], _, _ => rfl
  | [], _ :: _, h, _ => by simp at h
  | _ :: _, [], h, _ => by simp at h
  | c :: css, x :: xs, h, hR => by
    have h0 := hR 0 x c rfl rfl
    have ih := hds_flat (css := css) (H := xs) (by simpa using h) fun j y cs h1 h2 => hR (j + 1) y cs (by simpa using h1) (by simpa using h2)
    rw [List.flatten_cons, ih, h0.1]
    rfl
theorem sq_ok {S : Nat → Prop} {w : World} {A : Option Addr} {H : List Hnd} (h : Sq hdL S w A H) : HOk H := fun x hx => by
  obtain ⟨j, hj⟩ := List.mem_iff_getElem?.1 hx
  obtain ⟨a, cs, -, -, -, -, q⟩ := h.at hj
  exact q
/-- What is owned is a slice of them. -/
theorem hds_sl {w : World} {base : Nat} {v : Value} {H : List Hnd} (h : w.ownsRow base 31 3 v H.length (Hcs H)) (ok : HOk H) :
    ∃ A c, v = .slice A H.length c ∧ H.length ≤ c ∧ c ≤ maxLen ∧ Sq hdL (fun b => v.ownBlock = some b ∧ base ≤ b ∧ b < w.heap.size) w A H := by
  have hn : (slL hdL).R (fun b => v.ownBlock = some b ∧ base ≤ b ∧ b < w.heap.size) w [v] H := by
    rcases h.2 with ⟨rfl, h0⟩ | ⟨g, cap, cur, rfl, hb, hg, hnc, hcm, _, _⟩
    · exact ⟨none, 0, by rw [h0], by omega, by simp [maxLen], fun hpos => absurd hpos (by omega)⟩
    · refine ⟨some ⟨g, 0, none⟩, cap, rfl, hnc, hcm, fun _ => ⟨_, rfl, ⟨rfl, hb, (Array.getElem?_eq_some_iff.1 hg).1⟩, fun j x hx => ⟨hdC x, fun i u hu => ?_, rfl, ok x (List.mem_of_getElem? hx)⟩⟩⟩
      have hi : i < 3 := (List.getElem?_eq_some_iff.1 hu).1
      exact h.cells rfl (j * 3 + i) u (by rw [Hcs_at hx i hi]; exact hu)
  obtain ⟨A, c, e, h1, h2, h3⟩ := hn
  simp only [List.cons.injEq, and_true] at e
  exact ⟨A, c, e, h1, h2, h3⟩
theorem hd_info : (Try.prog.info? 31).map (fun i => (i.zero, i.size, i.bytes)) = some (some (.agg #[.int .i64 0, .int .u64 0, .bool false]), 3, 24) := by kernel_rfl
/-- The three cells of one of them. -/
theorem hds_at {w : World} {base n c : Nat} {A : Option Addr} {H : List Hnd} (h : w.ownsRow base 31 3 (.slice A n c) H.length (Hcs H)) {j : Nat} {x : Hnd} (hj : H[j]? = some x) :
    ∃ g, A = some ⟨g, 0, none⟩ ∧ base ≤ g ∧ g < w.heap.size ∧ n = H.length ∧ w.cell? ⟨g, j * 3, none⟩ = some (.int .i64 x.kind) ∧ w.cell? ⟨g, j * 3 + 1, none⟩ = some (.int .u64 (x.desc : Int)) ∧ w.cell? ⟨g, j * 3 + 2, none⟩ = some (.bool x.opn) ∧ ∀ i, w.frozen? ⟨g, i, none⟩ = false := by
  have hn : 0 < H.length := by have := (List.getElem?_eq_some_iff.1 hj).1; omega
  obtain ⟨g, c', e, hb, hlt⟩ := ownr_some h hn
  simp only [Value.slice.injEq] at e
  obtain ⟨rfl, rfl, rfl⟩ := e
  have hc : ∀ i u, i < 3 → (hdC x)[i]? = some u → w.cell? ⟨g, j * 3 + i, none⟩ = some u := fun i u hi hu => by
    have := h.cells rfl (j * 3 + i) u (by rw [Hcs_at hj i hi]; exact hu)
    rw [show (⟨g, 0, none⟩ : Addr).add (j * 3 + i) = ⟨g, j * 3 + i, none⟩ from by unfold Addr.add; split <;> simp_all] at this
    exact this
  exact ⟨g, rfl, hb, hlt, rfl, hc 0 _ (by omega) rfl, hc 1 _ (by omega) rfl, hc 2 _ (by omega) rfl, fun i => h.frozenAt i⟩

/-- A table of the handles H in the blocks of which S says yes, its own at g. -/
def IsTb (S : Nat → Prop) (w : World) (g : Nat) (H : List Hnd) : Prop :=
  ∃ v, Blk w g 47 #[v] ∧ S g ∧ v.ownBlock ≠ some g ∧ (∀ b, v.ownBlock = some b → S b) ∧ w.ownsRow 0 31 3 v H.length (Hcs H) ∧ HOk H
theorem IsTb.keep {S : Nat → Prop} {w w' : World} {g : Nat} {H : List Hnd} (h : IsTb S w g H) (hk : ∀ b, b < w.heap.size → S b → w'.heap[b]? = w.heap[b]?) : IsTb S w' g H := by
  obtain ⟨v, h1, h2, h3, h4, h5, h6⟩ := h
  exact ⟨v, (hk g h1.lt h2).trans h1, h2, h3, h4, ownr_keep h5 fun b hb => hk b (h5.lt b hb).2 (h4 b hb), h6⟩
theorem IsTb.wide {S T : Nat → Prop} {w : World} {g : Nat} {H : List Hnd} (h : IsTb S w g H) (hk : ∀ b, b < w.heap.size → S b → T b) : IsTb T w g H := by
  obtain ⟨v, h1, h2, h3, h4, h5, h6⟩ := h
  exact ⟨v, h1, hk g h1.lt h2, h3, fun b hb => hk b (h5.lt b hb).2 (h4 b hb), h5, h6⟩
theorem IsTb.ok {S : Nat → Prop} {w : World} {g : Nat} {H : List Hnd} (h : IsTb S w g H) : HOk H := by
  obtain ⟨v, h1, h2, h3, h4, h5, h6⟩ := h
  exact h6
end Go.Proofs.Ythahfhmkgkfoaaa
