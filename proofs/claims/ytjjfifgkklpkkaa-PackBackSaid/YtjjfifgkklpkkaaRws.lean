/-
  Words on slices of slices of bytes.
  Conditions: none.
-/
import Derived.Test.YtjjfifgkklpkkaaWds
namespace Go.Proofs.Ytjjfifgkklpkkaa
open Go.RowKit

/-- A slice of slices of bytes: at A lie slices that hold the rows xss, all of it in blocks of which S says yes. -/
def Rws (S : Nat → Prop) (w : World) (A : Option Addr) (xss : List (List Nat)) : Prop :=
  0 < xss.length → ∃ a, A = some a ∧ S a.block ∧ ∀ j, j < xss.length → ∃ B c, w.cell? (a.add j) = some (.slice B (xss[j]?.getD []).length c) ∧ (xss[j]?.getD []).length ≤ c ∧ Byt S w B (xss[j]?.getD [])

theorem Rws.nil (S : Nat → Prop) (w : World) (A : Option Addr) : Rws S w A [] := fun h => absurd h (by simp)

theorem Rws.keep {S : Nat → Prop} {w w' : World} {A : Option Addr} {xss : List (List Nat)} (h : Rws S w A xss) (hk : ∀ b, S b → w'.heap[b]? = w.heap[b]?) : Rws S w' A xss := fun hn => by
  obtain ⟨a, e, hs, hc⟩ := h hn
  refine ⟨a, e, hs, fun j hj => ?_⟩
  obtain ⟨B, c, h1, h2, h3⟩ := hc j hj
  exact ⟨B, c, (World.cell?_of_block (hk _ (by rw [addBlock]; exact hs))).trans h1, h2, h3.keep hk⟩

theorem Rws.wide {S T : Nat → Prop} {w : World} {A : Option Addr} {xss : List (List Nat)} (h : Rws S w A xss) (hk : ∀ b, S b → T b) : Rws T w A xss := fun hn => by
  obtain ⟨a, e, hs, hc⟩ := h hn
  refine ⟨a, e, hk _ hs, fun j hj => ?_⟩
  obtain ⟨B, c, h1, h2, h3⟩ := hc j hj
  exact ⟨B, c, h1, h2, h3.wide hk⟩

theorem Rws.below {B B' : Nat} {w w' : World} {A : Option Addr} {xss : List (List Nat)} (h : Rws (· < B) w A xss) (hb : Below B' w w') (hB : B ≤ B') : Rws (· < B) w' A xss := h.keep fun b h1 => hb.block b (Nat.lt_of_lt_of_le h1 hB)

theorem Rws.at {S : Nat → Prop} {w : World} {A : Option Addr} {xss : List (List Nat)} (h : Rws S w A xss) {k : Nat} (hk : k < xss.length) :
    ∃ a B c, A = some a ∧ S a.block ∧ w.cell? (a.add k) = some (.slice B (xss[k]?.getD []).length c) ∧ (xss[k]?.getD []).length ≤ c ∧ Byt S w B (xss[k]?.getD []) := by
  obtain ⟨a, e, hs, hc⟩ := h (by omega)
  obtain ⟨B, c, h1, h2, h3⟩ := hc k hk
  exact ⟨a, B, c, e, hs, h1, h2, h3⟩

theorem flat_take (xss : List (List Nat)) (k : Nat) (h : k < xss.length) : (xss.take (k + 1)).flatten = (xss.take k).flatten ++ (xss[k]?.getD []) := by
  rw [List.take_succ_eq_append_getElem h, List.flatten_append]
  simp [h]

theorem flat_le (xss : List (List Nat)) (k : Nat) : (xss.take k).flatten.length ≤ xss.flatten.length := by
  conv => rhs; rw [← List.take_append_drop k xss]
  rw [List.flatten_append, List.length_append]
  omega

theorem rws_two (w : World) (A B : Option Addr) (c d n m : Nat) (xs ys : List Nat) (hx : xs.length = n) (hy : ys.length = m) (hc : n ≤ c) (hd : m ≤ d) (hA : Byt (· < w.heap.size) w A xs) (hB : Byt (· < w.heap.size) w B ys) :
    Rws (· < (w.alloc (.cells #[.slice A n c, .slice B m d] 24)).heap.size) (w.alloc (.cells #[.slice A n c, .slice B m d] 24)) (some ⟨w.heap.size, 0, none⟩) [xs, ys] := fun _ => by
  subst hx hy
  refine ⟨_, rfl, by simp, fun j hj => ?_⟩
  have hk : ∀ b, b < w.heap.size → (w.alloc (.cells #[.slice A xs.length c, .slice B ys.length d] 24)).heap[b]? = w.heap[b]? := fun b hb => Below.heap_alloc w _ b hb
  have e : (⟨w.heap.size, 0, none⟩ : Addr).add j = ⟨w.heap.size, j, none⟩ := by unfold Addr.add; split <;> simp_all
  rw [e, World.cell?_alloc_mark]
  have : j = 0 ∨ j = 1 := by simp at hj; omega
  rcases this with rfl | rfl
  · exact ⟨A, c, rfl, hc, (hA.keep hk).wide fun b hb => by simp; omega⟩
  · exact ⟨B, d, rfl, hd, (hB.keep hk).wide fun b hb => by simp; omega⟩
end Go.Proofs.Ytjjfifgkklpkkaa
