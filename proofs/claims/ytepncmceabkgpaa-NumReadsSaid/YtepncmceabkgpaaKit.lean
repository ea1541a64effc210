/-
  Small words on memory that holds bytes, and what appending bytes to a slice of the call's own does; nothing here speaks of one function.
  Conditions: none.
-/
import Derived.Test.YtepncmceabkgpaaProg
import Derived.WalkKit
import Derived.WalkSpells
import Derived.WalkLawsBesides
import Derived.Maps.AppendAt
import Derived.Deep.Draws
import Derived.Lib.Hide
namespace Go.Proofs.Ytepncmceabkgpaa
open Go.RowKit

/-- The cells that hold the bytes xs. -/
def Bs (xs : List Nat) : List Value := xs.map fun x : Nat => Value.int .u8 (x : Int)
theorem Bs_length (xs : List Nat) : (Bs xs).length = xs.length := by simp [Bs]
theorem Bs_get (xs : List Nat) (j : Nat) (h : j < xs.length) : (Bs xs)[j]? = some (.int .u8 ((xs[j]?.getD 0 : Nat) : Int)) := by simp [Bs, h]
theorem Bs_app (xs ys : List Nat) : Bs (xs ++ ys) = Bs xs ++ Bs ys := by simp [Bs]
theorem Bs_one (xs : List Nat) : ∀ u ∈ Bs xs, u.oneCell' = true := by
  intro u hu
  obtain ⟨x, _, rfl⟩ := List.mem_map.1 hu
  rfl

/-- A slice with the address A holds the bytes xs, in a block of which S says yes; where there is no byte nothing is asked of A. -/
def Byt (S : Nat → Prop) (w : World) (A : Option Addr) (xs : List Nat) : Prop :=
  0 < xs.length → ∃ a, A = some a ∧ S a.block ∧ ∀ j, j < xs.length → w.cell? (a.add j) = some (.int .u8 ((xs[j]?.getD 0 : Nat) : Int))

theorem addBlock (a : Addr) (n : Nat) : (a.add n).block = a.block := by
  unfold Addr.add
  by_cases h : n = 0 <;> simp [h]
theorem addAdd (a : Addr) (i j : Nat) : (a.add i).add j = a.add (i + j) := by
  unfold Addr.add
  by_cases hi : i = 0
  · simp [hi]
  · by_cases hj : j = 0
    · simp [hi, hj]
    · simp [hi, hj, Nat.add_assoc]

theorem Byt.nil (S : Nat → Prop) (w : World) (A : Option Addr) : Byt S w A [] := fun h => absurd h (by simp)
theorem Byt.keep {S : Nat → Prop} {w w' : World} {A : Option Addr} {xs : List Nat} (h : Byt S w A xs) (hk : ∀ b, S b → w'.heap[b]? = w.heap[b]?) : Byt S w' A xs := fun hn => by
  obtain ⟨a, e, hs, hc⟩ := h hn
  exact ⟨a, e, hs, fun j hj => (World.cell?_of_block (hk _ (by rw [addBlock]; exact hs))).trans (hc j hj)⟩
theorem Byt.wide {S T : Nat → Prop} {w : World} {A : Option Addr} {xs : List Nat} (h : Byt S w A xs) (hk : ∀ b, S b → T b) : Byt T w A xs := fun hn => by
  obtain ⟨a, e, hs, hc⟩ := h hn
  exact ⟨a, e, hk _ hs, hc⟩
theorem Byt.take {S : Nat → Prop} {w : World} {A : Option Addr} {xs : List Nat} (h : Byt S w A xs) (k : Nat) : Byt S w A (xs.take k) := fun hn => by
  have hl : (xs.take k).length ≤ xs.length := by simp; omega
  obtain ⟨a, e, hs, hc⟩ := h (by omega)
  refine ⟨a, e, hs, fun j hj => ?_⟩
  have hj' : j < k := by simp at hj; omega
  rw [hc j (by omega), List.getElem?_take_of_lt hj']
theorem Byt.drop {S : Nat → Prop} {w : World} {A : Option Addr} {xs : List Nat} (h : Byt S w A xs) (k : Nat) : Byt S w (A.map (·.add k)) (xs.drop k) := fun hn => by
  have hl : (xs.drop k).length = xs.length - k := by simp
  obtain ⟨a, e, hs, hc⟩ := h (by omega)
  refine ⟨a.add k, by rw [e]; rfl, by rw [addBlock]; exact hs, fun j hj => ?_⟩
  rw [addAdd, hc (k + j) (by omega), List.getElem?_drop]
theorem Byt.at {S : Nat → Prop} {w : World} {A : Option Addr} {xs : List Nat} (h : Byt S w A xs) {k : Nat} (hk : k < xs.length) :
    ∃ a, A = some a ∧ S a.block ∧ w.cell? (a.add k) = some (.int .u8 ((xs[k]?.getD 0 : Nat) : Int)) := by
  obtain ⟨a, e, hs, hc⟩ := h (by omega)
  exact ⟨a, e, hs, hc k hk⟩

/-- What the call owns is a slice that holds its bytes. -/
theorem own_slice {w : World} {base n : Nat} {v : Value} {xs : List Nat} (h : w.ownsRow base 5 1 v n (Bs xs)) :
    ∃ A c, v = .slice A n c ∧ n = xs.length ∧ n ≤ c ∧ c ≤ maxLen ∧ Byt (fun b => base ≤ b ∧ b < w.heap.size) w A xs := by
  have hn : n = xs.length := by have := h.1; rw [Bs_length] at this; omega
  rcases h.2 with ⟨rfl, h0⟩ | ⟨g, cap, cur, rfl, hb, hg, hnc, hcm, _, _⟩
  · refine ⟨none, 0, by rw [h0], hn, by omega, by simp [maxLen], fun hpos => absurd hpos (by omega)⟩
  · refine ⟨some ⟨g, 0, none⟩, cap, rfl, hn, hnc, hcm, fun _ => ⟨⟨g, 0, none⟩, rfl, ⟨hb, (Array.getElem?_eq_some_iff.1 hg).1⟩, fun j hj => ?_⟩⟩
    exact h.cells rfl j _ (Bs_get xs j hj)

theorem u8_info : (Try.prog.info? 5).map (fun i => (i.zero, i.size, i.bytes)) = some (some (.int .u8 0), 1, 1) := by kernel_rfl

section
variable (w : World)
/-- append of bytes, wherever they lie (nil too), to a slice of bytes that the call owns. -/
theorem run_append_bytes (base ty : Nat) (v : Value) (n : Nat) (xs : List Nat) (hown : w.ownsRow base 5 1 v n (Bs xs)) (A : Option Addr) (m c : Nat) (ys : List Nat) (hm : ys.length = m)
    (S : Nat → Prop) (hy : Byt S w A ys) (hbig : n + m ≤ 140737488355328) (hbase : base ≤ w.heap.size) :
    ∃ v' w', (Builtin.append_ #[23, 23] ty #[v, .slice A m c]).run Try.prog w = .ok v' w' ∧ w'.ownsRow base 5 1 v' (n + m) (Bs (xs ++ ys)) ∧ w.grownBy w' v.ownBlock ∧
      (v'.ownBlock = v.ownBlock ∨ v'.ownBlock = some w.heap.size) := by
  obtain ⟨i0, hi0, hz0, hz1, hz2⟩ := info_parts u8_info
  rw [Bs_app]
  rcases A with _ | a
  · have h0 : m = 0 := by
      rcases Nat.eq_zero_or_pos m with h | h
      · exact h
      · obtain ⟨a, h, _⟩ := hy (by omega)
        cases h
    subst h0
    obtain rfl : ys = [] := List.eq_nil_of_length_eq_zero hm
    refine ⟨v, w, ?_, by simpa [Bs] using hown, ⟨rfl, rfl, rfl, Nat.le_refl _, fun _ _ _ => rfl⟩, .inl rfl⟩
    have ht := run_underlying (P := Try.prog) (w := w) Try.underlying23
    rcases hown.2 with ⟨rfl, rfl⟩ | ⟨g, cap, cur, rfl, _, _, hnc, _⟩
    · simp [Builtin.append_, ht, sizeOf, typeInfo, hi0, Builtin.lenOf, Builtin.firstCells]
    · simp [Builtin.append_, ht, sizeOf, typeInfo, hi0, Builtin.lenOf, Builtin.firstCells, hnc, storeCells]
  · have hcells : ∀ j u, (Bs ys)[j]? = some u → w.cell? (a.add j) = some u := by
      intro j u hu
      have hj : j < ys.length := by
        rcases Nat.lt_or_ge j ys.length with h | h
        · exact h
        · rw [List.getElem?_eq_none (by rw [Bs_length]; omega)] at hu; cases hu
      obtain ⟨a', e, _, hc⟩ := hy (by omega)
      injection e with e
      subst e
      rw [hc j hj, ← hu, Bs_get ys j hj]
    obtain ⟨v', w', hrun, h2, h3, _, h5⟩ := run_append_own_at (P := Try.prog) w base 23 ty 5 i0 (.int .u8 0) 1 1 Try.underlying23 hi0 hz0 hz1 hz2 rfl (by omega) v n (Bs xs) hown a m c (Bs ys) (by rw [Bs_length]; omega) hcells (Bs_one ys)
      (by simp only [maxLen]; omega) (by omega) hbase
    exact ⟨v', w', hrun, h2, h3, h5⟩

/-- The same for the walk, at the operation. -/
theorem walk_append {ops : Array Oper} {rest : List Oper} {o : Oper} {a : Act} {Q : Exit → Act → World → Prop} (hgd : o.guard = none) (s x : Operand)
    (ho : o.op = .call { callee := .builtin .append, args := #[s, x], argTypes := #[23, 23] })
    (base : Nat) (v : Value) (n : Nat) (xs : List Nat) (hs : a.eval s = v) (hown : w.ownsRow base 5 1 v n (Bs xs)) (A : Option Addr) (m c : Nat) (ys : List Nat) (hx : a.eval x = .slice A m c) (hm : ys.length = m)
    (S : Nat → Prop) (hy : Byt S w A ys) (hbig : n + m ≤ 140737488355328) (hbase : base ≤ w.heap.size)
    (h : ∀ v' w', w'.ownsRow base 5 1 v' (n + m) (Bs (xs ++ ys)) → w.grownBy w' v.ownBlock → (v'.ownBlock = v.ownBlock ∨ v'.ownBlock = some w.heap.size) → wpList Try.prog ops Q rest (a.put o.dst v') w') :
    wpList Try.prog ops Q (o :: rest) a w := by
  refine wpList_plain hgd fun _ hK => ?_
  obtain ⟨v', w', hrun, h2, h3, h4⟩ := run_append_bytes w base o.type v n xs hown A m c ys hm S hy hbig hbase
  unfold Oper.wp execOp
  simp only [ho, resolve, invoke, builtin, Sem.run_bind, Sem.run_pure, Result.andThen_ok, List.map_toArray, List.map_cons, List.map_nil, hs, hx, hrun]
  exact hK _ _ (h v' w' h2 h3 h4)
end
end Go.Proofs.Ytepncmceabkgpaa
