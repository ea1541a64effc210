/-
  Small words on memory that holds bytes, and what appending bytes to a slice of the call's own does; nothing here speaks of one function.
  Conditions: none.
-/
import Derived.Test.YtdadaklkaehmjaaProg
import Derived.WalkKit
import Derived.WalkSpells
import Derived.WalkLawsBesides
import Derived.Maps.AppendAt
import Derived.Deep.Draws
import Derived.Lib.Hide
import Derived.OpenShut
import Derived.Laws.BitsAllLaws
import Derived.Laws.Bits64
namespace Go.Proofs.Ytdadaklkaehmjaa
open Go.RowKit
/-- The cells that hold the bytes xs. -/
def Bs (xs : List Nat) : List Value := xs.map fun x : Nat => Value.int .u8 (x : Int)
theorem Bs_length (xs : List Nat) : (Bs xs).length = xs.length := by simp [Bs]
theorem Bs_get (xs : List Nat) (j : Nat) (h : j < xs.length) : (Bs xs)[j]? = some (.int .u8 ((xs[j]?.getD 0 : Nat) : Int)) := by simp [Bs, h]
theorem Bs_app (xs ys : List Nat) : Bs (xs ++ ys) = Bs xs ++ Bs ys := by simp [Bs]
theorem Bs_one (xs : List Nat) : ∀ u ∈ Bs xs, u.oneCell' = true := by
  intro u hu
  obtain ⟨x, _, rfl⟩ := List.mem_map.1 hu
  rfl

/-- A slice with the address A holds the bytes xs, in a block of which S says yes; where there is no byte nothing is asked of A. -/
def Byt (S : Nat → Prop) (w : World) (A : Option Addr) (xs : List Nat) : Prop :=
  0 < xs.length → ∃ a, A = some a ∧ S a.block ∧ ∀ j, j < xs.length → w.cell? (a.add j) = some (.int .u8 ((xs[j]?.getD 0 : Nat) : Int))

theorem addBlock (a : Addr) (n : Nat) : (a.add n).block = a.block := by
  unfold Addr.add
  by_cases h : n = 0 <;> simp [h]
theorem addAdd (a : Addr) (i j : Nat) : (a.add i).add j = a.add (i + j) := by
  unfold Addr.add
  by_cases hi : i = 0
  · simp [hi]
  · by_cases hj : j = 0
    · simp [hi, hj]
    · simp [hi, hj, Nat.add_assoc]

theorem Byt.nil (S : Nat → Prop) (w : World) (A : Option Addr) : Byt S w A [] := fun h => absurd h (by simp)
theorem Byt.keep {S : Nat → Prop} {w w' : World} {A : Option Addr} {xs : List Nat} (h : Byt S w A xs) (hk : ∀ b, S b → w'.heap[b]? = w.heap[b]?) : Byt S w' A xs := fun hn => by
  obtain ⟨a, e, hs, hc⟩ := h hn
  exact ⟨a, e, hs, fun j hj => (World.cell?_of_block (hk _ (by rw [addBlock]; exact hs))).trans (hc j hj)⟩
theorem Byt.wide {S T : Nat → Prop} {w : World} {A : Option Addr} {xs : List Nat} (h : Byt S w A xs) (hk : ∀ b, S b → T b) : Byt T w A xs := fun hn => by
  obtain ⟨a, e, hs, hc⟩ := h hn
  exact ⟨a, e, hk _ hs, hc⟩
theorem Byt.take {S : Nat → Prop} {w : World} {A : Option Addr} {xs : List Nat} (h : Byt S w A xs) (k : Nat) : Byt S w A (xs.take k) := fun hn => by
  have hl : (xs.take k).length ≤ xs.length := by simp; omega
  obtain ⟨a, e, hs, hc⟩ := h (by omega)
  refine ⟨a, e, hs, fun j hj => ?_⟩
  have hj' : j < k := by simp at hj; omega
  rw [hc j (by omega), List.getElem?_take_of_lt hj']
theorem Byt.drop {S : Nat → Prop} {w : World} {A : Option Addr} {xs : List Nat} (h : Byt S w A xs) (k : Nat) : Byt S w (A.map (·.add k)) (xs.drop k) := fun hn => by
  have hl : (xs.drop k).length = xs.length - k := by simp
  obtain ⟨a, e, hs, hc⟩ := h (by omega)
  refine ⟨a.add k, by rw [e]; rfl, by rw [addBlock]; exact hs, fun j hj => ?_⟩
  rw [addAdd, hc (k + j) (by omega), List.getElem?_drop]
theorem Byt.at {S : Nat → Prop} {w : World} {A : Option Addr} {xs : List Nat} (h : Byt S w A xs) {k : Nat} (hk : k < xs.length) :
    ∃ a, A = some a ∧ S a.block ∧ w.cell? (a.add k) = some (.int .u8 ((xs[k]?.getD 0 : Nat) : Int)) := by
  obtain ⟨a, e, hs, hc⟩ := h (by omega)
  exact ⟨a, e, hs, hc k hk⟩

/-- What the call owns is a slice that holds its bytes. -/
theorem own_slice {w : World} {base n : Nat} {v : Value} {xs : List Nat} (h : w.ownsRow base 5 1 v n (Bs xs)) :
    ∃ A c, v = .slice A n c ∧ n = xs.length ∧ n ≤ c ∧ c ≤ maxLen ∧ Byt (fun b => base ≤ b ∧ b < w.heap.size) w A xs := by
  have hn : n = xs.length := by have := h.1; rw [Bs_length] at this; omega
  rcases h.2 with ⟨rfl, h0⟩ | ⟨g, cap, cur, rfl, hb, hg, hnc, hcm, _, _⟩
  · refine ⟨none, 0, by rw [h0], hn, by omega, by simp [maxLen], fun hpos => absurd hpos (by omega)⟩
  · refine ⟨some ⟨g, 0, none⟩, cap, rfl, hn, hnc, hcm, fun _ => ⟨⟨g, 0, none⟩, rfl, ⟨hb, (Array.getElem?_eq_some_iff.1 hg).1⟩, fun j hj => ?_⟩⟩
    exact h.cells rfl j _ (Bs_get xs j hj)

theorem u8_info : (Try.prog.info? 5).map (fun i => (i.zero, i.size, i.bytes)) = some (some (.int .u8 0), 1, 1) := by kernel_rfl

section
variable (w : World)
set_option maxRecDepth 100000 in
/-- append of bytes, wherever they lie (nil too), to a slice of bytes that the call owns. -/
theorem run_append_bytes (base ty : Nat) (v : Value) (n : Nat) (xs : List Nat) (hown : w.ownsRow base 5 1 v n (Bs xs)) (A : Option Addr) (m c : Nat) (ys : List Nat) (hm : ys.length = m)
    (S : Nat → Prop) (hy : Byt S w A ys) (hbig : n + m ≤ 140737488355328) (hbase : base ≤ w.heap.size) :
    ∃ v' w', (Builtin.append_ #[26, 26] ty #[v, .slice A m c]).run Try.prog w = .ok v' w' ∧ w'.ownsRow base 5 1 v' (n + m) (Bs (xs ++ ys)) ∧ w.grownBy w' v.ownBlock ∧
      (v'.ownBlock = v.ownBlock ∨ v'.ownBlock = some w.heap.size) := by
  obtain ⟨i0, hi0, hz0, hz1, hz2⟩ := info_parts u8_info
  rw [Bs_app]
  rcases A with _ | a
  · have h0 : m = 0 := by
      rcases Nat.eq_zero_or_pos m with h | h
      · exact h
      · obtain ⟨a, h, _⟩ := hy (by omega)
        cases h
    subst h0
    obtain rfl : ys = [] := List.eq_nil_of_length_eq_zero hm
    refine ⟨v, w, ?_, by simpa [Bs] using hown, ⟨rfl, rfl, rfl, Nat.le_refl _, fun _ _ _ => rfl⟩, .inl rfl⟩
    have ht := run_underlying (P := Try.prog) (w := w) Try.underlying26
    rcases hown.2 with ⟨rfl, rfl⟩ | ⟨g, cap, cur, rfl, _, _, hnc, _⟩
    · simp [Builtin.append_, ht, sizeOf, typeInfo, hi0, Builtin.lenOf, Builtin.firstCells]
    · simp [Builtin.append_, ht, sizeOf, typeInfo, hi0, Builtin.lenOf, Builtin.firstCells, hnc, storeCells]
  · have hcells : ∀ j u, (Bs ys)[j]? = some u → w.cell? (a.add j) = some u := by
      intro j u hu
      have hj : j < ys.length := by
        rcases Nat.lt_or_ge j ys.length with h | h
        · exact h
        · rw [List.getElem?_eq_none (by rw [Bs_length]; omega)] at hu; cases hu
      obtain ⟨a', e, _, hc⟩ := hy (by omega)
      injection e with e
      subst e
      rw [hc j hj, ← hu, Bs_get ys j hj]
    obtain ⟨v', w', hrun, h2, h3, _, h5⟩ := run_append_own_at (P := Try.prog) w base 26 ty 5 i0 (.int .u8 0) 1 1 Try.underlying26 hi0 hz0 hz1 hz2 rfl (by omega) v n (Bs xs) hown a m c (Bs ys) (by rw [Bs_length]; omega) hcells (Bs_one ys)
      (by simp only [maxLen]; omega) (by omega) hbase
    exact ⟨v', w', hrun, h2, h3, h5⟩

/-- The same for the walk, at the operation. -/
theorem walk_append {ops : Array Oper} {rest : List Oper} {o : Oper} {a : Act} {Q : Exit → Act → World → Prop} (hgd : o.guard = none) (s x : Operand)
    (ho : o.op = .call { callee := .builtin .append, args := #[s, x], argTypes := #[26, 26] })
    (base : Nat) (v : Value) (n : Nat) (xs : List Nat) (hs : a.eval s = v) (hown : w.ownsRow base 5 1 v n (Bs xs)) (A : Option Addr) (m c : Nat) (ys : List Nat) (hx : a.eval x = .slice A m c) (hm : ys.length = m)
    (S : Nat → Prop) (hy : Byt S w A ys) (hbig : n + m ≤ 140737488355328) (hbase : base ≤ w.heap.size)
    (h : ∀ v' w', w'.ownsRow base 5 1 v' (n + m) (Bs (xs ++ ys)) → w.grownBy w' v.ownBlock → (v'.ownBlock = v.ownBlock ∨ v'.ownBlock = some w.heap.size) → wpList Try.prog ops Q rest (a.put o.dst v') w') :
    wpList Try.prog ops Q (o :: rest) a w := by
  refine wpList_plain hgd fun _ hK => ?_
  obtain ⟨v', w', hrun, h2, h3, h4⟩ := run_append_bytes w base o.type v n xs hown A m c ys hm S hy hbig hbase
  unfold Oper.wp execOp
  simp only [ho, resolve, invoke, builtin, Sem.run_bind, Sem.run_pure, Result.andThen_ok, List.map_toArray, List.map_cons, List.map_nil, hs, hx, hrun]
  exact hK _ _ (h v' w' h2 h3 h4)
end

/-- Block g is just these cells. -/
def Blk (w : World) (g : Nat) (t : TypeId) (cs : Array Value) : Prop := w.heap[g]? = some (.cells cs t (0, 0))
theorem Blk.lt {w : World} {g : Nat} {t : TypeId} {cs : Array Value} (h : Blk w g t cs) : g < w.heap.size := (Array.getElem?_eq_some_iff.1 h).1
theorem Blk.cell {w : World} {g : Nat} {t : TypeId} {cs : Array Value} (h : Blk w g t cs) (i : Nat) : w.cell? ⟨g, i, none⟩ = cs[i]? := cell_of_row w g i cs t (0, 0) h
theorem Blk.frozen {w : World} {g : Nat} {t : TypeId} {cs : Array Value} (h : Blk w g t cs) (i : Nat) : w.frozen? ⟨g, i, none⟩ = false := by
  unfold Blk at h
  simp [World.frozen?, h]
theorem Blk.set {w : World} {g : Nat} {t : TypeId} {cs : Array Value} (h : Blk w g t cs) (i : Nat) (u : Value) : Blk (w.setCell ⟨g, i, none⟩ u) g t (cs.setIfInBounds i u) := by
  unfold Blk at h ⊢
  simp [World.setCell, Array.getElem?_modify, h]


theorem ret_int {k : IntKind} {a b : Int} (h : a = b) : Ending.returned (.int k a) = .returned (.int k b) := by rw [h]
/-- All but block g, and what is new, is as it was. -/
def Only (g : Nat) (w w' : World) : Prop := w.grownBy w' (some g)

theorem only_refl (g : Nat) (w : World) : Only g w w := ⟨rfl, rfl, rfl, Nat.le_refl _, fun _ _ _ => rfl⟩
theorem only_trans {g : Nat} {a b c : World} (h : Only g a b) (k : Only g b c) : Only g a c :=
  ⟨k.os.trans h.os, k.tape.trans h.tape, k.output.trans h.output, Nat.le_trans h.size k.size, fun i hi hne => (k.block i (Nat.lt_of_lt_of_le hi h.size) hne).trans (h.block i hi hne)⟩
theorem only_set {g : Nat} {a b : World} (h : Only g a b) (i : Nat) (u : Value) : Only g a (b.setCell ⟨g, i, none⟩ u) :=
  only_trans h ⟨rfl, rfl, rfl, by simp [World.setCell], fun k _ hne => Below.heap_setCell _ _ _ _ (fun e => hne (by rw [e]))⟩
theorem only_below {g : Nat} {a b : World} (h : Below a.heap.size a b) : Only g a b := ⟨h.os, h.tape, h.output, h.size, fun i hi _ => h.block i hi⟩
theorem below_only {g B : Nat} {a b : World} (h : Only g a b) (hg : B ≤ g) (hB : B ≤ a.heap.size) : Below B a b :=
  ⟨h.os, h.tape, h.output, h.size, fun i hi => h.block i (by omega) (fun e => by injection e; omega)⟩


theorem own_empty (w : World) : (w.alloc (.cells #[] 5)).ownsRow w.heap.size 5 1 (.slice (some ⟨w.heap.size, 0, none⟩) 0 0) 0 (Bs []) :=
  World.ownsRow_made w #[] 0 (Nat.le_refl _) (by simp [maxLen]) (by simp)

theorem only_trans' {g : Nat} {a b c : World} (h : Only g a b) (k : Below a.heap.size b c) : Only g a c :=
  ⟨k.os.trans h.os, k.tape.trans h.tape, k.output.trans h.output, Nat.le_trans h.size k.size, fun i hi hne => (k.block i hi).trans (h.block i hi hne)⟩
theorem only_alloc {g : Nat} {a : World} (o : Obj) : Only g a (a.alloc o) := only_below ((Below.refl _ a).alloc (Nat.le_refl _) _)
theorem byt_one (w : World) (z : Int) (x : Nat) (h : z = (x : Int)) : Byt (· = w.heap.size) (w.alloc (.cells #[.int .u8 z] 5)) (some ⟨w.heap.size, 0, none⟩) [x] := fun _ =>
  ⟨_, rfl, rfl, fun j hj => by
    obtain rfl : j = 0 := by simp at hj; omega
    subst h
    exact cell_one_new _ _ _ 0 _ rfl⟩
theorem own_one (w : World) (z : Int) (x : Nat) (h : z = (x : Int)) : (w.alloc (.cells #[.int .u8 z] 5)).ownsRow w.heap.size 5 1 (.slice (some ⟨w.heap.size, 0, none⟩) 1 1) 1 (Bs [x]) := by
  subst h
  exact ⟨rfl, .inr ⟨w.heap.size, 1, _, rfl, Nat.le_refl _, heap_alloc_new w _, Nat.le_refl _, by simp [maxLen], rfl, rfl⟩⟩

theorem own_below {w w' : World} {base B : Nat} {v : Value} {n : Nat} {xs : List Value} (h : w.ownsRow base 5 1 v n xs) (hb : Below B w w') (hB : w.heap.size ≤ B) : w'.ownsRow base 5 1 v n xs :=
  h.kept (w' := w') (row := none) ⟨hb.os, hb.tape, hb.output, hb.size, fun k hk _ => hb.block k (by omega)⟩ (by cases v.ownBlock <;> simp)

theorem Byt.below {B B' : Nat} {w w' : World} {A : Option Addr} {xs : List Nat} (h : Byt (· < B) w A xs) (hb : Below B' w w') (hB : B ≤ B') : Byt (· < B) w' A xs := h.keep fun b h1 => hb.block b (Nat.lt_of_lt_of_le h1 hB)

/-- A slice of integers that came in: nil, or a row of 'cap' cells that hold the numbers zs. -/
def IsRow (k : IntKind) (w : World) (a : Option Addr) (len cap : Nat) (zs : List Int) : Prop :=
  (a = none ∧ len = 0 ∧ cap = 0 ∧ zs = []) ∨
  ∃ x, a = some x ∧ len ≤ cap ∧ cap ≤ maxLen ∧ zs.length = cap ∧ (∀ i, i < zs.length → w.cell? (x.add i) = some (.int k (zs.getD i 0))) ∧ ∀ n ∈ zs, (Lit.int k n).wf = true

theorem row_bytes {w : World} {a : Option Addr} {len cap : Nat} {zs : List Int} (h : IsRow .u8 w a len cap zs) :
    ∃ xs : List Nat, xs.length = len ∧ (∀ x ∈ xs, x < 256) ∧ Byt (· < w.heap.size) w a xs ∧ len ≤ cap ∧ cap ≤ maxLen := by
  rcases h with ⟨rfl, rfl, rfl, rfl⟩ | ⟨x, rfl, hl, hm, hz, hc, hw⟩
  · exact ⟨[], rfl, by simp, Byt.nil _ _ _, Nat.le_refl _, by simp [maxLen]⟩
  · refine ⟨(zs.take len).map Int.toNat, by simp; omega, fun y hy => ?_, fun hpos => ⟨x, rfl, ?_, fun j hj => ?_⟩, hl, hm⟩
    · obtain ⟨z, hz', rfl⟩ := List.mem_map.1 hy
      have := bounds_u8 (hw z (List.mem_of_mem_take hz'))
      omega
    · have h0 : 0 < zs.length := by simp at hpos; omega
      have := World.block_lt_of_cell? w _ (hc 0 h0)
      rwa [addBlock] at this
    · have hj' : j < len := by simp at hj; omega
      have hjz : j < zs.length := by omega
      rw [hc j hjz]
      have hb := bounds_u8 (hw zs[j] (List.getElem_mem hjz))
      simp [hj', hjz, List.getD]
      omega
theorem own_some {w : World} {base : Nat} {A : Option Addr} {n c k : Nat} {xs : List Value} (h : w.ownsRow base 5 1 (.slice A n c) n xs) (hk : k < n) : ∃ g, A = some ⟨g, 0, none⟩ := by
  rcases h.2 with ⟨_, h0⟩ | ⟨g, cap, cur, e, _⟩
  · omega
  · injection e with e
    exact ⟨g, e⟩
theorem grown_trans {row : Option Nat} {a b c : World} (h : a.grownBy b row) (k : b.grownBy c row) : a.grownBy c row :=
  ⟨k.os.trans h.os, k.tape.trans h.tape, k.output.trans h.output, Nat.le_trans h.size k.size, fun i hi hne => (k.block i (Nat.lt_of_lt_of_le hi h.size) hne).trans (h.block i hi hne)⟩
theorem Bs_set (ys : List Nat) (k : Nat) (z : Int) (y : Nat) (h : z = (y : Int)) : (Bs ys).set k (.int .u8 z) = Bs (ys.set k y) := by
  subst h
  simp [Bs, List.map_set]
end Go.Proofs.Ytdadaklkaehmjaa
