/-
  Small words on memory that holds bytes, and what appending bytes to a slice of the call's own does; nothing here speaks of one function. Conditions: none.
  Arguments opened: what a slice of bytes that came in holds. Conditions: none.
  Plain facts on numbers written with seven bits a byte: how many bytes there are, which byte is the last, and that the bytes tell the number. Conditions: none; nothing here speaks of a program.
  Instructions as plain facts: how many numbers each has, which are good, their bytes. Conditions: none; nothing here speaks of a program.
  Instructions' bytes tell the instruction: one row of bytes begins with one at most, and what is cut off begins with none. Conditions: none; nothing here speaks of a program.
-/
import Derived.Test.YtlfcglolehmmiaaProg
import Derived.Test.YtlfcglolehmmiaaRows
import Derived.WalkKit
import Derived.WalkSpells
import Derived.WalkLawsBesides
import Derived.Maps.AppendAt
import Derived.Deep.Draws
import Derived.Lib.Hide
import Derived.OpenShut
import Derived.Laws.BitsAllLaws
import Derived.Laws.Bits64
import Derived.ProofKit
import Derived.ShutString
import Derived.Deep.Slices
namespace Go.Proofs.Ytlfcglolehmmiaa
open Go.RowKit
/-- The cells that hold the bytes xs. -/
def Bs (xs : List Nat) : List Value := xs.map fun x : Nat => Value.int .u8 (x : Int)
theorem Bs_length (xs : List Nat) : (Bs xs).length = xs.length := by simp [Bs]
theorem Bs_get (xs : List Nat) (j : Nat) (h : j < xs.length) : (Bs xs)[j]? = some (.int .u8 ((xs[j]?.getD 0 : Nat) : Int)) := by simp [Bs, h]
theorem Bs_app (xs ys : List Nat) : Bs (xs ++ ys) = Bs xs ++ Bs ys := by simp [Bs]
theorem Bs_one (xs : List Nat) : ∀ u ∈ Bs xs, u.oneCell' = true := by
  intro u hu
  obtain ⟨x, _, rfl⟩ := List.mem_map.1 hu
  rfl

/-- A slice with the address A holds the bytes xs, in a block of which S says yes; where there is no byte nothing is asked of A. -/
def Byt (S : Nat → Prop) (w : World) (A : Option Addr) (xs : List Nat) : Prop :=
  0 < xs.length → ∃ a, A = some a ∧ S a.block ∧ ∀ j, j < xs.length → w.cell? (a.add j) = some (.int .u8 ((xs[j]?.getD 0 : Nat) : Int))

theorem addBlock (a : Addr) (n : Nat) : (a.add n).block = a.block := by
  unfold Addr.add
  by_cases h : n = 0 <;> simp [h]
theorem addAdd (a : Addr) (i j : Nat) : (a.add i).add j = a.add (i + j) := by
  unfold Addr.add
  by_cases hi : i = 0
  · simp [hi]
  · by_cases hj : j = 0
    · simp [hi, hj]
    · simp [hi, hj, Nat.add_assoc]

theorem Byt.nil (S : Nat → Prop) (w : World) (A : Option Addr) : Byt S w A [] := fun h => absurd h (by simp)
theorem Byt.keep {S : Nat → Prop} {w w' : World} {A : Option Addr} {xs : List Nat} (h : Byt S w A xs) (hk : ∀ b, S b → w'.heap[b]? = w.heap[b]?) : Byt S w' A xs := fun hn => by
  obtain ⟨a, e, hs, hc⟩ := h hn
  exact ⟨a, e, hs, fun j hj => (World.cell?_of_block (hk _ (by rw [addBlock]; exact hs))).trans (hc j hj)⟩
theorem Byt.wide {S T : Nat → Prop} {w : World} {A : Option Addr} {xs : List Nat} (h : Byt S w A xs) (hk : ∀ b, S b → T b) : Byt T w A xs := fun hn => by
  obtain ⟨a, e, hs, hc⟩ := h hn
  exact ⟨a, e, hk _ hs, hc⟩
theorem Byt.take {S : Nat → Prop} {w : World} {A : Option Addr} {xs : List Nat} (h : Byt S w A xs) (k : Nat) : Byt S w A (xs.take k) := fun hn => by
  have hl : (xs.take k).length ≤ xs.length := by simp; omega
  obtain ⟨a, e, hs, hc⟩ := h (by omega)
  refine ⟨a, e, hs, fun j hj => ?_⟩
  have hj' : j < k := by simp at hj; omega
  rw [hc j (by omega), List.getElem?_take_of_lt hj']
theorem Byt.drop {S : Nat → Prop} {w : World} {A : Option Addr} {xs : List Nat} (h : Byt S w A xs) (k : Nat) : Byt S w (A.map (·.add k)) (xs.drop k) := fun hn => by
  have hl : (xs.drop k).length = xs.length - k := by simp
  obtain ⟨a, e, hs, hc⟩ := h (by omega)
  refine ⟨a.add k, by rw [e]; rfl, by rw [addBlock]; exact hs, fun j hj => ?_⟩
  rw [addAdd, hc (k + j) (by omega), List.getElem?_drop]
theorem Byt.at {S : Nat → Prop} {w : World} {A : Option Addr} {xs : List Nat} (h : Byt S w A xs) {k : Nat} (hk : k < xs.length) :
    ∃ a, A = some a ∧ S a.block ∧ w.cell? (a.add k) = some (.int .u8 ((xs[k]?.getD 0 : Nat) : Int)) := by
  obtain ⟨a, e, hs, hc⟩ := h (by omega)
  exact ⟨a, e, hs, hc k hk⟩

/-- What the call owns is a slice that holds its bytes. -/
theorem own_slice {w : World} {base n : Nat} {v : Value} {xs : List Nat} (h : w.ownsRow base 5 1 v n (Bs xs)) :
    ∃ A c, v = .slice A n c ∧ n = xs.length ∧ n ≤ c ∧ c ≤ maxLen ∧ Byt (fun b => base ≤ b ∧ b < w.heap.size) w A xs := by
  have hn : n = xs.length := by have := h.1; rw [Bs_length] at this; omega
  rcases h.2 with ⟨rfl, h0⟩ | ⟨g, cap, cur, rfl, hb, hg, hnc, hcm, _, _⟩
  · refine ⟨none, 0, by rw [h0], hn, by omega, by simp [maxLen], fun hpos => absurd hpos (by omega)⟩
  · refine ⟨some ⟨g, 0, none⟩, cap, rfl, hn, hnc, hcm, fun _ => ⟨⟨g, 0, none⟩, rfl, ⟨hb, (Array.getElem?_eq_some_iff.1 hg).1⟩, fun j hj => ?_⟩⟩
    exact h.cells rfl j _ (Bs_get xs j hj)

theorem u8_info : (Try.prog.info? 5).map (fun i => (i.zero, i.size, i.bytes)) = some (some (.int .u8 0), 1, 1) := by kernel_rfl

section
variable (w : World)
set_option maxRecDepth 100000 in
/-- append of bytes, wherever they lie (nil too), to a slice of bytes that the call owns. -/
theorem run_append_bytes (base ty : Nat) (v : Value) (n : Nat) (xs : List Nat) (hown : w.ownsRow base 5 1 v n (Bs xs)) (A : Option Addr) (m c : Nat) (ys : List Nat) (hm : ys.length = m)
    (S : Nat → Prop) (hy : Byt S w A ys) (hbig : n + m ≤ 140737488355328) (hbase : base ≤ w.heap.size) :
    ∃ v' w', (Builtin.append_ #[62, 62] ty #[v, .slice A m c]).run Try.prog w = .ok v' w' ∧ w'.ownsRow base 5 1 v' (n + m) (Bs (xs ++ ys)) ∧ w.grownBy w' v.ownBlock ∧
      (v'.ownBlock = v.ownBlock ∨ v'.ownBlock = some w.heap.size) := by
  obtain ⟨i0, hi0, hz0, hz1, hz2⟩ := info_parts u8_info
  rw [Bs_app]
  rcases A with _ | a
  · have h0 : m = 0 := by
      rcases Nat.eq_zero_or_pos m with h | h
      · exact h
      · obtain ⟨a, h, _⟩ := hy (by omega)
        cases h
    subst h0
    obtain rfl : ys = [] := List.eq_nil_of_length_eq_zero hm
    refine ⟨v, w, ?_, by simpa [Bs] using hown, ⟨rfl, rfl, rfl, Nat.le_refl _, fun _ _ _ => rfl⟩, .inl rfl⟩
    have ht := run_underlying (P := Try.prog) (w := w) Try.underlying62
    rcases hown.2 with ⟨rfl, rfl⟩ | ⟨g, cap, cur, rfl, _, _, hnc, _⟩
    · simp [Builtin.append_, ht, sizeOf, typeInfo, hi0, Builtin.lenOf, Builtin.firstCells]
    · simp [Builtin.append_, ht, sizeOf, typeInfo, hi0, Builtin.lenOf, Builtin.firstCells, hnc, storeCells]
  · have hcells : ∀ j u, (Bs ys)[j]? = some u → w.cell? (a.add j) = some u := by
      intro j u hu
      have hj : j < ys.length := by
        rcases Nat.lt_or_ge j ys.length with h | h
        · exact h
        · rw [List.getElem?_eq_none (by rw [Bs_length]; omega)] at hu; cases hu
      obtain ⟨a', e, _, hc⟩ := hy (by omega)
      injection e with e
      subst e
      rw [hc j hj, ← hu, Bs_get ys j hj]
    obtain ⟨v', w', hrun, h2, h3, _, h5⟩ := run_append_own_at (P := Try.prog) w base 62 ty 5 i0 (.int .u8 0) 1 1 Try.underlying62 hi0 hz0 hz1 hz2 rfl (by omega) v n (Bs xs) hown a m c (Bs ys) (by rw [Bs_length]; omega) hcells (Bs_one ys)
      (by simp only [maxLen]; omega) (by omega) hbase
    exact ⟨v', w', hrun, h2, h3, h5⟩

/-- The same for the walk, at the operation. -/
theorem walk_append {ops : Array Oper} {rest : List Oper} {o : Oper} {a : Act} {Q : Exit → Act → World → Prop} (hgd : o.guard = none) (s x : Operand)
    (ho : o.op = .call { callee := .builtin .append, args := #[s, x], argTypes := #[62, 62] })
    (base : Nat) (v : Value) (n : Nat) (xs : List Nat) (hs : a.eval s = v) (hown : w.ownsRow base 5 1 v n (Bs xs)) (A : Option Addr) (m c : Nat) (ys : List Nat) (hx : a.eval x = .slice A m c) (hm : ys.length = m)
    (S : Nat → Prop) (hy : Byt S w A ys) (hbig : n + m ≤ 140737488355328) (hbase : base ≤ w.heap.size)
    (h : ∀ v' w', w'.ownsRow base 5 1 v' (n + m) (Bs (xs ++ ys)) → w.grownBy w' v.ownBlock → (v'.ownBlock = v.ownBlock ∨ v'.ownBlock = some w.heap.size) → wpList Try.prog ops Q rest (a.put o.dst v') w') :
    wpList Try.prog ops Q (o :: rest) a w := by
  refine wpList_plain hgd fun _ hK => ?_
  obtain ⟨v', w', hrun, h2, h3, h4⟩ := run_append_bytes w base o.type v n xs hown A m c ys hm S hy hbig hbase
  unfold Oper.wp execOp
  simp only [ho, resolve, invoke, builtin, Sem.run_bind, Sem.run_pure, Result.andThen_ok, List.map_toArray, List.map_cons, List.map_nil, hs, hx, hrun]
  exact hK _ _ (h v' w' h2 h3 h4)
end

/-- Block g is just these cells. -/
def Blk (w : World) (g : Nat) (t : TypeId) (cs : Array Value) : Prop := w.heap[g]? = some (.cells cs t (0, 0))
theorem Blk.lt {w : World} {g : Nat} {t : TypeId} {cs : Array Value} (h : Blk w g t cs) : g < w.heap.size := (Array.getElem?_eq_some_iff.1 h).1
theorem Blk.cell {w : World} {g : Nat} {t : TypeId} {cs : Array Value} (h : Blk w g t cs) (i : Nat) : w.cell? ⟨g, i, none⟩ = cs[i]? := cell_of_row w g i cs t (0, 0) h
theorem Blk.frozen {w : World} {g : Nat} {t : TypeId} {cs : Array Value} (h : Blk w g t cs) (i : Nat) : w.frozen? ⟨g, i, none⟩ = false := by
  unfold Blk at h
  simp [World.frozen?, h]
theorem Blk.set {w : World} {g : Nat} {t : TypeId} {cs : Array Value} (h : Blk w g t cs) (i : Nat) (u : Value) : Blk (w.setCell ⟨g, i, none⟩ u) g t (cs.setIfInBounds i u) := by
  unfold Blk at h ⊢
  simp [World.setCell, Array.getElem?_modify, h]


theorem ret_int {k : IntKind} {a b : Int} (h : a = b) : Ending.returned (.int k a) = .returned (.int k b) := by rw [h]
/-- All but block g, and what is new, is as it was. -/
def Only (g : Nat) (w w' : World) : Prop := w.grownBy w' (some g)

theorem only_refl (g : Nat) (w : World) : Only g w w := ⟨rfl, rfl, rfl, Nat.le_refl _, fun _ _ _ => rfl⟩
theorem only_trans {g : Nat} {a b c : World} (h : Only g a b) (k : Only g b c) : Only g a c :=
  ⟨k.os.trans h.os, k.tape.trans h.tape, k.output.trans h.output, Nat.le_trans h.size k.size, fun i hi hne => (k.block i (Nat.lt_of_lt_of_le hi h.size) hne).trans (h.block i hi hne)⟩
theorem only_set {g : Nat} {a b : World} (h : Only g a b) (i : Nat) (u : Value) : Only g a (b.setCell ⟨g, i, none⟩ u) :=
  only_trans h ⟨rfl, rfl, rfl, by simp [World.setCell], fun k _ hne => Below.heap_setCell _ _ _ _ (fun e => hne (by rw [e]))⟩
theorem only_below {g : Nat} {a b : World} (h : Below a.heap.size a b) : Only g a b := ⟨h.os, h.tape, h.output, h.size, fun i hi _ => h.block i hi⟩
theorem below_only {g B : Nat} {a b : World} (h : Only g a b) (hg : B ≤ g) (hB : B ≤ a.heap.size) : Below B a b :=
  ⟨h.os, h.tape, h.output, h.size, fun i hi => h.block i (by omega) (fun e => by injection e; omega)⟩


theorem own_empty (w : World) : (w.alloc (.cells #[] 5)).ownsRow w.heap.size 5 1 (.slice (some ⟨w.heap.size, 0, none⟩) 0 0) 0 (Bs []) :=
  World.ownsRow_made w #[] 0 (Nat.le_refl _) (by simp [maxLen]) (by simp)

theorem only_trans' {g : Nat} {a b c : World} (h : Only g a b) (k : Below a.heap.size b c) : Only g a c :=
  ⟨k.os.trans h.os, k.tape.trans h.tape, k.output.trans h.output, Nat.le_trans h.size k.size, fun i hi hne => (k.block i hi).trans (h.block i hi hne)⟩
theorem only_alloc {g : Nat} {a : World} (o : Obj) : Only g a (a.alloc o) := only_below ((Below.refl _ a).alloc (Nat.le_refl _) _)
theorem byt_one (w : World) (z : Int) (x : Nat) (h : z = (x : Int)) : Byt (· = w.heap.size) (w.alloc (.cells #[.int .u8 z] 5)) (some ⟨w.heap.size, 0, none⟩) [x] := fun _ =>
  ⟨_, rfl, rfl, fun j hj => by
    obtain rfl : j = 0 := by simp at hj; omega
    subst h
    exact cell_one_new _ _ _ 0 _ rfl⟩
theorem own_one (w : World) (z : Int) (x : Nat) (h : z = (x : Int)) : (w.alloc (.cells #[.int .u8 z] 5)).ownsRow w.heap.size 5 1 (.slice (some ⟨w.heap.size, 0, none⟩) 1 1) 1 (Bs [x]) := by
  subst h
  exact ⟨rfl, .inr ⟨w.heap.size, 1, _, rfl, Nat.le_refl _, heap_alloc_new w _, Nat.le_refl _, by simp [maxLen], rfl, rfl⟩⟩

theorem own_below {w w' : World} {base B : Nat} {v : Value} {n : Nat} {xs : List Value} (h : w.ownsRow base 5 1 v n xs) (hb : Below B w w') (hB : w.heap.size ≤ B) : w'.ownsRow base 5 1 v n xs :=
  h.kept (w' := w') (row := none) ⟨hb.os, hb.tape, hb.output, hb.size, fun k hk _ => hb.block k (by omega)⟩ (by cases v.ownBlock <;> simp)

theorem Byt.below {B B' : Nat} {w w' : World} {A : Option Addr} {xs : List Nat} (h : Byt (· < B) w A xs) (hb : Below B' w w') (hB : B ≤ B') : Byt (· < B) w' A xs := h.keep fun b h1 => hb.block b (Nat.lt_of_lt_of_le h1 hB)

/-- A slice of integers that came in: nil, or a row of 'cap' cells that hold the numbers zs. -/
def IsRow (k : IntKind) (w : World) (a : Option Addr) (len cap : Nat) (zs : List Int) : Prop :=
  (a = none ∧ len = 0 ∧ cap = 0 ∧ zs = []) ∨
  ∃ x, a = some x ∧ len ≤ cap ∧ cap ≤ maxLen ∧ zs.length = cap ∧ (∀ i, i < zs.length → w.cell? (x.add i) = some (.int k (zs.getD i 0))) ∧ ∀ n ∈ zs, (Lit.int k n).wf = true

theorem row_bytes {w : World} {a : Option Addr} {len cap : Nat} {zs : List Int} (h : IsRow .u8 w a len cap zs) :
    ∃ xs : List Nat, xs.length = len ∧ (∀ x ∈ xs, x < 256) ∧ Byt (· < w.heap.size) w a xs ∧ len ≤ cap ∧ cap ≤ maxLen := by
  rcases h with ⟨rfl, rfl, rfl, rfl⟩ | ⟨x, rfl, hl, hm, hz, hc, hw⟩
  · exact ⟨[], rfl, by simp, Byt.nil _ _ _, Nat.le_refl _, by simp [maxLen]⟩
  · refine ⟨(zs.take len).map Int.toNat, by simp; omega, fun y hy => ?_, fun hpos => ⟨x, rfl, ?_, fun j hj => ?_⟩, hl, hm⟩
    · obtain ⟨z, hz', rfl⟩ := List.mem_map.1 hy
      have := bounds_u8 (hw z (List.mem_of_mem_take hz'))
      omega
    · have h0 : 0 < zs.length := by simp at hpos; omega
      have := World.block_lt_of_cell? w _ (hc 0 h0)
      rwa [addBlock] at this
    · have hj' : j < len := by simp at hj; omega
      have hjz : j < zs.length := by omega
      rw [hc j hjz]
      have hb := bounds_u8 (hw zs[j] (List.getElem_mem hjz))
      simp [hj', hjz, List.getD]
      omega
theorem own_some {w : World} {base : Nat} {A : Option Addr} {n c k : Nat} {xs : List Value} (h : w.ownsRow base 5 1 (.slice A n c) n xs) (hk : k < n) : ∃ g, A = some ⟨g, 0, none⟩ := by
  rcases h.2 with ⟨_, h0⟩ | ⟨g, cap, cur, e, _⟩
  · omega
  · injection e with e
    exact ⟨g, e⟩
theorem grown_trans {row : Option Nat} {a b c : World} (h : a.grownBy b row) (k : b.grownBy c row) : a.grownBy c row :=
  ⟨k.os.trans h.os, k.tape.trans h.tape, k.output.trans h.output, Nat.le_trans h.size k.size, fun i hi hne => (k.block i (Nat.lt_of_lt_of_le hi h.size) hne).trans (h.block i hi hne)⟩
theorem Bs_set (ys : List Nat) (k : Nat) (z : Int) (y : Nat) (h : z = (y : Int)) : (Bs ys).set k (.int .u8 z) = Bs (ys.set k y) := by
  subst h
  simp [Bs, List.map_set]
end Go.Proofs.Ytlfcglolehmmiaa
namespace Go.Proofs.Ytlfcglolehmmiaa
open Go.ChangeShapes Go.WideShapes Go.ChangeAt Go.RowKit

theorem own : ownKnob Try.prog.godebug = none := by kernel_rfl
theorem laidOut : laidOutB Try.prog = true := by kernel_rfl

/-- A slice of bytes, by its cells. -/
theorem open_byts {H : Type} {enc : TypeId × Value → H} {W : World} {cs : List Value} {x : DataW H × List MemPlace} {fuel : Nat} (hf : DataW.trod enc Try.prog W 0 (fun _ => true) true fuel 62 cs = some x) :
    ∃ a len cap, cs = [.slice a len cap] ∧ ∃ xs : List Nat, xs.length = len ∧ (∀ y ∈ xs, y < 256) ∧ Byt (· < W.heap.size) W a xs ∧ len ≤ cap ∧ cap ≤ maxLen := by
  rcases open_ints Try.underlying62 Try.underlying5 (by kernel_rfl) hf with ⟨hcs, _⟩ | ⟨y, l, c, zs, hcs, _, hl, hm, hz, _, hcell, hwz⟩
  · exact ⟨none, 0, 0, hcs, [], rfl, by simp, Byt.nil _ _ _, Nat.le_refl _, by simp [maxLen]⟩
  · obtain ⟨xs, h1, h2, h3, h4, h5⟩ := row_bytes (w := W) (a := some y) (len := l) (cap := c) (zs := zs) (.inr ⟨_, rfl, hl, hm, by simpa using hz, hcell, hwz⟩)
    exact ⟨some y, l, c, hcs, xs, h1, h2, h3, h4, h5⟩

theorem open_byt {H : Type} {enc : TypeId × Value → H} {W : World} {a : Option Addr} {len cap : Nat} {d : DataW H} {p : List MemPlace} (h : DataW.Trod enc Try.prog W 0 (fun _ => true) true 62 (.slice a len cap) d p) :
    ∃ xs : List Nat, xs.length = len ∧ (∀ y ∈ xs, y < 256) ∧ Byt (· < W.heap.size) W a xs ∧ len ≤ cap ∧ cap ≤ maxLen := by
  obtain ⟨fuel, hf⟩ := h
  obtain ⟨a', l', c', hcs, hx⟩ := open_byts hf
  simp [Value.cells] at hcs
  obtain ⟨rfl, rfl, rfl⟩ := hcs
  exact hx
end Go.Proofs.Ytlfcglolehmmiaa
namespace Go.Proofs.Ytlfcglolehmmiaa

/-- A number by seven bits a byte, the lowest first, each but the last with 128 more. -/
def vb (v : Nat) : List Nat := if v < 128 then [v] else (v % 128 + 128) :: vb (v / 128)
termination_by v
decreasing_by omega

theorem vb_small (v : Nat) (h : v < 128) : vb v = [v] := by rw [vb, if_pos h]
theorem vb_big (v : Nat) (h : ¬ v < 128) : vb v = (v % 128 + 128) :: vb (v / 128) := by rw [vb, if_neg h]

theorem vb_pos (v : Nat) : 0 < (vb v).length := by
  by_cases h : v < 128
  · rw [vb_small v h]; simp
  · rw [vb_big v h]; simp

theorem vb_bytes (v : Nat) : ∀ x ∈ vb v, x < 256 := by
  induction v using Nat.strongRecOn with
  | _ v ih =>
    by_cases h : v < 128
    · rw [vb_small v h]; intro x hx; simp at hx; omega
    · rw [vb_big v h]
      intro x hx
      rcases List.mem_cons.1 hx with rfl | hx
      · omega
      · exact ih (v / 128) (by omega) x hx

theorem vb_len (k : Nat) : ∀ v, v < 128 ^ (k + 1) → (vb v).length ≤ k + 1 := by
  induction k with
  | zero => intro v hv; rw [vb_small v (by simpa using hv)]; simp
  | succ k ih =>
    intro v hv
    by_cases h : v < 128
    · rw [vb_small v h]; simp
    · rw [vb_big v h, List.length_cons]
      have : v / 128 < 128 ^ (k + 1) := Nat.div_lt_of_lt_mul (by rw [Nat.pow_succ] at hv; omega)
      have := ih _ this
      omega

/-- What a row of such bytes comes to. -/
def sv : List Nat → Nat
  | [] => 0
  | x :: r => x % 128 + 128 * sv r

theorem sv_vb (v : Nat) : sv (vb v) = v := by
  induction v using Nat.strongRecOn with
  | _ v ih =>
    by_cases h : v < 128
    · rw [vb_small v h]; simp [sv]; omega
    · rw [vb_big v h, sv, ih (v / 128) (by omega)]; omega

/-- each but the last: 128 or more. -/
theorem vb_init (v : Nat) : ∀ j, j + 1 < (vb v).length → 128 ≤ (vb v)[j]?.getD 0 := by
  induction v using Nat.strongRecOn with
  | _ v ih =>
    intro j hj
    by_cases h : v < 128
    · rw [vb_small v h] at hj; simp at hj
    · rw [vb_big v h] at hj ⊢
      cases j with
      | zero => simp
      | succ j => simp at hj ⊢; exact ih (v / 128) (by omega) j (by omega)

/-- the last: below 128, and not 0 unless it is the only one. -/
theorem vb_last (v : Nat) : ∀ j, j + 1 = (vb v).length → (vb v)[j]?.getD 0 < 128 ∧ ((vb v)[j]?.getD 0 = 0 → j = 0) := by
  induction v using Nat.strongRecOn with
  | _ v ih =>
    intro j hj
    by_cases h : v < 128
    · rw [vb_small v h] at hj ⊢
      have : j = 0 := by simpa using hj
      subst this
      simp; omega
    · rw [vb_big v h] at hj ⊢
      have hp := vb_pos (v / 128)
      cases j with
      | zero => simp at hj; rw [hj] at hp; simp at hp
      | succ j =>
        simp at hj ⊢
        obtain ⟨h1, h2⟩ := ih (v / 128) (by omega) j (by omega)
        refine ⟨h1, fun h0 => ?_⟩
        have := h2 h0
        subst this
        -- one byte, and it is 0: v / 128 = 0
        have e := sv_vb (v / 128)
        obtain ⟨y, hy⟩ := List.length_eq_one_iff.1 (show (vb (v / 128)).length = 1 by omega)
        rw [hy] at e h0
        simp [sv] at e h0
        omega

/-- the tenth, of a number of 64 bits: at most 1. -/
theorem vb_nth (k : Nat) : ∀ v, (vb v).length = k + 1 → (vb v)[k]?.getD 0 = v / 128 ^ k := by
  induction k with
  | zero =>
    intro v hl
    by_cases h : v < 128
    · rw [vb_small v h]; simp
    · rw [vb_big v h] at hl; simp at hl; have := vb_pos (v / 128); rw [hl] at this; simp at this
  | succ k ih =>
    intro v hl
    by_cases h : v < 128
    · rw [vb_small v h] at hl; simp at hl
    · rw [vb_big v h] at hl ⊢
      simp at hl ⊢
      rw [ih _ hl, Nat.div_div_eq_div_mul, Nat.pow_succ, Nat.mul_comm]

theorem vb_back (xs : List Nat) (y : Nat) (hy : y < 128) (h : ∀ x ∈ xs, 128 ≤ x ∧ x < 256) (h0 : y = 0 → xs = []) : vb (sv (xs ++ [y])) = xs ++ [y] := by
  induction xs with
  | nil => simp [sv]; rw [Nat.mod_eq_of_lt hy]; exact vb_small y hy
  | cons x xs ih =>
    have hx := h x (by simp)
    have hpos : 0 < sv (xs ++ [y]) := by
      rcases Nat.eq_zero_or_pos (sv (xs ++ [y])) with e | e
      · exfalso
        by_cases hz : y = 0
        · have := h0 hz; simp at this
        · have ih' := ih (fun z hz => h z (by simp [hz])) (fun e => absurd e hz)
          rw [e, vb_small 0 (by omega)] at ih'
          cases xs with
          | nil => simp at ih'; omega
          | cons a b => simp at ih'
      · exact e
    have ih' := ih (fun z hz => h z (by simp [hz])) (fun e => by have := h0 e; simp at this)
    simp only [List.cons_append, sv]
    rw [vb_big _ (by omega)]
    have e1 : (x % 128 + 128 * sv (xs ++ [y])) % 128 + 128 = x := by omega
    have e2 : (x % 128 + 128 * sv (xs ++ [y])) / 128 = sv (xs ++ [y]) := by omega
    rw [e1, e2, ih']

theorem sv_lt (xs : List Nat) : sv xs < 128 ^ xs.length := by
  induction xs with
  | nil => simp [sv]
  | cons x xs ih => simp only [sv, List.length_cons, Nat.pow_succ]; omega
theorem sv_snoc (xs : List Nat) (y : Nat) : sv (xs ++ [y]) = sv xs + y % 128 * 128 ^ xs.length := by
  induction xs with
  | nil => simp [sv]
  | cons x xs ih =>
    simp only [List.cons_append, sv, ih, List.length_cons, Nat.pow_succ, Nat.mul_add, Nat.add_assoc]
    congr 2
    rw [Nat.mul_comm 128, Nat.mul_assoc]

/-- 2^64, behind a name. -/
def B64 : Nat := 18446744073709551616

/-- The bytes xs begin with the n bytes of the number v. -/
def IsVar (xs : List Nat) (v n : Nat) : Prop := n ≤ xs.length ∧ xs.take n = vb v ∧ v < B64

theorem take_get (xs : List Nat) (n j : Nat) (h : j < n) : (xs.take n)[j]?.getD 0 = xs[j]?.getD 0 := by rw [List.getElem?_take_of_lt h]

theorem IsVar.len {xs : List Nat} {v n : Nat} (h : IsVar xs v n) : n = (vb v).length := by
  rw [← h.2.1, List.length_take]; have := h.1; omega
theorem IsVar.pos {xs : List Nat} {v n : Nat} (h : IsVar xs v n) : 0 < n := by rw [h.len]; exact vb_pos v
theorem IsVar.le10 {xs : List Nat} {v n : Nat} (h : IsVar xs v n) : n ≤ 10 := by
  rw [h.len]; exact vb_len 9 v (by have := h.2.2; unfold B64 at this; omega)
theorem IsVar.init {xs : List Nat} {v n : Nat} (h : IsVar xs v n) (j : Nat) (hj : j + 1 < n) : 128 ≤ xs[j]?.getD 0 := by
  rw [← take_get xs n j (by omega), h.2.1]; exact vb_init v j (by rw [← h.len]; exact hj)
theorem IsVar.last {xs : List Nat} {v n : Nat} (h : IsVar xs v n) (j : Nat) (hj : j + 1 = n) : xs[j]?.getD 0 < 128 ∧ (xs[j]?.getD 0 = 0 → j = 0) := by
  rw [← take_get xs n j (by omega), h.2.1]; exact vb_last v j (by rw [← h.len]; exact hj)
theorem IsVar.tenth {xs : List Nat} {v : Nat} (h : IsVar xs v 10) : xs[9]?.getD 0 ≤ 1 := by
  rw [← take_get xs 10 9 (by omega), h.2.1, vb_nth 9 v h.len.symm]
  have := h.2.2
  unfold B64 at this
  omega

/-- All of the first i bytes go on. -/
def More (xs : List Nat) (i : Nat) : Prop := i ≤ xs.length ∧ ∀ j, j < i → 128 ≤ xs[j]?.getD 0

theorem More.zero (xs : List Nat) : More xs 0 := ⟨Nat.zero_le _, fun j hj => absurd hj (by omega)⟩
theorem More.succ {xs : List Nat} {i : Nat} (h : More xs i) (hi : i < xs.length) (hx : 128 ≤ xs[i]?.getD 0) : More xs (i + 1) :=
  ⟨hi, fun j hj => by rcases Nat.lt_or_ge j i with hji | hji; exact h.2 j hji; obtain rfl : j = i := by omega
                      exact hx⟩
theorem More.past {xs : List Nat} {i v n : Nat} (h : More xs i) (hv : IsVar xs v n) : i < n := by
  rcases Nat.lt_or_ge i n with h1 | h1
  · exact h1
  · have hp := hv.pos
    have := h.2 (n - 1) (by omega)
    have := (hv.last (n - 1) (by omega)).1
    omega
theorem no_end {xs : List Nat} {i : Nat} (h : More xs i) (hi : i = xs.length ∨ 10 ≤ i) : ¬ ∃ v n, IsVar xs v n := by
  rintro ⟨v, n, hv⟩
  have h1 := h.past hv
  have h2 := hv.1
  have h3 := hv.le10
  omega
theorem no_tenth {xs : List Nat} (h : More xs 9) (hx : 1 < xs[9]?.getD 0) : ¬ ∃ v n, IsVar xs v n := by
  rintro ⟨v, n, hv⟩
  have h1 := h.past hv
  have h3 := hv.le10
  obtain rfl : n = 10 := by omega
  have := hv.tenth
  omega
theorem no_zero {xs : List Nat} {i : Nat} (h : More xs i) (hi : 0 < i) (hx : xs[i]?.getD 0 = 0) : ¬ ∃ v n, IsVar xs v n := by
  rintro ⟨v, n, hv⟩
  have h1 := h.past hv
  rcases Nat.lt_or_ge (i + 1) n with h2 | h2
  · have := hv.init i h2
    omega
  · have := (hv.last i (by omega)).2 hx
    omega
theorem take_succ_get (xs : List Nat) (i : Nat) (hi : i < xs.length) : xs.take (i + 1) = xs.take i ++ [xs[i]?.getD 0] := by
  rw [List.take_succ_eq_append_getElem hi]; simp [hi]
theorem sv_take (xs : List Nat) (i : Nat) (hi : i < xs.length) : sv (xs.take (i + 1)) = sv (xs.take i) + xs[i]?.getD 0 % 128 * 128 ^ i := by
  rw [take_succ_get xs i hi, sv_snoc, List.length_take, Nat.min_eq_left (by omega)]
theorem take_lt (xs : List Nat) (i : Nat) (hi : i ≤ xs.length) : sv (xs.take i) < 128 ^ i := by
  have := sv_lt (xs.take i)
  rwa [List.length_take, Nat.min_eq_left hi] at this
theorem pow128 (i : Nat) (hi : i ≤ 9) : 128 ^ i ≤ 9223372036854775808 := by
  have : 128 ^ i ≤ 128 ^ 9 := Nat.pow_le_pow_right (by omega) hi
  simpa using this
theorem yes_var {xs : List Nat} {i : Nat} (hb : ∀ x ∈ xs, x < 256) (h : More xs i) (hi : i < xs.length) (hi9 : i ≤ 9) (hx : xs[i]?.getD 0 < 128) (h0 : ¬ (xs[i]?.getD 0 = 0 ∧ 0 < i)) (h9 : i = 9 → xs[i]?.getD 0 ≤ 1) :
    IsVar xs (sv (xs.take (i + 1))) (i + 1) := by
  refine ⟨hi, ?_, ?_⟩
  · rw [take_succ_get xs i hi]
    refine (vb_back _ _ hx (fun x hx' => ?_) (fun e => ?_)).symm
    · obtain ⟨j, hj, rfl⟩ := List.mem_iff_getElem.1 hx'
      have hj' : j < i := by simp at hj; omega
      have := h.2 j hj'
      rw [List.getElem_take]
      simp [show j < xs.length by omega] at this
      exact ⟨this, hb _ (List.getElem_mem _)⟩
    · have : i = 0 := by
        rcases Nat.eq_zero_or_pos i with h | h
        · exact h
        · exact absurd ⟨e, h⟩ h0
      subst this
      simp
  · rw [sv_take xs i hi, Nat.mod_eq_of_lt hx]
    have h1 := take_lt xs i h.1
    unfold B64
    rcases Nat.lt_or_ge i 9 with h2 | h2
    · have h3 : 128 ^ (i + 1) ≤ 9223372036854775808 := pow128 (i + 1) (by omega)
      have h4 : xs[i]?.getD 0 * 128 ^ i ≤ 127 * 128 ^ i := Nat.mul_le_mul_right _ (by omega)
      rw [Nat.pow_succ] at h3
      omega
    · obtain rfl : i = 9 := by omega
      have := h9 rfl
      have h4 : xs[9]?.getD 0 * 128 ^ 9 ≤ 1 * 128 ^ 9 := Nat.mul_le_mul_right _ this
      have h5 : (128 : Nat) ^ 9 = 9223372036854775808 := by decide
      omega
theorem isVar_unique {xs : List Nat} {v n v' n' : Nat} (h : IsVar xs v n) (h' : IsVar xs v' n') : v = v' ∧ n = n' := by
  have hn : n = n' := by
    have p1 := h.pos
    have p2 := h'.pos
    rcases Nat.lt_trichotomy n n' with e | e | e
    · have := h'.init (n - 1) (by omega)
      have := (h.last (n - 1) (by omega)).1
      omega
    · exact e
    · have := h.init (n' - 1) (by omega)
      have := (h'.last (n' - 1) (by omega)).1
      omega
  subst hn
  refine ⟨?_, rfl⟩
  rw [← sv_vb v, ← sv_vb v', ← h.2.1, ← h'.2.1]
theorem isVar_app (v : Nat) (hv : v < B64) (r : List Nat) : IsVar (vb v ++ r) v (vb v).length := ⟨by simp, by simp, hv⟩
end Go.Proofs.Ytlfcglolehmmiaa
namespace Go.Proofs.Ytlfcglolehmmiaa

/-- How many of A and B an instruction has. -/
def argN (op : Int) : Int :=
  if op = 29 ∨ op = 30 then 2
  else if op = 0 ∨ op = 1 ∨ op = 3 ∨ op = 4 ∨ op = 23 ∨ op = 24 ∨ op = 25 ∨ op = 27 ∨ op = 28 then 1
  else if op < 0 ∨ 42 ≤ op then -1 else 0

theorem argN_cases (op : Int) : argN op = -1 ∨ argN op = 0 ∨ argN op = 1 ∨ argN op = 2 := by
  unfold argN
  repeat' split
  all_goals simp

theorem argN_op (op : Int) (h : 0 ≤ argN op) : 0 ≤ op ∧ op < 42 := by
  unfold argN at h
  repeat' split at h
  all_goals omega

/-- The numbers fit: those that it has are from 0 to 255, others are 0. -/
def fitN (n a b : Int) : Bool := decide (0 ≤ a ∧ a ≤ (if 0 < n then 255 else 0) ∧ 0 ≤ b ∧ b ≤ (if 1 < n then 255 else 0))
/-- A good instruction. -/
def goodI (op a b : Int) : Bool := decide (0 ≤ argN op) && fitN (argN op) a b

/-- The bytes of what it has. -/
def bodyB (n : Int) (a b : Nat) : List Nat := (if 0 < n then vb a else []) ++ (if 1 < n then vb b else [])
/-- The bytes of an instruction; none, if it is not good. -/
def insB (op a b : Int) : List Nat := if goodI op a b = true then op.toNat :: bodyB (argN op) a.toNat b.toNat else []

theorem goodI_parts {op a b : Int} (h : goodI op a b = true) : ∃ o x y : Nat, op = (o : Int) ∧ a = (x : Int) ∧ b = (y : Int) ∧ o < 42 ∧ x ≤ 255 ∧ y ≤ 255 ∧ 0 ≤ argN op ∧ (¬ 0 < argN op → x = 0) ∧ (¬ 1 < argN op → y = 0) := by
  unfold goodI fitN at h
  simp only [Bool.and_eq_true, decide_eq_true_eq] at h
  obtain ⟨h0, h1, h2, h3, h4⟩ := h
  have := argN_op op h0
  refine ⟨op.toNat, a.toNat, b.toNat, by omega, by omega, by omega, by omega, ?_, ?_, h0, fun hn => ?_, fun hn => ?_⟩
  · split at h2 <;> omega
  · split at h4 <;> omega
  · rw [if_neg hn] at h2; omega
  · rw [if_neg hn] at h4; omega

theorem goodI_mk {o x y : Nat} (h0 : 0 ≤ argN o) (hx : x ≤ 255) (hy : y ≤ 255) (h1 : ¬ 0 < argN o → x = 0) (h2 : ¬ 1 < argN o → y = 0) : goodI o x y = true := by
  unfold goodI fitN
  simp only [Bool.and_eq_true, decide_eq_true_eq]
  refine ⟨h0, by omega, ?_, by omega, ?_⟩
  · split
    · omega
    · rename_i h; have := h1 h; omega
  · split
    · omega
    · rename_i h; have := h2 h; omega

theorem insB_good {o x y : Nat} (h : goodI o x y = true) : insB o x y = o :: bodyB (argN o) x y := by
  unfold insB
  rw [if_pos h]
  simp
theorem insB_none {op a b : Int} (h : ¬ goodI op a b = true) : insB op a b = [] := by
  unfold insB
  rw [if_neg h]

theorem vb255 (x : Nat) (h : x ≤ 255) : (vb x).length ≤ 2 := vb_len 1 x (by omega)
theorem bodyB_len (n : Int) (x y : Nat) (hx : x ≤ 255) (hy : y ≤ 255) : (bodyB n x y).length ≤ 4 := by
  have h1 := vb255 x hx
  have h2 := vb255 y hy
  unfold bodyB
  split <;> split <;> simp <;> omega
theorem insB_len (op a b : Int) : (insB op a b).length ≤ 5 := by
  by_cases h : goodI op a b = true
  · obtain ⟨o, x, y, rfl, rfl, rfl, _, hx, hy, _⟩ := goodI_parts h
    rw [insB_good h]
    have := bodyB_len (argN o) x y hx hy
    simp
    omega
  · rw [insB_none h]; simp
theorem bodyB_bytes (n : Int) (x y : Nat) : ∀ z ∈ bodyB n x y, z < 256 := by
  intro z hz
  unfold bodyB at hz
  rcases List.mem_append.1 hz with h | h
  · split at h
    · exact vb_bytes x z h
    · simp at h
  · split at h
    · exact vb_bytes y z h
    · simp at h
theorem insB_bytes (op a b : Int) : ∀ z ∈ insB op a b, z < 256 := by
  by_cases h : goodI op a b = true
  · obtain ⟨o, x, y, rfl, rfl, rfl, ho, hx, hy, _⟩ := goodI_parts h
    rw [insB_good h]
    intro z hz
    rcases List.mem_cons.1 hz with rfl | hz
    · omega
    · exact bodyB_bytes _ _ _ z hz
  · rw [insB_none h]; simp
theorem insB_pos {op a b : Int} (h : goodI op a b = true) : 0 < (insB op a b).length := by
  obtain ⟨o, x, y, rfl, rfl, rfl, ho, hx, hy, _⟩ := goodI_parts h
  rw [insB_good h]
  simp

/-- The bytes begin with a good instruction. -/
def HasI (xs : List Nat) : Prop := ∃ (o x y : Nat) (rest : List Nat), goodI o x y = true ∧ xs = insB o x y ++ rest
theorem hasI_nil : ¬ HasI [] := by
  rintro ⟨o, x, y, rest, h, e⟩
  have := insB_pos h
  have hl := congrArg List.length e
  simp at hl
  omega

/-- Where a number stands. -/
theorem isVar_split {xs : List Nat} {v n : Nat} (h : IsVar xs v n) : xs = vb v ++ xs.drop n := by
  rw [← h.2.1, List.take_append_drop]
theorem isVar_of {xs rest : List Nat} {v : Nat} (h : xs = vb v ++ rest) (hv : v < B64) : IsVar xs v (vb v).length := by
  subst h
  exact isVar_app v hv rest
end Go.Proofs.Ytlfcglolehmmiaa
namespace Go.Proofs.Ytlfcglolehmmiaa

theorem vb_unique {v u : Nat} (hv : v < B64) (hu : u < B64) {r s : List Nat} (h : vb v ++ r = vb u ++ s) : v = u ∧ r = s := by
  obtain ⟨e, _⟩ := isVar_unique (isVar_app v hv r) (isVar_of h hu)
  subst e
  exact ⟨rfl, List.append_cancel_left h⟩

theorem ins_unique {o x y o' x' y' : Nat} {r s : List Nat} (h : goodI o x y = true) (h' : goodI o' x' y' = true) (e : insB o x y ++ r = insB o' x' y' ++ s) : o = o' ∧ x = x' ∧ y = y' ∧ r = s := by
  rw [insB_good h, insB_good h', List.cons_append, List.cons_append] at e
  injection e with e1 e2
  subst e1
  obtain ⟨_, a, b, q1, q2, q3, _, hx, hy, h0, hx1, hy1⟩ := goodI_parts h
  obtain ⟨_, a', b', q1', q2', q3', _, hx', hy', _, hx1', hy1'⟩ := goodI_parts h'
  obtain rfl : x = a := by omega
  obtain rfl : y = b := by omega
  obtain rfl : x' = a' := by omega
  obtain rfl : y' = b' := by omega
  have k : x < B64 ∧ y < B64 ∧ x' < B64 ∧ y' < B64 := by unfold B64; omega
  rcases argN_cases o with hn | hn | hn | hn
  · omega
  · have := hx1 (by omega)
    have := hx1' (by omega)
    have := hy1 (by omega)
    have := hy1' (by omega)
    rw [hn] at e2
    simp [bodyB] at e2
    exact ⟨rfl, by omega, by omega, e2⟩
  · have := hy1 (by omega)
    have := hy1' (by omega)
    rw [hn] at e2
    simp [bodyB] at e2
    obtain ⟨a, b⟩ := vb_unique k.1 k.2.2.1 e2
    exact ⟨rfl, a, by omega, b⟩
  · rw [hn] at e2
    simp [bodyB] at e2
    obtain ⟨a, b⟩ := vb_unique k.1 k.2.2.1 e2
    obtain ⟨c, d⟩ := vb_unique k.2.1 k.2.2.2 b
    exact ⟨rfl, a, c, d⟩

theorem no_cut {o x y k : Nat} (h : goodI o x y = true) (hk : k < (insB o x y).length) : ¬ HasI ((insB o x y).take k) := by
  rintro ⟨o', x', y', rest, h', e⟩
  have e2 : insB o x y ++ [] = insB o' x' y' ++ (rest ++ (insB o x y).drop k) := by
    rw [List.append_nil, ← List.append_assoc, ← e, List.take_append_drop]
  obtain ⟨_, _, _, e3⟩ := ins_unique h h' e2
  have := congrArg List.length e3
  simp at this
  omega
end Go.Proofs.Ytlfcglolehmmiaa
