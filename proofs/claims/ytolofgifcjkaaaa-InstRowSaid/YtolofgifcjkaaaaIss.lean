/-
  Words on slices of instructions: those that came in, those that the call owns, and what appending one to these does.
  Conditions: as each theorem says.
-/
import Derived.Test.YtolofgifcjkaaaaWds
namespace Go.Proofs.Ytolofgifcjkaaaa
open Go.RowKit

/-- An instruction: Op, A, B. -/
abbrev Ins := Int × Int × Int
/-- Its cells. -/
def i3 (t : Ins) : List Value := [.int .i64 t.1, .int .i64 t.2.1, .int .i64 t.2.2]
/-- The cells of some. -/
def I3 : List Ins → List Value
  | [] => []
  | t :: ts => i3 t ++ I3 ts
theorem I3_app (ts us : List Ins) : I3 (ts ++ us) = I3 ts ++ I3 us := by
  induction ts with
  | nil => rfl
  | cons t ts ih => simp [I3, ih]
theorem I3_length (ts : List Ins) : (I3 ts).length = ts.length * 3 := by
  induction ts with
  | nil => rfl
  | cons t ts ih => simp [I3, i3, ih]; omega
theorem I3_get (ts : List Ins) (j i : Nat) (hj : j < ts.length) (hi : i < 3) : (I3 ts)[j * 3 + i]? = (i3 (ts[j]?.getD (0, 0, 0)))[i]? := by
  induction ts generalizing j with
  | nil => simp at hj
  | cons t ts ih =>
    cases j with
    | zero =>
      have : i < (i3 t).length := by simp [i3]; exact hi
      simp [I3, List.getElem?_append_left this]
    | succ j =>
      have hl : (i3 t).length = 3 := rfl
      rw [I3, List.getElem?_append_right (by rw [hl]; omega), hl, show (j + 1) * 3 + i - 3 = j * 3 + i by omega, ih j (by simpa using hj)]
      simp

/-- A slice with the address A holds the instructions ts, in a block of which S says yes. -/
def Iss (S : Nat → Prop) (w : World) (A : Option Addr) (ts : List Ins) : Prop :=
  0 < ts.length → ∃ a, A = some a ∧ S a.block ∧ ∀ j, j < ts.length →
    w.cell? (a.add (j * 3)) = some (.int .i64 (ts[j]?.getD (0, 0, 0)).1) ∧ w.cell? (a.add (j * 3 + 1)) = some (.int .i64 (ts[j]?.getD (0, 0, 0)).2.1) ∧ w.cell? (a.add (j * 3 + 2)) = some (.int .i64 (ts[j]?.getD (0, 0, 0)).2.2)
theorem Iss.nil (S : Nat → Prop) (w : World) (A : Option Addr) : Iss S w A [] := fun h => absurd h (by simp)
theorem Iss.keep {S : Nat → Prop} {w w' : World} {A : Option Addr} {ts : List Ins} (h : Iss S w A ts) (hk : ∀ b, S b → w'.heap[b]? = w.heap[b]?) : Iss S w' A ts := fun hn => by
  obtain ⟨a, e, hs, hc⟩ := h hn
  refine ⟨a, e, hs, fun j hj => ?_⟩
  obtain ⟨h0, h1, h2⟩ := hc j hj
  exact ⟨(World.cell?_of_block (hk _ (by rw [addBlock]; exact hs))).trans h0, (World.cell?_of_block (hk _ (by rw [addBlock]; exact hs))).trans h1, (World.cell?_of_block (hk _ (by rw [addBlock]; exact hs))).trans h2⟩
theorem Iss.wide {S T : Nat → Prop} {w : World} {A : Option Addr} {ts : List Ins} (h : Iss S w A ts) (hk : ∀ b, S b → T b) : Iss T w A ts := fun hn => by
  obtain ⟨a, e, hs, hc⟩ := h hn
  exact ⟨a, e, hk _ hs, hc⟩
theorem Iss.below {B B' : Nat} {w w' : World} {A : Option Addr} {ts : List Ins} (h : Iss (· < B) w A ts) (hb : Below B' w w') (hB : B ≤ B') : Iss (· < B) w' A ts := h.keep fun b h1 => hb.block b (Nat.lt_of_lt_of_le h1 hB)
theorem Iss.at {S : Nat → Prop} {w : World} {A : Option Addr} {ts : List Ins} (h : Iss S w A ts) {k : Nat} (hk : k < ts.length) :
    ∃ a, A = some a ∧ S a.block ∧ w.cell? (a.add (k * 3)) = some (.int .i64 (ts[k]?.getD (0, 0, 0)).1) ∧ w.cell? (a.add (k * 3 + 1)) = some (.int .i64 (ts[k]?.getD (0, 0, 0)).2.1) ∧ w.cell? (a.add (k * 3 + 2)) = some (.int .i64 (ts[k]?.getD (0, 0, 0)).2.2) := by
  obtain ⟨a, e, hs, hc⟩ := h (by omega)
  exact ⟨a, e, hs, hc k hk⟩

/-- What the call owns is a slice that holds its instructions. -/
theorem own_ins {w : World} {base n : Nat} {v : Value} {ts : List Ins} (h : w.ownsRow base 23 3 v n (I3 ts)) :
    ∃ A c, v = .slice A n c ∧ n = ts.length ∧ n ≤ c ∧ c ≤ maxLen ∧ Iss (fun b => base ≤ b ∧ b < w.heap.size) w A ts := by
  have hn : n = ts.length := by have := h.1; rw [I3_length] at this; omega
  rcases h.2 with ⟨rfl, h0⟩ | ⟨g, cap, cur, rfl, hb, hg, hnc, hcm, _, _⟩
  · refine ⟨none, 0, by rw [h0], hn, by omega, by simp [maxLen], fun hpos => absurd hpos (by omega)⟩
  · refine ⟨some ⟨g, 0, none⟩, cap, rfl, hn, hnc, hcm, fun _ => ⟨⟨g, 0, none⟩, rfl, ⟨hb, (Array.getElem?_eq_some_iff.1 hg).1⟩, fun j hj => ⟨?_, ?_, ?_⟩⟩⟩
    · exact h.cells rfl (j * 3) _ (I3_get ts j 0 hj (by omega))
    · exact h.cells rfl (j * 3 + 1) _ (I3_get ts j 1 hj (by omega))
    · exact h.cells rfl (j * 3 + 2) _ (I3_get ts j 2 hj (by omega))

theorem own_ins_nil (w : World) (b : Nat) : w.ownsRow b 23 3 (.slice none 0 0) 0 (I3 []) := ⟨rfl, .inl ⟨rfl, rfl⟩⟩

theorem ins_info : (Try.prog.info? 23).map (fun i => (i.zero, i.size, i.bytes)) = some (some (.agg #[.int .i64 0, .int .i64 0, .int .i64 0]), 3, 24) := by kernel_rfl

/-- What appending one instruction does, at the builtin. -/
theorem run_append_ins (w : World) (base ty : Nat) (v : Value) (n : Nat) (ts : List Ins) (hown : w.ownsRow base 23 3 v n (I3 ts)) (ad : Addr) (d : Nat) (t : Ins)
    (h0 : w.cell? ad = some (.int .i64 t.1)) (h1 : w.cell? (ad.add 1) = some (.int .i64 t.2.1)) (h2 : w.cell? (ad.add 2) = some (.int .i64 t.2.2)) (hbig : n ≤ 1000000) (hbase : base ≤ w.heap.size) :
    ∃ v' w', (Builtin.append_ #[37, 37] ty #[v, .slice (some ad) 1 d]).run Try.prog w = .ok v' w' ∧ w'.ownsRow base 23 3 v' (n + 1) (I3 (ts ++ [t])) ∧ w.grownBy w' v.ownBlock ∧
      (v'.ownBlock = v.ownBlock ∨ v'.ownBlock = some w.heap.size) := by
  obtain ⟨i0, hi0, hz0, hz1, hz2⟩ := info_parts ins_info
  obtain ⟨v', w', hrun, h2, h3, _, h5⟩ := run_append_own_at (P := Try.prog) w base 37 ty 23 i0 (.agg #[.int .i64 0, .int .i64 0, .int .i64 0]) 3 24 Try.underlying37 hi0 hz0 hz1 hz2 rfl (by omega) v n (I3 ts) hown ad 1 d (i3 t) rfl
    (fun j u hu => by
      match j with
      | 0 => simp [i3] at hu; subst hu; simpa [Addr.add] using h0
      | 1 => simp [i3] at hu; subst hu; exact h1
      | 2 => simp [i3] at hu; subst hu; exact h2
      | j + 3 => simp [i3] at hu)
    (fun u hu => by simp [i3] at hu; rcases hu with rfl | rfl | rfl <;> rfl) (by simp only [maxLen]; omega) (by omega) hbase
  refine ⟨v', w', hrun, ?_, h3, h5⟩
  rw [I3_app]
  simpa [I3] using h2

theorem walk_append_ins (w : World) {ops : Array Oper} {rest : List Oper} {o : Oper} {a : Act} {Q : Exit → Act → World → Prop} (hgd : o.guard = none) (s x : Operand)
    (ho : o.op = .call { callee := .builtin .append, args := #[s, x], argTypes := #[37, 37] })
    (base : Nat) (v : Value) (n : Nat) (ts : List Ins) (hs : a.eval s = v) (hown : w.ownsRow base 23 3 v n (I3 ts)) (ad : Addr) (d : Nat) (t : Ins) (hx : a.eval x = .slice (some ad) 1 d)
    (h0 : w.cell? ad = some (.int .i64 t.1)) (h1 : w.cell? (ad.add 1) = some (.int .i64 t.2.1)) (h2 : w.cell? (ad.add 2) = some (.int .i64 t.2.2)) (hbig : n ≤ 1000000) (hbase : base ≤ w.heap.size)
    (h : ∀ v' w', w'.ownsRow base 23 3 v' (n + 1) (I3 (ts ++ [t])) → w.grownBy w' v.ownBlock → (v'.ownBlock = v.ownBlock ∨ v'.ownBlock = some w.heap.size) → wpList Try.prog ops Q rest (a.put o.dst v') w') :
    wpList Try.prog ops Q (o :: rest) a w := by
  refine wpList_plain hgd fun _ hK => ?_
  obtain ⟨v', w', hrun, h2, h3, h4⟩ := run_append_ins w base o.type v n ts hown ad d t h0 h1 h2 hbig hbase
  unfold Oper.wp execOp
  simp only [ho, resolve, invoke, builtin, Sem.run_bind, Sem.run_pure, Result.andThen_ok, List.map_toArray, List.map_cons, List.map_nil, hs, hx, hrun]
  exact hK _ _ (h v' w' h2 h3 h4)
end Go.Proofs.Ytolofgifcjkaaaa
