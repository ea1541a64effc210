/-
  What appending bytes to a slice of the call's own does, as one step of a statement whose order is drawn.
  Conditions: as the theorem says.
-/
import Derived.Test.YtdadaklkaehmjaaWds
import Derived.Deep.RegionLaw
namespace Go.Proofs.Ytdadaklkaehmjaa
open Go.RowKit

theorem step_append (w : World) {ops : Array Oper} {o : Oper} {a : Act} {K : Act → World → Prop} {Q : Exit → Act → World → Prop} {E : Prop} (hgd : o.guard = none) (s x : Operand)
    (ho : o.op = .call { callee := .builtin .append, args := #[s, x], argTypes := #[26, 26] })
    (base : Nat) (v : Value) (n : Nat) (xs : List Nat) (hs : a.eval s = v) (hown : w.ownsRow base 5 1 v n (Bs xs)) (A : Option Addr) (m c : Nat) (ys : List Nat) (hx : a.eval x = .slice A m c) (hm : ys.length = m)
    (S : Nat → Prop) (hy : Byt S w A ys) (hbig : n + m ≤ 140737488355328) (hbase : base ≤ w.heap.size)
    (h : ∀ v' w', w'.ownsRow base 5 1 v' (n + m) (Bs (xs ++ ys)) → w.grownBy w' v.ownBlock → (v'.ownBlock = v.ownBlock ∨ v'.ownBlock = some w.heap.size) → K (a.put o.dst v') w') :
    if Region.wanted o (yielded ops a.tmps) = true then Oper.wp Try.prog o a w K Q else E := by
  have hw : Region.wanted o (yielded ops a.tmps) = true := by simp [Region.wanted, hgd]
  rw [if_pos hw]
  obtain ⟨v', w', hrun, h2, h3, h4⟩ := run_append_bytes w base o.type v n xs hown A m c ys hm S hy hbig hbase
  unfold Oper.wp execOp
  simp only [ho, resolve, invoke, builtin, Sem.run_bind, Sem.run_pure, Result.andThen_ok, List.map_toArray, List.map_cons, List.map_nil, hs, hx, hrun]
  exact h v' w' h2 h3 h4

/-- A guard: the operation is an append of just these operands (to be tried with_reducible: it fails at once where it does not fit). -/
theorem step_is (s x : Operand) (t : TypeId) {d : Option Tmp} {ty : TypeId} {p : String} {af : Array Edge} {g : Option (Nat × Bool)} {y : Nat → Option Bool} {inst : Decidable (Region.wanted ⟨d, .call ⟨.builtin .append, #[s, x], #[t, t]⟩, ty, p, af, g⟩ y = true)} {W E : Prop}
    (h : @ite Prop (Region.wanted ⟨d, .call ⟨.builtin .append, #[s, x], #[t, t]⟩, ty, p, af, g⟩ y = true) inst W E) : @ite Prop (Region.wanted ⟨d, .call ⟨.builtin .append, #[s, x], #[t, t]⟩, ty, p, af, g⟩ y = true) inst W E := h
/-- The same for a call of a Go function. -/
theorem step_call (f : Nat) {d : Option Tmp} {ar : Array Operand} {at' : Array TypeId} {ty : TypeId} {p : String} {af : Array Edge} {g : Option (Nat × Bool)} {y : Nat → Option Bool} {inst : Decidable (Region.wanted ⟨d, .call ⟨.value (.func f), ar, at'⟩, ty, p, af, g⟩ y = true)} {W E : Prop}
    (h : @ite Prop (Region.wanted ⟨d, .call ⟨.value (.func f), ar, at'⟩, ty, p, af, g⟩ y = true) inst W E) : @ite Prop (Region.wanted ⟨d, .call ⟨.value (.func f), ar, at'⟩, ty, p, af, g⟩ y = true) inst W E := h
end Go.Proofs.Ytdadaklkaehmjaa
