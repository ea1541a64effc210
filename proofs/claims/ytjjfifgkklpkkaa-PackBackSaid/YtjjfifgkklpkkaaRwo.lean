/-
  Words on a slice of slices of bytes that the call owns, and what appending one slice to it does.
  Conditions: as each theorem says.
-/
import Derived.Test.YtjjfifgkklpkkaaRws
import Derived.Test.YtjjfifgkklpkkaaStp
namespace Go.Proofs.Ytjjfifgkklpkkaa
open Go.RowKit

theorem sl_info : (Try.prog.info? 24).map (fun i => (i.zero, i.size, i.bytes)) = some (some (.slice none 0 0), 1, 24) := by kernel_rfl

/-- What appending one slice of bytes does, at the builtin. -/
theorem run_append_sl (w : World) (base ty : Nat) (v : Value) (n : Nat) (cs : List Value) (hown : w.ownsRow base 24 1 v n cs) (ad : Addr) (B : Option Addr) (m c d : Nat) (hcell : w.cell? ad = some (.slice B m c)) (hbig : n ≤ 1000000) (hbase : base ≤ w.heap.size) :
    ∃ v' w', (Builtin.append_ #[22, 22] ty #[v, .slice (some ad) 1 d]).run Try.prog w = .ok v' w' ∧ w'.ownsRow base 24 1 v' (n + 1) (cs ++ [.slice B m c]) ∧ w.grownBy w' v.ownBlock ∧
      (v'.ownBlock = v.ownBlock ∨ v'.ownBlock = some w.heap.size) := by
  obtain ⟨i0, hi0, hz0, hz1, hz2⟩ := info_parts sl_info
  obtain ⟨v', w', hrun, h2, h3, _, h5⟩ := run_append_own_at (P := Try.prog) w base 22 ty 24 i0 (.slice none 0 0) 1 24 Try.underlying22 hi0 hz0 hz1 hz2 rfl (by omega) v n cs hown ad 1 d [.slice B m c] rfl
    (fun j u hu => by
      cases j with
      | zero => simp at hu; subst hu; simpa [Addr.add] using hcell
      | succ j => simp at hu)
    (fun u hu => by simp at hu; subst hu; rfl) (by simp only [maxLen]; omega) (by omega) hbase
  exact ⟨v', w', hrun, h2, h3, h5⟩

theorem walk_append_sl (w : World) {ops : Array Oper} {rest : List Oper} {o : Oper} {a : Act} {Q : Exit → Act → World → Prop} (hgd : o.guard = none) (s x : Operand)
    (ho : o.op = .call { callee := .builtin .append, args := #[s, x], argTypes := #[22, 22] })
    (base : Nat) (v : Value) (n : Nat) (cs : List Value) (hs : a.eval s = v) (hown : w.ownsRow base 24 1 v n cs) (ad : Addr) (B : Option Addr) (m c d : Nat) (hx : a.eval x = .slice (some ad) 1 d) (hcell : w.cell? ad = some (.slice B m c)) (hbig : n ≤ 1000000) (hbase : base ≤ w.heap.size)
    (h : ∀ v' w', w'.ownsRow base 24 1 v' (n + 1) (cs ++ [.slice B m c]) → w.grownBy w' v.ownBlock → (v'.ownBlock = v.ownBlock ∨ v'.ownBlock = some w.heap.size) → wpList Try.prog ops Q rest (a.put o.dst v') w') :
    wpList Try.prog ops Q (o :: rest) a w := by
  refine wpList_plain hgd fun _ hK => ?_
  obtain ⟨v', w', hrun, h2, h3, h4⟩ := run_append_sl w base o.type v n cs hown ad B m c d hcell hbig hbase
  unfold Oper.wp execOp
  simp only [ho, resolve, invoke, builtin, Sem.run_bind, Sem.run_pure, Result.andThen_ok, List.map_toArray, List.map_cons, List.map_nil, hs, hx, hrun]
  exact hK _ _ (h v' w' h2 h3 h4)

theorem step_append_sl (w : World) {ops : Array Oper} {o : Oper} {a : Act} {K : Act → World → Prop} {Q : Exit → Act → World → Prop} {E : Prop} (hgd : o.guard = none) (s x : Operand)
    (ho : o.op = .call { callee := .builtin .append, args := #[s, x], argTypes := #[22, 22] })
    (base : Nat) (v : Value) (n : Nat) (cs : List Value) (hs : a.eval s = v) (hown : w.ownsRow base 24 1 v n cs) (ad : Addr) (B : Option Addr) (m c d : Nat) (hx : a.eval x = .slice (some ad) 1 d) (hcell : w.cell? ad = some (.slice B m c)) (hbig : n ≤ 1000000) (hbase : base ≤ w.heap.size)
    (h : ∀ v' w', w'.ownsRow base 24 1 v' (n + 1) (cs ++ [.slice B m c]) → w.grownBy w' v.ownBlock → (v'.ownBlock = v.ownBlock ∨ v'.ownBlock = some w.heap.size) → K (a.put o.dst v') w') :
    if Region.wanted o (yielded ops a.tmps) = true then Oper.wp Try.prog o a w K Q else E := by
  have hw : Region.wanted o (yielded ops a.tmps) = true := by simp [Region.wanted, hgd]
  rw [if_pos hw]
  obtain ⟨v', w', hrun, h2, h3, h4⟩ := run_append_sl w base o.type v n cs hown ad B m c d hcell hbig hbase
  unfold Oper.wp execOp
  simp only [ho, resolve, invoke, builtin, Sem.run_bind, Sem.run_pure, Result.andThen_ok, List.map_toArray, List.map_cons, List.map_nil, hs, hx, hrun]
  exact h v' w' h2 h3 h4

/-- The cells cs are slices that hold the rows xss, in blocks of which S says yes. -/
def Cel (S : Nat → Prop) (w : World) (cs : List Value) (xss : List (List Nat)) : Prop :=
  cs.length = xss.length ∧ ∀ j, j < xss.length → ∃ B c, cs[j]? = some (.slice B (xss[j]?.getD []).length c) ∧ (xss[j]?.getD []).length ≤ c ∧ Byt S w B (xss[j]?.getD [])
theorem Cel.nil (S : Nat → Prop) (w : World) : Cel S w [] [] := ⟨rfl, fun j hj => absurd hj (by simp)⟩
theorem Cel.keep {S : Nat → Prop} {w w' : World} {cs : List Value} {xss : List (List Nat)} (h : Cel S w cs xss) (hk : ∀ b, S b → w'.heap[b]? = w.heap[b]?) : Cel S w' cs xss := ⟨h.1, fun j hj => by
  obtain ⟨B, c, h1, h2, h3⟩ := h.2 j hj
  exact ⟨B, c, h1, h2, h3.keep hk⟩⟩
theorem Cel.wide {S T : Nat → Prop} {w : World} {cs : List Value} {xss : List (List Nat)} (h : Cel S w cs xss) (hk : ∀ b, S b → T b) : Cel T w cs xss := ⟨h.1, fun j hj => by
  obtain ⟨B, c, h1, h2, h3⟩ := h.2 j hj
  exact ⟨B, c, h1, h2, h3.wide hk⟩⟩
theorem Cel.snoc {S : Nat → Prop} {w : World} {cs : List Value} {xss : List (List Nat)} (h : Cel S w cs xss) {x : List Nat} {B : Option Addr} {m c : Nat} (hm : x.length = m) (hc : m ≤ c) (hB : Byt S w B x) : Cel S w (cs ++ [.slice B m c]) (xss ++ [x]) := by
  subst hm
  refine ⟨by simp [h.1], fun j hj => ?_⟩
  rcases Nat.lt_or_ge j xss.length with hlt | hge
  · rw [List.getElem?_append_left (by rw [h.1]; exact hlt), List.getElem?_append_left hlt]
    exact h.2 j hlt
  · obtain rfl : j = xss.length := by simp at hj; omega
    refine ⟨B, c, ?_, ?_, ?_⟩
    · rw [List.getElem?_append_right (by rw [h.1]; exact Nat.le_refl _), h.1]
      simp
    · simpa using hc
    · simpa using hB
/-- What is owned is a slice of slices. -/
theorem own_rows {w : World} {base n : Nat} {v : Value} {cs : List Value} {xss : List (List Nat)} {S T : Nat → Prop} (h : w.ownsRow base 24 1 v n cs) (hn : xss.length = n) (hc : Cel S w cs xss) (hS : ∀ b, S b → T b) (hT : ∀ b, base ≤ b → b < w.heap.size → T b) :
    ∃ A c, v = .slice A n c ∧ n ≤ c ∧ c ≤ maxLen ∧ Rws T w A xss := by
  rcases h.2 with ⟨rfl, h0⟩ | ⟨g, cap, cur, rfl, hb, hg, hnc, hcm, _, _⟩
  · exact ⟨none, 0, by rw [h0], by omega, by simp [maxLen], fun hpos => absurd hpos (by omega)⟩
  · refine ⟨some ⟨g, 0, none⟩, cap, rfl, hnc, hcm, fun _ => ⟨⟨g, 0, none⟩, rfl, hT g hb (Array.getElem?_eq_some_iff.1 hg).1, fun j hj => ?_⟩⟩
    obtain ⟨B, c, h1, h2, h3⟩ := hc.2 j hj
    exact ⟨B, c, h.cells rfl j _ h1, h2, h3.wide hS⟩
end Go.Proofs.Ytjjfifgkklpkkaa
