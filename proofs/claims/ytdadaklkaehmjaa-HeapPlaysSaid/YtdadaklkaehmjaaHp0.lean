/-
  What a round of the document's Copy leaves.
  Conditions: as each theorem says.
-/
import Derived.Test.YtdadaklkaehmjaaHr
namespace Go.Proofs.Ytdadaklkaehmjaa
open Go.RowKit
set_option linter.unusedSimpArgs false
set_option linter.unusedVariables false

/-- What stands in the three blocks of the call's own. -/
def Cp (N n0 : Nat) (A : Option Addr) (n c : Nat) (u : Value) (w : World) (v : Value) : Prop :=
  Blk w N 33 #[.slice none 0 0, .slice A n c, .slice none 0 0, .int .i64 0, .int .i64 0, .int .i64 0, .int .u64 0] ∧
  Blk w (N + 1) 33 #[.slice none 0 0, .slice none 0 0, .slice none 0 0, .int .i64 0, .int .i64 0, .int .i64 0, .int .u64 0] ∧
  Blk w (N + 2) 33 #[.slice none 0 0, v, u, .int .i64 0, .int .i64 0, .int .i64 0, .int .u64 0] ∧ N + 3 ≤ n0 ∧ n0 ≤ w.heap.size
/-- A part that is a row of the call's own lies in that row's block. -/
theorem Part.of_row {w : World} {base : Nat} {ty : TypeId} {v : Value} {n : Nat} {cs : List Value} (h : w.ownsRow base ty 1 v n cs) : Part (fun b => v.ownBlock = some b) w ty v cs := by
  have hl : cs.length = n := by have := h.1; omega
  rcases h.2 with ⟨rfl, rfl⟩ | ⟨g, cap, cur, rfl, hb, hg, hnc, hcm, hcs, ht⟩
  · obtain rfl : cs = [] := List.eq_nil_of_length_eq_zero hl
    exact Part.nil _ _ _
  · refine ⟨some ⟨g, 0, none⟩, cap, by rw [hl], by omega, hcm, fun _ => ⟨g, cur, rfl, rfl, hg, fun i u hu => ?_⟩⟩
    have hi := (List.getElem?_eq_some_iff.1 hu).1
    rw [← ht, List.getElem?_take_of_lt (by omega)] at hu
    simpa using hu
/-- Behind one more object: V: where the statement began; X: where both parts were made; w2: behind the row's growth. -/
theorem cp_end {w wr V X w2 : World} {N k n c : Nat} {A Av : Option Addr} {cv : Nat} {uh v2 vw vb : Value} {css : List (List Value)} {tag : Nat → Nat} {O : List Ob} {o : Ob} {kk nn : Int} {ob : Obj} {pp qq : Nat}
    (hN : N = w.heap.size) (hB : Below N w wr) (hcp : Cp N (N + 4) A n c uh wr (.slice Av k cv)) (hV : Below wr.heap.size wr V) (hX : Below V.heap.size V X) (hsV : V.heap.size = wr.heap.size + 1)
    (hw : X.ownsRow V.heap.size 31 1 vw pp (Ns o.words)) (hb : X.ownsRow V.heap.size 5 1 vb qq (Bs o.bytes)) (hd : ∀ b, vw.ownBlock = some b → vb.ownBlock ≠ some b)
    (hx : (∀ x ∈ o.bytes, x < 256) ∧ (∀ x ∈ o.words, x < B64) ∧ I64 o.kind ∧ I64 o.n) (ek : o.kind = kk) (en : o.n = nn)
    (hr : Row (fun b => N + 4 ≤ b ∧ b < wr.heap.size) tag wr (.slice Av k cv) css (O.take k)) (hk : (O.take k).length = k) (ho : O[k]? = some o)
    (hown : w2.ownsRow 0 28 4 v2 (k + 1) (css.flatten ++ [.int .i64 kk, .int .i64 nn, vw, vb])) (hg : (X.alloc ob).grownBy w2 (Value.slice Av k cv).ownBlock) (hv : v2.ownBlock = (Value.slice Av k cv).ownBlock ∨ v2.ownBlock = some (X.alloc ob).heap.size) :
    Below N w (w2.setCell ⟨N + 1 + 1, 1, none⟩ v2) ∧ ∃ v css tag, Cp N (N + 4) A n c uh (w2.setCell ⟨N + 1 + 1, 1, none⟩ v2) v ∧ Row (fun b => N + 4 ≤ b ∧ b < (w2.setCell ⟨N + 1 + 1, 1, none⟩ v2).heap.size) tag (w2.setCell ⟨N + 1 + 1, 1, none⟩ v2) v css (O.take (k + 1)) := by
  subst ek en
  obtain ⟨c1, c2, c3, hn1, hn2⟩ := hcp
  have hXs := hX.size
  have sa : (X.alloc ob).heap.size = X.heap.size + 1 := by simp
  have s2 : X.heap.size + 1 ≤ w2.heap.size := by have := hg.size; omega
  have sz : (w2.setCell ⟨N + 1 + 1, 1, none⟩ v2).heap.size = w2.heap.size := by simp [World.setCell]
  have hVa : Below wr.heap.size wr (X.alloc ob) := (hV.trans (hX.mono (by omega))).alloc (by omega) _
  have hra : Row (fun b => N + 4 ≤ b ∧ b < wr.heap.size) tag (X.alloc ob) (.slice Av k cv) css (O.take k) := hr.keep fun b hb _ => hVa.block b hb.2
  have hob : Obj1 (fun b => vw.ownBlock = some b) (fun b => vb.ownBlock = some b) (X.alloc ob) [.int .i64 o.kind, .int .i64 o.n, vw, vb] o :=
    ⟨vw, vb, rfl, hx.2.2.1, hx.2.2.2, hx.2.1, hx.1, (Part.of_row hw).keep fun b hb => Below.heap_alloc _ _ _ (hw.lt b hb).2, (Part.of_row hb).keep fun b hb' => Below.heap_alloc _ _ _ (hb.lt b hb').2⟩
  rw [show k + 1 = (O.take k).length + 1 by rw [hk]] at hown
  obtain ⟨tag', hrow, -⟩ := hra.push (fun b hb => by omega) hob (fun b hb' => ⟨by have := (hw.lt b hb').2; omega, fun q => by have := (hw.lt b hb').1; omega⟩) (fun b hb' => ⟨by have := (hb.lt b hb').2; omega, fun q => by have := (hb.lt b hb').1; omega⟩) hd hown hg hv
  have hvb : ∀ b, (Value.slice Av k cv).ownBlock = some b → N + 4 ≤ b := fun b e => (hr.2.2.1 b e).1.1
  have hk2 : ∀ b, b < N + 4 → w2.heap[b]? = wr.heap[b]? := fun b hb => (hg.block b (by omega) fun e => by have := hvb b e.symm; omega).trans (hVa.block b (by omega))
  have ht : O.take k ++ [o] = O.take (k + 1) := by
    obtain ⟨h, rfl⟩ := List.getElem?_eq_some_iff.1 ho
    rw [List.take_succ_eq_append_getElem h]
  rw [ht] at hrow
  have hBw2 : Below N w w2 := hB.trans ⟨hg.os.trans hVa.os, hg.tape.trans hVa.tape, hg.output.trans hVa.output, by omega, fun b hb => hk2 b (by omega)⟩
  refine ⟨hBw2.setCell (by show N ≤ N + 1 + 1; omega) _, v2, css ++ [[.int .i64 o.kind, .int .i64 o.n, vw, vb]], tag', ⟨?_, ?_, ?_, hn1, by omega⟩, ?_⟩
  · exact blk_other ((hk2 N (by omega)).trans c1) (by omega)
  · exact blk_other ((hk2 (N + 1) (by omega)).trans c2) (by omega)
  · have h3 : Blk w2 (N + 1 + 1) 33 #[.slice none 0 0, .slice Av k cv, uh, .int .i64 0, .int .i64 0, .int .i64 0, .int .u64 0] := (hk2 (N + 2) (by omega)).trans c3
    exact h3.set 1 v2
  · refine (hrow.keep (w' := w2.setCell ⟨N + 1 + 1, 1, none⟩ v2) fun b hb1 _ => Below.heap_setCell _ _ _ _ fun (e : b = N + 1 + 1) => ?_).wide fun b hb1 => ?_
    · subst e
      rcases hb1 with h | h | h | h
      · omega
      · have := (hw.lt _ h).1; omega
      · have := (hb.lt _ h).1; omega
      · omega
    · rw [sz]
      rcases hb1 with h | h | h | h
      · omega
      · have := hw.lt _ h; omega
      · have := hb.lt _ h; omega
      · omega
end Go.Proofs.Ytdadaklkaehmjaa
