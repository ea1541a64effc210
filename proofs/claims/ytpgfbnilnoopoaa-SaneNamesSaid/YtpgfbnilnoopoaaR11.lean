/-
  Words for the law on bounds: rows of cells that the call appends to, and which of the law's modules fit. Conditions: as each theorem says.
  What law07's answers says: true. Conditions: none.
  Words for the laws of layer 7: blocks that stay, two things in a row of their own, the laws' own modules. Conditions: as each theorem says.
-/
import Derived.Test.YtpgfbnilnoopoaaR10
import Derived.Deep.RegionLaw
namespace Go.Proofs.Ytpgfbnilnoopoaa
open Go.RowKit
set_option linter.unusedSimpArgs false
set_option linter.unusedVariables false

set_option maxRecDepth 100000 in
theorem walk_append_raw (k : Nat) (w : World) {ops : Array Oper} {rest : List Oper} {o : Oper} {a : Act} {Q : Exit → Act → World → Prop} (hgd : o.guard = none) (s x : Operand) (T E : TypeId)
    (ho : o.op = .call { callee := .builtin .append, args := #[s, x], argTypes := #[T, T] })
    (z : Value) (B : Nat) (hT : Try.prog.underlying T = some (.slice E)) (hI : (Try.prog.info? E).map (fun i => (i.zero, i.size, i.bytes)) = some (some z, k, B)) (hz : z.cells.size = k) (hk : 0 < k) (hB : B ≤ 100)
    (base : Nat) (v : Value) (n : Nat) (cs : List Value) (hs : a.eval s = v) (hO : w.ownsRow base E k v n cs) (ad : Addr) (d : Nat) (hx : a.eval x = .slice (some ad) 1 d) (ys : List Value) (hl : ys.length = k)
    (hc : ∀ j u, ys[j]? = some u → w.cell? (ad.add j) = some u) (hone : ∀ u ∈ ys, u.oneCell' = true) (hbig : n ≤ 1000) (hbase : base ≤ w.heap.size)
    (h : ∀ v' w', w'.ownsRow base E k v' (n + 1) (cs ++ ys) → w.grownBy w' v.ownBlock → (v'.ownBlock = v.ownBlock ∨ v'.ownBlock = some w.heap.size) → wpList Try.prog ops Q rest (a.put o.dst v') w') : wpList Try.prog ops Q (o :: rest) a w := by
  refine wpList_plain hgd fun _ hK => ?_
  obtain ⟨i0, hi0, hz0, hz1, hz2⟩ := info_parts hI
  have hBx : (n + 1) * B ≤ 140737488355328 := by
    have := Nat.mul_le_mul (show n + 1 ≤ 1001 by omega) hB
    omega
  obtain ⟨v', w', hrun, h2, h3, _, h5⟩ := run_append_own_at (P := Try.prog) w base T o.type E i0 z k B hT hi0 hz0 hz1 hz2 hz hk v n cs hO ad 1 d ys (by rw [hl, Nat.one_mul]) hc hone
    (by simp only [maxLen]; omega) hBx hbase
  unfold Oper.wp execOp
  simp only [ho, resolve, invoke, builtin, Sem.run_bind, Sem.run_pure, Result.andThen_ok, List.map_toArray, List.map_cons, List.map_nil, hs, hx, hrun]
  exact hK _ _ (h v' w' h2 h3 h5)

theorem step_append_raw (k : Nat) (w : World) {ops : Array Oper} {o : Oper} {a : Act} {K : Act → World → Prop} {Q : Exit → Act → World → Prop} {X : Prop} (hgd : o.guard = none) (s x : Operand) (T E : TypeId)
    (ho : o.op = .call { callee := .builtin .append, args := #[s, x], argTypes := #[T, T] })
    (z : Value) (B : Nat) (hT : Try.prog.underlying T = some (.slice E)) (hI : (Try.prog.info? E).map (fun i => (i.zero, i.size, i.bytes)) = some (some z, k, B)) (hz : z.cells.size = k) (hk : 0 < k) (hB : B ≤ 100)
    (base : Nat) (v : Value) (n : Nat) (cs : List Value) (hs : a.eval s = v) (hO : w.ownsRow base E k v n cs) (ad : Addr) (d : Nat) (hx : a.eval x = .slice (some ad) 1 d) (ys : List Value) (hl : ys.length = k)
    (hc : ∀ j u, ys[j]? = some u → w.cell? (ad.add j) = some u) (hone : ∀ u ∈ ys, u.oneCell' = true) (hbig : n ≤ 1000) (hbase : base ≤ w.heap.size)
    (h : ∀ v' w', w'.ownsRow base E k v' (n + 1) (cs ++ ys) → w.grownBy w' v.ownBlock → (v'.ownBlock = v.ownBlock ∨ v'.ownBlock = some w.heap.size) → K (a.put o.dst v') w') :
    if Region.wanted o (yielded ops a.tmps) = true then Oper.wp Try.prog o a w K Q else X := by
  have hw : Region.wanted o (yielded ops a.tmps) = true := by simp [Region.wanted, hgd]
  rw [if_pos hw]
  obtain ⟨i0, hi0, hz0, hz1, hz2⟩ := info_parts hI
  have hBx : (n + 1) * B ≤ 140737488355328 := by
    have := Nat.mul_le_mul (show n + 1 ≤ 1001 by omega) hB
    omega
  obtain ⟨v', w', hrun, h2, h3, _, h5⟩ := run_append_own_at (P := Try.prog) w base T o.type E i0 z k B hT hi0 hz0 hz1 hz2 hz hk v n cs hO ad 1 d ys (by rw [hl, Nat.one_mul]) hc hone
    (by simp only [maxLen]; omega) hBx hbase
  unfold Oper.wp execOp
  simp only [ho, resolve, invoke, builtin, Sem.run_bind, Sem.run_pure, Result.andThen_ok, List.map_toArray, List.map_cons, List.map_nil, hs, hx, hrun]
  exact h v' w' h2 h3 h5

/-- A row of cells of which each things' cells say what it is. -/
theorem raw_sl {α : Type} {L : Lay α} {S : Nat → Prop} {ty base : Nat} {w : World} {v : Value} {xs : List α} {css : List (List Value)} (hl : css.length = xs.length) (hown : w.ownsRow base ty L.k v xs.length css.flatten)
    (hR : ∀ (j : Nat) (x : α) (cs : List Value), xs[j]? = some x → css[j]? = some cs → L.R S w cs x) (hS : ∀ b, base ≤ b → b < w.heap.size → S b) : (slL L).R S w [v] xs := by
  have hk : ∀ cs ∈ css, cs.length = L.k := fun cs hcs => by
    obtain ⟨j, hj⟩ := List.mem_iff_getElem?.1 hcs
    have hjl : j < xs.length := by rw [← hl]; exact (List.getElem?_eq_some_iff.1 hj).1
    exact L.len (hR j _ cs (List.getElem?_eq_getElem hjl) hj)
  rcases hown.2 with ⟨rfl, h0⟩ | ⟨g, cap, cur, rfl, hb, hg, hnc, hcm, _, _⟩
  · exact ⟨none, 0, by rw [h0], by omega, by simp [maxLen], fun hpos => absurd hpos (by omega)⟩
  · refine ⟨some ⟨g, 0, none⟩, cap, rfl, hnc, hcm, fun _ => ⟨⟨g, 0, none⟩, rfl, hS _ hb (Array.getElem?_eq_some_iff.1 hg).1, fun j x hx => ?_⟩⟩
    have hjl : j < css.length := by rw [hl]; exact (List.getElem?_eq_some_iff.1 hx).1
    have hcs := List.getElem?_eq_getElem hjl
    have hr := hR j x _ hx hcs
    refine ⟨_, fun i u hu => ?_, hr⟩
    have hi : i < L.k := by rw [← L.len hr]; exact (List.getElem?_eq_some_iff.1 hu).1
    exact hown.cells rfl (j * L.k + i) u (by rw [flat_get hk hcs i hi]; exact hu)
/-- A row of one thing, as it was laid. -/
theorem raw_one {w : World} {g base ty k : Nat} {cs : Array Value} (h : Blk w g ty cs) (hb : base ≤ g) (hk : cs.size = k) : w.ownsRow base ty k (.slice (some ⟨g, 0, none⟩) 1 1) 1 cs.toList :=
  ⟨by simp [hk], .inr ⟨g, 1, cs, rfl, hb, h, Nat.le_refl _, by simp [maxLen], by omega, by rw [List.take_of_length_le (by simp [hk])]⟩⟩
/-- One thing in a row of its own. -/
theorem one_sl {α : Type} {L : Lay α} {S : Nat → Prop} {w : World} {g ty : Nat} {cs : Array Value} {x : α} (h : Blk w g ty cs) (hg : S g) (hR : L.R S w cs.toList x) : (slL L).R S w [.slice (some ⟨g, 0, none⟩) 1 1] [x] := by
  refine ⟨some ⟨g, 0, none⟩, 1, rfl, Nat.le_refl _, by simp [maxLen], fun _ => ⟨_, rfl, hg, fun j y hy => ?_⟩⟩
  have hj : j = 0 := by
    rcases Nat.eq_zero_or_pos j with h | h
    · exact h
    · rw [List.getElem?_eq_none (by simp; omega)] at hy
      cases hy
  subst hj
  simp at hy
  subst hy
  refine ⟨_, fun i u hu => ?_, hR⟩
  have e : (⟨g, 0, none⟩ : Addr).add (0 * L.k + i) = ⟨g, i, none⟩ := by unfold Addr.add; split <;> simp_all
  rw [e, h.cell i]
  simpa using hu
theorem nil_sl {α : Type} (L : Lay α) (S : Nat → Prop) (w : World) : (slL L).R S w [.slice none 0 0] [] := ⟨none, 0, rfl, Nat.le_refl _, by simp [maxLen], Sq.nil _ _ _ _⟩

def tA : Array Value := #[.int .i64 1, .int .i64 0]
def iA : Array Value := #[.int .i64 26, .int .i64 0, .int .i64 0]
theorem modB_pos (m : Mod) : 0 < (modB m).length := by
  have : joinB (partsB m) = vb 5 ++ pts (partsB m) := rfl
  rw [modB, this, vb_small 5 (by omega)]
  simp
theorem t_good (r : Int) : goodT r (1, 0) = true := by simp [goodT, goodB]
theorem f_ok (r : Int) (n c : Nat) : fnOk r ⟨[], (1, 0), List.replicate n (1, 0), (26, 0, 0) :: List.replicate c (5, 0, 0)⟩ = decide (n ≤ 8 ∧ c ≤ 63) := by
  have h1 : goodIn (26, 0, 0) = true := by decide
  have h2 : goodIn (5, 0, 0) = true := by decide
  rw [Bool.eq_iff_iff]
  simp only [fnOk, Bool.and_eq_true, witB_iff, t_good, decide_eq_true_eq]
  simp [t_good, h1, h2]
  omega
theorem f0_ok (r : Int) : fnOk r fn0 = true := by
  have h := f_ok r 0 0
  simp at h
  exact h
/-- The law's modules: which of the seven, and how many more. -/
def bm : Nat → Nat → Mod
  | 0, k => ⟨List.replicate k [], [fn0], [], [], []⟩
  | 1, k => ⟨[], List.replicate (k + 1) fn0, [], [], []⟩
  | 2, k => ⟨[], [fn0], List.replicate k ⟨[], (1, 0)⟩, [], []⟩
  | 3, k => ⟨[], [fn0], [], List.range k, []⟩
  | 4, k => ⟨[], [fn0], [], [], List.replicate k [97]⟩
  | 5, k => ⟨[], [⟨[], (1, 0), List.replicate k (1, 0), [(26, 0, 0)]⟩], [], [], []⟩
  | _, k => ⟨[], [⟨[], (1, 0), [], (26, 0, 0) :: List.replicate k (5, 0, 0)⟩], [], [], []⟩
def bt : Nat → Nat
  | 0 => 8
  | 1 => 7
  | 2 => 8
  | 3 => 16
  | 4 => 16
  | 5 => 8
  | _ => 63
theorem bm_fit (c k : Nat) : fitB (bm c k) = decide (k ≤ bt c) := by
  have h0 := f0_ok
  have h5 : ∀ r, fnOk r ⟨[], (1, 0), List.replicate k (1, 0), [(26, 0, 0)]⟩ = decide (k ≤ 8) := fun r => by simpa using f_ok r k 0
  have h6 : ∀ r, fnOk r ⟨[], (1, 0), [], (26, 0, 0) :: List.replicate k (5, 0, 0)⟩ = decide (k ≤ 63) := fun r => by simpa using f_ok r 0 k
  rw [Bool.eq_iff_iff]
  match c with
  | 0 => simp [fitB, witB_iff, bm, bt, recOk, h0]; omega
  | 1 => simp [fitB, witB_iff, bm, bt, recOk, h0]; omega
  | 2 => simp [fitB, witB_iff, bm, bt, impOk, t_good, h0]; omega
  | 3 => simp [fitB, witB_iff, bm, bt, h0]
  | 4 => simp [fitB, witB_iff, bm, bt, shortB, h0]; omega
  | 5 => simp [fitB, witB_iff, bm, bt, h5]
  | c + 6 => simp [fitB, witB_iff, bm, bt, h6]
theorem raw_below {w w' : World} {base B ty k : Nat} {v : Value} {n : Nat} {xs : List Value} (h : w.ownsRow base ty k v n xs) (hb : Below B w w') (hB : w.heap.size ≤ B) : w'.ownsRow base ty k v n xs :=
  h.kept (w' := w') (row := none) ⟨hb.os, hb.tape, hb.output, hb.size, fun k hk _ => hb.block k (by omega)⟩ (by cases v.ownBlock <;> simp)
theorem raw_shape {w : World} {base ty k : Nat} {v : Value} {n : Nat} {xs : List Value} (h : w.ownsRow base ty k v n xs) : ∃ A m c, v = .slice A m c := by
  rcases h.2 with ⟨rfl, -⟩ | ⟨g, cap, cur, rfl, -⟩
  · exact ⟨_, _, _, rfl⟩
  · exact ⟨_, _, _, rfl⟩
/-- The law's function, and the row that holds it. -/
theorem fn_laid {w : World} {N tf ti : Nat} (h2 : Blk w (N + 2) tf #[.slice none 0 0, .int .i64 1, .int .i64 0, .slice none 0 0, .slice (some ⟨N + 1, 0, none⟩) 1 1]) (h1 : Blk w (N + 1) ti iA) : (slL fnL).R (· < w.heap.size) w [.slice (some ⟨N + 2, 0, none⟩) 1 1] [fn0] :=
  one_sl h2 h2.lt ⟨_, _, _, rfl, by unfold I64 fn0; simp, by unfold I64 fn0; simp, nil_sl _ _ _, nil_sl _ _ _, one_sl (x := (26, 0, 0)) h1 h1.lt ⟨rfl, by unfold I64; simp, by unfold I64; simp, by unfold I64; simp⟩⟩

/-- The law's four blocks, as they are laid. -/
theorem four_blk (w : World) (c0 c1 c2 c3 : Array Value) (t0 t1 t2 t3 : Nat) : Blk ((((w.alloc (.cells c0 t0)).alloc (.cells c1 t1)).alloc (.cells c2 t2)).alloc (.cells c3 t3)) w.heap.size t0 c0 ∧
    Blk ((((w.alloc (.cells c0 t0)).alloc (.cells c1 t1)).alloc (.cells c2 t2)).alloc (.cells c3 t3)) (w.heap.size + 1) t1 c1 ∧ Blk ((((w.alloc (.cells c0 t0)).alloc (.cells c1 t1)).alloc (.cells c2 t2)).alloc (.cells c3 t3)) (w.heap.size + 2) t2 c2 ∧
    Blk ((((w.alloc (.cells c0 t0)).alloc (.cells c1 t1)).alloc (.cells c2 t2)).alloc (.cells c3 t3)) (w.heap.size + 3) t3 c3 := by
  have k : ∀ (v : World) (o : Obj) (b t : Nat) (c : Array Value), Blk v b t c → Blk (v.alloc o) b t c := fun v o b t c h => (Below.heap_alloc v o b h.lt).trans h
  have n : ∀ (v : World) (b t : Nat) (c : Array Value), v.heap.size = b → Blk (v.alloc (.cells c t)) b t c := fun v b t c h => by rw [← h]; exact blk_new v t c
  exact ⟨k _ _ _ _ _ (k _ _ _ _ _ (k _ _ _ _ _ (n _ _ _ _ rfl))), k _ _ _ _ _ (k _ _ _ _ _ (n _ _ _ _ (by simp))), k _ _ _ _ _ (n _ _ _ _ (by simp)), n _ _ _ _ (by simp)⟩

/-- What is known behind some rounds: the row of cells v, which the block g keeps, holds css; of the law's four blocks no other has turned but b0, where the row began. -/
def Bst (N ty k b0 g ty2 : Nat) (mk : Value → Array Value) (w W0 wr : World) (css : List (List Value)) (v : Value) : Prop :=
  Below N w wr ∧ N + 4 ≤ wr.heap.size ∧ wr.ownsRow (N + 1) ty k v css.length css.flatten ∧ (∀ b, v.ownBlock = some b → b = b0 ∨ N + 4 ≤ b) ∧ (∀ b, b < N + 4 → b ≠ b0 → b ≠ g → wr.heap[b]? = W0.heap[b]?) ∧ Blk wr g ty2 (mk v)
theorem Bst.blk {N ty k b0 g ty2 : Nat} {mk : Value → Array Value} {w W0 wr w1 w2 : World} {css : List (List Value)} {v : Value} (h : Bst N ty k b0 g ty2 mk w W0 wr css v) (hb : b0 ≠ g) (hg : g < N + 4) (h1 : Below wr.heap.size wr w1) (hgr : w1.grownBy w2 v.ownBlock) : Blk w2 g ty2 (mk v) := by
  obtain ⟨a1, a2, a3, a4, a5, a6⟩ := h
  refine ((hgr.block g (Nat.lt_of_lt_of_le a6.lt h1.size) fun e => ?_).trans (h1.block g a6.lt)).trans a6
  rcases a4 g e.symm with h | h <;> omega
theorem Bst.step {N ty k b0 g ty2 i : Nat} {mk : Value → Array Value} {w W0 wr w1 w2 : World} {css : List (List Value)} {ys : List Value} {v v' : Value} (h : Bst N ty k b0 g ty2 mk w W0 wr css v) (hb : b0 ≠ g) (hb0 : N ≤ b0) (hg0 : N ≤ g) (hg : g < N + 4) (h1 : Below wr.heap.size wr w1)
    (hown : w2.ownsRow (N + 1) ty k v' (css.length + 1) (css.flatten ++ ys)) (hgr : w1.grownBy w2 v.ownBlock) (h5 : v'.ownBlock = v.ownBlock ∨ v'.ownBlock = some w1.heap.size) (hset : (mk v).setIfInBounds i v' = mk v') :
    Bst N ty k b0 g ty2 mk w W0 (w2.setCell ⟨g, i, none⟩ v') (css ++ [ys]) v' := by
  have hblk := h.blk hb hg h1 hgr
  obtain ⟨a1, a2, a3, a4, a5, a6⟩ := h
  have s1 := h1.size
  have s2 := hgr.size
  have hv : ∀ b, v'.ownBlock = some b → b = b0 ∨ N + 4 ≤ b := by
    intro b e
    rcases h5 with h | h
    · exact a4 b (h ▸ e)
    · rw [h] at e
      injection e with e
      omega
  have hrow : ∀ j, v.ownBlock = some j → N ≤ j := fun j e => by rcases a4 j e with h | h <;> omega
  refine ⟨((a1.trans (h1.mono (by omega))).trans (below_grown hgr (by omega) hrow)).setCell (p := ⟨g, i, none⟩) hg0 _, by have := (only_set (only_refl g w2) i v').size; omega, ?_, hv, ?_, ?_⟩
  · have := hown.kept (row := some g) (only_set (only_refl g w2) i v') (.inr fun e => by rcases hv g e with h | h <;> omega)
    simpa using this
  · intro b h2 h3 h4
    rw [Below.heap_setCell _ _ _ _ (by simpa using h4), hgr.block b (by omega) (fun e => by rcases a4 b e.symm with h | h <;> omega), h1.block b (by omega)]
    exact a5 b h2 h3 h4
  · rw [← hset]
    exact hblk.set i v'
end Go.Proofs.Ytpgfbnilnoopoaa
namespace Go.Proofs.Ytpgfbnilnoopoaa
open Go.RowKit
set_option linter.unusedSimpArgs false
set_option linter.unusedVariables false

theorem blk_keep {v : World} {o : Obj} {b t : Nat} {c : Array Value} (h : Blk v b t c) : Blk (v.alloc o) b t c := (Below.heap_alloc v o b h.lt).trans h
theorem blk_at {v : World} {b t : Nat} {c : Array Value} (h : v.heap.size = b) : Blk (v.alloc (.cells c t)) b t c := by rw [← h]; exact blk_new v t c
theorem blk_below {v w : World} {B b t : Nat} {c : Array Value} (h : Blk v b t c) (hb : Below B v w) (hB : b < B) : Blk w b t c := (hb.block b hB).trans h

def m7 : Mod := ⟨[], [⟨[], (1, 0), [], [(0, 0, 0)]⟩], [], [], []⟩
theorem m7_check : checkN m7 = 1 := by decide
theorem mE_check : checkN mE = 2 := by decide

set_option maxRecDepth 100000 in
set_option maxHeartbeats 4000000 in
theorem answers7 (w : World) : Calls Try.prog 8 #[] w fun e w' => e = .returned (.bool true) ∧ Below w.heap.size w w' := by
  go_enter Try.func8, Try.ntmps8
  go_wp2_with fail
  refine calls_world fun W hW => ?_
  have b0 : Blk W w.heap.size 44 #[.int .i64 0, .int .i64 0, .int .i64 0] := by rw [hW]; repeat (first | exact blk_at (by simp) | refine blk_keep ?_)
  have b1 : Blk W (w.heap.size + 1) 38 #[.slice none 0 0, .int .i64 1, .int .i64 0, .slice none 0 0, .slice (some ⟨w.heap.size, 0, none⟩) 1 1] := by rw [hW]; repeat (first | exact blk_at (by simp) | refine blk_keep ?_)
  have HL : Hid (modL.R (· < W.heap.size) W [.slice none 0 0, .slice (some ⟨w.heap.size + 1, 0, none⟩) 1 1, .slice none 0 0, .slice none 0 0, .slice none 0 0] m7) :=
    ⟨_, _, _, _, _, rfl, nil_sl _ _ _, one_sl b1 b1.lt ⟨_, _, _, rfl, by unfold I64; simp, by unfold I64; simp, nil_sl _ _ _, nil_sl _ _ _, one_sl (x := (0, 0, 0)) b0 b0.lt ⟨rfl, by unfold I64; simp, by unfold I64; simp, by unfold I64; simp⟩⟩, nil_sl _ _ _, nil_sl _ _ _, nil_sl _ _ _⟩
  have HB0 : Hid (Below w.heap.size w W) := by show Below _ _ _; rw [hW]; exact (((Below.refl _ _).alloc (Nat.le_refl _) _).alloc (by simp) _).alloc (by simp; omega) _
  clear hW b0 b1
  refine (check_any _ m7 W HL.out).mono ?_
  rintro e w1 ⟨he, hb1⟩
  rw [m7_check] at he
  subst he
  have HB1 := Lib.hid (HB0.out.trans (hb1.mono HB0.out.size))
  clear hb1
  go_wp2_with fail
  refine (check_any _ mE w1 (mE_laid _ _)).mono ?_
  rintro e w2 ⟨he, hb2⟩
  rw [mE_check] at he
  subst he
  have HB2 := Lib.hid (HB1.out.trans (hb2.mono HB1.out.size))
  clear hb2
  go_wp2_with fail
  go_ret
  exact ⟨rfl, HB2.out⟩
end Go.Proofs.Ytpgfbnilnoopoaa
namespace Go.Proofs.Ytpgfbnilnoopoaa
open Go.RowKit

theorem blk_other {v : World} {b t g i : Nat} {c : Array Value} {u : Value} (h : Blk v b t c) (hne : b ≠ g) : Blk (v.setCell ⟨g, i, none⟩ u) b t c := (Below.heap_setCell v ⟨g, i, none⟩ u b hne).trans h

/-- Two things in a row of their own. -/
theorem two_sl {α : Type} {L : Lay α} {S : Nat → Prop} {w : World} {g ty : Nat} {cs : Array Value} {c0 c1 : List Value} {x y : α} (h : Blk w g ty cs) (hg : S g) (hc : cs.toList = c0 ++ c1) (h0 : L.R S w c0 x) (h1 : L.R S w c1 y) : (slL L).R S w [.slice (some ⟨g, 0, none⟩) 2 2] [x, y] := by
  have l0 := L.len h0
  have l1 := L.len h1
  have hcell : ∀ i u, (c0 ++ c1)[i]? = some u → w.cell? ⟨g, i, none⟩ = some u := fun i u hu => by
    rw [h.cell i, ← hu, ← hc]
    simp
  have e : ∀ i, (⟨g, 0, none⟩ : Addr).add i = ⟨g, i, none⟩ := fun i => by unfold Addr.add; split <;> simp_all
  refine ⟨some ⟨g, 0, none⟩, 2, rfl, Nat.le_refl _, by simp [maxLen], fun _ => ⟨_, rfl, hg, fun j z hz => ?_⟩⟩
  match j, hz with
  | 0, hz =>
    simp at hz
    subst hz
    refine ⟨c0, fun i u hu => ?_, h0⟩
    rw [e, Nat.zero_mul, Nat.zero_add]
    have hi := (List.getElem?_eq_some_iff.1 hu).1
    exact hcell i u (by rw [List.getElem?_append_left hi]; exact hu)
  | 1, hz =>
    simp at hz
    subst hz
    refine ⟨c1, fun i u hu => ?_, h1⟩
    rw [e, Nat.one_mul]
    exact hcell _ u (by rw [List.getElem?_append_right (by omega)]; simpa [l0] using hu)
  | j + 2, hz => simp at hz

/-- The modules of SaneHandles. -/
def hm : Nat → Typ → Mod
  | 0, t => ⟨[[]], [fn0, ⟨[t], (1, 0), [], [(26, 0, 0)]⟩], [], [], []⟩
  | 1, t => ⟨[[]], [fn0, ⟨[], (1, 0), [t], [(26, 0, 0)]⟩], [], [], []⟩
  | 2, t => ⟨[[]], [fn0, fn0], [⟨[t], (1, 0)⟩], [], []⟩
  | _, t => ⟨[[]], [fn0, fn0], [⟨[], t⟩], [], []⟩
def hwant : Nat → Typ → Int
  | 0, _ => 0
  | 1, t => if t.1 = 5 then 1 else 0
  | _, t => if t.1 = 1 ∨ t.1 = 5 then 0 else 1
theorem hm_fit (c : Nat) (t : Typ) (h : goodT 1 t = true) : fitB (hm c t) = true := by
  have h1 : goodT 1 (1, 0) = true := by decide
  have h2 : goodIn (26, 0, 0) = true := by decide
  match c with
  | 0 => simp [hm, fitB, witB, recOk, fnOk, fn0, h, h1, h2]
  | 1 => simp [hm, fitB, witB, recOk, fnOk, fn0, h, h1, h2]
  | 2 => simp [hm, fitB, witB, recOk, fnOk, impOk, fn0, h, h1, h2]
  | c + 3 => simp [hm, fitB, witB, recOk, fnOk, impOk, fn0, h, h1, h2]
theorem hm_check (c : Nat) (t : Typ) (h : goodT 1 t = true) : checkN (hm c t) = hwant c t := by
  have hf := hm_fit c t h
  match c with
  | 0 => rw [checkN_ok hf (by simp [hm, badM, badFn, fn0, namedB])]; rfl
  | 1 =>
    by_cases h5 : t.1 = 5
    · rw [checkN_bad hf (by simp [hm, badM, badFn, fn0, namedB, hanB, h5])]; simp [hwant, h5]
    · rw [checkN_ok hf (by simp [hm, badM, badFn, fn0, namedB, hanB, h5])]; simp [hwant, h5]
  | 2 =>
    by_cases h5 : t.1 = 1 ∨ t.1 = 5
    · rw [checkN_ok hf (by simp [hm, badM, badFn, badImp, fn0, namedB, hostB]; omega)]; simp [hwant, h5]
    · rw [checkN_bad hf (by simp [hm, badM, badFn, badImp, fn0, namedB, hostB]; omega)]; simp [hwant, h5]
  | c + 3 =>
    by_cases h5 : t.1 = 1 ∨ t.1 = 5
    · rw [checkN_ok hf (by simp [hm, badM, badFn, badImp, fn0, namedB, hostB, h5])]; simp [hwant, h5]
    · rw [checkN_bad hf (by simp [hm, badM, badFn, badImp, fn0, namedB, hostB, h5])]; simp [hwant, h5]
theorem hm_main (c : Nat) (t : Typ) (h : goodT 1 t = true) : mainB (hm c t) = decide (hwant c t = 0) := by
  rw [← hm_check c t h]
  match c with
  | 0 => simp [mainB, hm, fn0]
  | 1 => simp [mainB, hm, fn0]
  | 2 => simp [mainB, hm, fn0]
  | c + 3 => simp [mainB, hm, fn0]

/-- The module of SaneMain. -/
def mm (t : Typ) (ts : List Typ) : Mod := ⟨[[]], [⟨ts, t, [], [(26, 0, 0)]⟩], [], [], []⟩
theorem mm_main (t : Typ) (ts : List Typ) : mainB (mm t ts) = (decide (ts.length = 0) && (t.1 == 1 && t.2 == 0)) := by
  have h2 : goodIn (26, 0, 0) = true := by decide
  cases ts with
  | nil =>
    cases hg : goodT 1 t
    · have hf : fitB (mm t []) = false := by simp [mm, fitB, witB, recOk, fnOk, hg]
      rw [mainB_not (by rw [checkN_unfit hf]; decide)]
      have : ¬ (t.1 = 1 ∧ t.2 = 0) := fun ⟨a, b⟩ => by
        rw [show t = (1, 0) from Prod.ext a b] at hg
        revert hg
        decide
      symm
      simpa using this
    · have hf : fitB (mm t []) = true := by simp [mm, fitB, witB, recOk, fnOk, hg, h2]
      have hc : checkN (mm t []) = 0 := checkN_ok hf (by simp [mm, badM, badFn, namedB])
      rw [mainB_yes hc rfl, Bool.eq_iff_iff]
      simp only [List.length_nil, decide_true, Bool.true_and, decide_eq_true_eq, Bool.and_eq_true, beq_iff_eq]
      refine ⟨fun h => ⟨h, ?_⟩, fun h => h.1⟩
      obtain ⟨k, n⟩ := t
      simp only at h
      subst h
      simpa [goodT, goodB] using hg
  | cons a ts =>
    by_cases hc : checkN (mm t (a :: ts)) = 0
    · rw [mainB_yes hc rfl]
      simp
    · rw [mainB_not hc]
      simp
end Go.Proofs.Ytpgfbnilnoopoaa
