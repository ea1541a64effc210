/-
  What a Reader's Fixed takes; what slices.Backward over bytes yields to a loop, from the last byte to the first, whatever the loop's body is, as long as the body turns no block but its own.
  Conditions: as each theorem says.
-/
import Derived.Test.YtolofgifcjkaaaaRdr
import Derived.Test.YtolofgifcjkaaaaWid
import Derived.RangeFuncNested
import Derived.RangeFuncBound
import Derived.RangeFuncCalls
import Derived.RangeFuncLeaves
import Derived.RangeFuncBox
import Derived.Shelf.Abstract
import Derived.Shelf.RegionOpen
import Derived.OwnWalkIn
import Derived.TacticsInMore
import Derived.LoopNIn
import Derived.LoopIn
import Derived.Laws.BitsAllLaws
import Derived.Laws.Bits64
namespace Go.Proofs.Ytolofgifcjkaaaa
open Go.RowKit Go.Shelf

attribute [local go_sem] Oper.semAt_some

/-- What has come when the bytes from m on are over: (the last index, the last byte) first. -/
def bk (xs : List Nat) (m : Nat) : List (Nat × Nat) := (List.range (xs.length - m)).map fun j => (xs.length - 1 - j, xs[xs.length - 1 - j]?.getD 0)
theorem bk_step (xs : List Nat) (m : Nat) (h : m < xs.length) : bk xs m = bk xs (m + 1) ++ [(m, xs[m]?.getD 0)] := by
  unfold bk
  have e : xs.length - m = (xs.length - (m + 1)) + 1 := by omega
  have e2 : xs.length - 1 - (xs.length - (m + 1)) = m := by omega
  rw [e, List.range_succ, List.map_append, List.map_cons, List.map_nil, e2]
theorem bk_all (xs : List Nat) : bk xs xs.length = [] := by simp [bk]
theorem bk_length (xs : List Nat) (m : Nat) : (bk xs m).length = xs.length - m := by simp [bk]

/-- Of the blocks below n1 none has turned but Bv. -/
def Kb (Bv n1 : Nat) (W W' : World) : Prop := ∀ k, k < n1 → k ≠ Bv → W'.heap[k]? = W.heap[k]?
theorem Kb.refl (Bv n1 : Nat) (W : World) : Kb Bv n1 W W := fun _ _ _ => rfl
theorem Kb.trans {Bv n1 : Nat} {A B C : World} (h : Kb Bv n1 A B) (k : Kb Bv n1 B C) : Kb Bv n1 A C := fun i hi hn => (k i hi hn).trans (h i hi hn)

set_option maxRecDepth 100000 in
set_option maxHeartbeats 2000000 in
theorem back1_in (F : Fence) (n : Nat) (h28 : F.fn 29) (hro : F.round = none) (hn : 1 ≤ n) (l Bs Bv n1 c : Nat) (A : Option Addr) (xs : List Nat) (hlen : xs.length ≤ 1000000) (hbs : Bs < n1) (hne : Bs ≠ Bv) (J Jx : List (Nat × Nat) → World → Prop)
    (hY : ∀ pre x W, J pre W → pre.length < xs.length → YieldAt F (n - 1) Try.prog l #[.int .i64 (x.1 : Nat), .int .u8 (x.2 : Nat)] W fun e W' =>
      (e = .returned (.bool true) ∧ J (pre ++ [x]) W' ∧ Kb Bv n1 W W') ∨ (e = .returned (.bool false) ∧ Jx (pre ++ [x]) W'))
    (W : World) (hBs : W.cell? ⟨Bs, 0, none⟩ = some (.slice A xs.length c)) (hB : Byt (fun b => b < n1 ∧ b ≠ Bv) W A xs) (h0 : J [] W) :
    CallsIn F n Try.prog 29 #[.func (.yield l) #[] #[], .pointer (some ⟨Bs, 0, none⟩)] W fun e W' => (∃ v, e = .returned v) ∧
      ((∃ ys, ys = bk xs 0 ∧ J ys W') ∨ (∃ pre, True ∧ Jx pre W')) := by
  have HB := Lib.hid hB
  clear hB
  refine callsIn_of_wp Try.func29 rfl h28 ?_ hro
  simp only [Try.ntmps29, List.size_toArray, List.length_cons, List.length_nil, Nat.reduceAdd, Nat.reduceSub, Array.replicate_succ, Array.replicate_zero, List.push_toArray, List.append_toArray, List.nil_append, List.cons_append]
  gi_wp2
  gi_loopw [3] (fun i wr => ∃ m : Nat, m ≤ xs.length ∧ i = .int .i64 ((m : Int) - 1) ∧ J (bk xs m) wr ∧ Kb Bv n1 W wr)
    (fun i _ => (intOf i + 1).toNat)
  case atStart => exact ⟨xs.length, Nat.le_refl _, rfl, by rw [bk_all]; exact h0, Kb.refl _ _ _⟩
  case round =>
    obtain ⟨m, hm, rfl, hJs, hnx⟩ := hrel
    have HK := Lib.hid hnx
    have hcs : wr.cell? ⟨Bs, 0, none⟩ = some (.slice A xs.length c) := (World.cell?_of_block (a := ⟨Bs, 0, none⟩) (hnx Bs hbs hne)).trans hBs
    clear hnx hBs
    cases m with
    | zero =>
      gi_wp2
      go_end0
      exact ⟨⟨_, rfl⟩, .inl ⟨_, rfl, hJs⟩⟩
    | succ m =>
      obtain ⟨a, rfl, ha, hc⟩ := HB.out.at (k := m) (by omega)
      have hcx : wr.cell? (a.add m) = some (.int .u8 ((xs[m]?.getD 0 : Nat) : Int)) := (World.cell?_of_block (HK.out _ (by rw [addBlock]; exact ha.1) (by rw [addBlock]; exact ha.2))).trans hc
      obtain ⟨fn, tmps, assign, body, hy, hR⟩ := hY _ (m, xs[m]?.getD 0) wr hJs (by rw [bk_length]; omega)
      dsimp only at hy
      have e1 : ((m + 1 : Nat) : Int) - 1 = (m : Int) := by omega
      rw [e1]
      clear hc ha e1
      gi_wp2
      refine hR.mono ?_
      rintro e W3 (⟨rfl, hJ3, hk3⟩ | ⟨rfl, hJx3⟩)
      · gi_wp2
        go_roundw
        case rel => exact ⟨m, by omega, by first | rfl | simp, by rw [bk_step xs m (by omega)]; exact hJ3, HK.out.trans hk3⟩
        case measure => simp [intOf]
      · gi_wp2
        refine bodyPost_ret (results_none rfl _ _ _) rfl ?_
        exact ⟨⟨_, rfl⟩, .inr ⟨_, trivial, hJx3⟩⟩

theorem back_stops (n : Nat) (hn : 1 ≤ n) (Bs Bv n1 c : Nat) (A : Option Addr) (xs : List Nat) (hlen : xs.length ≤ 1000000) (hbs : Bs < n1) (hne : Bs ≠ Bv) (w : World) (hsz : n1 ≤ w.heap.size)
    (hBs : w.cell? ⟨Bs, 0, none⟩ = some (.slice A xs.length c)) (hB : Byt (fun b => b < n1 ∧ b ≠ Bv) w A xs) :
    SeqStopsK Fence.wide n Try.prog 29 #[.pointer (some ⟨Bs, 0, none⟩)] (fun x : Nat × Nat => #[Value.int .i64 (x.1 : Nat), Value.int .u8 (x.2 : Nat)]) (Kb Bv n1) (fun ys => ys = bk xs 0) (fun _ => True) xs.length w := fun l J Jx W hW _ _ hY h0 => by
  exact back1_in Fence.wide n trivial rfl hn l Bs Bv n1 c A xs hlen hbs hne J Jx hY W ((hW.cell (p := ⟨Bs, 0, none⟩) (by show Bs < w.heap.size; omega)).trans hBs) (hB.keep fun b hb => hW.block b (by omega)) h0

set_option maxHeartbeats 400000 in
theorem backward_any (a : Option Addr) (len cap : Nat) (w : World) :
    Calls Try.prog 25 #[.slice a len cap] w fun e w' => e = .returned (.func (.func 29) #[] #[.pointer (some ⟨w.heap.size, 0, none⟩)]) ∧ w.alloc (.cells #[.slice a len cap] 24) = w' := by
  go_enter Try.func25, Try.ntmps25
  go_wp2
  go_ret
  exact ⟨rfl, rfl⟩

theorem kb_put {Bv n1 : Nat} {w : World} (hn : n1 ≤ w.heap.size) (W : World) (l : Nat) (o o' : Obj) (hl : w.heap.size ≤ l) (_ : W.heap[l]? = some o) (_ : o.isCells = false) (_ : o.isWalk = false) : Kb Bv n1 W (W.putObj l o') :=
  fun k hk _ => by
    have : l ≠ k := by omega
    simp [World.putObj, this]

/-- What the bytes that came make of the number so far. -/
def fo (pre : List (Nat × Nat)) : Int := pre.foldl (fun s x => bits .or .u64 (IntKind.u64.wrap (s * 256)) (IntKind.u64.wrap (x.2 : Nat))) 0
theorem fo_snoc (pre : List (Nat × Nat)) (x : Nat × Nat) : fo (pre ++ [x]) = bits .or .u64 (IntKind.u64.wrap (fo pre * 256)) (IntKind.u64.wrap (x.2 : Nat)) := by simp [fo]

set_option maxRecDepth 100000 in
set_option maxHeartbeats 2000000 in
theorem rfixed_core (p : Option Addr) (n : Int) (w : World) (R : List Nat → World → Prop)
    (hcut : Calls Try.prog 26 #[.pointer p, .int .i64 (wid n : Nat)] (w.alloc (.cells #[.int .u64 0] 42)) fun e w2 => ∃ A c ys, e = .returned (.slice A ys.length c) ∧ Byt (· < w.heap.size) w2 A ys ∧ ys.length ≤ 8 ∧ Boxed w2 w.heap.size 42 (.int .u64 0) ∧ R ys w2) :
    Calls Try.prog 21 #[.pointer p, .int .i64 n] w fun e w' => ∃ ys w2, R ys w2 ∧ e = .returned (.int .u64 (fo (bk ys 0))) ∧ Below w.heap.size w2 w' := by
  have HC := Lib.hid hcut
  clear hcut
  refine (callsIn_wide (n := 3)).1 ?_
  refine callsIn_of_wp_marks Try.func21 rfl trivial ?_ rfl
  simp only [Try.ntmps21, List.size_toArray, List.length_cons, List.length_nil, Nat.reduceAdd, Nat.reduceSub, Array.replicate_succ, Array.replicate_zero, List.push_toArray, List.append_toArray, List.nil_append, List.cons_append]
  gi_wp2_with (first
    | (refine ⟨trivial, ?_⟩; gi_at_call 24; refine (callsIn_wide.2 (width_any _ _)).mono ?_; rintro e w' ⟨rfl, rfl⟩)
    | (refine ⟨trivial, ?_⟩; gi_at_call 26; refine (callsIn_wide.2 HC.out).mono ?_; rintro e w2 ⟨A, c, ys, rfl, hB, hl, hbx, hR⟩; have HB := Lib.hid hB; have HX := Lib.hid hbx; have HR := Lib.hid hR; clear hB hbx hR)
    | (refine ⟨trivial, ?_⟩; gi_at_call 25; refine (callsIn_wide.2 (backward_any _ _ _ _)).mono ?_; rintro e w' ⟨rfl, rfl⟩))
  have bV : Boxed (w2.alloc (.cells #[.slice A ys.length c] 24)) w.heap.size 42 (.int .u64 0) := HX.out.alloc _
  have hlt : w.heap.size < w2.heap.size := HX.out.lt
  have bS := Boxed.new w2 24 (.slice A ys.length c)
  have hB0 : Below w.heap.size w2 (w2.alloc (.cells #[.slice A ys.length c] 24)) := (Below.refl _ w2).alloc (by omega) _
  refine wpIn_rangeFunc_ownG rfl (by omega) (gf := 29) (lb := #[.pointer (some ⟨w2.heap.size, 0, none⟩)]) rfl trivial (enters_of Try.func29 (by kernel_rfl) rfl)
    (back_stops 2 (by omega) w2.heap.size w.heap.size (w2.heap.size + 1) c A ys (by omega) (by omega) (by omega) _ (by simp) bS.cell ((HB.out.keep fun b hb => Below.heap_alloc w2 _ b (by omega)).wide fun b hb => ⟨by omega, by omega⟩))
    Kb.trans (kb_put (by simp)) (Below.refl _ _) (fun _ => rfl)
    (fun pre W => Boxed W w.heap.size 42 (.int .u64 (fo pre)) ∧ Below w.heap.size w2 W)
    (fun _ _ _ => False)
    (OwnFrom.and (Own.from (boxed_own _ _ _) _) (ownFrom_below (by omega) (by simp; omega)))
    (fun _ _ _ _ _ hs _ _ => hs)
    ⟨bV, hB0⟩
    (fun x => { tmps := #[.pointer p, .int .i64 n, undef, undef, .int .u64 0, .pointer (some ⟨w.heap.size, 0, none⟩), undef, .int .u8 (x.2 : Nat), .pointer p, .int .i64 n, .int .i64 (wid n : Nat), .slice A ys.length c, .func (.func 29) #[] #[.pointer (some ⟨w2.heap.size, 0, none⟩)], .int .i64 (x.1 : Nat), .int .u8 (x.2 : Nat), undef, undef, undef, undef, undef, undef], defers := [] }) ?assign ?body ?done ?stop
  case assign =>
    intro l x W K hK
    gi_wp2
    exact hK
  case body =>
    rintro l pre x W ⟨hb, hB⟩ _
    have hc := hb.cell
    have hf := hb.frozen
    gi_wp2
    refine ⟨(KeepsOthers.setCell _ _ _).from _, fun k _ hne => Below.heap_setCell _ _ _ _ hne, ?_, hB.setCell (p := ⟨w.heap.size, 0, none⟩) (Nat.le_refl _) _⟩
    rw [fo_snoc]
    exact hb.set _
  case done =>
    rintro D zs W hD rfl ⟨hb, hB⟩ hK
    have hc := hb.cell
    gi_wp2
    refine ⟨by simp, .inl ⟨_, _, rfl, run_takeDeferred hK, ?_⟩⟩
    exact ⟨_, results_tmp rfl _ _ _, ys, w2, HR.out, rfl, hB.trans (belowK_b (w := w2) (by omega) W D _ _ (by simp at hD; omega) hK rfl rfl)⟩
  case stop =>
    rintro D c pre W _ _ h _
    exact h.elim

theorem or_bytes (s x : Nat) (hs : s < 72057594037927936) (hx : x < 256) : bits .or .u64 (IntKind.u64.wrap ((s : Int) * 256)) (IntKind.u64.wrap (x : Int)) = ((x + 256 * s : Nat) : Int) := by
  rw [IntKind.wrap_u64, IntKind.wrap_u64, show ((s : Int) * 256) % 18446744073709551616 = ((s * 256 : Nat) : Int) by omega, show (x : Int) % 18446744073709551616 = (x : Int) by omega, u64_or_nat _ _ (by omega) (by omega),
    nat_join 8 (s * 256) x (by omega) (by omega)]
  omega
theorem fo_bk (xs : List Nat) (h : ∀ x ∈ xs, x < 256) (h8 : xs.length ≤ 8) (j : Nat) (hj : j ≤ xs.length) : fo (bk xs (xs.length - j)) = (le (xs.drop (xs.length - j)) : Nat) := by
  induction j with
  | zero => simp [bk_all, fo, le]
  | succ j ih =>
    have hm : xs.length - (j + 1) < xs.length := by omega
    have e : xs.length - (j + 1) + 1 = xs.length - j := by omega
    rw [bk_step xs _ hm, fo_snoc, e, ih (by omega), drop_cons xs _ hm, e]
    have h1 := le_lt (xs.drop (xs.length - j)) (fun x hx => h x (List.mem_of_mem_drop hx))
    have h2 := pow_le7 (xs.drop (xs.length - j)).length (by simp; omega)
    refine or_bytes _ _ (by omega) ?_
    simp only [hm, List.getElem?_eq_getElem, Option.getD_some]
    exact h _ (List.getElem_mem hm)
theorem fo_all (xs : List Nat) (h : ∀ x ∈ xs, x < 256) (h8 : xs.length ≤ 8) : fo (bk xs 0) = (le xs : Nat) := by
  have := fo_bk xs h h8 xs.length (Nat.le_refl _)
  simpa using this

set_option maxHeartbeats 400000 in
theorem rfixed_nil (n : Int) (w : World) : Calls Try.prog 21 #[.pointer none, .int .i64 n] w fun e w' => e = .returned (.int .u64 0) ∧ Below w.heap.size w w' := by
  refine (rfixed_core none n w (fun ys w2 => ys = [] ∧ Below w.heap.size w w2) ((cut_nil _ _).mono ?_)).mono ?_
  · rintro e w2 ⟨rfl, rfl⟩
    exact ⟨none, 0, [], rfl, Byt.nil _ _ _, by simp, Boxed.new w 42 _, rfl, (Below.refl _ w).alloc (Nat.le_refl _) _⟩
  · rintro e w' ⟨ys, w2, ⟨rfl, h2⟩, rfl, h3⟩
    exact ⟨rfl, h2.trans h3⟩

set_option maxHeartbeats 400000 in
theorem rfixed_bad (g : Nat) (n : Int) (w : World) (h : Bad w g) : Calls Try.prog 21 #[.pointer (some ⟨g, 0, none⟩), .int .i64 n] w fun e w' => e = .returned (.int .u64 0) ∧ Below w.heap.size w w' := by
  refine (rfixed_core _ n w (fun ys w2 => ys = [] ∧ Below w.heap.size w w2) ((cut_bad g _ _ (h.alloc _)).mono ?_)).mono ?_
  · rintro e w2 ⟨rfl, rfl⟩
    exact ⟨none, 0, [], rfl, Byt.nil _ _ _, by simp, Boxed.new w 42 _, rfl, (Below.refl _ w).alloc (Nat.le_refl _) _⟩
  · rintro e w' ⟨ys, w2, ⟨rfl, h2⟩, rfl, h3⟩
    exact ⟨rfl, h2.trans h3⟩

theorem boxed_only {g B : Nat} {t : TypeId} {v : Value} {a b : World} (h : Boxed a B t v) (ho : Only g a b) (hne : B ≠ g) : Boxed b B t v := (ho.block B h.lt (fun e => hne (by injection e))).trans h

set_option maxHeartbeats 400000 in
theorem rfixed_short (g : Nat) (n : Int) (xs : List Nat) (w : World) (h : Good w g xs) (hn : xs.length < wid n) :
    Calls Try.prog 21 #[.pointer (some ⟨g, 0, none⟩), .int .i64 n] w fun e w' => e = .returned (.int .u64 0) ∧ Bad w' g ∧ Only g w w' := by
  refine (rfixed_core _ n w (fun ys w2 => ys = [] ∧ Bad w2 g ∧ Only g w w2) ((cut_short g _ xs _ (h.alloc _) (.inr (by omega))).mono ?_)).mono ?_
  · rintro e w2 ⟨rfl, hB, hO⟩
    exact ⟨none, 0, [], rfl, Byt.nil _ _ _, by simp, boxed_only (Boxed.new w 42 _) hO (by have := h.lt; omega), rfl, hB, only_trans (only_alloc _) hO⟩
  · rintro e w' ⟨ys, w2, ⟨rfl, hB, hO⟩, rfl, h3⟩
    have hg := h.lt
    have hs := hO.size
    exact ⟨rfl, hB.below h3 hg, only_trans' hO h3⟩

set_option maxHeartbeats 400000 in
theorem rfixed_ok (g : Nat) (n : Int) (xs : List Nat) (w : World) (h : Good w g xs) (hb : ∀ x ∈ xs, x < 256) (hn : wid n ≤ xs.length) :
    Calls Try.prog 21 #[.pointer (some ⟨g, 0, none⟩), .int .i64 n] w fun e w' => e = .returned (.int .u64 (le (xs.take (wid n)) : Nat)) ∧ Good w' g (xs.drop (wid n)) ∧ Only g w w' := by
  have hg := h.lt
  have hw := wid_le n
  refine (rfixed_core _ n w (fun ys w2 => ys = xs.take (wid n) ∧ Good w2 g (xs.drop (wid n)) ∧ Only g w w2) ((cut_ok g (wid n) xs _ (h.alloc _) hn).mono ?_)).mono ?_
  · rintro e w2 ⟨A, c, rfl, hB, hkc, hcm, hG, hO⟩
    have hl : (xs.take (wid n)).length = wid n := by simp; omega
    exact ⟨A, c, xs.take (wid n), by rw [hl], hB.wide fun b hb => by omega, by omega, boxed_only (Boxed.new w 42 _) hO (by omega), rfl, hG, only_trans (only_alloc _) hO⟩
  · rintro e w' ⟨ys, w2, ⟨rfl, hG, hO⟩, rfl, h3⟩
    refine ⟨ret_int (fo_all _ (fun x hx => hb x (List.mem_of_mem_take hx)) (by simp; omega)), hG.below h3 hg, only_trans' hO h3⟩
end Go.Proofs.Ytolofgifcjkaaaa
