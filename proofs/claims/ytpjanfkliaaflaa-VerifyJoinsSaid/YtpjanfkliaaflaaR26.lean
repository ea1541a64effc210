/-
  Vlo
-/
import Derived.Test.YtpjanfkliaaflaaR01
import Derived.Test.YtpjanfkliaaflaaR25
import Derived.Laws.OwnMore
set_option linter.unusedSimpArgs false
set_option linter.unusedVariables false
namespace Go.Proofs.Ytpjanfkliaaflaa
open Go.RowKit

theorem own_ins_none (w : World) : (w.alloc (.cells #[] 25)).ownsRow w.heap.size 25 3 (.slice (some ⟨w.heap.size, 0, none⟩) 0 0) 0 (I3 []) :=
  World.ownsRow_made w #[] 0 (Nat.le_refl _) (by simp [maxLen]) (by simp)
theorem I3_one (ts : List Ins) : ∀ u ∈ I3 ts, u.oneCell' = true := by
  induction ts with
  | nil => simp [I3]
  | cons t ts ih =>
    intro u hu
    simp only [I3, i3, List.cons_append, List.nil_append, List.mem_cons] at hu
    rcases hu with rfl | rfl | rfl | hu
    · rfl
    · rfl
    · rfl
    · exact ih u hu
theorem walk_append_inss (w : World) {ops : Array Oper} {rest : List Oper} {o : Oper} {a : Act} {Q : Exit → Act → World → Prop} (hgd : o.guard = none) (s x : Operand)
    (ho : o.op = .call { callee := .builtin .append, args := #[s, x], argTypes := #[26, 26] })
    (base : Nat) (v : Value) (n : Nat) (ts : List Ins) (hs : a.eval s = v) (hown : w.ownsRow base 25 3 v n (I3 ts)) (ad : Addr) (m d : Nat) (us : List Ins) (hx : a.eval x = .slice (some ad) m d) (hm : us.length = m)
    (hc : ∀ j u, (I3 us)[j]? = some u → w.cell? (ad.add j) = some u) (hbig : n + m ≤ 1000000) (hbase : base ≤ w.heap.size)
    (h : ∀ v' w', w'.ownsRow base 25 3 v' (n + m) (I3 (ts ++ us)) → w.grownBy w' v.ownBlock → (v'.ownBlock = v.ownBlock ∨ v'.ownBlock = some w.heap.size) → wpList Try.prog ops Q rest (a.put o.dst v') w') :
    wpList Try.prog ops Q (o :: rest) a w := by
  refine wpList_plain hgd fun _ hK => ?_
  obtain ⟨i0, hi0, hz0, hz1, hz2⟩ := info_parts ins_info
  obtain ⟨v', w', hrun, h2, h3, _, h5⟩ := run_append_own_at (P := Try.prog) w base 26 o.type 25 i0 (.agg #[.int .i64 0, .int .i64 0, .int .i64 0]) 3 24 Try.underlying26 hi0 hz0 hz1 hz2 rfl (by omega) v n (I3 ts) hown ad m d (I3 us) (by rw [I3_length]; omega) hc (I3_one us)
    (by simp only [maxLen]; omega) (by omega) hbase
  rw [← I3_app] at h2
  unfold Oper.wp execOp
  simp only [ho, resolve, invoke, builtin, Sem.run_bind, Sem.run_pure, Result.andThen_ok, List.map_toArray, List.map_cons, List.map_nil, hs, hx, hrun]
  exact hK _ _ (h v' w' h2 h3 h5)
theorem own_cod {w : World} {base n : Nat} {v : Value} {ts : List Ins} (h : w.ownsRow base 25 3 v n (I3 ts)) (hI : ∀ t ∈ ts, I64 t.1 ∧ I64 t.2.1 ∧ I64 t.2.2) : ∃ A c, v = .slice A n c ∧ codL.R (· < w.heap.size) w [.slice A n c] ts := by
  have hn : n = ts.length := by have := h.1; rw [I3_length] at this; omega
  subst hn
  rcases h.2 with ⟨rfl, h0⟩ | ⟨g, cap, cur, rfl, hb, hg, hnc, hcm, _, _⟩
  · exact ⟨none, 0, by rw [h0], none, 0, by rw [h0], by omega, by simp [maxLen], fun hpos => absurd hpos (by omega)⟩
  · refine ⟨_, cap, rfl, _, cap, rfl, hnc, hcm, fun _ => ⟨_, rfl, (Array.getElem?_eq_some_iff.1 hg).1, fun j t hj => ?_⟩⟩
    have hjl := (List.getElem?_eq_some_iff.1 hj).1
    refine ⟨[.int .i64 t.1, .int .i64 t.2.1, .int .i64 t.2.2], fun i u hu => ?_, rfl, hI t (List.mem_of_getElem? hj)⟩
    have hi : i < 3 := by have := (List.getElem?_eq_some_iff.1 hu).1; simpa using this
    refine h.cells rfl (j * 3 + i) u ?_
    rw [I3_get ts j i hjl hi, hj]
    exact hu

def loopBody (k : Nat) : List Ins := [(0, 0, 0), (5, 0, 0)] ++ (if k = 1 then [(0, 0, 0)] else if k = 2 then [(5, 0, 0)] else [])
def loopEnd (c k : Nat) : Nat := c + 1 + 2 + (loopBody k).length + 1
def loopCode (c k : Nat) : List Ins := List.replicate (c + 1) (0, 0, 0) ++ [(0, 0, 0), (24, (loopEnd c k : Int), 0)] ++ loopBody k ++ [(23, ((c + 1 : Nat) : Int), 0), (26, 0, 0)]
def loopFn (c k : Nat) : Fn := ⟨[], (1, 0), [], loopCode c k⟩
def loopMod (c k : Nat) : Mod := ⟨[], [loopFn c k], [], [1], []⟩
def loopShapes (c : Nat) : List Shape := (stepsF (loopMod c 0) (loopFn c 0) (List.range (loopCode c 0).length) (beginF (loopCode c 0).length)).getD []
theorem loop_all : ∀ c < 4, ∀ k < 3, checkN (loopMod c k) = 0 ∧ mainB (loopMod c k) = true ∧ 0 < (loopCode c k).length ∧ ∀ t ∈ loopCode c k, (-9223372036854775808 ≤ t.1 ∧ t.1 ≤ 9223372036854775807) ∧ (-9223372036854775808 ≤ t.2.1 ∧ t.2.1 ≤ 9223372036854775807) ∧ (-9223372036854775808 ≤ t.2.2 ∧ t.2.2 ≤ 9223372036854775807) := by decide +kernel
theorem loop_yes1 : ∀ c < 4, (stepsF (loopMod c 0) (loopFn c 0) (List.range (loopCode c 0).length) (beginF (loopCode c 0).length)).isSome = true := by decide +kernel
theorem loop_yes2 : ∀ c < 4, (List.range (loopCode c 0).length).all (okF (loopMod c 0) (loopFn c 0) (loopShapes c)) = true := by decide +kernel
theorem loop_yes3 : ∀ c < 4, (loopShapes c).all outF = true := by decide +kernel
theorem loop_yes4 : ∀ c < 4, ((loopShapes c)[loopEnd c 0]?).map (fun x => (x.1, x.2.length)) = some (true, c + 1) := by decide +kernel
theorem loop_end {c : Nat} (hc : c < 4) : ∃ s, (loopShapes c)[loopEnd c 0]? = some (true, s) ∧ s.length = c + 1 := by
  have h := loop_yes4 c hc
  obtain ⟨⟨b, s⟩, h1, h2⟩ := Option.map_eq_some_iff.1 h
  simp only [Prod.mk.injEq] at h2
  obtain ⟨rfl, h2⟩ := h2
  exact ⟨s, h1, h2⟩
theorem loop_no : ∀ c < 4, ∀ k < 3, 0 < k → stepsF (loopMod c k) (loopFn c k) (List.range (loopCode c k).length) (beginF (loopCode c k).length) = none := by decide +kernel
theorem loop_least {c : Nat} (hc : c < 4) : LeastM (loopMod c 0) [loopShapes c] := by
  obtain ⟨h1, h2, h3, -⟩ := loop_all c hc 0 (by omega)
  obtain ⟨l, hl⟩ := Option.isSome_iff_exists.1 (loop_yes1 c hc)
  have k1 : stepsF (loopMod c 0) (loopFn c 0) (List.range (loopCode c 0).length) (beginF (loopCode c 0).length) = some (loopShapes c) := by unfold loopShapes; rw [hl]; rfl
  exact leastM_one (fn := loopFn c 0) rfl (reckon_least h1 (by simp [loopMod]) h3 _ _ k1 (loop_yes2 c hc) (loop_yes3 c hc))
theorem loop_never {c k : Nat} (hc : c < 4) (hk : k < 3) (h0 : 0 < k) : NeverM (loopMod c k) := by
  obtain ⟨h1, h2, h3, -⟩ := loop_all c hc k hk
  exact ⟨loopFn c k, by simp [loopMod], reckon_never h1 (by simp [loopMod]) h3 _ (loop_no c hc k hk h0)⟩
end Go.Proofs.Ytpjanfkliaaflaa
