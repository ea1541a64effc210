/-
  A region that draws its order, whose last operation waits for all the others: these may be taken under a condition that need not hold behind the last.
  Conditions: as each theorem says.
-/
import Derived.Test.YtdadaklkaehmjaaProg
import Derived.Deep.RegionHeld3
namespace Go.Proofs.Ytdadaklkaehmjaa
section
variable {P : Program} {ops : Array Oper} {Q : Exit → Go.Act → World → Prop} {L : Oper}

/-- The last waits for all the others; none of these waits for what stands behind it; none is guarded. -/
def lastB (ops : Array Oper) (L : Oper) : Bool :=
  (List.range ops.size).all (fun j => L.after.toList.any fun e => Region.binds .any e && e.on == j) && L.after.toList.all (fun e => decide (e.on < ops.size)) && L.guard.isNone &&
  (List.range ops.size).all (fun j => ((ops[j]?).map fun o => o.guard.isNone && o.after.toList.all (fun e => decide (e.on < j))).getD true)
/-- What is asked behind the others: that the last one leads to what is asked behind all. -/
def lastQ (P : Program) (L : Oper) (Q : Exit → Go.Act → World → Prop) : Exit → Go.Act → World → Prop
  | .normal, a, w => L.wp P a w (fun a' w' => Q .normal a' w') Q
  | .panic c, a, w => Q (.panic c) a w
  | .outgrown, a, w => Q .outgrown a w
  | e, a, w => Q e a w

theorem lastB_after (h : lastB ops L = true) {j : Nat} (hj : j < ops.size) : ∃ e ∈ L.after, Region.binds .any e = true ∧ e.on = j := by
  unfold lastB at h
  simp only [Bool.and_eq_true, List.all_eq_true, List.mem_range, List.any_eq_true] at h
  obtain ⟨e, he, h1⟩ := h.1.1.1 j hj
  simp only [beq_iff_eq] at h1
  exact ⟨e, Array.mem_toList_iff.1 he, h1.1, h1.2⟩
theorem lastB_on (h : lastB ops L = true) {e : Edge} (he : e ∈ L.after) : e.on < ops.size := by
  unfold lastB at h
  simp only [Bool.and_eq_true, List.all_eq_true, decide_eq_true_eq] at h
  exact h.1.1.2 e (Array.mem_toList_iff.2 he)
theorem lastB_guard (h : lastB ops L = true) : L.guard = none := by
  unfold lastB at h
  simp only [Bool.and_eq_true, Option.isNone_iff_eq_none] at h
  exact h.1.2
theorem lastB_op (h : lastB ops L = true) {j : Nat} {o : Oper} (ho : ops[j]? = some o) : o.guard = none ∧ ∀ e ∈ o.after, e.on < j := by
  unfold lastB at h
  simp only [Bool.and_eq_true, List.all_eq_true, List.mem_range] at h
  have := h.2 j (Array.getElem?_eq_some_iff.1 ho).1
  rw [ho] at this
  simp only [Option.map_some, Option.getD_some, Bool.and_eq_true, Option.isNone_iff_eq_none, List.all_eq_true, decide_eq_true_eq] at this
  exact ⟨this.1, fun e he => this.2 e (Array.mem_toList_iff.2 he)⟩

theorem push_getD_true {listed : Array Bool} {j : Nat} (hj : j < listed.size) : (listed.push false).getD j true = listed.getD j true := by
  simp [Array.getElem?_push, Nat.ne_of_lt hj]
theorem push_getD_false (listed : Array Bool) (j : Nat) : (listed.push false).getD j false = listed.getD j false := by
  simp only [Array.getD_eq_getD_getElem?, Array.getElem?_push]
  split
  · rename_i e
    subst e
    simp
  · rfl
theorem push_getD_last (listed : Array Bool) : (listed.push false).getD listed.size true = false := by simp

theorem ready_push_lt {listed : Array Bool} (hs : listed.size = ops.size) {j : Nat} (hj : j < ops.size) : j ∈ Region.ready .any (ops.push L) (listed.push false) ↔ j ∈ Region.ready .any ops listed := by
  rw [mem_ready, mem_ready, push_getD_true (by omega), Array.getElem?_push, if_neg (by omega)]
  simp only [push_getD_false]
theorem ready_push_last (h : lastB ops L = true) {listed : Array Bool} (hs : listed.size = ops.size) : ops.size ∈ Region.ready .any (ops.push L) (listed.push false) ↔ ∀ j, j < ops.size → listed.getD j false = true := by
  rw [mem_ready, ← hs, push_getD_last, hs, Array.getElem?_push, if_pos rfl]
  simp only [push_getD_false, true_and, Option.some.injEq, exists_eq_left']
  constructor
  · intro h1 j hj
    obtain ⟨e, he, h2, rfl⟩ := lastB_after h hj
    exact h1 e he h2
  · exact fun h1 e he _ => h1 _ (lastB_on h he)
theorem all_listed (h : lastB ops L = true) {listed : Array Bool} (hs : listed.size = ops.size) (hr : Region.ready .any ops listed = []) : ∀ j, j < ops.size → listed.getD j false = true := by
  intro j
  induction j using Nat.strongRecOn with
  | ind j ih =>
    intro hj
    cases hl : listed.getD j false with
    | true => rfl
    | false =>
      have hm : j ∈ Region.ready .any ops listed := by
        rw [mem_ready]
        have ho : ops[j]? = some ops[j] := Array.getElem?_eq_getElem hj
        refine ⟨?_, _, ho, fun e he _ => ?_⟩
        · have hj' : j < listed.size := by omega
          simp [hj'] at hl ⊢
          exact hl
        · have := (lastB_op h ho).2 e he
          exact ih _ this (by omega)
      rw [hr] at hm
      cases hm
theorem wp_lastQ' {o : Oper} {a : Go.Act} {w : World} {K : Go.Act → World → Prop} (h : o.wp P a w K (lastQ P L Q)) : o.wp P a w K Q := by
  unfold Oper.wp at *
  generalize (execOp a.eval o).run P w = r at *
  cases r with
  | ok n w' =>
    cases n <;> simp only [Oper.upon] at h ⊢ <;>
      first
        | exact h
        | exact Calls.mono h (fun e w'' he => by cases e <;> exact he)
  | halt x w' => cases x <;> simp only [Oper.upon] at h ⊢ <;> exact h
theorem letsOut_lastQ (h : LetsOut (lastQ P L Q)) : LetsOut Q := h
theorem ready_lt {md : Region.Mode} {listed : Array Bool} {j : Nat} (h : j ∈ Region.ready md ops listed) : j < ops.size := by
  rw [mem_ready] at h
  obtain ⟨-, o, ho, -⟩ := h
  exact (Array.getElem?_eq_some_iff.1 ho).1
/-- The last one, where all others have come up. -/
theorem wpAny_lastStep (h : lastB ops L = true) {fuel : Nat} {listed : Array Bool} {a : Go.Act} {w : World} (hs : listed.size = ops.size) (hr : Region.ready .any ops listed = []) (hq : L.wp P a w (fun a' w' => Q .normal a' w') Q) :
    wpAny P .any (ops.push L) Q (fuel + 1) (listed.push false) a w := by
  have hall := all_listed h hs hr
  have hin := (ready_push_last h hs).2 hall
  refine ⟨fun h0 => (by rw [h0] at hin; cases hin), fun i hi => ?_⟩
  have hil := ready_lt hi
  have he : i = ops.size := by
    rcases Nat.lt_or_ge i ops.size with h1 | h1
    · have := (ready_push_lt hs h1).1 hi
      rw [hr] at this
      cases this
    · simp at hil; omega
  subst he
  have hL : (ops.push L)[ops.size]? = some L := by simp
  unfold wpOp
  simp only [hL]
  have hw : Region.wanted L (yielded (ops.push L) a.tmps) = true := by simp [Region.wanted, lastB_guard h]
  rw [if_pos hw]
  refine .inl (Oper.wp_mono (fun a' w' hq' => ?_) hq)
  have hr0 : Region.ready .any (ops.push L) ((listed.push false).setIfInBounds ops.size true) = [] := by
    apply List.eq_nil_iff_forall_not_mem.2
    intro j hj
    have hjl := ready_lt hj
    rw [mem_ready] at hj
    obtain ⟨h1, -⟩ := hj
    by_cases e : ops.size = j
    · subst e
      simp [hs] at h1
    · rw [getD_set_ne true e, push_getD_true (by simp at hjl; omega)] at h1
      have := hall j (by simp at hjl; omega)
      have hj' : j < listed.size := by simp at hjl; omega
      simp [hj'] at h1 this
      rw [this] at h1
      cases h1
  cases fuel with
  | zero => exact ⟨hr0, hq'⟩
  | succ fuel => exact ⟨fun _ => hq', by rw [hr0]; intro i hi; cases hi⟩
theorem wpAny_last (h : lastB ops L = true) : ∀ (fuel : Nat) (listed : Array Bool) (a : Go.Act) (w : World), listed.size = ops.size → wpAny P .any ops (lastQ P L Q) fuel listed a w → wpAny P .any (ops.push L) Q (fuel + 1) (listed.push false) a w := by
  intro fuel
  induction fuel with
  | zero => exact fun listed a w hs hq => wpAny_lastStep h hs hq.1 hq.2
  | succ fuel ih =>
    intro listed a w hs hq
    cases hr : Region.ready .any ops listed with
    | nil => exact wpAny_lastStep h hs hr (hq.1 hr)
    | cons r rs =>
      have hnot : ¬ ops.size ∈ Region.ready .any (ops.push L) (listed.push false) := fun hin => by
        have hall := (ready_push_last h hs).1 hin
        have hm : r ∈ Region.ready .any ops listed := by rw [hr]; exact List.mem_cons_self ..
        have hrl := ready_lt hm
        rw [mem_ready] at hm
        have := hall r hrl
        have hr' : r < listed.size := by omega
        have h1 := hm.1
        simp [hr'] at h1 this
        rw [this] at h1
        cases h1
      have hsome : r ∈ Region.ready .any (ops.push L) (listed.push false) := (ready_push_lt hs (ready_lt (by rw [hr]; exact List.mem_cons_self ..))).2 (by rw [hr]; exact List.mem_cons_self ..)
      refine ⟨fun h0 => (by rw [h0] at hsome; cases hsome), fun i hi => ?_⟩
      have hil := ready_lt hi
      have hi2 : i < ops.size := by
        rcases Nat.lt_or_ge i ops.size with h1 | h1
        · exact h1
        · have e : i = ops.size := by simp at hil; omega
          subst e
          exact absurd hi hnot
      have h1 := hq.2 i ((ready_push_lt hs hi2).1 hi)
      have ho : ops[i]? = some ops[i] := Array.getElem?_eq_getElem hi2
      have ho2 : (ops.push L)[i]? = some ops[i] := by rw [Array.getElem?_push, if_neg (by omega)]; exact ho
      have hg := (lastB_op h ho).1
      unfold wpOp at h1 ⊢
      simp only [ho] at h1
      simp only [ho2]
      have hw1 : Region.wanted ops[i] (yielded ops a.tmps) = true := by simp [Region.wanted, hg]
      have hw2 : Region.wanted ops[i] (yielded (ops.push L) a.tmps) = true := by simp [Region.wanted, hg]
      rw [if_pos hw1] at h1
      rw [if_pos hw2]
      refine h1.imp (fun h2 => Oper.wp_mono (fun a' w' h3 => ?_) (wp_lastQ' h2)) fun h2 => ⟨h2.1, letsOut_lastQ h2.2⟩
      have e : (listed.push false).setIfInBounds i true = (listed.setIfInBounds i true).push false := by
        apply Array.ext_getElem?
        intro j
        simp only [Array.getElem?_setIfInBounds, Array.getElem?_push, Array.size_push, Array.size_setIfInBounds]
        by_cases e1 : i = j
        · subst e1
          have : i ≠ listed.size := by omega
          have h4 : i < listed.size := by omega
          simp [this, h4]
          omega
        · simp [e1]
      rw [e]
      exact ih _ _ _ (by simpa using hs) h3
/-- **A region whose last operation waits for all the others: these may be taken under S, which need not hold behind the last.** -/
theorem wp_region_held_last {S : World → Prop} {id : Nat} {all : Array Oper} {a : Go.Act} {w : World} (hm : P.follows .mixedOrders = true) (hall : all = ops.push L) (h : lastB ops L = true) (hS : S w.drew)
    (hw : S w.drew → wpAnyH P .any ops (lastQ P L Q) S ops.size (Array.replicate ops.size false) a w.drew) : (Code.region id all true).wp P Q a w := by
  subst hall
  have e : (Array.replicate ops.size false).push false = Array.replicate (ops.push L).size false := by
    rw [Array.size_push, Array.replicate_succ]
  have := wpAny_last h _ _ _ _ (by simp) (wpAny_of_held _ _ _ _ (hw hS))
  rw [e] at this
  refine wp_region_any hm ?_
  rw [Array.size_push] at this ⊢
  exact this
/-- All but the last; the last. -/
def initO : Oper → List Oper → List Oper
  | _, [] => []
  | o, b :: l => o :: initO b l
def lastO : Oper → List Oper → Oper
  | o, [] => o
  | _, b :: l => lastO b l
theorem init_last : ∀ (o : Oper) (l : List Oper), o :: l = initO o l ++ [lastO o l]
  | _, [] => rfl
  | o, b :: l => by rw [initO, lastO, List.cons_append, ← init_last b l]
theorem wp_held_last {S : World → Prop} {id : Nat} {o : Oper} {l : List Oper} {a : Go.Act} {w : World} (hm : P.follows .mixedOrders = true) (h : lastB (initO o l).toArray (lastO o l) = true) (hS : S w.drew)
    (hw : S w.drew → wpAnyH P .any (initO o l).toArray (lastQ P (lastO o l) Q) S (initO o l).toArray.size (Array.replicate (initO o l).toArray.size false) a w.drew) : (Code.region id (o :: l).toArray true).wp P Q a w :=
  wp_region_held_last (ops := (initO o l).toArray) (L := lastO o l) hm (by rw [init_last o l]; simp) h hS hw
theorem anyh_world {md : Region.Mode} {S : World → Prop} {fuel : Nat} {listed : Array Bool} {a : Go.Act} {w : World} (h : ∀ X, X = w → wpAnyH P md ops Q S fuel listed a X) : wpAnyH P md ops Q S fuel listed a w := h w rfl
end
end Go.Proofs.Ytdadaklkaehmjaa
