/-
  Vc Vs Vl Sml Lis Ixhgh Jb Jp
-/
import Derived.Test.YtikhhcmfjncabaaGreatQ02
import Derived.Test.YtikhhcmfjncabaaGreatQ03
import Derived.Test.YtikhhcmfjncabaaGreatQ08
import Derived.Test.YtikhhcmfjncabaaGreatQ09
import Derived.BigQuiet
set_option linter.unusedSimpArgs false
set_option linter.unusedVariables false
namespace Go.Proofs.YtikhhcmfjncabaaGreat

theorem goodT_can {r : Int} {t : Typ} (h : goodT r t = true) : canT t := by
  obtain ⟨k, n⟩ := t
  simp only [goodT, goodB] at h
  intro hk
  simp only at hk ⊢
  split at h
  · simpa using h
  · split at h
    · omega
    · split at h
      · omega
      · cases h
theorem canL_one {t : Typ} (h : canT t) : canL [t] := fun u hu => by simp at hu; subst hu; exact h
theorem canL_two {t u : Typ} (h : canT t) (h' : canT u) : canL [t, u] := fun v hv => by simp at hv; rcases hv with rfl | rfl <;> assumption
theorem canL_nil : canL [] := fun t ht => by simp at ht
theorem canL_app {s t : List Typ} (h : canL s) (h' : canL t) : canL (s ++ t) := fun u hu => by
  rcases List.mem_append.1 hu with h1 | h1
  · exact h u h1
  · exact h' u h1
theorem canL_take {s : List Typ} (h : canL s) (n : Nat) : canL (s.take n) := fun u hu => h u (List.mem_of_mem_take hu)
theorem can_num (k : Int) : canT (k, 0) := fun _ => rfl
theorem can_rec (n : Int) : canT (4, n) := fun h => by simp at h
theorem fn_can {m : Mod} {f : Fn} (hc : checkN m = 0) (hf : f ∈ m.funcs) : canL f.args ∧ canL f.locs ∧ canT f.ret := by
  have ho := (fitB_iff.1 (checkN_fit hc)).funcs f hf
  simp only [fnOk, Bool.and_eq_true, witB_iff] at ho
  exact ⟨fun t ht => goodT_can (ho.1.1.1.2 t ht), fun t ht => goodT_can (ho.1.2.2 t ht), goodT_can ho.1.1.2⟩
theorem imp_can {m : Mod} {p : Imp} (hc : checkN m = 0) (hf : p ∈ m.imps) : canT p.ret := by
  have ho := (fitB_iff.1 (checkN_fit hc)).imps p hf
  simp only [impOk, Bool.and_eq_true] at ho
  exact goodT_can ho.2
theorem rec_can {m : Mod} {r : List Typ} (hc : checkN m = 0) (hf : r ∈ m.recs) : canL r := by
  have ho := (fitB_iff.1 (checkN_fit hc)).recs r hf
  simp only [recOk, witB_iff] at ho
  exact fun t ht => goodT_can (ho.2 t ht)
theorem loc_can {m : Mod} {f : Fn} (n : Int) (hc : checkN m = 0) (hf : f ∈ m.funcs) : canT (locB f n) := by
  obtain ⟨h1, h2, -⟩ := fn_can hc hf
  unfold locB
  split
  · exact can_num 8
  · cases e : (f.args ++ f.locs)[n.toNat]? with
    | none => exact can_num 8
    | some t => exact canL_app h1 h2 t (List.mem_of_getElem? e)
theorem fld_can {m : Mod} (a b : Int) (hc : checkN m = 0) : canT (fldB m a b) := by
  unfold fldB
  cases e : m.recs[a.toNat]? with
  | none => simp; exact can_num 0
  | some r =>
    simp only [Option.getD_some]
    cases e2 : r[b.toNat]? with
    | none => exact can_num 0
    | some t => exact rec_can hc (List.mem_of_getElem? e) t (List.mem_of_getElem? e2)
def canO (o : Option (List Typ × List Typ)) : Prop := ∀ p, o = some p → canL p.2
theorem canO_ite {c : Prop} [Decidable c] {a b : Option (List Typ × List Typ)} (ha : canO a) (hb : canO b) : canO (if c then a else b) := by
  split
  · exact ha
  · exact hb
theorem canO_some {i o : List Typ} (h : canL o) : canO (some (i, o)) := fun p hp => by
  injection hp with hp
  subst hp
  exact h
theorem canO_none : canO none := fun p hp => by cases hp
theorem canL_rev {s r : List Typ} (h : canL s) (e : s.reverse = r) : canL r := fun t ht => h t (List.mem_reverse.1 (by rw [e]; exact ht))
theorem rule_can {m : Mod} {f : Fn} {i : Ins} {s : List Typ} (hc : checkN m = 0) (hf : f ∈ m.funcs) (hs : canL s) : canO (ruleB m f i s) := by
  obtain ⟨h1, h2, h3⟩ := fn_can hc hf
  unfold ruleB
  repeat (refine canO_ite ?_ ?_
          first
          | exact canO_some canL_nil
          | exact canO_some (canL_one (can_num _))
          | exact canO_some (canL_two (can_num _) (can_num _))
          | exact canO_some (canL_one (loc_can _ hc hf))
          | exact canO_some (canL_one (fld_can _ _ hc))
          | (split
             · rename_i g hg
               first
               | exact canO_some (canL_one (fn_can hc (List.mem_of_getElem? hg)).2.2)
               | exact canO_some (canL_one (imp_can hc (List.mem_of_getElem? hg)))
               | exact canO_some (canL_one (can_rec _))
             · exact canO_none)
          | (split
             · rename_i t r e
               have hr := canL_rev hs e
               first
               | exact canO_some (canL_two (hr _ (by simp)) (hr _ (by simp)))
               | (split
                  · exact canO_some canL_nil
                  · exact canO_none)
             · exact canO_none))
  exact canO_some (canL_one (can_num _))
theorem flow_can {m : Mod} {f : Fn} {i : Ins} {p : Nat} {s t : List Typ} {l : List Int} (hc : checkN m = 0) (hf : f ∈ m.funcs) (hs : canL s) (h : insB8 m f i p s = (0, t, l)) : canL t ∧ t.length ≤ 8 := by
  unfold insB8 at h
  split at h
  · simp at h
  · rename_i ins outs hr
    split at h
    · simp at h
    · rename_i t2 hm
      split at h
      · simp at h
      · simp only [Prod.mk.injEq, true_and] at h
        obtain ⟨rfl, -⟩ := h
        unfold movB at hm
        split at hm
        · rename_i h3
          injection hm with hm
          subst hm
          refine ⟨canL_app (canL_take hs _) (rule_can hc hf hs _ hr), ?_⟩
          rw [List.length_append, List.length_take]
          omega
        · cases hm
theorem flow_there {m : Mod} {f : Fn} {i : Ins} {p : Nat} {s t : List Typ} {l : List Int} (hc : checkN m = 0) (hf : f ∈ m.funcs) (hi : f.code[p]? = some i) (h : insB8 m f i p s = (0, t, l)) : ∀ k ∈ l, 0 ≤ k ∧ k.toNat < f.code.length := by
  obtain ⟨-, -, -, q4⟩ := sane_fn hc hf
  obtain ⟨hg, hn⟩ := q4 i (List.mem_of_getElem? hi)
  obtain ⟨o1, x1, y1, e1, e2, e3, -, -, -⟩ := goodI_parts hg
  have hp := (List.getElem?_eq_some_iff.1 hi).1
  have hl : nextB f i p = some l := by
    unfold insB8 at h
    split at h
    · simp at h
    · split at h
      · simp at h
      · split at h
        · simp at h
        · rename_i l' hl
          simp only [Prod.mk.injEq, true_and] at h
          rw [hl, h.2]
  intro k hk
  by_cases h26 : i.1 = 26
  · simp [nextB, h26] at hl
    subst hl
    simp at hk
  by_cases h23 : i.1 = 23
  · simp [nextB, h23] at hl
    simp [namedB, h23] at hn
    subst hl
    simp at hk
    omega
  by_cases hlast : f.code.length ≤ p + 1
  · simp [nextB, h26, h23, hlast] at hl
  by_cases h24 : i.1 = 24
  · simp [nextB, h24, hlast] at hl
    simp [namedB, h24] at hn
    subst hl
    simp at hk
    omega
  · simp [nextB, h26, h23, h24, hlast] at hl
    subst hl
    simp at hk
    omega
end Go.Proofs.YtikhhcmfjncabaaGreat
namespace Go.Proofs.YtikhhcmfjncabaaGreat

abbrev Shape := Bool × List Typ
def shO (x : Shape) : Option (List Typ) := if x.1 then some x.2 else none
def toS (l : List Shape) : Shp := fun p => (l[p]?).bind shO
theorem toS_yes {l : List Shape} {p : Nat} {s : List Typ} (h : l[p]? = some (true, s)) : toS l p = some s := by simp [toS, h, shO]
theorem toS_no {l : List Shape} {p : Nat} {s : List Typ} (h : l[p]? = some (false, s)) : toS l p = none := by simp [toS, h, shO]
theorem toS_some {l : List Shape} {p : Nat} {s : List Typ} (h : toS l p = some s) : l[p]? = some (true, s) := by
  unfold toS at h
  cases e : l[p]? with
  | none => rw [e] at h; cases h
  | some x =>
    obtain ⟨b, u⟩ := x
    rw [e] at h
    cases b
    · simp [shO] at h
    · simp [shO] at h; subst h; rfl
theorem toS_set {l : List Shape} {p : Nat} {s : List Typ} (hp : p < l.length) : toS (l.set p (true, s)) = putS (toS l) p s := by
  funext q
  unfold toS putS
  rw [List.getElem?_set]
  by_cases e : p = q
  · subst e
    simp [hp, shO]
  · rw [if_neg e, if_neg (fun h => e h.symm)]
structure Least (m : Mod) (fn : Fn) (l : List Shape) : Prop where
  len : l.length = fn.code.length
  out : ∀ (p : Nat) (s : List Typ), l[p]? = some (false, s) → s = []
  run : Run m fn (toS l)
  ok : ∀ p, p < fn.code.length → okAt m fn (toS l) p
theorem Least.right {m : Mod} {fn : Fn} {l : List Shape} (h : Least m fn l) : RightF m fn (toS l) := ⟨h.run.zero, h.ok⟩
theorem Least.same {m : Mod} {fn : Fn} {l l' : List Shape} (h : Least m fn l) (h' : Least m fn l') : l = l' := by
  have hs := run_same h.run h'.run h.right h'.right
  apply List.ext_getElem?
  intro p
  have hp := hs p
  by_cases hlt : p < l.length
  · have hlt' : p < l'.length := by rw [h'.len, ← h.len]; exact hlt
    obtain ⟨⟨b, s⟩, e⟩ : ∃ x, l[p]? = some x := ⟨_, List.getElem?_eq_getElem hlt⟩
    obtain ⟨⟨b', s'⟩, e'⟩ : ∃ x, l'[p]? = some x := ⟨_, List.getElem?_eq_getElem hlt'⟩
    rw [e, e']
    cases b <;> cases b'
    · rw [h.out p s e, h'.out p s' e']
    · rw [toS_no e, toS_yes e'] at hp; cases hp
    · rw [toS_yes e, toS_no e'] at hp; cases hp
    · rw [toS_yes e, toS_yes e'] at hp; injection hp with hp; rw [hp]
  · rw [List.getElem?_eq_none (by omega), List.getElem?_eq_none (by rw [h'.len, ← h.len]; omega)]
def Never (m : Mod) (fn : Fn) : Prop := ¬ ∃ R, RightF m fn R
structure LeastM (m : Mod) (L : List (List Shape)) : Prop where
  len : L.length = m.funcs.length
  at_ : ∀ (j : Nat) (fn : Fn) (l : List Shape), m.funcs[j]? = some fn → L[j]? = some l → Least m fn l
def NeverM (m : Mod) : Prop := ∃ fn ∈ m.funcs, Never m fn
theorem LeastM.get {m : Mod} {L : List (List Shape)} (h : LeastM m L) {j : Nat} {fn : Fn} (hf : m.funcs[j]? = some fn) : ∃ l, L[j]? = some l ∧ Least m fn l := by
  have hj := (List.getElem?_eq_some_iff.1 hf).1
  have e : L[j]? = some (L[j]'(by rw [h.len]; exact hj)) := List.getElem?_eq_getElem _
  exact ⟨_, e, h.at_ j fn _ hf e⟩
theorem LeastM.same {m : Mod} {L L' : List (List Shape)} (h : LeastM m L) (h' : LeastM m L') : L = L' := by
  apply List.ext_getElem?
  intro j
  by_cases hj : j < m.funcs.length
  · have hf : m.funcs[j]? = some m.funcs[j] := List.getElem?_eq_getElem hj
    obtain ⟨l, e, k⟩ := h.get hf
    obtain ⟨l', e', k'⟩ := h'.get hf
    rw [e, e', k.same k']
  · rw [List.getElem?_eq_none (by rw [h.len]; omega), List.getElem?_eq_none (by rw [h'.len]; omega)]
structure RightM (m : Mod) (L : List (List Shape)) : Prop where
  len : L.length = m.funcs.length
  at_ : ∀ (j : Nat) (fn : Fn) (l : List Shape), m.funcs[j]? = some fn → L[j]? = some l → l.length = fn.code.length ∧ (∀ x ∈ l, x.2.length ≤ 8) ∧ RightF m fn (toS l)
theorem RightM.get {m : Mod} {L : List (List Shape)} (h : RightM m L) {j : Nat} {fn : Fn} (hf : m.funcs[j]? = some fn) : ∃ l, L[j]? = some l ∧ l.length = fn.code.length ∧ (∀ x ∈ l, x.2.length ≤ 8) ∧ RightF m fn (toS l) := by
  have hj := (List.getElem?_eq_some_iff.1 hf).1
  have e : L[j]? = some (L[j]'(by rw [h.len]; exact hj)) := List.getElem?_eq_getElem _
  exact ⟨_, e, h.at_ j fn _ hf e⟩
theorem Least.short {m : Mod} {fn : Fn} {l : List Shape} (h : Least m fn l) : ∀ x ∈ l, x.2.length ≤ 8 := by
  rintro ⟨b, s⟩ hx
  obtain ⟨p, hp⟩ := List.mem_iff_getElem?.1 hx
  cases b
  · rw [h.out p s hp]; simp
  · exact (h.run.can p s (toS_yes hp)).2
theorem LeastM.right {m : Mod} {L : List (List Shape)} (h : LeastM m L) : RightM m L :=
  ⟨h.len, fun j fn l hf hl => ⟨(h.at_ j fn l hf hl).len, (h.at_ j fn l hf hl).short, (h.at_ j fn l hf hl).right⟩⟩
theorem LeastM.least {m : Mod} {L R : List (List Shape)} (h : LeastM m L) (h' : RightM m R) {j p : Nat} {l : List Shape} {s : List Typ} (hl : L[j]? = some l) (hp : l[p]? = some (true, s)) : ∃ r t, R[j]? = some r ∧ r[p]? = some (true, t) ∧ belowT s t = true := by
  have hj : j < m.funcs.length := by rw [← h.len]; exact (List.getElem?_eq_some_iff.1 hl).1
  have hf : m.funcs[j]? = some m.funcs[j] := List.getElem?_eq_getElem hj
  obtain ⟨r, hr, -, -, hR⟩ := h'.get hf
  obtain ⟨t, ht, hb⟩ := (h.at_ j _ l hf hl).run.least _ hR p s (toS_yes hp)
  exact ⟨r, t, hr, toS_some ht, hb⟩

def putF (t : List Typ) : List Int → List Shape → Option (List Shape)
  | [], l => some l
  | k :: ks, l =>
    match l[k.toNat]? with
    | none => none
    | some (false, _) => putF t ks (l.set k.toNat (true, t))
    | some (true, u) => if u.length = t.length then putF t ks (l.set k.toNat (true, joinL u t)) else none
def stepF (m : Mod) (fn : Fn) (l : List Shape) (p : Nat) : Option (List Shape) :=
  match l[p]?, fn.code[p]? with
  | some (true, s), some i => if (insB8 m fn i p s).1 = 0 then putF (insB8 m fn i p s).2.1 (insB8 m fn i p s).2.2 l else none
  | _, _ => some l
def stepsF (m : Mod) (fn : Fn) : List Nat → List Shape → Option (List Shape)
  | [], l => some l
  | p :: ps, l => (stepF m fn l p).bind (stepsF m fn ps)
def okF (m : Mod) (fn : Fn) (l : List Shape) (p : Nat) : Bool :=
  match l[p]?, fn.code[p]? with
  | some (true, s), some i => (insB8 m fn i p s).1 == 0 && (insB8 m fn i p s).2.2.all fun k => match l[k.toNat]? with
    | some (true, u) => belowT (insB8 m fn i p s).2.1 u
    | _ => false
  | some (true, _), none => false
  | _, _ => true
def outF (x : Shape) : Bool := x.1 || x.2.isEmpty
structure RunF (m : Mod) (fn : Fn) (l : List Shape) : Prop where
  len : l.length = fn.code.length
  run : Run m fn (toS l)
def beginF (n : Nat) : List Shape := (List.replicate n (false, [])).set 0 (true, [])
theorem beginF_run {m : Mod} {fn : Fn} (h : 0 < fn.code.length) : RunF m fn (beginF fn.code.length) := by
  refine ⟨by simp [beginF], ?_⟩
  have e : toS (beginF fn.code.length) = S0 := by
    unfold beginF
    rw [toS_set (by simpa using h)]
    funext p
    unfold putS S0
    by_cases e : p = 0
    · rw [if_pos e, if_pos e]
    · rw [if_neg e, if_neg e]
      unfold toS
      rw [List.getElem?_replicate]
      split <;> simp [shO]
  rw [e]
  exact run_begin h
theorem okF_ok {m : Mod} {fn : Fn} {l : List Shape} {p : Nat} (h : okF m fn l p = true) : okAt m fn (toS l) p := by
  intro s hs
  have hs := toS_some hs
  unfold okF at h
  rw [hs] at h
  cases hi : fn.code[p]? with
  | none => rw [hi] at h; simp at h
  | some i =>
    rw [hi] at h
    simp only [Bool.and_eq_true, beq_iff_eq, List.all_eq_true] at h
    refine ⟨i, _, _, rfl, Prod.ext h.1 rfl, fun k hk z hz => ?_⟩
    injection hz with hz
    subst hz
    have := h.2 k hk
    split at this
    · rename_i u hu
      exact ⟨u, toS_yes hu, this⟩
    · cases this
end Go.Proofs.YtikhhcmfjncabaaGreat
namespace Go.Proofs.YtikhhcmfjncabaaGreat
open Go.RowKit

def stkL : Lay (List Typ) where
  k := 1
  R S w cs xs := ∃ A c, cs = [.slice A xs.length c] ∧ xs.length ≤ c ∧ c ≤ maxLen ∧ (A = none → c = 0) ∧ Sq typL S w A xs
  len := by rintro S w cs x ⟨A, c, rfl, _⟩; rfl
  keep := by rintro S w w' cs x ⟨A, c, rfl, h1, h2, h3, h4⟩ hk; exact ⟨A, c, rfl, h1, h2, h3, h4.keep hk⟩
  wide := by rintro S T w cs x ⟨A, c, rfl, h1, h2, h3, h4⟩ hk; exact ⟨A, c, rfl, h1, h2, h3, h4.wide hk⟩
  one := by rintro S w cs x ⟨A, c, rfl, _⟩ u hu; simp at hu; subst hu; rfl
theorem stk_nil (S : Nat → Prop) (w : World) : stkL.R S w [.slice none 0 0] [] := ⟨none, 0, rfl, Nat.le_refl _, by simp [maxLen], fun _ => rfl, Sq.nil _ _ _ _⟩
def shpL : Lay Shape where
  k := 2
  R S w cs x := ∃ v, cs = [.bool x.1, v] ∧ stkL.R S w [v] x.2
  len := by rintro S w cs x ⟨v, rfl, _⟩; rfl
  keep := by rintro S w w' cs x ⟨v, rfl, h⟩ hk; exact ⟨v, rfl, stkL.keep h hk⟩
  wide := by rintro S T w cs x ⟨v, rfl, h⟩ hk; exact ⟨v, rfl, stkL.wide h hk⟩
  one := by
    rintro S w cs x ⟨v, rfl, h⟩ u hu
    simp at hu
    rcases hu with rfl | rfl
    · rfl
    · exact stkL.one h _ (by simp)
abbrev rowL : Lay (List Shape) := slL shpL
abbrev mapsL : Lay (List (List Shape)) := slL rowL
theorem shp_at {S : Nat → Prop} {w : World} {A : Option Addr} {l : List Shape} (h : Sq shpL S w A l) {k : Nat} {x : Shape} (hk : l[k]? = some x) :
    ∃ a D c, A = some a ∧ S a.block ∧ w.cell? (a.add (k * 2)) = some (.bool x.1) ∧ w.cell? ⟨(a.add (k * 2)).block, (a.add (k * 2)).off + 1, none⟩ = some (.slice D x.2.length c) ∧ x.2.length ≤ c ∧ c ≤ maxLen ∧ (D = none → c = 0) ∧ Sq typL S w D x.2 := by
  obtain ⟨a, cs, e, hs, hc, v, rfl, D, c, ev, h1, h2, h3, h4⟩ := h.at hk
  simp only [List.cons.injEq, and_true] at ev
  subst ev
  have c0 := hc 0 _ rfl
  have c1 := hc 1 _ rfl
  rw [show k * shpL.k + 0 = k * 2 from rfl] at c0
  rw [show k * shpL.k + 1 = k * 2 + 1 from rfl, next_cell a (k * 2) 1 (by omega)] at c1
  exact ⟨a, D, c, e, hs, c0, c1, h1, h2, h3, h4⟩
theorem row_at {S : Nat → Prop} {w : World} {A : Option Addr} {L : List (List Shape)} (h : Sq rowL S w A L) {k : Nat} {l : List Shape} (hk : L[k]? = some l) :
    ∃ a D c, A = some a ∧ S a.block ∧ w.cell? (a.add k) = some (.slice D l.length c) ∧ l.length ≤ c ∧ c ≤ maxLen ∧ Sq shpL S w D l := by
  obtain ⟨a, cs, e, hs, hc, D, c, rfl, h1, h2, h3⟩ := h.at hk
  have c0 := hc 0 _ rfl
  rw [show k * rowL.k + 0 = k by show k * 1 + 0 = k; omega] at c0
  exact ⟨a, D, c, e, hs, c0, h1, h2, h3⟩
theorem sq_low {α : Type} {La : Lay α} {w v : World} {A : Option Addr} {xs : List α} (h : Sq La (· < w.heap.size) w A xs) (hb : Below w.heap.size w v) : Sq La (· < v.heap.size) v A xs := (h.keep fun b h1 => hb.block b h1).wide fun b h1 => Nat.lt_of_lt_of_le h1 hb.size
end Go.Proofs.YtikhhcmfjncabaaGreat
namespace Go.Proofs.YtikhhcmfjncabaaGreat
open Go.RowKit

structure Small (x : Mod) : Prop where
  recs : ∀ t ∈ x.recs, t.length ≤ 3000
  funcs : ∀ f ∈ x.funcs, f.args.length ≤ 3000 ∧ f.locs.length ≤ 3000 ∧ f.code.length ≤ 3000
  imps : ∀ i ∈ x.imps, i.args.length ≤ 3000
  texts : ∀ s ∈ x.texts, s.length ≤ 3000
end Go.Proofs.YtikhhcmfjncabaaGreat
namespace Go.Proofs.YtikhhcmfjncabaaGreat
open Go.RowKit

def Ub {α : Type} (g : α → Nat) (xs : List α) (k : Nat) (z : Int) : Prop := ∀ j p, j < k → xs[j]? = some p → (g p : Int) ≤ z
theorem Ub.zero {α : Type} (g : α → Nat) (xs : List α) (z : Int) : Ub g xs 0 z := fun j p h => absurd h (by omega)
theorem Ub.mono {α : Type} {g : α → Nat} {xs : List α} {k : Nat} {z z' : Int} (h : Ub g xs k z) (hz : z ≤ z') : Ub g xs k z' := fun j p h1 h2 => Int.le_trans (h j p h1 h2) hz
theorem Ub.step {α : Type} {g : α → Nat} {xs : List α} {k : Nat} {z z' : Int} {p : α} (h : Ub g xs k z) (hp : xs[k]? = some p) (hz : z ≤ z') (hg : (g p : Int) ≤ z') : Ub g xs (k + 1) z' := fun j q h1 h2 => by
  by_cases e : j = k
  · subst e
    rw [hp] at h2
    injection h2 with h2
    subst h2
    exact hg
  · exact Int.le_trans (h j q (by omega) h2) hz
theorem Ub.all {α : Type} {g : α → Nat} {xs : List α} {n : Nat} {z : Int} (h : Ub g xs n z) (hn : xs.length = n) : ∀ p ∈ xs, (g p : Int) ≤ z := fun p hp => by
  obtain ⟨j, hj⟩ := List.mem_iff_getElem?.1 hp
  exact h j p (by rw [← hn]; exact (List.getElem?_eq_some_iff.1 hj).1) hj

set_option maxRecDepth 100000 in
set_option maxHeartbeats 8000000 in
theorem light_any (cs : List Value) (x : Mod) (w : World) (h : modL.R (· < w.heap.size) w cs x) (hz : Zm x) : Calls Tryz.prog 5 #[vAgg cs] w fun e w' => ∃ b : Bool, e = .returned (.bool b) ∧ Below w.heap.size w w' ∧ (b = true → Small x) := by
  have hR : reachBytes < 140737488355328 := reachBytes_lt
  obtain ⟨⟨r0, y0⟩, ⟨r1, y1⟩, ⟨r2, y2⟩, ⟨r3, -⟩, r4, y4⟩ := hz
  have Z0 : Hid (∀ t ∈ x.recs, t.length < 140737488355328) := fun t ht => Nat.lt_of_le_of_lt (y0 t ht).1 hR
  have Z1 : Hid (∀ f ∈ x.funcs, f.args.length < 140737488355328 ∧ f.locs.length < 140737488355328 ∧ f.code.length < 140737488355328) := fun f hf => ⟨Nat.lt_of_le_of_lt (y1 f hf).1.1 hR, Nat.lt_of_le_of_lt (y1 f hf).2.1.1 hR, Nat.lt_of_le_of_lt (y1 f hf).2.2.1 hR⟩
  have Z2 : Hid (∀ f ∈ x.imps, f.args.length < 140737488355328) := fun f hf => Nat.lt_of_le_of_lt (y2 f hf).1 hR
  have Z4 : Hid (∀ s ∈ x.texts, s.length < 140737488355328) := fun s hs => Nat.lt_of_le_of_lt (y4 s hs) hR
  replace r0 : x.recs.length < 140737488355328 := Nat.lt_of_le_of_lt r0 hR
  replace r1 : x.funcs.length < 140737488355328 := Nat.lt_of_le_of_lt r1 hR
  replace r2 : x.imps.length < 140737488355328 := Nat.lt_of_le_of_lt r2 hR
  replace r3 : x.ints.length < 140737488355328 := Nat.lt_of_le_of_lt r3 hR
  replace r4 : x.texts.length < 140737488355328 := Nat.lt_of_le_of_lt r4 hR
  clear hR y0 y1 y2 y4
  obtain ⟨_, _, _, _, _, rfl, ⟨A0, d0, e0, l0, m0, s0⟩, ⟨A1, d1, e1, l1, m1, s1⟩, ⟨A2, d2, e2, l2, m2, s2⟩, ⟨A3, d3, e3, l3, m3, s3⟩, ⟨A4, d4, e4, l4, m4, s4⟩⟩ := h
  simp only [List.cons.injEq, and_true] at e0 e1 e2 e3 e4
  subst e0 e1 e2 e3 e4
  unfold maxLen at m0 m1 m2 m3 m4
  show Calls Tryz.prog 5 #[.agg #[.slice A0 x.recs.length d0, .slice A1 x.funcs.length d1, .slice A2 x.imps.length d2, .slice A3 x.ints.length d3, .slice A4 x.texts.length d4]] w _
  obtain ⟨n0, hn0⟩ : ∃ n, x.recs.length = n := ⟨_, rfl⟩
  have HL0 := Lib.hid hn0
  have HS0 := Lib.hid s0
  obtain ⟨n1, hn1⟩ : ∃ n, x.funcs.length = n := ⟨_, rfl⟩
  have HL1 := Lib.hid hn1
  have HS1 := Lib.hid s1
  obtain ⟨n2, hn2⟩ : ∃ n, x.imps.length = n := ⟨_, rfl⟩
  have HL2 := Lib.hid hn2
  have HS2 := Lib.hid s2
  obtain ⟨n3, hn3⟩ : ∃ n, x.ints.length = n := ⟨_, rfl⟩
  have HL3 := Lib.hid hn3
  have HS3 := Lib.hid s3
  obtain ⟨n4, hn4⟩ : ∃ n, x.texts.length = n := ⟨_, rfl⟩
  have HL4 := Lib.hid hn4
  have HS4 := Lib.hid s4
  rw [hn0, hn1, hn2, hn3, hn4]
  rw [hn0] at l0 r0
  rw [hn1] at l1 r1
  rw [hn2] at l2 r2
  rw [hn3] at l3 r3
  rw [hn4] at l4 r4
  clear hn0 s0 hn1 s1 hn2 s2 hn3 s3 hn4 s4
  have hw0 : (n0 : Int) ≤ 9223372036854775807 := by omega
  have hw1 : (n1 : Int) ≤ 9223372036854775807 := by omega
  have hw2 : (n2 : Int) ≤ 9223372036854775807 := by omega
  have hw4 : (n4 : Int) ≤ 9223372036854775807 := by omega
  have HB0 : Hid (Below w.heap.size w (w.alloc (.cells #[.slice A0 n0 d0, .slice A1 n1 d1, .slice A2 n2 d2, .slice A3 n3 d3, .slice A4 n4 d4] 28))) := (Below.refl _ _).alloc (Nat.le_refl _) _
  go_enter Tryz.func5, Tryz.ntmps5
  go_wp2_with fail
  · go_ret
    exact ⟨_, rfl, HB0.out, fun h => by simp at h⟩
  have hsum : n0 + n1 + n2 + n3 + n4 ≤ 200 := by omega
  refine wp_world fun W hW => ?_
  have HBW : Hid (Below w.heap.size w W) := by show Below _ _ _; rw [hW]; exact HB0.out
  have HCW : Hid (C5 w.heap.size (.slice A0 n0 d0) (.slice A1 n1 d1) (.slice A2 n2 d2) (.slice A3 n3 d3) (.slice A4 n4 d4) W) := by rw [hW]; show C5 _ _ _ _ _ _ _; simp [C5, go_sem]
  have hWz : w.heap.size < W.heap.size := by rw [hW]; simp
  have HZ : Hid (∀ wr, Below W.heap.size W wr → C5 w.heap.size (.slice A0 n0 d0) (.slice A1 n1 d1) (.slice A2 n2 d2) (.slice A3 n3 d3) (.slice A4 n4 d4) wr) := fun wr hb => HCW.out.below hb hWz
  have HFin : Hid (∀ wr, Below W.heap.size W wr → Below w.heap.size w wr) := fun wr hb => HBW.out.trans (hb.mono HBW.out.size)
  clear hW HB0 HCW
  have HA0 := Lib.hid ((HS0.out.below HBW.out (Nat.le_refl _)).wide (T := (· < W.heap.size)) fun b hb => Nat.lt_of_lt_of_le hb HBW.out.size)
  clear HS0
  have HA1 := Lib.hid ((HS1.out.below HBW.out (Nat.le_refl _)).wide (T := (· < W.heap.size)) fun b hb => Nat.lt_of_lt_of_le hb HBW.out.size)
  clear HS1
  have HA2 := Lib.hid ((HS2.out.below HBW.out (Nat.le_refl _)).wide (T := (· < W.heap.size)) fun b hb => Nat.lt_of_lt_of_le hb HBW.out.size)
  clear HS2
  have HA3 := Lib.hid ((HS3.out.below HBW.out (Nat.le_refl _)).wide (T := (· < W.heap.size)) fun b hb => Nat.lt_of_lt_of_le hb HBW.out.size)
  clear HS3
  have HA4 := Lib.hid ((HS4.out.below HBW.out (Nat.le_refl _)).wide (T := (· < W.heap.size)) fun b hb => Nat.lt_of_lt_of_le hb HBW.out.size)
  clear HS4
  go_loopw [3, 4] (fun s i wr => ∃ (z : Int) (k : Nat), s = .int .i64 z ∧ k ≤ n0 ∧ i = .int .i64 (k : Nat) ∧ 0 ≤ z ∧ z ≤ 200 + (k : Int) * 140737488355328 ∧ Ub List.length x.recs k z ∧ Below W.heap.size W wr) (fun _ i _ => n0 - (intOf i).toNat)
  case atStart => exact ⟨_, 0, rfl, Nat.zero_le _, rfl, by omega, by omega, Ub.zero _ _ _, Below.refl _ _⟩
  case round =>
    obtain ⟨z, k, rfl, hk, rfl, hz0, hz1, g0, hbel⟩ := hrel
    have HU0 := Lib.hid g0
    clear g0
    have HB := Lib.hid hbel
    have hs := hbel.size
    clear hbel
    by_cases hlt : k < n0
    · obtain ⟨p, hp⟩ : ∃ p, x.recs[k]? = some p := ⟨x.recs[k]'(by rw [HL0.out]; exact hlt), List.getElem?_eq_getElem _⟩
      have HP := Lib.hid hp
      have hm := List.mem_of_getElem? hp
      obtain ⟨a, cs, ea, hab, hc, hR⟩ := HA0.out.at hp
      clear hp
      subst ea
      have hb9 := Z0.out p hm
      obtain ⟨P0, c3, rfl, -, -, -⟩ := hR
      have ca0 := (HB.out.cell (p := a.add k) (by rw [addBlock]; exact hab)).trans (one_cell (K := tysL.k) rfl (hc 0 _ rfl))
      obtain ⟨v1, hv1⟩ : ∃ v, p.length = v := ⟨_, rfl⟩
      rw [hv1] at ca0 hb9
      have HV1 := Lib.hid hv1
      clear hc hm hv1
      obtain ⟨z0, z1, z2, z3, z4⟩ := HZ.out wr HB.out
      have k0' : 0 ≤ (k : Int) := by omega
      have k1' : (k : Int) < (n0 : Int) := by omega
      go_wp2_with fail
      exact ⟨⟨z + (v1 : Int), k + 1, rfl, by omega, by simp, by omega, by omega, HU0.out.step HP.out (by omega) (by simp only [HV1.out]; omega), HB.out⟩, by simp [intOf]; omega⟩
    · obtain rfl : k = n0 := by omega
      obtain ⟨n0, hnn⟩ : ∃ n, n = k := ⟨_, rfl⟩
      subst hnn
      obtain ⟨z0, z1, z2, z3, z4⟩ := HZ.out wr HB.out
      go_wp2_with fail
      go_loopw [3, 5] (fun s i wr => ∃ (z : Int) (k : Nat), s = .int .i64 z ∧ k ≤ n1 ∧ i = .int .i64 (k : Nat) ∧ 0 ≤ z ∧ z ≤ 28147497671065800 + (k : Int) * 422212465065984 ∧ Ub List.length x.recs n0 z ∧ Ub (fun f => List.length (Fn.args f)) x.funcs k z ∧ Ub (fun f => List.length (Fn.locs f)) x.funcs k z ∧ Ub (fun f => List.length (Fn.code f)) x.funcs k z ∧ Below W.heap.size W wr) (fun _ i _ => n1 - (intOf i).toNat)
      case atStart => exact ⟨_, 0, rfl, Nat.zero_le _, rfl, by omega, by omega, HU0.out, Ub.zero _ _ _, Ub.zero _ _ _, Ub.zero _ _ _, HB.out⟩
      case round =>
        obtain ⟨z, k, rfl, hk, rfl, hz0, hz1, o0, g0, g1, g2, hbel⟩ := hrel
        clear HB
        clear HU0
        have HU0 := Lib.hid o0
        have HU1 := Lib.hid g0
        have HU2 := Lib.hid g1
        have HU3 := Lib.hid g2
        clear o0 g0 g1 g2
        have HB := Lib.hid hbel
        have hs := hbel.size
        clear hbel
        by_cases hlt : k < n1
        · obtain ⟨p, hp⟩ : ∃ p, x.funcs[k]? = some p := ⟨x.funcs[k]'(by rw [HL1.out]; exact hlt), List.getElem?_eq_getElem _⟩
          have HP := Lib.hid hp
          have hm := List.mem_of_getElem? hp
          obtain ⟨a, cs, ea, hab, hc, hR⟩ := HA1.out.at hp
          clear hp
          subst ea
          obtain ⟨hb7, hb8, hb9⟩ := Z1.out p hm
          obtain ⟨_, _, _, rfl, -, -, ⟨P0, c3, e4, -⟩, ⟨P2, c5, e6, -⟩, ⟨P4, c7, e8, -⟩⟩ := hR
          simp only [List.cons.injEq, and_true] at e4 e6 e8
          subst e4 e6 e8
          have ca0 := (HB.out.cell (p := a.add (k * 5)) (by rw [addBlock]; exact hab)).trans (hc 0 _ rfl)
          have ca1 := (HB.out.cell (p := a.add (k * 5 + 1)) (by rw [addBlock]; exact hab)).trans (hc 1 _ rfl)
          rw [next_cell a (k * 5) 1 (by omega)] at ca1
          have ca2 := (HB.out.cell (p := a.add (k * 5 + 2)) (by rw [addBlock]; exact hab)).trans (hc 2 _ rfl)
          rw [next_cell a (k * 5) 2 (by omega)] at ca2
          have ca3 := (HB.out.cell (p := a.add (k * 5 + 3)) (by rw [addBlock]; exact hab)).trans (hc 3 _ rfl)
          rw [next_cell a (k * 5) 3 (by omega)] at ca3
          have ca4 := (HB.out.cell (p := a.add (k * 5 + 4)) (by rw [addBlock]; exact hab)).trans (hc 4 _ rfl)
          rw [next_cell a (k * 5) 4 (by omega)] at ca4
          obtain ⟨v1, hv1⟩ : ∃ v, p.args.length = v := ⟨_, rfl⟩
          obtain ⟨v2, hv2⟩ : ∃ v, p.locs.length = v := ⟨_, rfl⟩
          obtain ⟨v3, hv3⟩ : ∃ v, p.code.length = v := ⟨_, rfl⟩
          rw [hv1] at ca0 hb7
          rw [hv2] at ca3 hb8
          rw [hv3] at ca4 hb9
          have HV1 := Lib.hid hv1
          have HV2 := Lib.hid hv2
          have HV3 := Lib.hid hv3
          clear hc hm hv1 hv2 hv3
          obtain ⟨z0, z1, z2, z3, z4⟩ := HZ.out wr HB.out
          have k0' : 0 ≤ (k : Int) := by omega
          have k1' : (k : Int) < (n1 : Int) := by omega
          go_wp2_with fail
          go_quiet (fail)
          go_wp2_with fail
          exact ⟨⟨z + (v1 : Int) + (v2 : Int) + (v3 : Int), k + 1, rfl, by omega, by simp, by omega, by omega, HU0.out.mono (by omega), HU1.out.step HP.out (by omega) (by simp only [HV1.out]; omega), HU2.out.step HP.out (by omega) (by simp only [HV2.out]; omega), HU3.out.step HP.out (by omega) (by simp only [HV3.out]; omega), below_drews' HB.out _ hs⟩, by simp [intOf]; omega⟩
        · obtain rfl : k = n1 := by omega
          obtain ⟨n1, hnn⟩ : ∃ n, n = k := ⟨_, rfl⟩
          subst hnn
          obtain ⟨z0, z1, z2, z3, z4⟩ := HZ.out wr HB.out
          go_wp2_with fail
          go_loopw [3, 6] (fun s i wr => ∃ (z : Int) (k : Nat), s = .int .i64 z ∧ k ≤ n2 ∧ i = .int .i64 (k : Nat) ∧ 0 ≤ z ∧ z ≤ 112589990684262600 + (k : Int) * 140737488355328 ∧ Ub List.length x.recs n0 z ∧ Ub (fun f => List.length (Fn.args f)) x.funcs n1 z ∧ Ub (fun f => List.length (Fn.locs f)) x.funcs n1 z ∧ Ub (fun f => List.length (Fn.code f)) x.funcs n1 z ∧ Ub (fun f => List.length (Imp.args f)) x.imps k z ∧ Below W.heap.size W wr) (fun _ i _ => n2 - (intOf i).toNat)
          case atStart => exact ⟨_, 0, rfl, Nat.zero_le _, rfl, by omega, by omega, HU0.out, HU1.out, HU2.out, HU3.out, Ub.zero _ _ _, HB.out⟩
          case round =>
            obtain ⟨z, k, rfl, hk, rfl, hz0, hz1, o0, o1, o2, o3, g0, hbel⟩ := hrel
            clear HB
            clear HU0 HU1 HU2 HU3
            have HU0 := Lib.hid o0
            have HU1 := Lib.hid o1
            have HU2 := Lib.hid o2
            have HU3 := Lib.hid o3
            have HU4 := Lib.hid g0
            clear o0 o1 o2 o3 g0
            have HB := Lib.hid hbel
            have hs := hbel.size
            clear hbel
            by_cases hlt : k < n2
            · obtain ⟨p, hp⟩ : ∃ p, x.imps[k]? = some p := ⟨x.imps[k]'(by rw [HL2.out]; exact hlt), List.getElem?_eq_getElem _⟩
              have HP := Lib.hid hp
              have hm := List.mem_of_getElem? hp
              obtain ⟨a, cs, ea, hab, hc, hR⟩ := HA2.out.at hp
              clear hp
              subst ea
              have hb9 := Z2.out p hm
              obtain ⟨_, rfl, -, -, ⟨P0, c3, e4, -⟩⟩ := hR
              simp only [List.cons.injEq, and_true] at e4
              subst e4
              have ca0 := (HB.out.cell (p := a.add (k * 3)) (by rw [addBlock]; exact hab)).trans (hc 0 _ rfl)
              have ca1 := (HB.out.cell (p := a.add (k * 3 + 1)) (by rw [addBlock]; exact hab)).trans (hc 1 _ rfl)
              rw [next_cell a (k * 3) 1 (by omega)] at ca1
              have ca2 := (HB.out.cell (p := a.add (k * 3 + 2)) (by rw [addBlock]; exact hab)).trans (hc 2 _ rfl)
              rw [next_cell a (k * 3) 2 (by omega)] at ca2
              obtain ⟨v1, hv1⟩ : ∃ v, p.args.length = v := ⟨_, rfl⟩
              rw [hv1] at ca0 hb9
              have HV1 := Lib.hid hv1
              clear hc hm hv1
              obtain ⟨z0, z1, z2, z3, z4⟩ := HZ.out wr HB.out
              have k0' : 0 ≤ (k : Int) := by omega
              have k1' : (k : Int) < (n2 : Int) := by omega
              go_wp2_with fail
              exact ⟨⟨z + (v1 : Int), k + 1, rfl, by omega, by simp, by omega, by omega, HU0.out.mono (by omega), HU1.out.mono (by omega), HU2.out.mono (by omega), HU3.out.mono (by omega), HU4.out.step HP.out (by omega) (by simp only [HV1.out]; omega), HB.out⟩, by simp [intOf]; omega⟩
            · obtain rfl : k = n2 := by omega
              obtain ⟨n2, hnn⟩ : ∃ n, n = k := ⟨_, rfl⟩
              subst hnn
              obtain ⟨z0, z1, z2, z3, z4⟩ := HZ.out wr HB.out
              go_wp2_with fail
              go_loopw [3, 7] (fun s i wr => ∃ (z : Int) (k : Nat), s = .int .i64 z ∧ k ≤ n4 ∧ i = .int .i64 (k : Nat) ∧ 0 ≤ z ∧ z ≤ 140737488355328200 + (k : Int) * 140737488355328 ∧ Ub List.length x.recs n0 z ∧ Ub (fun f => List.length (Fn.args f)) x.funcs n1 z ∧ Ub (fun f => List.length (Fn.locs f)) x.funcs n1 z ∧ Ub (fun f => List.length (Fn.code f)) x.funcs n1 z ∧ Ub (fun f => List.length (Imp.args f)) x.imps n2 z ∧ Ub List.length x.texts k z ∧ Below W.heap.size W wr) (fun _ i _ => n4 - (intOf i).toNat)
              case atStart => exact ⟨_, 0, rfl, Nat.zero_le _, rfl, by omega, by omega, HU0.out, HU1.out, HU2.out, HU3.out, HU4.out, Ub.zero _ _ _, HB.out⟩
              case round =>
                obtain ⟨z, k, rfl, hk, rfl, hz0, hz1, o0, o1, o2, o3, o4, g0, hbel⟩ := hrel
                clear HB
                clear HU0 HU1 HU2 HU3 HU4
                have HU0 := Lib.hid o0
                have HU1 := Lib.hid o1
                have HU2 := Lib.hid o2
                have HU3 := Lib.hid o3
                have HU4 := Lib.hid o4
                have HU5 := Lib.hid g0
                clear o0 o1 o2 o3 o4 g0
                have HB := Lib.hid hbel
                have hs := hbel.size
                clear hbel
                by_cases hlt : k < n4
                · obtain ⟨p, hp⟩ : ∃ p, x.texts[k]? = some p := ⟨x.texts[k]'(by rw [HL4.out]; exact hlt), List.getElem?_eq_getElem _⟩
                  have HP := Lib.hid hp
                  have hm := List.mem_of_getElem? hp
                  obtain ⟨a, cs, ea, hab, hc, hR⟩ := HA4.out.at hp
                  clear hp
                  subst ea
                  have hb9 := Z4.out p hm
                  obtain ⟨st, rfl, hst⟩ := hR
                  have ca0 := (HB.out.cell (p := a.add k) (by rw [addBlock]; exact hab)).trans (one_cell (K := strL.k) rfl (hc 0 _ rfl))
                  obtain ⟨v1, hv1⟩ : ∃ v, p.length = v := ⟨_, rfl⟩
                  have hsz : st.size = v1 := by rw [← hv1, hst, strB_len]
                  rw [hv1] at hb9
                  clear hst
                  have HV1 := Lib.hid hv1
                  clear hc hm hv1
                  obtain ⟨z0, z1, z2, z3, z4⟩ := HZ.out wr HB.out
                  have k0' : 0 ≤ (k : Int) := by omega
                  have k1' : (k : Int) < (n4 : Int) := by omega
                  go_wp2_with fail
                  exact ⟨⟨z + (v1 : Int), k + 1, rfl, by omega, by simp, by omega, by omega, HU0.out.mono (by omega), HU1.out.mono (by omega), HU2.out.mono (by omega), HU3.out.mono (by omega), HU4.out.mono (by omega), HU5.out.step HP.out (by omega) (by simp only [HV1.out]; omega), HB.out⟩, by simp [intOf]; omega⟩
                · obtain rfl : k = n4 := by omega
                  obtain ⟨n4, hnn⟩ : ∃ n, n = k := ⟨_, rfl⟩
                  subst hnn
                  obtain ⟨z0, z1, z2, z3, z4⟩ := HZ.out wr HB.out
                  go_wp2_with fail
                  go_ret
                  refine ⟨_, rfl, HFin.out _ HB.out, fun hb => ?_⟩
                  have hz3 : z < 3000 := by simpa using hb
                  refine ⟨fun t ht => ?_, fun f hf => ⟨?_, ?_, ?_⟩, fun i hi => ?_, fun s hs => ?_⟩
                  · have := HU0.out.all HL0.out t ht; omega
                  · have := HU1.out.all HL1.out f hf; omega
                  · have := HU2.out.all HL1.out f hf; omega
                  · have := HU3.out.all HL1.out f hf; omega
                  · have := HU4.out.all HL2.out i hi; omega
                  · have := HU5.out.all HL4.out s hs; omega
end Go.Proofs.YtikhhcmfjncabaaGreat
namespace Go.Proofs.YtikhhcmfjncabaaGreat
open Go.RowKit

set_option maxRecDepth 100000 in
set_option maxHeartbeats 1000000 in
theorem index_hgh (A : Option Addr) (n c : Nat) (xs : List Shape) (g : Shape → Bool) (w : World) (hl : xs.length = n) (h : Sq shpL (· < w.heap.size) w A xs) (hn2 : n ≤ 9223372036854775807)
    (hG : ∀ (w1 : World) (cs : List Value) (x : Shape), Below w.heap.size w w1 → x ∈ xs → shpL.R (· < w1.heap.size) w1 cs x → Calls Tryz.prog 13 #[vAgg cs] w1 (Tells (g x) w1)) :
    Calls Tryz.prog 21 #[.slice A n c, .func (.func 13) #[] #[]] w fun e w' => ∃ k : Int, e = .returned (.int .i64 k) ∧ decide (0 ≤ k) = xs.any g ∧ Below w.heap.size w w' := by
  have HL := Lib.hid hl
  have HS := Lib.hid h
  have HP0 := Lib.hid hG
  clear hl h hG
  go_enter Tryz.func21, Tryz.ntmps21
  go_wp2_with fail
  go_loopw [8] (fun i wr => ∃ k : Nat, k ≤ n ∧ i = .int .i64 (k : Nat) ∧ (xs.take k).any g = false ∧ Below w.heap.size w wr) (fun i _ => n - (intOf i).toNat)
  case atStart => exact ⟨0, Nat.zero_le _, rfl, by simp, Below.refl _ _⟩
  case round =>
    obtain ⟨k, hk, rfl, hall, hbel⟩ := hrel
    have HA := Lib.hid hall
    have HB := Lib.hid hbel
    have hs := hbel.size
    clear hall hbel
    by_cases hlt : k < n
    · skip
      obtain ⟨x, hx⟩ : ∃ x, xs[k]? = some x := ⟨xs[k]'(by rw [HL.out]; exact hlt), List.getElem?_eq_getElem _⟩
      have hmem : x ∈ xs := List.mem_of_getElem? hx
      obtain ⟨a, cs, rfl, hab, hc, hr⟩ := HS.out.at hx
      have HX := Lib.hid hx
      clear hx
      have HR := Lib.hid hr
      obtain ⟨v9, rfl, A9, d9, e9, -⟩ := hr
      simp only [List.cons.injEq, and_true] at e9
      subst e9
      have c0 := (HB.out.cell (p := a.add (k * 2)) (by rw [addBlock]; exact hab)).trans (hc 0 _ rfl)
      have c1 := (HB.out.cell (p := a.add (k * 2 + 1)) (by rw [addBlock]; exact hab)).trans (hc 1 _ rfl)
      rw [next_cell a (k * 2) 1 (by omega)] at c1
      have HP : Hid (∀ w1, Below w.heap.size w w1 → Calls Tryz.prog 13 #[.agg #[.bool x.1, .slice A9 x.2.length d9]] w1 (Tells (g x) w1)) := fun w1 hb => HP0.out w1 [.bool x.1, .slice A9 x.2.length d9] x hb hmem (shpL.wide (shpL.keep HR.out fun b hb1 => hb.block b hb1) fun b hb1 => Nat.lt_of_lt_of_le hb1 hb.size)
      clear hc
      have hk0 : 0 ≤ (k : Int) := by omega
      cases hg : g x
      · rw [hg] at HP
        have HG := Lib.hid hg
        clear hg
        go_wp2_with (first
          | (go_at_call 13
             refine (HP.out _ HB.out).mono ?_
             rintro e w2 ⟨rfl, hb2⟩
             have Hb2 := Lib.hid (HB.out.trans (hb2.mono hs))
             clear hb2))
        refine ⟨⟨k + 1, by omega, by simp, any_take HA.out HX.out HG.out, Hb2.out⟩, by simp [intOf]; omega⟩
      · rw [hg] at HP
        have e : xs.any g = true := any_here hmem hg
        have E := Lib.hid e
        clear e hg
        go_wp2_with (first
          | (go_at_call 13
             refine (HP.out _ HB.out).mono ?_
             rintro e w2 ⟨rfl, hb2⟩
             have Hb2 := Lib.hid (HB.out.trans (hb2.mono hs))
             clear hb2))
        go_ret
        exact ⟨_, rfl, by rw [E.out]; simp, Hb2.out⟩
    · obtain rfl : k = n := by omega
      go_wp2_with fail
      go_ret
      exact ⟨_, rfl, by rw [any_full HA.out HL.out]; rfl, HB.out⟩

set_option maxRecDepth 100000 in
theorem contains_hgh (A : Option Addr) (n c : Nat) (xs : List Shape) (g : Shape → Bool) (w : World) (hl : xs.length = n) (h : Sq shpL (· < w.heap.size) w A xs) (hn2 : n ≤ 9223372036854775807)
    (hG : ∀ (w1 : World) (cs : List Value) (x : Shape), Below w.heap.size w w1 → x ∈ xs → shpL.R (· < w1.heap.size) w1 cs x → Calls Tryz.prog 13 #[vAgg cs] w1 (Tells (g x) w1)) :
    Calls Tryz.prog 12 #[.slice A n c, .func (.func 13) #[] #[]] w (Tells (xs.any g) w) := by
  have HC := Lib.hid (index_hgh A n c xs g w hl h hn2 hG)
  clear hl h hG
  generalize xs.any g = ab at *
  go_enter Tryz.func12, Tryz.ntmps12
  go_wp2_with (first | (go_at_call 21; refine HC.out.mono ?_; rintro e w1 ⟨k, rfl, hk, hb⟩; have HB := Lib.hid hb; have HK := Lib.hid hk; clear hb hk))
  go_ret
  exact ⟨by rw [← HK.out]; rfl, HB.out⟩
end Go.Proofs.YtikhhcmfjncabaaGreat
namespace Go.Proofs.YtikhhcmfjncabaaGreat
open Go.RowKit

set_option maxRecDepth 100000 in
theorem jbelow_any (A B : Option Addr) (n m c d : Nat) (xs ys : List Typ) (w : World) (hl : xs.length = n) (hm : ys.length = m) (h : Sq typL (· < w.heap.size) w A xs) (h' : Sq typL (· < w.heap.size) w B ys) (hn2 : n ≤ 9223372036854775807) (hm2 : m ≤ 9223372036854775807) :
    Calls Tryz.prog 25 #[.slice A n c, .slice B m d] w (Tells (belowT xs ys) w) := by
  have HC := Lib.hid (equalFunc_sub A B n m c d xs ys w hl hm h h' hn2 hm2)
  clear hl hm h h'
  generalize belowT xs ys = ab at *
  go_enter Tryz.func25, Tryz.ntmps25
  go_wp2_with (first | (go_at_call 48; refine HC.out.mono ?_; rintro e w1 ⟨rfl, hb⟩; have HB := Lib.hid hb; clear hb))
  go_ret
  exact ⟨rfl, HB.out⟩
def highB (x : Shape) : Bool := decide (8 < x.2.length)
set_option maxRecDepth 100000 in
theorem high_any (x : Shape) (w : World) (cs : List Value) (h : shpL.R (· < w.heap.size) w cs x) : Calls Tryz.prog 13 #[vAgg cs] w (Tells (highB x) w) := by
  obtain ⟨b, s⟩ := x
  obtain ⟨v, rfl, A, d, e, -⟩ := h
  simp only [List.cons.injEq, and_true] at e
  subst e
  simp only [vAgg, highB]
  generalize s.length = n
  by_cases h8 : 8 < n
  · have h8i : (8 : Int) < (n : Int) := by omega
    rw [decide_eq_true h8]
    clear h8
    go_enter Tryz.func13, Tryz.ntmps13
    go_wp2_with fail
    go_ret
    exact ⟨by simp [h8i], below_new _ _⟩
  · have h8i : ¬ (8 : Int) < (n : Int) := by omega
    rw [decide_eq_false h8]
    clear h8
    go_enter Tryz.func13, Tryz.ntmps13
    go_wp2_with fail
    go_ret
    exact ⟨by simp [h8i], below_new _ _⟩
end Go.Proofs.YtikhhcmfjncabaaGreat
namespace Go.Proofs.YtikhhcmfjncabaaGreat
open Go.RowKit

def goesB (t : List Typ) (l : List Shape) (k : Int) : Bool :=
  match l[k.toNat]? with
  | some (true, u) => belowT t u
  | _ => false
theorem goesB_yes {t u : List Typ} {l : List Shape} {k : Nat} (h : l[k]? = some (true, u)) : goesB t l (k : Int) = belowT t u := by simp [goesB, h]
theorem goesB_no {t u : List Typ} {l : List Shape} {k : Nat} (h : l[k]? = some (false, u)) : goesB t l (k : Int) = false := by simp [goesB, h]
theorem okF_no {m : Mod} {fn : Fn} {l : List Shape} {p : Nat} {s : List Typ} (h : l[p]? = some (false, s)) : okF m fn l p = true := by simp [okF, h]
theorem okF_yes {m : Mod} {fn : Fn} {l : List Shape} {p : Nat} {s t : List Typ} {i : Ins} {er : Int} {ks : List Int} (h : l[p]? = some (true, s)) (hi : fn.code[p]? = some i) (hf : insB8 m fn i p s = (er, t, ks)) : okF m fn l p = (er == 0 && ks.all (goesB t l)) := by
  unfold okF
  rw [h, hi]
  simp only [hf]
  rfl
theorem okF_of {m : Mod} {fn : Fn} {l : List Shape} {p : Nat} (h : okAt m fn (toS l) p) : okF m fn l p = true := by
  unfold okF
  split
  · rename_i s i hs hi
    obtain ⟨i', t, ks, h1, h2, h3⟩ := h s (toS_yes hs)
    rw [hi] at h1
    injection h1 with h1
    subst h1
    rw [h2]
    simp only [Bool.and_eq_true, beq_iff_eq, List.all_eq_true, true_and]
    intro k hk
    obtain ⟨u, hu, hb⟩ := h3 k hk t rfl
    rw [toS_some hu]
    exact hb
  · rename_i s hs hi
    obtain ⟨i', t, ks, h1, -⟩ := h s (toS_yes hs)
    rw [hi] at h1
    cases h1
  · rfl
theorem not_all {α : Type} (l : List α) (f : α → Bool) : (l.any fun k => !f k) = !l.all f := by
  induction l with
  | nil => rfl
  | cons a l ih => simp only [List.any_cons, List.all_cons, ih, Bool.not_and]
def RRight (x : Mod) (L : List (List Shape)) (w : World) (e : Ending) (w' : World) : Prop :=
  Below w.heap.size w w' ∧ ∃ b : Bool, e = .returned (.bool b) ∧ (b = true ↔ mainB x = true ∧ RightM x L)
theorem rright_no {x : Mod} {L : List (List Shape)} {w w' : World} (hb : Below w.heap.size w w') (h : mainB x = true → RightM x L → False) : RRight x L w (.returned (.bool false)) w' :=
  ⟨hb, false, rfl, ⟨fun e => (by cases e), fun h2 => (h h2.1 h2.2).elim⟩⟩
end Go.Proofs.YtikhhcmfjncabaaGreat
