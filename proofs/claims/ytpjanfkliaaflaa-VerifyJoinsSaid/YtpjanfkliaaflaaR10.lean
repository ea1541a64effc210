/-
  Vc Vs Vl Vw
-/
import Derived.Test.YtpjanfkliaaflaaR02
import Derived.Test.YtpjanfkliaaflaaR03
import Derived.Test.YtpjanfkliaaflaaR08
import Derived.Test.YtpjanfkliaaflaaR09
import Derived.Laws.OwnMore
import Derived.OwnWalk
set_option linter.unusedSimpArgs false
set_option linter.unusedVariables false
namespace Go.Proofs.Ytpjanfkliaaflaa

theorem goodT_can {r : Int} {t : Typ} (h : goodT r t = true) : canT t := by
  obtain ⟨k, n⟩ := t
  simp only [goodT, goodB] at h
  intro hk
  simp only at hk ⊢
  split at h
  · simpa using h
  · split at h
    · omega
    · split at h
      · omega
      · cases h
theorem canL_one {t : Typ} (h : canT t) : canL [t] := fun u hu => by simp at hu; subst hu; exact h
theorem canL_two {t u : Typ} (h : canT t) (h' : canT u) : canL [t, u] := fun v hv => by simp at hv; rcases hv with rfl | rfl <;> assumption
theorem canL_nil : canL [] := fun t ht => by simp at ht
theorem canL_app {s t : List Typ} (h : canL s) (h' : canL t) : canL (s ++ t) := fun u hu => by
  rcases List.mem_append.1 hu with h1 | h1
  · exact h u h1
  · exact h' u h1
theorem canL_take {s : List Typ} (h : canL s) (n : Nat) : canL (s.take n) := fun u hu => h u (List.mem_of_mem_take hu)
theorem can_num (k : Int) : canT (k, 0) := fun _ => rfl
theorem can_rec (n : Int) : canT (4, n) := fun h => by simp at h
theorem fn_can {m : Mod} {f : Fn} (hc : checkN m = 0) (hf : f ∈ m.funcs) : canL f.args ∧ canL f.locs ∧ canT f.ret := by
  have ho := (fitB_iff.1 (checkN_fit hc)).funcs f hf
  simp only [fnOk, Bool.and_eq_true, witB_iff] at ho
  exact ⟨fun t ht => goodT_can (ho.1.1.1.2 t ht), fun t ht => goodT_can (ho.1.2.2 t ht), goodT_can ho.1.1.2⟩
theorem imp_can {m : Mod} {p : Imp} (hc : checkN m = 0) (hf : p ∈ m.imps) : canT p.ret := by
  have ho := (fitB_iff.1 (checkN_fit hc)).imps p hf
  simp only [impOk, Bool.and_eq_true] at ho
  exact goodT_can ho.2
theorem rec_can {m : Mod} {r : List Typ} (hc : checkN m = 0) (hf : r ∈ m.recs) : canL r := by
  have ho := (fitB_iff.1 (checkN_fit hc)).recs r hf
  simp only [recOk, witB_iff] at ho
  exact fun t ht => goodT_can (ho.2 t ht)
theorem loc_can {m : Mod} {f : Fn} (n : Int) (hc : checkN m = 0) (hf : f ∈ m.funcs) : canT (locB f n) := by
  obtain ⟨h1, h2, -⟩ := fn_can hc hf
  unfold locB
  split
  · exact can_num 8
  · cases e : (f.args ++ f.locs)[n.toNat]? with
    | none => exact can_num 8
    | some t => exact canL_app h1 h2 t (List.mem_of_getElem? e)
theorem fld_can {m : Mod} (a b : Int) (hc : checkN m = 0) : canT (fldB m a b) := by
  unfold fldB
  cases e : m.recs[a.toNat]? with
  | none => simp; exact can_num 0
  | some r =>
    simp only [Option.getD_some]
    cases e2 : r[b.toNat]? with
    | none => exact can_num 0
    | some t => exact rec_can hc (List.mem_of_getElem? e) t (List.mem_of_getElem? e2)
def canO (o : Option (List Typ × List Typ)) : Prop := ∀ p, o = some p → canL p.2
theorem canO_ite {c : Prop} [Decidable c] {a b : Option (List Typ × List Typ)} (ha : canO a) (hb : canO b) : canO (if c then a else b) := by
  split
  · exact ha
  · exact hb
theorem canO_some {i o : List Typ} (h : canL o) : canO (some (i, o)) := fun p hp => by
  injection hp with hp
  subst hp
  exact h
theorem canO_none : canO none := fun p hp => by cases hp
theorem canL_rev {s r : List Typ} (h : canL s) (e : s.reverse = r) : canL r := fun t ht => h t (List.mem_reverse.1 (by rw [e]; exact ht))
theorem rule_can {m : Mod} {f : Fn} {i : Ins} {s : List Typ} (hc : checkN m = 0) (hf : f ∈ m.funcs) (hs : canL s) : canO (ruleB m f i s) := by
  obtain ⟨h1, h2, h3⟩ := fn_can hc hf
  unfold ruleB
  repeat (refine canO_ite ?_ ?_
          first
          | exact canO_some canL_nil
          | exact canO_some (canL_one (can_num _))
          | exact canO_some (canL_two (can_num _) (can_num _))
          | exact canO_some (canL_one (loc_can _ hc hf))
          | exact canO_some (canL_one (fld_can _ _ hc))
          | (split
             · rename_i g hg
               first
               | exact canO_some (canL_one (fn_can hc (List.mem_of_getElem? hg)).2.2)
               | exact canO_some (canL_one (imp_can hc (List.mem_of_getElem? hg)))
               | exact canO_some (canL_one (can_rec _))
             · exact canO_none)
          | (split
             · rename_i t r e
               have hr := canL_rev hs e
               first
               | exact canO_some (canL_two (hr _ (by simp)) (hr _ (by simp)))
               | (split
                  · exact canO_some canL_nil
                  · exact canO_none)
             · exact canO_none))
  exact canO_some (canL_one (can_num _))
theorem flow_can {m : Mod} {f : Fn} {i : Ins} {p : Nat} {s t : List Typ} {l : List Int} (hc : checkN m = 0) (hf : f ∈ m.funcs) (hs : canL s) (h : insB8 m f i p s = (0, t, l)) : canL t ∧ t.length ≤ 8 := by
  unfold insB8 at h
  split at h
  · simp at h
  · rename_i ins outs hr
    split at h
    · simp at h
    · rename_i t2 hm
      split at h
      · simp at h
      · simp only [Prod.mk.injEq, true_and] at h
        obtain ⟨rfl, -⟩ := h
        unfold movB at hm
        split at hm
        · rename_i h3
          injection hm with hm
          subst hm
          refine ⟨canL_app (canL_take hs _) (rule_can hc hf hs _ hr), ?_⟩
          rw [List.length_append, List.length_take]
          omega
        · cases hm
theorem flow_there {m : Mod} {f : Fn} {i : Ins} {p : Nat} {s t : List Typ} {l : List Int} (hc : checkN m = 0) (hf : f ∈ m.funcs) (hi : f.code[p]? = some i) (h : insB8 m f i p s = (0, t, l)) : ∀ k ∈ l, 0 ≤ k ∧ k.toNat < f.code.length := by
  obtain ⟨-, -, -, q4⟩ := sane_fn hc hf
  obtain ⟨hg, hn⟩ := q4 i (List.mem_of_getElem? hi)
  obtain ⟨o1, x1, y1, e1, e2, e3, -, -, -⟩ := goodI_parts hg
  have hp := (List.getElem?_eq_some_iff.1 hi).1
  have hl : nextB f i p = some l := by
    unfold insB8 at h
    split at h
    · simp at h
    · split at h
      · simp at h
      · split at h
        · simp at h
        · rename_i l' hl
          simp only [Prod.mk.injEq, true_and] at h
          rw [hl, h.2]
  intro k hk
  by_cases h26 : i.1 = 26
  · simp [nextB, h26] at hl
    subst hl
    simp at hk
  by_cases h23 : i.1 = 23
  · simp [nextB, h23] at hl
    simp [namedB, h23] at hn
    subst hl
    simp at hk
    omega
  by_cases hlast : f.code.length ≤ p + 1
  · simp [nextB, h26, h23, hlast] at hl
  by_cases h24 : i.1 = 24
  · simp [nextB, h24, hlast] at hl
    simp [namedB, h24] at hn
    subst hl
    simp at hk
    omega
  · simp [nextB, h26, h23, h24, hlast] at hl
    subst hl
    simp at hk
    omega
end Go.Proofs.Ytpjanfkliaaflaa
namespace Go.Proofs.Ytpjanfkliaaflaa

abbrev Shape := Bool × List Typ
def shO (x : Shape) : Option (List Typ) := if x.1 then some x.2 else none
def toS (l : List Shape) : Shp := fun p => (l[p]?).bind shO
theorem toS_yes {l : List Shape} {p : Nat} {s : List Typ} (h : l[p]? = some (true, s)) : toS l p = some s := by simp [toS, h, shO]
theorem toS_no {l : List Shape} {p : Nat} {s : List Typ} (h : l[p]? = some (false, s)) : toS l p = none := by simp [toS, h, shO]
theorem toS_some {l : List Shape} {p : Nat} {s : List Typ} (h : toS l p = some s) : l[p]? = some (true, s) := by
  unfold toS at h
  cases e : l[p]? with
  | none => rw [e] at h; cases h
  | some x =>
    obtain ⟨b, u⟩ := x
    rw [e] at h
    cases b
    · simp [shO] at h
    · simp [shO] at h; subst h; rfl
theorem toS_set {l : List Shape} {p : Nat} {s : List Typ} (hp : p < l.length) : toS (l.set p (true, s)) = putS (toS l) p s := by
  funext q
  unfold toS putS
  rw [List.getElem?_set]
  by_cases e : p = q
  · subst e
    simp [hp, shO]
  · rw [if_neg e, if_neg (fun h => e h.symm)]
structure Least (m : Mod) (fn : Fn) (l : List Shape) : Prop where
  len : l.length = fn.code.length
  out : ∀ (p : Nat) (s : List Typ), l[p]? = some (false, s) → s = []
  run : Run m fn (toS l)
  ok : ∀ p, p < fn.code.length → okAt m fn (toS l) p
theorem Least.right {m : Mod} {fn : Fn} {l : List Shape} (h : Least m fn l) : RightF m fn (toS l) := ⟨h.run.zero, h.ok⟩
theorem Least.same {m : Mod} {fn : Fn} {l l' : List Shape} (h : Least m fn l) (h' : Least m fn l') : l = l' := by
  have hs := run_same h.run h'.run h.right h'.right
  apply List.ext_getElem?
  intro p
  have hp := hs p
  by_cases hlt : p < l.length
  · have hlt' : p < l'.length := by rw [h'.len, ← h.len]; exact hlt
    obtain ⟨⟨b, s⟩, e⟩ : ∃ x, l[p]? = some x := ⟨_, List.getElem?_eq_getElem hlt⟩
    obtain ⟨⟨b', s'⟩, e'⟩ : ∃ x, l'[p]? = some x := ⟨_, List.getElem?_eq_getElem hlt'⟩
    rw [e, e']
    cases b <;> cases b'
    · rw [h.out p s e, h'.out p s' e']
    · rw [toS_no e, toS_yes e'] at hp; cases hp
    · rw [toS_yes e, toS_no e'] at hp; cases hp
    · rw [toS_yes e, toS_yes e'] at hp; injection hp with hp; rw [hp]
  · rw [List.getElem?_eq_none (by omega), List.getElem?_eq_none (by rw [h'.len, ← h.len]; omega)]
def Never (m : Mod) (fn : Fn) : Prop := ¬ ∃ R, RightF m fn R
structure LeastM (m : Mod) (L : List (List Shape)) : Prop where
  len : L.length = m.funcs.length
  at_ : ∀ (j : Nat) (fn : Fn) (l : List Shape), m.funcs[j]? = some fn → L[j]? = some l → Least m fn l
def NeverM (m : Mod) : Prop := ∃ fn ∈ m.funcs, Never m fn
theorem LeastM.get {m : Mod} {L : List (List Shape)} (h : LeastM m L) {j : Nat} {fn : Fn} (hf : m.funcs[j]? = some fn) : ∃ l, L[j]? = some l ∧ Least m fn l := by
  have hj := (List.getElem?_eq_some_iff.1 hf).1
  have e : L[j]? = some (L[j]'(by rw [h.len]; exact hj)) := List.getElem?_eq_getElem _
  exact ⟨_, e, h.at_ j fn _ hf e⟩
theorem LeastM.same {m : Mod} {L L' : List (List Shape)} (h : LeastM m L) (h' : LeastM m L') : L = L' := by
  apply List.ext_getElem?
  intro j
  by_cases hj : j < m.funcs.length
  · have hf : m.funcs[j]? = some m.funcs[j] := List.getElem?_eq_getElem hj
    obtain ⟨l, e, k⟩ := h.get hf
    obtain ⟨l', e', k'⟩ := h'.get hf
    rw [e, e', k.same k']
  · rw [List.getElem?_eq_none (by rw [h.len]; omega), List.getElem?_eq_none (by rw [h'.len]; omega)]
structure RightM (m : Mod) (L : List (List Shape)) : Prop where
  len : L.length = m.funcs.length
  at_ : ∀ (j : Nat) (fn : Fn) (l : List Shape), m.funcs[j]? = some fn → L[j]? = some l → l.length = fn.code.length ∧ (∀ x ∈ l, x.2.length ≤ 8) ∧ RightF m fn (toS l)
theorem RightM.get {m : Mod} {L : List (List Shape)} (h : RightM m L) {j : Nat} {fn : Fn} (hf : m.funcs[j]? = some fn) : ∃ l, L[j]? = some l ∧ l.length = fn.code.length ∧ (∀ x ∈ l, x.2.length ≤ 8) ∧ RightF m fn (toS l) := by
  have hj := (List.getElem?_eq_some_iff.1 hf).1
  have e : L[j]? = some (L[j]'(by rw [h.len]; exact hj)) := List.getElem?_eq_getElem _
  exact ⟨_, e, h.at_ j fn _ hf e⟩
theorem RightM.never {m : Mod} {L : List (List Shape)} (h : RightM m L) : ¬ NeverM m := by
  rintro ⟨fn, hfn, hn⟩
  obtain ⟨j, hj⟩ := List.mem_iff_getElem?.1 hfn
  obtain ⟨l, -, -, -, hr⟩ := h.get hj
  exact hn ⟨_, hr⟩
theorem Least.short {m : Mod} {fn : Fn} {l : List Shape} (h : Least m fn l) : ∀ x ∈ l, x.2.length ≤ 8 := by
  rintro ⟨b, s⟩ hx
  obtain ⟨p, hp⟩ := List.mem_iff_getElem?.1 hx
  cases b
  · rw [h.out p s hp]; simp
  · exact (h.run.can p s (toS_yes hp)).2
theorem LeastM.right {m : Mod} {L : List (List Shape)} (h : LeastM m L) : RightM m L :=
  ⟨h.len, fun j fn l hf hl => ⟨(h.at_ j fn l hf hl).len, (h.at_ j fn l hf hl).short, (h.at_ j fn l hf hl).right⟩⟩
theorem LeastM.least {m : Mod} {L R : List (List Shape)} (h : LeastM m L) (h' : RightM m R) {j p : Nat} {l : List Shape} {s : List Typ} (hl : L[j]? = some l) (hp : l[p]? = some (true, s)) : ∃ r t, R[j]? = some r ∧ r[p]? = some (true, t) ∧ belowT s t = true := by
  have hj : j < m.funcs.length := by rw [← h.len]; exact (List.getElem?_eq_some_iff.1 hl).1
  have hf : m.funcs[j]? = some m.funcs[j] := List.getElem?_eq_getElem hj
  obtain ⟨r, hr, -, -, hR⟩ := h'.get hf
  obtain ⟨t, ht, hb⟩ := (h.at_ j _ l hf hl).run.least _ hR p s (toS_yes hp)
  exact ⟨r, t, hr, toS_some ht, hb⟩

def putF (t : List Typ) : List Int → List Shape → Option (List Shape)
  | [], l => some l
  | k :: ks, l =>
    match l[k.toNat]? with
    | none => none
    | some (false, _) => putF t ks (l.set k.toNat (true, t))
    | some (true, u) => if u.length = t.length then putF t ks (l.set k.toNat (true, joinL u t)) else none
def stepF (m : Mod) (fn : Fn) (l : List Shape) (p : Nat) : Option (List Shape) :=
  match l[p]?, fn.code[p]? with
  | some (true, s), some i => if (insB8 m fn i p s).1 = 0 then putF (insB8 m fn i p s).2.1 (insB8 m fn i p s).2.2 l else none
  | _, _ => some l
def stepsF (m : Mod) (fn : Fn) : List Nat → List Shape → Option (List Shape)
  | [], l => some l
  | p :: ps, l => (stepF m fn l p).bind (stepsF m fn ps)
def okF (m : Mod) (fn : Fn) (l : List Shape) (p : Nat) : Bool :=
  match l[p]?, fn.code[p]? with
  | some (true, s), some i => (insB8 m fn i p s).1 == 0 && (insB8 m fn i p s).2.2.all fun k => match l[k.toNat]? with
    | some (true, u) => belowT (insB8 m fn i p s).2.1 u
    | _ => false
  | some (true, _), none => false
  | _, _ => true
def outF (x : Shape) : Bool := x.1 || x.2.isEmpty
structure RunF (m : Mod) (fn : Fn) (l : List Shape) : Prop where
  len : l.length = fn.code.length
  run : Run m fn (toS l)
theorem putF_run {m : Mod} {fn : Fn} {p : Nat} {i : Ins} {s t : List Typ} {ks : List Int} (hi : fn.code[p]? = some i) (hu : Und m fn p s) (hf : insB8 m fn i p s = (0, t, ks)) (hc : canL t) (h8 : t.length ≤ 8) :
    ∀ (js : List Int) (l : List Shape), RunF m fn l → (∀ j ∈ js, j ∈ ks ∧ 0 ≤ j ∧ j.toNat < fn.code.length) → (∀ l', putF t js l = some l' → RunF m fn l') ∧ (putF t js l = none → Never m fn) := by
  intro js
  induction js with
  | nil =>
    intro l h _
    refine ⟨fun l' e => ?_, fun e => (by simp [putF] at e)⟩
    simp only [putF, Option.some.injEq] at e
    subst e
    exact h
  | cons j js ih =>
    intro l h hj
    obtain ⟨hm, h0, hlt⟩ := hj j (by simp)
    have hm' : ((j.toNat : Nat) : Int) ∈ ks := by rw [Int.toNat_of_nonneg h0]; exact hm
    have hlt' : j.toNat < l.length := by rw [h.len]; exact hlt
    obtain ⟨⟨b, u⟩, e⟩ : ∃ x, l[j.toNat]? = some x := ⟨_, List.getElem?_eq_getElem hlt'⟩
    have hr := fun a ha => hj a (List.mem_cons_of_mem _ ha)
    simp only [putF, e]
    cases b
    · simp only
      refine ih _ ⟨by simpa using h.len, ?_⟩ hr
      rw [toS_set hlt']
      exact run_new h.run hu hi hf hm' (toS_no e) hc h8 hlt
    · simp only
      by_cases hn : u.length = t.length
      · rw [if_pos hn]
        refine ih _ ⟨by simpa using h.len, ?_⟩ hr
        rw [toS_set hlt']
        exact run_join h.run hu hi hf hm' (toS_yes e) hn hc
      · rw [if_neg hn]
        exact ⟨fun l' e => (by cases e), fun _ => run_heights h.run hu hi hf hm' (toS_yes e) hn⟩
theorem stepF_run {m : Mod} {fn : Fn} (hc : checkN m = 0) (hf : fn ∈ m.funcs) {l : List Shape} (h : RunF m fn l) (p : Nat) : (∀ l', stepF m fn l p = some l' → RunF m fn l') ∧ (stepF m fn l p = none → Never m fn) := by
  unfold stepF
  split
  · rename_i s i hs hi
    have hu := h.run.und (toS_yes hs)
    by_cases he : (insB8 m fn i p s).1 = 0
    · rw [if_pos he]
      have hfl : insB8 m fn i p s = (0, (insB8 m fn i p s).2.1, (insB8 m fn i p s).2.2) := Prod.ext he rfl
      obtain ⟨h1, h2⟩ := flow_can hc hf (h.run.can p s (toS_yes hs)).1 hfl
      have h3 := flow_there hc hf hi hfl
      exact putF_run hi hu hfl h1 h2 _ _ h fun j hj => ⟨hj, h3 j hj⟩
    · rw [if_neg he]
      exact ⟨fun l' e => (by cases e), fun _ => run_error hu hi he⟩
  · exact ⟨fun l' e => (by injection e with e; subst e; exact h), fun e => (by cases e)⟩
theorem stepsF_run {m : Mod} {fn : Fn} (hc : checkN m = 0) (hf : fn ∈ m.funcs) : ∀ (ps : List Nat) (l : List Shape), RunF m fn l → (∀ l', stepsF m fn ps l = some l' → RunF m fn l') ∧ (stepsF m fn ps l = none → Never m fn) := by
  intro ps
  induction ps with
  | nil => intro l h; exact ⟨fun l' e => (by simp only [stepsF, Option.some.injEq] at e; subst e; exact h), fun e => (by simp [stepsF] at e)⟩
  | cons p ps ih =>
    intro l h
    obtain ⟨h1, h2⟩ := stepF_run hc hf h p
    simp only [stepsF]
    cases e : stepF m fn l p with
    | none => exact ⟨fun l' e' => (by simp at e'), fun _ => h2 e⟩
    | some l2 => simpa using ih l2 (h1 l2 e)
def beginF (n : Nat) : List Shape := (List.replicate n (false, [])).set 0 (true, [])
theorem beginF_run {m : Mod} {fn : Fn} (h : 0 < fn.code.length) : RunF m fn (beginF fn.code.length) := by
  refine ⟨by simp [beginF], ?_⟩
  have e : toS (beginF fn.code.length) = S0 := by
    unfold beginF
    rw [toS_set (by simpa using h)]
    funext p
    unfold putS S0
    by_cases e : p = 0
    · rw [if_pos e, if_pos e]
    · rw [if_neg e, if_neg e]
      unfold toS
      rw [List.getElem?_replicate]
      split <;> simp [shO]
  rw [e]
  exact run_begin h
theorem okF_ok {m : Mod} {fn : Fn} {l : List Shape} {p : Nat} (h : okF m fn l p = true) : okAt m fn (toS l) p := by
  intro s hs
  have hs := toS_some hs
  unfold okF at h
  rw [hs] at h
  cases hi : fn.code[p]? with
  | none => rw [hi] at h; simp at h
  | some i =>
    rw [hi] at h
    simp only [Bool.and_eq_true, beq_iff_eq, List.all_eq_true] at h
    refine ⟨i, _, _, rfl, Prod.ext h.1 rfl, fun k hk z hz => ?_⟩
    injection hz with hz
    subst hz
    have := h.2 k hk
    split at this
    · rename_i u hu
      exact ⟨u, toS_yes hu, this⟩
    · cases this
theorem reckon_least {m : Mod} {fn : Fn} (hc : checkN m = 0) (hf : fn ∈ m.funcs) (hp : 0 < fn.code.length) (ps : List Nat) (l : List Shape) (h : stepsF m fn ps (beginF fn.code.length) = some l) (hk : (List.range fn.code.length).all (okF m fn l) = true) (ho : l.all outF = true) : Least m fn l := by
  have hr := (stepsF_run hc hf ps _ (beginF_run hp)).1 l h
  refine ⟨hr.len, fun p s hs => ?_, hr.run, fun p hp => okF_ok (List.all_eq_true.1 hk p (List.mem_range.2 hp))⟩
  have := List.all_eq_true.1 ho _ (List.mem_of_getElem? hs)
  simpa [outF] using this
theorem reckon_never {m : Mod} {fn : Fn} (hc : checkN m = 0) (hf : fn ∈ m.funcs) (hp : 0 < fn.code.length) (ps : List Nat) (h : stepsF m fn ps (beginF fn.code.length) = none) : Never m fn := (stepsF_run hc hf ps _ (beginF_run hp)).2 h
end Go.Proofs.Ytpjanfkliaaflaa
namespace Go.Proofs.Ytpjanfkliaaflaa
open Go.RowKit

def stkL : Lay (List Typ) where
  k := 1
  R S w cs xs := ∃ A c, cs = [.slice A xs.length c] ∧ xs.length ≤ c ∧ c ≤ maxLen ∧ (A = none → c = 0) ∧ Sq typL S w A xs
  len := by rintro S w cs x ⟨A, c, rfl, _⟩; rfl
  keep := by rintro S w w' cs x ⟨A, c, rfl, h1, h2, h3, h4⟩ hk; exact ⟨A, c, rfl, h1, h2, h3, h4.keep hk⟩
  wide := by rintro S T w cs x ⟨A, c, rfl, h1, h2, h3, h4⟩ hk; exact ⟨A, c, rfl, h1, h2, h3, h4.wide hk⟩
  one := by rintro S w cs x ⟨A, c, rfl, _⟩ u hu; simp at hu; subst hu; rfl
def shpL : Lay Shape where
  k := 2
  R S w cs x := ∃ v, cs = [.bool x.1, v] ∧ stkL.R S w [v] x.2
  len := by rintro S w cs x ⟨v, rfl, _⟩; rfl
  keep := by rintro S w w' cs x ⟨v, rfl, h⟩ hk; exact ⟨v, rfl, stkL.keep h hk⟩
  wide := by rintro S T w cs x ⟨v, rfl, h⟩ hk; exact ⟨v, rfl, stkL.wide h hk⟩
  one := by
    rintro S w cs x ⟨v, rfl, h⟩ u hu
    simp at hu
    rcases hu with rfl | rfl
    · rfl
    · exact stkL.one h _ (by simp)
abbrev rowL : Lay (List Shape) := slL shpL
abbrev mapsL : Lay (List (List Shape)) := slL rowL
theorem shp_at {S : Nat → Prop} {w : World} {A : Option Addr} {l : List Shape} (h : Sq shpL S w A l) {k : Nat} {x : Shape} (hk : l[k]? = some x) :
    ∃ a D c, A = some a ∧ S a.block ∧ w.cell? (a.add (k * 2)) = some (.bool x.1) ∧ w.cell? ⟨(a.add (k * 2)).block, (a.add (k * 2)).off + 1, none⟩ = some (.slice D x.2.length c) ∧ x.2.length ≤ c ∧ c ≤ maxLen ∧ (D = none → c = 0) ∧ Sq typL S w D x.2 := by
  obtain ⟨a, cs, e, hs, hc, v, rfl, D, c, ev, h1, h2, h3, h4⟩ := h.at hk
  simp only [List.cons.injEq, and_true] at ev
  subst ev
  have c0 := hc 0 _ rfl
  have c1 := hc 1 _ rfl
  rw [show k * shpL.k + 0 = k * 2 from rfl] at c0
  rw [show k * shpL.k + 1 = k * 2 + 1 from rfl, next_cell a (k * 2) 1 (by omega)] at c1
  exact ⟨a, D, c, e, hs, c0, c1, h1, h2, h3, h4⟩
theorem row_at {S : Nat → Prop} {w : World} {A : Option Addr} {L : List (List Shape)} (h : Sq rowL S w A L) {k : Nat} {l : List Shape} (hk : L[k]? = some l) :
    ∃ a D c, A = some a ∧ S a.block ∧ w.cell? (a.add k) = some (.slice D l.length c) ∧ l.length ≤ c ∧ c ≤ maxLen ∧ Sq shpL S w D l := by
  obtain ⟨a, cs, e, hs, hc, D, c, rfl, h1, h2, h3⟩ := h.at hk
  have c0 := hc 0 _ rfl
  rw [show k * rowL.k + 0 = k by show k * 1 + 0 = k; omega] at c0
  exact ⟨a, D, c, e, hs, c0, h1, h2, h3⟩
end Go.Proofs.Ytpjanfkliaaflaa
namespace Go.Proofs.Ytpjanfkliaaflaa
open Go.RowKit

def CS2 : List (Bool × Value) → List Value
  | [] => []
  | x :: xs => .bool x.1 :: x.2 :: CS2 xs
theorem CS2_length (r : List (Bool × Value)) : (CS2 r).length = r.length * 2 := by
  induction r with
  | nil => rfl
  | cons t r ih => simp [CS2, ih]; omega
theorem CS2_get0 {r : List (Bool × Value)} {j : Nat} {x : Bool × Value} (h : r[j]? = some x) : (CS2 r)[j * 2]? = some (.bool x.1) := by
  induction r generalizing j with
  | nil => simp at h
  | cons u r ih =>
    cases j with
    | zero => simp at h; subst h; simp [CS2]
    | succ j => rw [show (j + 1) * 2 = j * 2 + 1 + 1 by omega]; simp [CS2]; exact ih (by simpa using h)
theorem CS2_get1 {r : List (Bool × Value)} {j : Nat} {x : Bool × Value} (h : r[j]? = some x) : (CS2 r)[j * 2 + 1]? = some x.2 := by
  induction r generalizing j with
  | nil => simp at h
  | cons u r ih =>
    cases j with
    | zero => simp at h; subst h; simp [CS2]
    | succ j => rw [show (j + 1) * 2 + 1 = j * 2 + 1 + 1 + 1 by omega]; simp [CS2]; exact ih (by simpa using h)
theorem CS2_set0 {r : List (Bool × Value)} {k : Nat} {x : Bool × Value} {b : Bool} (h : r[k]? = some x) : (CS2 r).set (k * 2) (.bool b) = CS2 (r.set k (b, x.2)) := by
  induction r generalizing k with
  | nil => simp at h
  | cons u r ih =>
    cases k with
    | zero => simp at h; subst h; simp [CS2]
    | succ k =>
      rw [show (k + 1) * 2 = k * 2 + 1 + 1 by omega]
      simp only [CS2, List.set_cons_succ]
      rw [ih (by simpa using h)]
theorem CS2_set1 {r : List (Bool × Value)} {k : Nat} {x : Bool × Value} {v : Value} (h : r[k]? = some x) : (CS2 r).set (k * 2 + 1) v = CS2 (r.set k (x.1, v)) := by
  induction r generalizing k with
  | nil => simp at h
  | cons u r ih =>
    cases k with
    | zero => simp at h; subst h; simp [CS2]
    | succ k =>
      rw [show (k + 1) * 2 + 1 = k * 2 + 1 + 1 + 1 by omega]
      simp only [CS2, List.set_cons_succ]
      rw [ih (by simpa using h)]
def Bl (ws : List Bool) : List Value := ws.map .bool
theorem Bl_length (ws : List Bool) : (Bl ws).length = ws.length := by simp [Bl]
theorem Bl_get {ws : List Bool} {j : Nat} {b : Bool} (h : ws[j]? = some b) : (Bl ws)[j]? = some (.bool b) := by simp [Bl, h]
theorem Bl_set (ws : List Bool) (k : Nat) (b : Bool) : (Bl ws).set k (.bool b) = Bl (ws.set k b) := by simp [Bl, List.map_set]
theorem T2_set0 {ts : List Typ} {k : Nat} {t : Typ} {z : Int} (h : ts[k]? = some t) : (T2 ts).set (k * 2) (.int .i64 z) = T2 (ts.set k (z, t.2)) := by
  induction ts generalizing k with
  | nil => simp at h
  | cons u ts ih =>
    cases k with
    | zero => simp at h; subst h; simp [T2]
    | succ k =>
      rw [show (k + 1) * 2 = k * 2 + 1 + 1 by omega]
      simp only [T2, List.set_cons_succ]
      rw [ih (by simpa using h)]
theorem T2_set1 {ts : List Typ} {k : Nat} {t : Typ} {z : Int} (h : ts[k]? = some t) : (T2 ts).set (k * 2 + 1) (.int .i64 z) = T2 (ts.set k (t.1, z)) := by
  induction ts generalizing k with
  | nil => simp at h
  | cons u ts ih =>
    cases k with
    | zero => simp at h; subst h; simp [T2]
    | succ k =>
      rw [show (k + 1) * 2 + 1 = k * 2 + 1 + 1 + 1 by omega]
      simp only [T2, List.set_cons_succ]
      rw [ih (by simpa using h)]

def Stk (n0 : Nat) (w : World) (v : Value) (s : List Typ) : Prop :=
  (s = [] ∧ ∃ A c, v = .slice A 0 c ∧ c ≤ maxLen ∧ (A = none → c = 0)) ∨ (0 < s.length ∧ A64 s ∧ ∃ b c, v = .slice (some ⟨b, 0, none⟩) s.length c ∧ s.length ≤ c ∧ c ≤ maxLen ∧ w.ownsRow n0 23 2 (.slice (some ⟨b, 0, none⟩) s.length c) s.length (T2 s))
theorem Stk.shape {n0 : Nat} {w : World} {v : Value} {s : List Typ} (h : Stk n0 w v s) : ∃ A c, v = .slice A s.length c ∧ s.length ≤ c ∧ c ≤ maxLen ∧ (A = none → c = 0) := by
  rcases h with ⟨rfl, A, c, rfl, h1, h2⟩ | ⟨h0, -, b, c, rfl, h1, h2, -⟩
  · exact ⟨A, c, rfl, Nat.zero_le _, h1, h2⟩
  · exact ⟨_, c, rfl, h1, h2, fun h => by cases h⟩
theorem Stk.sq {n0 : Nat} {w : World} {A : Option Addr} {n c : Nat} {s : List Typ} (h : Stk n0 w (.slice A n c) s) : Sq typL (fun b => n0 ≤ b ∧ b < w.heap.size) w A s := by
  rcases h with ⟨rfl, -⟩ | ⟨h0, ha, b, c', e, h1, h2, ho⟩
  · exact Sq.nil _ _ _ _
  · simp only [Value.slice.injEq] at e
    obtain ⟨rfl, rfl, rfl⟩ := e
    obtain ⟨A, c, e, -, -, -, hs⟩ := own_sq ho ha
    simp only [Value.slice.injEq, true_and] at e
    obtain ⟨rfl, -⟩ := e
    exact hs
theorem Stk.a64 {n0 : Nat} {w : World} {v : Value} {s : List Typ} (h : Stk n0 w v s) : A64 s := by
  rcases h with ⟨rfl, -⟩ | ⟨-, h, -⟩
  · exact A64.nil
  · exact h
theorem Stk.keep {n0 : Nat} {w w' : World} {v : Value} {s : List Typ} (h : Stk n0 w v s) (hk : 0 < s.length → ∀ b, v.ownBlock = some b → w'.heap[b]? = w.heap[b]?) : Stk n0 w' v s := by
  rcases h with h | ⟨h0, ha, b, c, rfl, h1, h2, ho⟩
  · exact .inl h
  · refine .inr ⟨h0, ha, b, c, rfl, h1, h2, ho.1, ?_⟩
    rcases ho.2 with ⟨e, _⟩ | ⟨g', cap, cur, e, q1, q2, q3⟩
    · cases e
    · refine .inr ⟨g', cap, cur, e, q1, ?_, q3⟩
      simp only [Value.slice.injEq, Option.some.injEq, Addr.mk.injEq, and_true, true_and] at e
      obtain ⟨rfl, -⟩ := e
      rw [hk h0 b rfl]
      exact q2
theorem Stk.own {n0 : Nat} {w : World} {v : Value} {s : List Typ} (h : Stk n0 w v s) (h0 : 0 < s.length) : ∃ b, v.ownBlock = some b ∧ n0 ≤ b ∧ b < w.heap.size := by
  rcases h with ⟨rfl, -⟩ | ⟨_, _, b, c, rfl, _, _, ho⟩
  · simp at h0
  · exact ⟨b, rfl, ho.lt b rfl⟩

structure Turn (Z : Nat → Option Nat) (w w' : World) : Prop where
  os : w'.os = w.os
  tape : w'.tape = w.tape
  output : w'.output = w.output
  size : w.heap.size ≤ w'.heap.size
  block : ∀ b, b < w.heap.size → Z b = none → w'.heap[b]? = w.heap[b]?
theorem Turn.refl (Z : Nat → Option Nat) (w : World) : Turn Z w w := ⟨rfl, rfl, rfl, Nat.le_refl _, fun _ _ _ => rfl⟩
theorem Turn.trans {Z Z' : Nat → Option Nat} {a b c : World} (h : Turn Z a b) (k : Turn Z' b c) (hz : ∀ i, i < a.heap.size → Z i = none → Z' i = none) : Turn Z a c :=
  ⟨k.os.trans h.os, k.tape.trans h.tape, k.output.trans h.output, Nat.le_trans h.size k.size, fun i hi hn => (k.block i (Nat.lt_of_lt_of_le hi h.size) (hz i hi hn)).trans (h.block i hi hn)⟩
theorem Turn.of_below {Z : Nat → Option Nat} {a b : World} (h : Below a.heap.size a b) : Turn Z a b := ⟨h.os, h.tape, h.output, h.size, fun i hi _ => h.block i hi⟩
theorem Turn.below {Z : Nat → Option Nat} {n0 : Nat} {a b : World} (h : Turn Z a b) (hn : n0 ≤ a.heap.size) (hz : ∀ i, i < n0 → Z i = none) : Below n0 a b := ⟨h.os, h.tape, h.output, h.size, fun i hi => h.block i (Nat.lt_of_lt_of_le hi hn) (hz i hi)⟩
theorem Turn.set {Z : Nat → Option Nat} {a b : World} (h : Turn Z a b) {g i : Nat} (hg : Z g ≠ none) (u : Value) : Turn Z a (b.setCell ⟨g, i, none⟩ u) :=
  ⟨h.os, h.tape, h.output, by simpa [World.setCell] using h.size, fun k hk hn => (Below.heap_setCell b ⟨g, i, none⟩ u k (fun e => by rw [e] at hn; exact hg hn)).trans (h.block k hk hn)⟩
theorem Turn.then {Z : Nat → Option Nat} {a b c : World} (h : Turn Z a b) (k : Below b.heap.size b c) : Turn Z a c := h.trans (Turn.of_below (Z := Z) k) (fun _ _ h => h)

structure Wk (n0 g p q : Nat) (Z : Nat → Option Nat) (w : World) (l : List Shape) (ws : List Bool) (r : List (Bool × Value)) : Prop where
  zg : Z g = some 0
  zp : Z p = some 1
  zq : Z q = some 2
  low : ∀ b, Z b ≠ none → n0 ≤ b ∧ b < w.heap.size
  box : Blk w g 79 #[.slice (some ⟨p, 0, none⟩) l.length l.length, .slice (some ⟨q, 0, none⟩) l.length l.length]
  row : w.ownsRow n0 44 2 (.slice (some ⟨p, 0, none⟩) l.length l.length) l.length (CS2 r)
  wai : w.ownsRow n0 4 1 (.slice (some ⟨q, 0, none⟩) l.length l.length) l.length (Bl ws)
  stk : ∀ (k : Nat) (x : Shape), l[k]? = some x → ∃ v, r[k]? = some (x.1, v) ∧ Stk n0 w v x.2 ∧ (0 < x.2.length → ∀ b, v.ownBlock = some b → Z b = some (k + 3))
theorem Wk.lenr {n0 g p q : Nat} {Z : Nat → Option Nat} {w : World} {l : List Shape} {ws : List Bool} {r : List (Bool × Value)} (h : Wk n0 g p q Z w l ws r) : r.length = l.length := by
  have := h.row.1
  rw [CS2_length] at this
  omega
theorem Wk.lenw {n0 g p q : Nat} {Z : Nat → Option Nat} {w : World} {l : List Shape} {ws : List Bool} {r : List (Bool × Value)} (h : Wk n0 g p q Z w l ws r) : ws.length = l.length := by
  have := h.wai.1
  rw [Bl_length] at this
  omega
theorem Wk.low0 {n0 g p q : Nat} {Z : Nat → Option Nat} {w : World} {l : List Shape} {ws : List Bool} {r : List (Bool × Value)} (h : Wk n0 g p q Z w l ws r) : ∀ i, i < n0 → Z i = none := fun i hi => by
  cases e : Z i with
  | none => rfl
  | some k => exact absurd (h.low i (by rw [e]; simp)).1 (by omega)
theorem row_keep {w w' : World} {n0 ty size p n c : Nat} {xs : List Value} (h : w.ownsRow n0 ty size (.slice (some ⟨p, 0, none⟩) n c) n xs) (hk : w'.heap[p]? = w.heap[p]?) : w'.ownsRow n0 ty size (.slice (some ⟨p, 0, none⟩) n c) n xs := by
  refine ⟨h.1, ?_⟩
  rcases h.2 with ⟨e, _⟩ | ⟨g', cap, cur, e, q1, q2, q3⟩
  · cases e
  · refine .inr ⟨g', cap, cur, e, q1, ?_, q3⟩
    simp only [Value.slice.injEq, Option.some.injEq, Addr.mk.injEq, and_true, true_and] at e
    obtain ⟨rfl, -⟩ := e
    rw [hk]
    exact q2
theorem Wk.below {n0 g p q : Nat} {Z : Nat → Option Nat} {w w' : World} {l : List Shape} {ws : List Bool} {r : List (Bool × Value)} (h : Wk n0 g p q Z w l ws r) (hb : Below w.heap.size w w') : Wk n0 g p q Z w' l ws r := by
  have hz : ∀ b, Z b ≠ none → w'.heap[b]? = w.heap[b]? := fun b hb2 => hb.block b (h.low b hb2).2
  refine ⟨h.zg, h.zp, h.zq, fun b hb2 => ⟨(h.low b hb2).1, Nat.lt_of_lt_of_le (h.low b hb2).2 hb.size⟩, (hz g (by rw [h.zg]; simp)).trans h.box, row_keep h.row (hz p (by rw [h.zp]; simp)), row_keep h.wai (hz q (by rw [h.zq]; simp)), fun k x hx => ?_⟩
  obtain ⟨v, h1, h2, h3⟩ := h.stk k x hx
  exact ⟨v, h1, h2.keep fun h0 b hb2 => hz b (by rw [h3 h0 b hb2]; simp), h3⟩
theorem Wk.cells {n0 g p q : Nat} {Z : Nat → Option Nat} {w : World} {l : List Shape} {ws : List Bool} {r : List (Bool × Value)} (h : Wk n0 g p q Z w l ws r) {k : Nat} {x : Shape} (hx : l[k]? = some x) :
    ∃ A c, r[k]? = some (x.1, .slice A x.2.length c) ∧ w.cell? ⟨p, k * 2, none⟩ = some (.bool x.1) ∧ w.cell? ⟨p, k * 2 + 1, none⟩ = some (.slice A x.2.length c) ∧ Stk n0 w (.slice A x.2.length c) x.2 ∧ x.2.length ≤ c ∧ c ≤ maxLen ∧ (A = .none → c = 0) := by
  obtain ⟨v, h1, h2, -⟩ := h.stk k x hx
  obtain ⟨A, c, rfl, h3, h4, h5⟩ := h2.shape
  have hk := (List.getElem?_eq_some_iff.1 hx).1
  exact ⟨A, c, h1, (h.row.cellAt (k * 2) (by omega)).trans (CS2_get0 h1), (h.row.cellAt (k * 2 + 1) (by omega)).trans (CS2_get1 h1), h2, h3, h4, h5⟩
theorem Wk.wait {n0 g p q : Nat} {Z : Nat → Option Nat} {w : World} {l : List Shape} {ws : List Bool} {r : List (Bool × Value)} (h : Wk n0 g p q Z w l ws r) (k : Nat) (b : Bool) : Wk n0 g p q Z (w.setCell ⟨q, k, .none⟩ (.bool b)) l (ws.set k b) r := by
  have hz : ∀ i, i ≠ q → (w.setCell ⟨q, k, .none⟩ (.bool b)).heap[i]? = w.heap[i]? := fun i hi => Below.heap_setCell w ⟨q, k, .none⟩ (.bool b) i hi
  have hne : ∀ i j, Z i = some j → j ≠ 2 → i ≠ q := fun i j hi hj e => by rw [e, h.zq] at hi; injection hi with hi; omega
  refine ⟨h.zg, h.zp, h.zq, fun i hi => by simpa [World.setCell] using h.low i hi, (hz g (hne g 0 h.zg (by omega))).trans h.box, row_keep h.row (hz p (hne p 1 h.zp (by omega))), ?_, fun j x hx => ?_⟩
  · have := (h.wai.stored k (.bool b)).1
    rwa [Bl_set] at this
  · obtain ⟨v, h1, h2, h3⟩ := h.stk j x hx
    exact ⟨v, h1, h2.keep fun h0 i hi => hz i (hne i (j + 3) (h3 h0 i hi) (by omega)), h3⟩
theorem Wk.seen {n0 g p q : Nat} {Z : Nat → Option Nat} {w : World} {l : List Shape} {ws : List Bool} {r : List (Bool × Value)} (h : Wk n0 g p q Z w l ws r) {k : Nat} (hk : k < l.length) {v : Value} {t : List Typ} (hv : Stk n0 w v t) (hn : 0 < t.length → ∀ b, v.ownBlock = some b → Z b = .none) :
    ∃ Z', (∀ b, Z' b ≠ Z b → 0 < t.length ∧ v.ownBlock = some b) ∧ Wk n0 g p q Z' ((w.setCell ⟨p, k * 2, .none⟩ (.bool true)).setCell ⟨p, k * 2 + 1, .none⟩ v) (l.set k (true, t)) ws (r.set k (true, v)) := by
  have hz : ∀ i, i ≠ p → ((w.setCell ⟨p, k * 2, .none⟩ (.bool true)).setCell ⟨p, k * 2 + 1, .none⟩ v).heap[i]? = w.heap[i]? := fun i hi => (Below.heap_setCell _ ⟨p, k * 2 + 1, .none⟩ v i hi).trans (Below.heap_setCell w ⟨p, k * 2, .none⟩ (.bool true) i hi)
  have hp2 := (h.low p (by rw [h.zp]; simp)).2
  obtain ⟨x, hx⟩ : ∃ x, l[k]? = some x := ⟨_, List.getElem?_eq_getElem hk⟩
  obtain ⟨v0, hr0, -, -⟩ := h.stk k x hx
  have hrow : ((w.setCell ⟨p, k * 2, .none⟩ (.bool true)).setCell ⟨p, k * 2 + 1, .none⟩ v).ownsRow n0 44 2 (.slice (some ⟨p, 0, .none⟩) l.length l.length) l.length (CS2 (r.set k (true, v))) := by
    have h1 := (h.row.stored (k * 2) (.bool true)).1
    have h2 := (h1.stored (k * 2 + 1) v).1
    have hkr : k < r.length := by rw [h.lenr]; exact hk
    have hr1 : (r.set k (true, v0))[k]? = some (true, v0) := by rw [List.getElem?_set_self hkr]
    rw [CS2_set0 hr0, CS2_set1 hr1, List.set_set] at h2
    exact h2
  have hne : ∀ i j, Z i = some j → j ≠ 1 → i ≠ p := fun i j hi hj e => by rw [e, h.zp] at hi; injection hi with hi; omega
  have hsz : ((w.setCell ⟨p, k * 2, .none⟩ (.bool true)).setCell ⟨p, k * 2 + 1, .none⟩ v).heap.size = w.heap.size := by simp [World.setCell]
  rcases Nat.eq_zero_or_pos t.length with h0 | h0
  · refine ⟨Z, fun b hb => absurd rfl hb, h.zg, h.zp, h.zq, fun b hb => by rw [hsz]; exact h.low b hb, ?_, by simpa using hrow, ?_, fun j y hy => ?_⟩
    · rw [List.length_set]; exact (hz g (hne g 0 h.zg (by omega))).trans h.box
    · rw [List.length_set]; exact row_keep h.wai (hz q (hne q 2 h.zq (by omega)))
    · rw [List.getElem?_set] at hy
      by_cases e : k = j
      · subst e
        rw [if_pos rfl, if_pos hk] at hy
        injection hy with hy
        subst hy
        refine ⟨v, by rw [List.getElem?_set_self (by rw [h.lenr]; exact hk)], hv.keep fun h1 => absurd (show 0 < t.length from h1) (by omega), fun h1 => absurd (show 0 < t.length from h1) (by omega)⟩
      · rw [if_neg e] at hy
        obtain ⟨u, h1, h2, h3⟩ := h.stk j y hy
        exact ⟨u, by rw [List.getElem?_set_ne e]; exact h1, h2.keep fun h4 i hi => hz i (hne i (j + 3) (h3 h4 i hi) (by omega)), h3⟩
  · obtain ⟨b, hb, hb1, hb2⟩ := hv.own h0
    have hzb := hn h0 b hb
    have hnb : ∀ i, Z i ≠ .none → i ≠ b := fun i hi e => hi (by rw [e]; exact hzb)
    refine ⟨fun i => if i = b then some (k + 3) else Z i, fun i hi => ⟨h0, ?_⟩, ?_, ?_, ?_, fun i hi => ?_, ?_, by simpa using hrow, ?_, fun j y hy => ?_⟩
    · by_cases e : i = b
      · rw [e]; exact hb
      · simp only [if_neg e] at hi; exact absurd rfl hi
    · simp only [if_neg (hnb g (by rw [h.zg]; simp))]; exact h.zg
    · simp only [if_neg (hnb p (by rw [h.zp]; simp))]; exact h.zp
    · simp only [if_neg (hnb q (by rw [h.zq]; simp))]; exact h.zq
    · rw [hsz]
      by_cases e : i = b
      · rw [e]; exact ⟨hb1, hb2⟩
      · simp only [if_neg e] at hi; exact h.low i hi
    · rw [List.length_set]; exact (hz g (hne g 0 h.zg (by omega))).trans h.box
    · rw [List.length_set]; exact row_keep h.wai (hz q (hne q 2 h.zq (by omega)))
    · rw [List.getElem?_set] at hy
      by_cases e : k = j
      · subst e
        rw [if_pos rfl, if_pos hk] at hy
        injection hy with hy
        subst hy
        refine ⟨v, by rw [List.getElem?_set_self (by rw [h.lenr]; exact hk)], hv.keep fun h1 i hi => hz i ?_, fun h1 i hi => ?_⟩
        · rw [hb] at hi; injection hi with hi; subst hi
          exact fun e => by rw [e, h.zp] at hzb; cases hzb
        · rw [hb] at hi; injection hi with hi; subst hi
          simp
      · rw [if_neg e] at hy
        obtain ⟨u, h1, h2, h3⟩ := h.stk j y hy
        refine ⟨u, by rw [List.getElem?_set_ne e]; exact h1, h2.keep fun h4 i hi => hz i (hne i (j + 3) (h3 h4 i hi) (by omega)), fun h4 i hi => ?_⟩
        have h5 := h3 h4 i hi
        simp only [if_neg (hnb i (by rw [h5]; simp))]
        exact h5
theorem Wk.give {n0 g p q : Nat} {Z : Nat → Option Nat} {w : World} {l : List Shape} {ws : List Bool} {r : List (Bool × Value)} (h : Wk n0 g p q Z w l ws r) {k : Nat} {s : List Typ} (hx : l[k]? = some (true, s)) {b n c : Nat} (hr : r[k]? = some (true, .slice (some ⟨b, 0, .none⟩) n c)) {j : Nat} {t : Typ} (hj : j < s.length) (ht : I64 t.1 ∧ I64 t.2) :
    Wk n0 g p q Z ((w.setCell ⟨b, j * 2, .none⟩ (.int .i64 t.1)).setCell ⟨b, j * 2 + 1, .none⟩ (.int .i64 t.2)) (l.set k (true, s.set j t)) ws r ∧ Z b = some (k + 3) := by
  have hk := (List.getElem?_eq_some_iff.1 hx).1
  obtain ⟨v, hr2, hs, hzb⟩ := h.stk k _ hx
  rw [hr] at hr2
  simp only [Option.some.injEq, Prod.mk.injEq, true_and] at hr2
  subst hr2
  have hb := hzb (show 0 < s.length by omega) b rfl
  rcases hs with ⟨e, _⟩ | ⟨_, ha, b', c', e, h1, h2, ho⟩
  · rw [show s = [] from e] at hj; simp at hj
  simp only [Value.slice.injEq, Option.some.injEq, Addr.mk.injEq, and_true, true_and] at e
  obtain ⟨rfl, rfl, rfl⟩ := e
  have hz : ∀ i, i ≠ b → ((w.setCell ⟨b, j * 2, .none⟩ (.int .i64 t.1)).setCell ⟨b, j * 2 + 1, .none⟩ (.int .i64 t.2)).heap[i]? = w.heap[i]? := fun i hi => (Below.heap_setCell _ ⟨b, j * 2 + 1, .none⟩ _ i hi).trans (Below.heap_setCell w ⟨b, j * 2, .none⟩ _ i hi)
  have hne : ∀ i m, Z i = some m → m ≠ k + 3 → i ≠ b := fun i m hi hm e => by rw [e, hb] at hi; injection hi with hi; omega
  have hsz : ((w.setCell ⟨b, j * 2, .none⟩ (.int .i64 t.1)).setCell ⟨b, j * 2 + 1, .none⟩ (.int .i64 t.2)).heap.size = w.heap.size := by simp [World.setCell]
  refine ⟨⟨h.zg, h.zp, h.zq, fun i hi => by rw [hsz]; exact h.low i hi, ?_, ?_, ?_, fun m y hy => ?_⟩, hb⟩
  · rw [List.length_set]; exact (hz g (hne g 0 h.zg (by omega))).trans h.box
  · rw [List.length_set]; exact row_keep h.row (hz p (hne p 1 h.zp (by omega)))
  · rw [List.length_set]; exact row_keep h.wai (hz q (hne q 2 h.zq (by omega)))
  · rw [List.getElem?_set] at hy
    by_cases e : k = m
    · subst e
      rw [if_pos rfl, if_pos hk] at hy
      injection hy with hy
      subst hy
      refine ⟨_, hr, .inr ⟨by simpa using (show 0 < s.length by omega), ?_, b, c, by simp, by simpa using h1, h2, ?_⟩, fun _ => by intro i hi; simp only [Value.ownBlock, Option.some.injEq] at hi; subst hi; exact hb⟩
      · intro y hy
        rcases List.mem_or_eq_of_mem_set hy with hy | hy
        · exact ha y hy
        · subst hy; exact ht
      · obtain ⟨t0, ht0⟩ : ∃ t0, s[j]? = some t0 := ⟨_, List.getElem?_eq_getElem hj⟩
        have k1 := (ho.stored (j * 2) (.int .i64 t.1)).1
        have k2 := (k1.stored (j * 2 + 1) (.int .i64 t.2)).1
        have hs1 : (s.set j (t.1, t0.2))[j]? = some (t.1, t0.2) := by rw [List.getElem?_set_self hj]
        rw [T2_set0 ht0, T2_set1 hs1, List.set_set] at k2
        simpa using k2
    · rw [if_neg e] at hy
      obtain ⟨u, q1, q2, q3⟩ := h.stk m y hy
      exact ⟨u, q1, q2.keep fun h4 i hi => hz i (hne i (m + 3) (q3 h4 i hi) (by omega)), q3⟩
end Go.Proofs.Ytpjanfkliaaflaa
