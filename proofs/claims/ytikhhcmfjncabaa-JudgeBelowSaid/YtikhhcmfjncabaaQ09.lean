/-
  Ffp Vm Vc Vs Vl Ixhgh Jb Jp Jin Fon1 Fon2
-/
import Derived.Test.YtikhhcmfjncabaaQ02
import Derived.Test.YtikhhcmfjncabaaQ03
import Derived.Test.YtikhhcmfjncabaaQ08
set_option linter.unusedSimpArgs false
set_option linter.unusedVariables false
namespace Go.Proofs.Ytikhhcmfjncabaa

theorem sane_fn {x : Mod} {fn : Fn} (h : checkN x = 0) (hf : fn ∈ x.funcs) : fn.args.length ≤ 4 ∧ fn.locs.length ≤ 8 ∧ fn.code.length ≤ 64 ∧ ∀ i ∈ fn.code, goodIn i = true ∧ namedB x fn i = true := by
  have hF := fitB_iff.1 (checkN_fit h)
  have ho := hF.funcs fn hf
  simp only [fnOk, Bool.and_eq_true, witB_iff] at ho
  have hb : badM x = false := by
    cases hb : badM x
    · rfl
    · rw [checkN_bad (checkN_fit h) hb] at h; cases h
  refine ⟨by omega, by omega, by omega, fun i hi => ⟨ho.2.2 i hi, ?_⟩⟩
  cases hn : namedB x fn i
  · rw [badFn_any hf (bad_code hi hn)] at hb; cases hb
  · rfl
theorem sane_imp {x : Mod} {p : Imp} (h : checkN x = 0) (hf : p ∈ x.imps) : p.args.length ≤ 4 := by
  have ho := (fitB_iff.1 (checkN_fit h)).imps p hf
  simp only [impOk, Bool.and_eq_true, witB_iff] at ho
  omega
theorem sane_rec {x : Mod} {r : List Typ} (h : checkN x = 0) (hf : r ∈ x.recs) : r.length ≤ 6 := by
  have ho := (fitB_iff.1 (checkN_fit h)).recs r hf
  simp only [recOk, witB_iff] at ho
  omega
def short2 (p : List Typ × List Typ) : Prop := p.1.length ≤ 8 ∧ p.2.length ≤ 8
theorem short_ite {c : Prop} [Decidable c] {a b : List Typ × List Typ} (ha : short2 a) (hb : short2 b) : short2 (if c then a else b) := by
  split
  · exact ha
  · exact hb
theorem short_iteo {c : Prop} [Decidable c] {a b : Option (List Typ × List Typ)} (ha : short2 (a.getD ([], []))) (hb : short2 (b.getD ([], []))) : short2 ((if c then a else b).getD ([], [])) := by
  split
  · exact ha
  · exact hb
theorem chg_len {x : Mod} {f : Fn} {i : Ins} {s : List Typ} (h : checkN x = 0) : short2 (chgB x f i s) := by
  have e0 : short2 ((none : Option (List Typ × List Typ)).getD ([], [])) := ⟨by simp, by simp⟩
  unfold chgB
  refine short_ite ⟨by simp, by simp⟩ (short_ite ⟨by simp, by simp⟩ (short_ite ⟨by simp, by simp⟩ ?_))
  unfold ruleB
  repeat (first
    | (refine short_iteo ?_ ?_
       (first
        | (refine ⟨?_, ?_⟩ <;> (simp <;> done))
        | (split
           · rename_i g hg
             first
             | exact ⟨by have := (sane_fn h (List.mem_of_getElem? hg)).1; simp; omega, by simp⟩
             | exact ⟨by have := sane_imp h (List.mem_of_getElem? hg); simp; omega, by simp⟩
             | exact ⟨by have := sane_rec h (List.mem_of_getElem? hg); simp; omega, by simp⟩
           · exact e0)
        | (split <;> first | exact e0 | (refine ⟨?_, ?_⟩ <;> (simp <;> done)) | (split <;> first | exact e0 | (refine ⟨?_, ?_⟩ <;> (simp <;> done))))))
    | (refine ⟨?_, ?_⟩ <;> (simp <;> done)))
theorem next_foll {x : Mod} {f : Fn} {i : Ins} {p : Nat} (hn : namedB x f i = true) (hp : p < f.code.length) : nextB f i p = if ((f.code.length : Nat) : Int) ∈ follB i (p : Int) then none else some (follB i (p : Int)) := by
  unfold nextB follB
  by_cases h26 : i.1 = 26
  · simp [h26]
  by_cases h23 : i.1 = 23
  · simp [namedB, h23] at hn
    simp [h23]
    omega
  by_cases h24 : i.1 = 24
  · simp [namedB, h24] at hn
    by_cases hq : f.code.length ≤ p + 1
    · have hq2 : ((f.code.length : Nat) : Int) = (p : Int) + 1 := by omega
      simp [h24, hq, hq2]
    · have hq2 : ¬ ((f.code.length : Nat) : Int) = (p : Int) + 1 := by omega
      have hq3 : ¬ ((f.code.length : Nat) : Int) = i.2.1 := by omega
      simp [h24, hq, hq2, hq3]
  · simp only [h26, h23, h24, if_false, List.mem_singleton]
    by_cases hq : f.code.length ≤ p + 1
    · rw [if_pos hq, if_pos (by omega)]
    · rw [if_neg hq, if_neg (by omega)]
end Go.Proofs.Ytikhhcmfjncabaa
namespace Go.Proofs.Ytikhhcmfjncabaa

def joinT (a b : Typ) : Typ := (joinK a.1 a.2 b.1 b.2, joinN a.1 a.2 b.1 b.2)
def canT (t : Typ) : Prop := t.1 = 6 ∨ t.1 = 7 ∨ t.1 = 8 → t.2 = 0
def rkT (t : Typ) : Nat := if t.1 = 8 then 0 else if t.1 = 7 then 1 else if t.1 = 6 then 3 else 2
def joinL : List Typ → List Typ → List Typ
  | a :: xs, b :: ys => joinT a b :: joinL xs ys
  | _, _ => []
def canL (s : List Typ) : Prop := ∀ t ∈ s, canT t
def rkL : List Typ → Nat
  | [] => 0
  | t :: ts => rkT t + rkL ts
abbrev Shp := Nat → Option (List Typ)
def leO (a b : Option (List Typ)) : Prop := ∀ s, a = some s → ∃ r, b = some r ∧ belowT s r = true
def leS (S R : Shp) : Prop := ∀ p, leO (S p) (R p)
def okAt (m : Mod) (fn : Fn) (S : Shp) (p : Nat) : Prop := ∀ s, S p = some s → ∃ i t l, fn.code[p]? = some i ∧ insB8 m fn i p s = (0, t, l) ∧ ∀ k ∈ l, leO (some t) (S k.toNat)
structure RightF (m : Mod) (fn : Fn) (S : Shp) : Prop where
  zero : S 0 = some []
  at_ : ∀ p, p < fn.code.length → okAt m fn S p
structure Run (m : Mod) (fn : Fn) (S : Shp) : Prop where
  zero : S 0 = some []
  out : ∀ p, fn.code.length ≤ p → S p = none
  least : ∀ R, RightF m fn R → leS S R
  can : ∀ p s, S p = some s → canL s ∧ s.length ≤ 8
def S0 : Shp := fun p => if p = 0 then some [] else none
def Und (m : Mod) (fn : Fn) (p : Nat) (s : List Typ) : Prop := ∀ R, RightF m fn R → leO (some s) (R p)
def putS (S : Shp) (k : Nat) (s : List Typ) : Shp := fun p => if p = k then some s else S p
def rkO : Option (List Typ) → Nat
  | none => 25
  | some s => rkL s
def rkS (S : Shp) : Nat → Nat
  | 0 => 0
  | n + 1 => rkS S n + rkO (S n)
end Go.Proofs.Ytikhhcmfjncabaa
namespace Go.Proofs.Ytikhhcmfjncabaa

def canO (o : Option (List Typ × List Typ)) : Prop := ∀ p, o = some p → canL p.2
theorem flow_there {m : Mod} {f : Fn} {i : Ins} {p : Nat} {s t : List Typ} {l : List Int} (hc : checkN m = 0) (hf : f ∈ m.funcs) (hi : f.code[p]? = some i) (h : insB8 m f i p s = (0, t, l)) : ∀ k ∈ l, 0 ≤ k ∧ k.toNat < f.code.length := by
  obtain ⟨-, -, -, q4⟩ := sane_fn hc hf
  obtain ⟨hg, hn⟩ := q4 i (List.mem_of_getElem? hi)
  obtain ⟨o1, x1, y1, e1, e2, e3, -, -, -⟩ := goodI_parts hg
  have hp := (List.getElem?_eq_some_iff.1 hi).1
  have hl : nextB f i p = some l := by
    unfold insB8 at h
    split at h
    · simp at h
    · split at h
      · simp at h
      · split at h
        · simp at h
        · rename_i l' hl
          simp only [Prod.mk.injEq, true_and] at h
          rw [hl, h.2]
  intro k hk
  by_cases h26 : i.1 = 26
  · simp [nextB, h26] at hl
    subst hl
    simp at hk
  by_cases h23 : i.1 = 23
  · simp [nextB, h23] at hl
    simp [namedB, h23] at hn
    subst hl
    simp at hk
    omega
  by_cases hlast : f.code.length ≤ p + 1
  · simp [nextB, h26, h23, hlast] at hl
  by_cases h24 : i.1 = 24
  · simp [nextB, h24, hlast] at hl
    simp [namedB, h24] at hn
    subst hl
    simp at hk
    omega
  · simp [nextB, h26, h23, h24, hlast] at hl
    subst hl
    simp at hk
    omega
end Go.Proofs.Ytikhhcmfjncabaa
namespace Go.Proofs.Ytikhhcmfjncabaa

abbrev Shape := Bool × List Typ
def shO (x : Shape) : Option (List Typ) := if x.1 then some x.2 else none
def toS (l : List Shape) : Shp := fun p => (l[p]?).bind shO
theorem toS_yes {l : List Shape} {p : Nat} {s : List Typ} (h : l[p]? = some (true, s)) : toS l p = some s := by simp [toS, h, shO]
theorem toS_no {l : List Shape} {p : Nat} {s : List Typ} (h : l[p]? = some (false, s)) : toS l p = none := by simp [toS, h, shO]
theorem toS_some {l : List Shape} {p : Nat} {s : List Typ} (h : toS l p = some s) : l[p]? = some (true, s) := by
  unfold toS at h
  cases e : l[p]? with
  | none => rw [e] at h; cases h
  | some x =>
    obtain ⟨b, u⟩ := x
    rw [e] at h
    cases b
    · simp [shO] at h
    · simp [shO] at h; subst h; rfl
structure Least (m : Mod) (fn : Fn) (l : List Shape) : Prop where
  len : l.length = fn.code.length
  out : ∀ (p : Nat) (s : List Typ), l[p]? = some (false, s) → s = []
  run : Run m fn (toS l)
  ok : ∀ p, p < fn.code.length → okAt m fn (toS l) p
theorem Least.right {m : Mod} {fn : Fn} {l : List Shape} (h : Least m fn l) : RightF m fn (toS l) := ⟨h.run.zero, h.ok⟩
def Never (m : Mod) (fn : Fn) : Prop := ¬ ∃ R, RightF m fn R
structure LeastM (m : Mod) (L : List (List Shape)) : Prop where
  len : L.length = m.funcs.length
  at_ : ∀ (j : Nat) (fn : Fn) (l : List Shape), m.funcs[j]? = some fn → L[j]? = some l → Least m fn l
def NeverM (m : Mod) : Prop := ∃ fn ∈ m.funcs, Never m fn
theorem LeastM.get {m : Mod} {L : List (List Shape)} (h : LeastM m L) {j : Nat} {fn : Fn} (hf : m.funcs[j]? = some fn) : ∃ l, L[j]? = some l ∧ Least m fn l := by
  have hj := (List.getElem?_eq_some_iff.1 hf).1
  have e : L[j]? = some (L[j]'(by rw [h.len]; exact hj)) := List.getElem?_eq_getElem _
  exact ⟨_, e, h.at_ j fn _ hf e⟩
structure RightM (m : Mod) (L : List (List Shape)) : Prop where
  len : L.length = m.funcs.length
  at_ : ∀ (j : Nat) (fn : Fn) (l : List Shape), m.funcs[j]? = some fn → L[j]? = some l → l.length = fn.code.length ∧ (∀ x ∈ l, x.2.length ≤ 8) ∧ RightF m fn (toS l)
theorem RightM.get {m : Mod} {L : List (List Shape)} (h : RightM m L) {j : Nat} {fn : Fn} (hf : m.funcs[j]? = some fn) : ∃ l, L[j]? = some l ∧ l.length = fn.code.length ∧ (∀ x ∈ l, x.2.length ≤ 8) ∧ RightF m fn (toS l) := by
  have hj := (List.getElem?_eq_some_iff.1 hf).1
  have e : L[j]? = some (L[j]'(by rw [h.len]; exact hj)) := List.getElem?_eq_getElem _
  exact ⟨_, e, h.at_ j fn _ hf e⟩
theorem Least.short {m : Mod} {fn : Fn} {l : List Shape} (h : Least m fn l) : ∀ x ∈ l, x.2.length ≤ 8 := by
  rintro ⟨b, s⟩ hx
  obtain ⟨p, hp⟩ := List.mem_iff_getElem?.1 hx
  cases b
  · rw [h.out p s hp]; simp
  · exact (h.run.can p s (toS_yes hp)).2
theorem LeastM.right {m : Mod} {L : List (List Shape)} (h : LeastM m L) : RightM m L :=
  ⟨h.len, fun j fn l hf hl => ⟨(h.at_ j fn l hf hl).len, (h.at_ j fn l hf hl).short, (h.at_ j fn l hf hl).right⟩⟩
theorem LeastM.least {m : Mod} {L R : List (List Shape)} (h : LeastM m L) (h' : RightM m R) {j p : Nat} {l : List Shape} {s : List Typ} (hl : L[j]? = some l) (hp : l[p]? = some (true, s)) : ∃ r t, R[j]? = some r ∧ r[p]? = some (true, t) ∧ belowT s t = true := by
  have hj : j < m.funcs.length := by rw [← h.len]; exact (List.getElem?_eq_some_iff.1 hl).1
  have hf : m.funcs[j]? = some m.funcs[j] := List.getElem?_eq_getElem hj
  obtain ⟨r, hr, -, -, hR⟩ := h'.get hf
  obtain ⟨t, ht, hb⟩ := (h.at_ j _ l hf hl).run.least _ hR p s (toS_yes hp)
  exact ⟨r, t, hr, toS_some ht, hb⟩

def putF (t : List Typ) : List Int → List Shape → Option (List Shape)
  | [], l => some l
  | k :: ks, l =>
    match l[k.toNat]? with
    | none => none
    | some (false, _) => putF t ks (l.set k.toNat (true, t))
    | some (true, u) => if u.length = t.length then putF t ks (l.set k.toNat (true, joinL u t)) else none
def stepF (m : Mod) (fn : Fn) (l : List Shape) (p : Nat) : Option (List Shape) :=
  match l[p]?, fn.code[p]? with
  | some (true, s), some i => if (insB8 m fn i p s).1 = 0 then putF (insB8 m fn i p s).2.1 (insB8 m fn i p s).2.2 l else none
  | _, _ => some l
def stepsF (m : Mod) (fn : Fn) : List Nat → List Shape → Option (List Shape)
  | [], l => some l
  | p :: ps, l => (stepF m fn l p).bind (stepsF m fn ps)
def okF (m : Mod) (fn : Fn) (l : List Shape) (p : Nat) : Bool :=
  match l[p]?, fn.code[p]? with
  | some (true, s), some i => (insB8 m fn i p s).1 == 0 && (insB8 m fn i p s).2.2.all fun k => match l[k.toNat]? with
    | some (true, u) => belowT (insB8 m fn i p s).2.1 u
    | _ => false
  | some (true, _), none => false
  | _, _ => true
def outF (x : Shape) : Bool := x.1 || x.2.isEmpty
structure RunF (m : Mod) (fn : Fn) (l : List Shape) : Prop where
  len : l.length = fn.code.length
  run : Run m fn (toS l)
def beginF (n : Nat) : List Shape := (List.replicate n (false, [])).set 0 (true, [])
theorem okF_ok {m : Mod} {fn : Fn} {l : List Shape} {p : Nat} (h : okF m fn l p = true) : okAt m fn (toS l) p := by
  intro s hs
  have hs := toS_some hs
  unfold okF at h
  rw [hs] at h
  cases hi : fn.code[p]? with
  | none => rw [hi] at h; simp at h
  | some i =>
    rw [hi] at h
    simp only [Bool.and_eq_true, beq_iff_eq, List.all_eq_true] at h
    refine ⟨i, _, _, rfl, Prod.ext h.1 rfl, fun k hk z hz => ?_⟩
    injection hz with hz
    subst hz
    have := h.2 k hk
    split at this
    · rename_i u hu
      exact ⟨u, toS_yes hu, this⟩
    · cases this
end Go.Proofs.Ytikhhcmfjncabaa
namespace Go.Proofs.Ytikhhcmfjncabaa
open Go.RowKit

def stkL : Lay (List Typ) where
  k := 1
  R S w cs xs := ∃ A c, cs = [.slice A xs.length c] ∧ xs.length ≤ c ∧ c ≤ maxLen ∧ (A = none → c = 0) ∧ Sq typL S w A xs
  len := by rintro S w cs x ⟨A, c, rfl, _⟩; rfl
  keep := by rintro S w w' cs x ⟨A, c, rfl, h1, h2, h3, h4⟩ hk; exact ⟨A, c, rfl, h1, h2, h3, h4.keep hk⟩
  wide := by rintro S T w cs x ⟨A, c, rfl, h1, h2, h3, h4⟩ hk; exact ⟨A, c, rfl, h1, h2, h3, h4.wide hk⟩
  one := by rintro S w cs x ⟨A, c, rfl, _⟩ u hu; simp at hu; subst hu; rfl
theorem stk_nil (S : Nat → Prop) (w : World) : stkL.R S w [.slice none 0 0] [] := ⟨none, 0, rfl, Nat.le_refl _, by simp [maxLen], fun _ => rfl, Sq.nil _ _ _ _⟩
def shpL : Lay Shape where
  k := 2
  R S w cs x := ∃ v, cs = [.bool x.1, v] ∧ stkL.R S w [v] x.2
  len := by rintro S w cs x ⟨v, rfl, _⟩; rfl
  keep := by rintro S w w' cs x ⟨v, rfl, h⟩ hk; exact ⟨v, rfl, stkL.keep h hk⟩
  wide := by rintro S T w cs x ⟨v, rfl, h⟩ hk; exact ⟨v, rfl, stkL.wide h hk⟩
  one := by
    rintro S w cs x ⟨v, rfl, h⟩ u hu
    simp at hu
    rcases hu with rfl | rfl
    · rfl
    · exact stkL.one h _ (by simp)
abbrev rowL : Lay (List Shape) := slL shpL
abbrev mapsL : Lay (List (List Shape)) := slL rowL
theorem shp_at {S : Nat → Prop} {w : World} {A : Option Addr} {l : List Shape} (h : Sq shpL S w A l) {k : Nat} {x : Shape} (hk : l[k]? = some x) :
    ∃ a D c, A = some a ∧ S a.block ∧ w.cell? (a.add (k * 2)) = some (.bool x.1) ∧ w.cell? ⟨(a.add (k * 2)).block, (a.add (k * 2)).off + 1, none⟩ = some (.slice D x.2.length c) ∧ x.2.length ≤ c ∧ c ≤ maxLen ∧ (D = none → c = 0) ∧ Sq typL S w D x.2 := by
  obtain ⟨a, cs, e, hs, hc, v, rfl, D, c, ev, h1, h2, h3, h4⟩ := h.at hk
  simp only [List.cons.injEq, and_true] at ev
  subst ev
  have c0 := hc 0 _ rfl
  have c1 := hc 1 _ rfl
  rw [show k * shpL.k + 0 = k * 2 from rfl] at c0
  rw [show k * shpL.k + 1 = k * 2 + 1 from rfl, next_cell a (k * 2) 1 (by omega)] at c1
  exact ⟨a, D, c, e, hs, c0, c1, h1, h2, h3, h4⟩
theorem row_at {S : Nat → Prop} {w : World} {A : Option Addr} {L : List (List Shape)} (h : Sq rowL S w A L) {k : Nat} {l : List Shape} (hk : L[k]? = some l) :
    ∃ a D c, A = some a ∧ S a.block ∧ w.cell? (a.add k) = some (.slice D l.length c) ∧ l.length ≤ c ∧ c ≤ maxLen ∧ Sq shpL S w D l := by
  obtain ⟨a, cs, e, hs, hc, D, c, rfl, h1, h2, h3⟩ := h.at hk
  have c0 := hc 0 _ rfl
  rw [show k * rowL.k + 0 = k by show k * 1 + 0 = k; omega] at c0
  exact ⟨a, D, c, e, hs, c0, h1, h2, h3⟩
theorem sq_low {α : Type} {La : Lay α} {w v : World} {A : Option Addr} {xs : List α} (h : Sq La (· < w.heap.size) w A xs) (hb : Below w.heap.size w v) : Sq La (· < v.heap.size) v A xs := (h.keep fun b h1 => hb.block b h1).wide fun b h1 => Nat.lt_of_lt_of_le h1 hb.size
end Go.Proofs.Ytikhhcmfjncabaa
namespace Go.Proofs.Ytikhhcmfjncabaa
open Go.RowKit

set_option maxRecDepth 100000 in
set_option maxHeartbeats 1000000 in
theorem index_hgh (A : Option Addr) (n c : Nat) (xs : List Shape) (g : Shape → Bool) (w : World) (hl : xs.length = n) (h : Sq shpL (· < w.heap.size) w A xs) (hn2 : n ≤ 9223372036854775807)
    (hG : ∀ (w1 : World) (cs : List Value) (x : Shape), Below w.heap.size w w1 → x ∈ xs → shpL.R (· < w1.heap.size) w1 cs x → Calls Try.prog 14 #[vAgg cs] w1 (Tells (g x) w1)) :
    Calls Try.prog 19 #[.slice A n c, .func (.func 14) #[] #[]] w fun e w' => ∃ k : Int, e = .returned (.int .i64 k) ∧ decide (0 ≤ k) = xs.any g ∧ Below w.heap.size w w' := by
  have HL := Lib.hid hl
  have HS := Lib.hid h
  have HP0 := Lib.hid hG
  clear hl h hG
  go_enter Try.func19, Try.ntmps19
  go_wp2_with fail
  go_loopw [8] (fun i wr => ∃ k : Nat, k ≤ n ∧ i = .int .i64 (k : Nat) ∧ (xs.take k).any g = false ∧ Below w.heap.size w wr) (fun i _ => n - (intOf i).toNat)
  case atStart => exact ⟨0, Nat.zero_le _, rfl, by simp, Below.refl _ _⟩
  case round =>
    obtain ⟨k, hk, rfl, hall, hbel⟩ := hrel
    have HA := Lib.hid hall
    have HB := Lib.hid hbel
    have hs := hbel.size
    clear hall hbel
    by_cases hlt : k < n
    · skip
      obtain ⟨x, hx⟩ : ∃ x, xs[k]? = some x := ⟨xs[k]'(by rw [HL.out]; exact hlt), List.getElem?_eq_getElem _⟩
      have hmem : x ∈ xs := List.mem_of_getElem? hx
      obtain ⟨a, cs, rfl, hab, hc, hr⟩ := HS.out.at hx
      have HX := Lib.hid hx
      clear hx
      have HR := Lib.hid hr
      obtain ⟨v9, rfl, A9, d9, e9, -⟩ := hr
      simp only [List.cons.injEq, and_true] at e9
      subst e9
      have c0 := (HB.out.cell (p := a.add (k * 2)) (by rw [addBlock]; exact hab)).trans (hc 0 _ rfl)
      have c1 := (HB.out.cell (p := a.add (k * 2 + 1)) (by rw [addBlock]; exact hab)).trans (hc 1 _ rfl)
      rw [next_cell a (k * 2) 1 (by omega)] at c1
      have HP : Hid (∀ w1, Below w.heap.size w w1 → Calls Try.prog 14 #[.agg #[.bool x.1, .slice A9 x.2.length d9]] w1 (Tells (g x) w1)) := fun w1 hb => HP0.out w1 [.bool x.1, .slice A9 x.2.length d9] x hb hmem (shpL.wide (shpL.keep HR.out fun b hb1 => hb.block b hb1) fun b hb1 => Nat.lt_of_lt_of_le hb1 hb.size)
      clear hc
      have hk0 : 0 ≤ (k : Int) := by omega
      cases hg : g x
      · rw [hg] at HP
        have HG := Lib.hid hg
        clear hg
        go_wp2_with (first
          | (go_at_call 14
             refine (HP.out _ HB.out).mono ?_
             rintro e w2 ⟨rfl, hb2⟩
             have Hb2 := Lib.hid (HB.out.trans (hb2.mono hs))
             clear hb2))
        refine ⟨⟨k + 1, by omega, by simp, any_take HA.out HX.out HG.out, Hb2.out⟩, by simp [intOf]; omega⟩
      · rw [hg] at HP
        have e : xs.any g = true := any_here hmem hg
        have E := Lib.hid e
        clear e hg
        go_wp2_with (first
          | (go_at_call 14
             refine (HP.out _ HB.out).mono ?_
             rintro e w2 ⟨rfl, hb2⟩
             have Hb2 := Lib.hid (HB.out.trans (hb2.mono hs))
             clear hb2))
        go_ret
        exact ⟨_, rfl, by rw [E.out]; simp, Hb2.out⟩
    · obtain rfl : k = n := by omega
      go_wp2_with fail
      go_ret
      exact ⟨_, rfl, by rw [any_full HA.out HL.out]; rfl, HB.out⟩

set_option maxRecDepth 100000 in
theorem contains_hgh (A : Option Addr) (n c : Nat) (xs : List Shape) (g : Shape → Bool) (w : World) (hl : xs.length = n) (h : Sq shpL (· < w.heap.size) w A xs) (hn2 : n ≤ 9223372036854775807)
    (hG : ∀ (w1 : World) (cs : List Value) (x : Shape), Below w.heap.size w w1 → x ∈ xs → shpL.R (· < w1.heap.size) w1 cs x → Calls Try.prog 14 #[vAgg cs] w1 (Tells (g x) w1)) :
    Calls Try.prog 13 #[.slice A n c, .func (.func 14) #[] #[]] w (Tells (xs.any g) w) := by
  have HC := Lib.hid (index_hgh A n c xs g w hl h hn2 hG)
  clear hl h hG
  generalize xs.any g = ab at *
  go_enter Try.func13, Try.ntmps13
  go_wp2_with (first | (go_at_call 19; refine HC.out.mono ?_; rintro e w1 ⟨k, rfl, hk, hb⟩; have HB := Lib.hid hb; have HK := Lib.hid hk; clear hb hk))
  go_ret
  exact ⟨by rw [← HK.out]; rfl, HB.out⟩
end Go.Proofs.Ytikhhcmfjncabaa
namespace Go.Proofs.Ytikhhcmfjncabaa
open Go.RowKit

set_option maxRecDepth 100000 in
theorem jbelow_any (A B : Option Addr) (n m c d : Nat) (xs ys : List Typ) (w : World) (hl : xs.length = n) (hm : ys.length = m) (h : Sq typL (· < w.heap.size) w A xs) (h' : Sq typL (· < w.heap.size) w B ys) (hn2 : n ≤ 9223372036854775807) (hm2 : m ≤ 9223372036854775807) :
    Calls Try.prog 6 #[.slice A n c, .slice B m d] w (Tells (belowT xs ys) w) := by
  have HC := Lib.hid (equalFunc_sub A B n m c d xs ys w hl hm h h' hn2 hm2)
  clear hl hm h h'
  generalize belowT xs ys = ab at *
  go_enter Try.func6, Try.ntmps6
  go_wp2_with (first | (go_at_call 9; refine HC.out.mono ?_; rintro e w1 ⟨rfl, hb⟩; have HB := Lib.hid hb; clear hb))
  go_ret
  exact ⟨rfl, HB.out⟩
def highB (x : Shape) : Bool := decide (8 < x.2.length)
set_option maxRecDepth 100000 in
theorem high_any (x : Shape) (w : World) (cs : List Value) (h : shpL.R (· < w.heap.size) w cs x) : Calls Try.prog 14 #[vAgg cs] w (Tells (highB x) w) := by
  obtain ⟨b, s⟩ := x
  obtain ⟨v, rfl, A, d, e, -⟩ := h
  simp only [List.cons.injEq, and_true] at e
  subst e
  simp only [vAgg, highB]
  generalize s.length = n
  by_cases h8 : 8 < n
  · have h8i : (8 : Int) < (n : Int) := by omega
    rw [decide_eq_true h8]
    clear h8
    go_enter Try.func14, Try.ntmps14
    go_wp2_with fail
    go_ret
    exact ⟨by simp [h8i], below_new _ _⟩
  · have h8i : ¬ (8 : Int) < (n : Int) := by omega
    rw [decide_eq_false h8]
    clear h8
    go_enter Try.func14, Try.ntmps14
    go_wp2_with fail
    go_ret
    exact ⟨by simp [h8i], below_new _ _⟩
end Go.Proofs.Ytikhhcmfjncabaa
namespace Go.Proofs.Ytikhhcmfjncabaa
open Go.RowKit

def goesB (t : List Typ) (l : List Shape) (k : Int) : Bool :=
  match l[k.toNat]? with
  | some (true, u) => belowT t u
  | _ => false
theorem goesB_yes {t u : List Typ} {l : List Shape} {k : Nat} (h : l[k]? = some (true, u)) : goesB t l (k : Int) = belowT t u := by simp [goesB, h]
theorem goesB_no {t u : List Typ} {l : List Shape} {k : Nat} (h : l[k]? = some (false, u)) : goesB t l (k : Int) = false := by simp [goesB, h]
theorem okF_no {m : Mod} {fn : Fn} {l : List Shape} {p : Nat} {s : List Typ} (h : l[p]? = some (false, s)) : okF m fn l p = true := by simp [okF, h]
theorem okF_yes {m : Mod} {fn : Fn} {l : List Shape} {p : Nat} {s t : List Typ} {i : Ins} {er : Int} {ks : List Int} (h : l[p]? = some (true, s)) (hi : fn.code[p]? = some i) (hf : insB8 m fn i p s = (er, t, ks)) : okF m fn l p = (er == 0 && ks.all (goesB t l)) := by
  unfold okF
  rw [h, hi]
  simp only [hf]
  rfl
theorem okF_of {m : Mod} {fn : Fn} {l : List Shape} {p : Nat} (h : okAt m fn (toS l) p) : okF m fn l p = true := by
  unfold okF
  split
  · rename_i s i hs hi
    obtain ⟨i', t, ks, h1, h2, h3⟩ := h s (toS_yes hs)
    rw [hi] at h1
    injection h1 with h1
    subst h1
    rw [h2]
    simp only [Bool.and_eq_true, beq_iff_eq, List.all_eq_true, true_and]
    intro k hk
    obtain ⟨u, hu, hb⟩ := h3 k hk t rfl
    rw [toS_some hu]
    exact hb
  · rename_i s hs hi
    obtain ⟨i', t, ks, h1, -⟩ := h s (toS_yes hs)
    rw [hi] at h1
    cases h1
  · rfl
theorem not_all {α : Type} (l : List α) (f : α → Bool) : (l.any fun k => !f k) = !l.all f := by
  induction l with
  | nil => rfl
  | cons a l ih => simp only [List.any_cons, List.all_cons, ih, Bool.not_and]
def RRight (x : Mod) (L : List (List Shape)) (w : World) (e : Ending) (w' : World) : Prop :=
  Below w.heap.size w w' ∧ ∃ b : Bool, e = .returned (.bool b) ∧ (b = true ↔ mainB x = true ∧ RightM x L)
theorem rright_no {x : Mod} {L : List (List Shape)} {w w' : World} (hb : Below w.heap.size w w') (h : mainB x = true → RightM x L → False) : RRight x L w (.returned (.bool false)) w' :=
  ⟨hb, false, rfl, ⟨fun e => (by cases e), fun h2 => (h h2.1 h2.2).elim⟩⟩
end Go.Proofs.Ytikhhcmfjncabaa
namespace Go.Proofs.Ytikhhcmfjncabaa
open Go.RowKit

set_option maxRecDepth 100000 in
set_option maxHeartbeats 1000000 in
theorem index_rfs (A : Option Addr) (n c : Nat) (xs : List Int) (g : Int → Bool) (p7 p8 : Addr) (w : World) (hl : xs.length = n) (h : ∀ j x, xs[j]? = some x → ∃ a, A = some a ∧ a.block < w.heap.size ∧ w.cell? (a.add j) = some (.int .i64 x)) (hn2 : n ≤ 9223372036854775807)
    (hG : ∀ (w1 : World) (x : Int), Below w.heap.size w w1 → x ∈ xs → Calls Try.prog 22 #[.int .i64 x, .pointer (some p7), .pointer (some p8)] w1 (Tells (g x) w1)) :
    Calls Try.prog 39 #[.slice A n c, .func (.func 22) #[] #[.pointer (some p7), .pointer (some p8)]] w fun e w' => ∃ k : Int, e = .returned (.int .i64 k) ∧ decide (0 ≤ k) = xs.any g ∧ Below w.heap.size w w' := by
  have HL := Lib.hid hl
  have HS := Lib.hid h
  have HP0 := Lib.hid hG
  clear hl h hG
  go_enter Try.func39, Try.ntmps39
  go_wp2_with fail
  go_loopw [8] (fun i wr => ∃ k : Nat, k ≤ n ∧ i = .int .i64 (k : Nat) ∧ (xs.take k).any g = false ∧ Below w.heap.size w wr) (fun i _ => n - (intOf i).toNat)
  case atStart => exact ⟨0, Nat.zero_le _, rfl, by simp, Below.refl _ _⟩
  case round =>
    obtain ⟨k, hk, rfl, hall, hbel⟩ := hrel
    have HA := Lib.hid hall
    have HB := Lib.hid hbel
    have hs := hbel.size
    clear hall hbel
    by_cases hlt : k < n
    · skip
      obtain ⟨x, hx⟩ : ∃ x, xs[k]? = some x := ⟨xs[k]'(by rw [HL.out]; exact hlt), List.getElem?_eq_getElem _⟩
      have hmem : x ∈ xs := List.mem_of_getElem? hx
      obtain ⟨a, rfl, hab, hc⟩ := HS.out k x hx
      have HX := Lib.hid hx
      clear hx
      have c0 := (HB.out.cell (p := a.add k) (by rw [addBlock]; exact hab)).trans hc
      have HP : Hid (∀ w1, Below w.heap.size w w1 → Calls Try.prog 22 #[.int .i64 x, .pointer (some p7), .pointer (some p8)] w1 (Tells (g x) w1)) := fun w1 hb => HP0.out w1 x hb hmem
      clear hc
      have hk0 : 0 ≤ (k : Int) := by omega
      cases hg : g x
      · rw [hg] at HP
        have HG := Lib.hid hg
        clear hg
        go_wp2_with (first
          | (go_at_call 22
             refine (HP.out _ HB.out).mono ?_
             rintro e w2 ⟨rfl, hb2⟩
             have Hb2 := Lib.hid (HB.out.trans (hb2.mono hs))
             clear hb2))
        refine ⟨⟨k + 1, by omega, by simp, any_take HA.out HX.out HG.out, Hb2.out⟩, by simp [intOf]; omega⟩
      · rw [hg] at HP
        have e : xs.any g = true := any_here hmem hg
        have E := Lib.hid e
        clear e hg
        go_wp2_with (first
          | (go_at_call 22
             refine (HP.out _ HB.out).mono ?_
             rintro e w2 ⟨rfl, hb2⟩
             have Hb2 := Lib.hid (HB.out.trans (hb2.mono hs))
             clear hb2))
        go_ret
        exact ⟨_, rfl, by rw [E.out]; simp, Hb2.out⟩
    · obtain rfl : k = n := by omega
      go_wp2_with fail
      go_ret
      exact ⟨_, rfl, by rw [any_full HA.out HL.out]; rfl, HB.out⟩

set_option maxRecDepth 100000 in
theorem contains_rfs (A : Option Addr) (n c : Nat) (xs : List Int) (g : Int → Bool) (p7 p8 : Addr) (w : World) (hl : xs.length = n) (h : ∀ j x, xs[j]? = some x → ∃ a, A = some a ∧ a.block < w.heap.size ∧ w.cell? (a.add j) = some (.int .i64 x)) (hn2 : n ≤ 9223372036854775807)
    (hG : ∀ (w1 : World) (x : Int), Below w.heap.size w w1 → x ∈ xs → Calls Try.prog 22 #[.int .i64 x, .pointer (some p7), .pointer (some p8)] w1 (Tells (g x) w1)) :
    Calls Try.prog 23 #[.slice A n c, .func (.func 22) #[] #[.pointer (some p7), .pointer (some p8)]] w (Tells (xs.any g) w) := by
  have HC := Lib.hid (index_rfs A n c xs g p7 p8 w hl h hn2 hG)
  clear hl h hG
  generalize xs.any g = ab at *
  go_enter Try.func23, Try.ntmps23
  go_wp2_with (first | (go_at_call 39; refine HC.out.mono ?_; rintro e w1 ⟨k, rfl, hk, hb⟩; have HB := Lib.hid hb; have HK := Lib.hid hk; clear hb hk))
  go_ret
  exact ⟨by rw [← HK.out]; rfl, HB.out⟩
end Go.Proofs.Ytikhhcmfjncabaa
namespace Go.Proofs.Ytikhhcmfjncabaa
open Go.RowKit

set_option maxRecDepth 100000 in
set_option maxHeartbeats 4000000 in
theorem on_few (A B D : Option Addr) (n m k c d g : Nat) (ins outs ts : List Typ) (w : World) (hn : ins.length = n) (hm : outs.length = m) (hk : ts.length = k) (sn : Sq typL (· < w.heap.size) w A ins) (sm : Sq typL (· < w.heap.size) w B outs) (sk : Sq typL (· < w.heap.size) w D ts)
    (hlt : k < n) (bn : n ≤ 1000) (bm : m ≤ 1000) (bk : k ≤ 1000) (bg : k ≤ g) (bg2 : g ≤ 9223372036854775807) (bd : m ≤ d) (bd2 : d ≤ 9223372036854775807) : Calls Try.prog 36 #[.agg #[.slice A n c, .slice B m d], .slice D k g] w (Moved (movB ts ins outs) w) := by
  have HN := Lib.hid hn
  have HM := Lib.hid hm
  have HK := Lib.hid hk
  have SN := Lib.hid sn
  have SM := Lib.hid sm
  have SK := Lib.hid sk
  have HB0 : Hid (∀ o : Obj, Below w.heap.size w (w.alloc o)) := fun o => below_new w o
  clear hn hm hk sn sm sk
  have e1 : (k : Int) - (n : Int) < 0 := by omega
  have HV := Lib.hid (movB_few (outs := outs) (show ts.length < ins.length by rw [HK.out, HN.out]; exact hlt))
  clear hlt
  go_enter Try.func36, Try.ntmps36
  go_wp2_with fail
  refine wp_world fun U hU => ?_
  have HBU : Hid (Below w.heap.size w U) := by show Below _ _ _; rw [hU]; exact HB0.out _
  clear hU
  have HBR : Hid (∀ dq osq, Below w.heap.size w (Go.Sort.grow (redrawn U dq) osq)) := fun dq osq => HBU.out.trans ((below_regrown U dq osq).mono HBU.out.size)
  refine wp_region_quiet_below (by kernel_rfl) (by kernel_rfl) ?_
  repeat (quiet_step (fail))
  refine wpQuiet_nil ?_
  intro _ hw'
  obtain ⟨⟨dq, osq⟩, hw''⟩ := hw'
  subst hw''
  go_wp2_with fail
  go_ret2
  exact ⟨HBR.out dq osq, .inl ⟨HV.out, rfl⟩⟩
end Go.Proofs.Ytikhhcmfjncabaa
namespace Go.Proofs.Ytikhhcmfjncabaa
open Go.RowKit

set_option maxRecDepth 100000 in
set_option maxHeartbeats 4000000 in
theorem on_far (A B : Option Addr) (a : Addr) (n m k c d g : Nat) (ins outs ts : List Typ) (w : World) (hn : ins.length = n) (hm : outs.length = m) (hk : ts.length = k) (sn : Sq typL (· < w.heap.size) w A ins) (sm : Sq typL (· < w.heap.size) w B outs) (sk : Sq typL (· < w.heap.size) w (some a) ts)
    (hlt : ¬ k < n) (hg : ¬ g = k - n) (bn : n ≤ 1000) (bm : m ≤ 1000) (bk : k ≤ 1000) (bg : k ≤ g) (bg2 : g ≤ 9223372036854775807) (bd : m ≤ d) (bd2 : d ≤ 9223372036854775807) : Calls Try.prog 36 #[.agg #[.slice A n c, .slice B m d], .slice (some a) k g] w (Moved (movB ts ins outs) w) := by
  have HN := Lib.hid hn
  have HM := Lib.hid hm
  have HK := Lib.hid hk
  have SN := Lib.hid sn
  have SM := Lib.hid sm
  have SK := Lib.hid sk
  have HB0 : Hid (∀ o : Obj, Below w.heap.size w (w.alloc o)) := fun o => below_new w o
  clear hn hm hk sn sm sk
  obtain ⟨b, hb⟩ : ∃ b : Nat, k - n = b := ⟨_, rfl⟩
  have HBe : Hid (ts.length - ins.length = b) := by show _ = b; rw [HK.out, HN.out]; exact hb
  have HLe : Hid (ins.length ≤ ts.length) := by show _ ≤ _; rw [HK.out, HN.out]; omega
  have e1 : (k : Int) - (n : Int) = (b : Int) := by omega
  have e2 : b ≤ k := by omega
  have e3 : b ≤ g := by omega
  have e4 : (b : Int) ≤ (k : Int) := by omega
  have e5 : (b : Int) ≤ (g : Int) := by omega
  have e6 : k - b = n := by omega
  have e7 : (k : Int) ≤ (g : Int) := by omega
  have e8 : decide ((b : Int) < 0) = false := by simp
  have TE : Hid (∀ w1 D' c', Below w.heap.size w w1 → (b < k → D' = (some a).map (·.add (b * 2))) → Calls Try.prog 9 #[.slice D' n c', .slice A n c, .func (.func 10) #[] #[]] w1 fun e w' => e = .returned (.bool (belowT (ts.drop b) ins)) ∧ Below w1.heap.size w1 w') := fun w1 D' c' hb1 hd =>
    equalFunc_sub D' A n n c' c (ts.drop b) ins w1 (by rw [List.length_drop, HK.out]; exact e6) HN.out (sq_from ((SK.out.below hb1 (Nat.le_refl _)).wide fun i hi => Nat.lt_of_lt_of_le hi hb1.size) D' (by rw [HK.out]; exact hd)) ((SN.out.below hb1 (Nat.le_refl _)).wide fun i hi => Nat.lt_of_lt_of_le hi hb1.size) (by omega) (by omega)
  have TC : Hid (∀ w1 G, Below w.heap.size w w1 → Blk w1 G 22 #[.slice (some a) b g, .slice B m d] → Calls Try.prog 65 #[.slice (some ⟨G, 0, none⟩) 2 2] w1 fun e w' => ∃ v, e = .returned v ∧ w'.ownsRow w1.heap.size 27 2 v (ts.take b ++ outs).length (T2 (ts.take b ++ outs)) ∧ Below w1.heap.size w1 w') := fun w1 G hb1 hblk => by
    have lb : (ts.take b).length = b := by rw [List.length_take, HK.out]; omega
    have r0 : tysL.R (· < w1.heap.size) w1 [.slice (some a) b g] (ts.take b) := ⟨some a, g, by rw [lb], by omega, by unfold maxLen; omega, ((SK.out.below hb1 (Nat.le_refl _)).wide fun i hi => Nat.lt_of_lt_of_le hi hb1.size).take b⟩
    have r1 : tysL.R (· < w1.heap.size) w1 [.slice B m d] outs := ⟨B, d, by rw [HM.out], by rw [HM.out]; exact bd, by unfold maxLen; omega, (SM.out.below hb1 (Nat.le_refl _)).wide fun i hi => Nat.lt_of_lt_of_le hi hb1.size⟩
    obtain ⟨A9, c9, e9, -, -, hsq⟩ := two_sl (L := tysL) hblk hblk.lt rfl r0 r1
    simp only [List.cons.injEq, Value.slice.injEq, and_true] at e9
    obtain ⟨rfl, -, -⟩ := e9
    have := concat_tys (some ⟨G, 0, none⟩) 2 2 [ts.take b, outs] w1 rfl hsq (by simp only [List.flatten_cons, List.flatten_nil, List.append_nil, List.length_append, lb, HM.out]; omega) (by omega)
    simpa using this
  have HC : Hid (∀ w1, Below (w.heap.size + 1) (w.alloc (.cells #[.slice A n c, .slice B m d] 79)) w1 → w1.cell? ⟨w.heap.size, 0, none⟩ = some (.slice A n c) ∧ w1.cell? ⟨w.heap.size, 1, none⟩ = some (.slice B m d)) := fun w1 hb1 => ⟨(hb1.cell (p := ⟨w.heap.size, 0, none⟩) (by simp)).trans (by simp [go_sem]), (hb1.cell (p := ⟨w.heap.size, 1, none⟩) (by simp)).trans (by simp [go_sem])⟩
  have HV0 : Hid (belowT (ts.drop b) ins = false → movB ts ins outs = none) := fun h => movB_not HBe.out h
  have HV1 : Hid (8 < b + m → movB ts ins outs = none) := fun h => movB_many HBe.out (by rw [HM.out]; exact h)
  have HV2 : Hid (belowT (ts.drop b) ins = true → b + m ≤ 8 → movB ts ins outs = some (ts.take b ++ outs)) := fun h1 h2 => movB_yes HBe.out HLe.out h1 (by rw [HM.out]; exact h2)
  rw [hb] at hg
  clear hlt hb
  have TE2 : Hid (∀ w1 c', Below w.heap.size w w1 → Calls Try.prog 9 #[.slice (some (a.add (b * 2))) n c', .slice A n c, .func (.func 10) #[] #[]] w1 fun e w' => e = .returned (.bool (belowT (ts.drop b) ins)) ∧ Below w1.heap.size w1 w') := fun w1 c' hb1 => TE.out w1 _ c' hb1 (fun h => rfl)
  clear TE
  cases hbt : belowT (ts.drop b) ins
  case' true => by_cases h8 : 8 < b + m
  all_goals
    rw [hbt] at TE2
    have HBT := Lib.hid hbt
    clear hbt
    have hw1 : IntKind.i64.wrap ((b : Int) + (m : Int)) = (b : Int) + (m : Int) := by rw [IntKind.wrap_i64]; omega
    try (have h8i : decide ((8 : Int) < (b : Int) + (m : Int)) = decide (8 < b + m) := by rw [decide_eq_decide]; omega)
    try rw [decide_eq_true h8] at h8i
    try rw [decide_eq_false h8] at h8i
    go_enter Try.func36, Try.ntmps36
    go_wp2_with fail
    refine wp_world fun U hU => ?_
    have HBU : Hid (Below w.heap.size w U) := by show Below _ _ _; rw [hU]; exact HB0.out _
    have HCU : Hid (U.cell? ⟨w.heap.size, 0, none⟩ = some (.slice A n c) ∧ U.cell? ⟨w.heap.size, 1, none⟩ = some (.slice B m d)) := by show _ ∧ _; rw [hU]; exact HC.out _ (Below.refl _ _)
    have hsU : w.heap.size < U.heap.size := by rw [hU]; simp
    clear hU
    have HBR : Hid (∀ dq osq, Below w.heap.size w (Go.Sort.grow (redrawn U dq) osq)) := fun dq osq => HBU.out.trans ((below_regrown U dq osq).mono HBU.out.size)
    have x0 := cell_regrown HCU.out.1
    have x1 := cell_regrown HCU.out.2
    refine wp_region_quiet_below (by kernel_rfl) (by kernel_rfl) ?_
    repeat (quiet_step (first | with_reducible exact Calls.regrown_of (TE2.out _ _ (HBR.out _ _))))
    refine wpQuiet_nil ?_
    intro _ hw'
    obtain ⟨⟨dq, osq⟩, hw''⟩ := hw'
    subst hw''
    have HB1 := Lib.hid (HBR.out dq osq)
    have HS1 : Hid (w.heap.size < (Go.Sort.grow (redrawn U dq) osq).heap.size) := Nat.lt_of_lt_of_le hsU (below_regrown U dq osq).size
    go_wp2_with fail
    first
    | (go_ret2
       exact ⟨HB1.out, .inl ⟨by first | exact HV0.out HBT.out | exact HV1.out h8, rfl⟩⟩)
    | skip
  all_goals
    refine wp_world fun V hV => ?_
    have HBV : Hid (Below w.heap.size w V) := by show Below _ _ _; rw [hV]; exact HB1.out
    have HCV : Hid (V.cell? ⟨w.heap.size, 1, none⟩ = some (.slice B m d)) := by show _ = _; rw [hV]; exact x1 dq osq
    have hsV : w.heap.size < V.heap.size := by rw [hV]; exact HS1.out
    have HVX := Lib.hid (HV2.out HBT.out (by omega))
    clear hV x0 x1
    go_region_held3 (fun w' => w'.cell? ⟨w.heap.size, 1, none⟩ = some (.slice B m d))
      (first | exact HCV.out | exact SS4.out | exact (((below_new V _).cell (p := ⟨w.heap.size, 1, none⟩) hsV).trans HCV.out) | exact (((below_new V _).drew.cell (p := ⟨w.heap.size, 1, none⟩) hsV).trans HCV.out))
      (first
      | (go_at_call 65
         refine (TC.out _ V.heap.size ((HBV.out.alloc HBV.out.size _).drew) (blk_new V _ _)).mono ?_
         rintro e w4 ⟨v4, rfl, hown4, hb4⟩
         have HO4 := Lib.hid hown4
         have HB4 : Hid (Below V.heap.size V w4) := (by show Below _ _ _; first | exact (below_new V _).trans (hb4.mono (by simp)) | exact (below_new V _).drew.trans (hb4.mono (by simp)))
         have SS4 := Lib.hid ((HB4.out.cell (p := ⟨w.heap.size, 1, none⟩) hsV).trans HCV.out)
         clear hown4 hb4))
    go_wp2_with fail
    go_ret2
    refine ⟨HBV.out.trans (HB4.out.mono HBV.out.size), .inr ⟨_, v4, HVX.out, rfl, ?_⟩⟩
    refine ⟨HO4.out.1, ?_⟩
    rcases HO4.out.2 with h | ⟨g', cap, cur, e, hb2, rest⟩
    · exact .inl h
    · exact .inr ⟨g', cap, cur, e, by have := HBV.out.size; simp at hb2; omega, rest⟩
end Go.Proofs.Ytikhhcmfjncabaa
