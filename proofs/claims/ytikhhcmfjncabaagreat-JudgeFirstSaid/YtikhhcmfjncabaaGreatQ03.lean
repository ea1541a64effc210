/-
  Fl Tyr Wityp Wiins Kgd Iar Ift
-/
import Derived.Test.YtikhhcmfjncabaaGreatQ01
import Derived.Test.YtikhhcmfjncabaaGreatQ02
import Derived.Lib.AppendZeros
import Derived.LoopN
set_option linter.unusedSimpArgs false
set_option linter.unusedVariables false
namespace Go.Proofs.YtikhhcmfjncabaaGreat

def subT (a b : Typ) : Bool := subB a.1 a.2 b.1 b.2
def belowT : List Typ → List Typ → Bool
  | [], [] => true
  | a :: xs, b :: ys => subT a b && belowT xs ys
  | _, _ => false
def locB (f : Fn) (n : Int) : Typ := if n < 0 then (8, 0) else ((f.args ++ f.locs)[n.toNat]?).getD (8, 0)
def fldB (m : Mod) (a b : Int) : Typ := (((m.recs[a.toNat]?).getD [])[b.toNat]?).getD (0, 0)
def ruleB (m : Mod) (f : Fn) (i : Ins) (s : List Typ) : Option (List Typ × List Typ) :=
  if i.1 = 0 then some ([], [(1, 0)])
  else if i.1 = 1 then some ([], [(2, 0)])
  else if i.1 = 2 then some ([], [(6, 0)])
  else if i.1 = 3 then some ([], [locB f i.2.1])
  else if i.1 = 4 then some ([locB f i.2.1], [])
  else if i.1 = 5 then some ([(8, 0)], [])
  else if i.1 = 6 then (match s.reverse with | x :: _ => some ([x], [x, x]) | _ => none)
  else if i.1 = 7 then (match s.reverse with | x :: y :: _ => some ([y, x], [x, y]) | _ => none)
  else if i.1 = 22 then some ([(1, 0), (1, 0)], [(1, 0), (1, 0)])
  else if i.1 = 23 then some ([], [])
  else if i.1 = 24 then some ([(1, 0)], [])
  else if i.1 = 25 then (match m.funcs[i.2.1.toNat]? with | some g => some (g.args, [g.ret]) | none => none)
  else if i.1 = 26 then some ([f.ret], [])
  else if i.1 = 27 then (match m.imps[i.2.1.toNat]? with | some g => some (g.args, [g.ret]) | none => none)
  else if i.1 = 28 then (match m.recs[i.2.1.toNat]? with | some r => some (r, [(4, i.2.1)]) | none => none)
  else if i.1 = 29 then some ([(4, i.2.1)], [fldB m i.2.1 i.2.2])
  else if i.1 = 30 then some ([(4, i.2.1), fldB m i.2.1 i.2.2], [])
  else if i.1 = 31 then some ([(1, 0)], [(3, 0)])
  else if i.1 = 32 then some ([(3, 0), (1, 0)], [(1, 0)])
  else if i.1 = 33 then some ([(3, 0), (1, 0), (1, 0)], [])
  else if i.1 = 34 then some ([(3, 0)], [(1, 0)])
  else if i.1 = 35 then some ([(1, 0)], [(2, 0)])
  else if i.1 = 36 then some ([(2, 0), (1, 0)], [(1, 0)])
  else if i.1 = 37 then some ([(2, 0), (1, 0), (1, 0)], [])
  else if i.1 = 38 then some ([(2, 0)], [(1, 0)])
  else if i.1 = 39 then some ([(7, 0)], [(1, 0)])
  else if i.1 = 40 then some ([(7, 0), (7, 0)], [(1, 0)])
  else if i.1 = 41 then (match s.reverse with | x :: _ => if x.1 = 5 then some ([x], []) else none | _ => none)
  else some ([(1, 0), (1, 0)], [(1, 0)])
def movB (s ins outs : List Typ) : Option (List Typ) :=
  if ins.length ≤ s.length ∧ s.length - ins.length + outs.length ≤ 8 ∧ belowT (s.drop (s.length - ins.length)) ins = true then some (s.take (s.length - ins.length) ++ outs) else none
def nextB (f : Fn) (i : Ins) (pc : Nat) : Option (List Int) :=
  if i.1 = 26 then some [] else if i.1 = 23 then some [i.2.1] else if f.code.length ≤ pc + 1 then none else if i.1 = 24 then some [(pc : Int) + 1, i.2.1] else some [(pc : Int) + 1]
def insB8 (m : Mod) (f : Fn) (i : Ins) (pc : Nat) (s : List Typ) : Int × List Typ × List Int :=
  match ruleB m f i s with
  | none => (4, [], [])
  | some (ins, outs) => match movB s ins outs with
    | none => (4, [], [])
    | some t => match nextB f i pc with
      | none => (1, [], [])
      | some l => (0, t, l)
def flowB (m : Mod) (f pc : Int) (s : List Typ) : Int × List Typ × List Int :=
  if checkN m ≠ 0 ∨ f < 0 ∨ pc < 0 then (1, [], [])
  else match m.funcs[f.toNat]? with
    | none => (1, [], [])
    | some fn => match fn.code[pc.toNat]? with
      | none => (1, [], [])
      | some i => insB8 m fn i pc.toNat s

theorem subT_refl (a : Typ) : subT a a = true := by simp [subT, subB]
theorem subT_trans {a b c : Typ} (h1 : subT a b = true) (h2 : subT b c = true) : subT a c = true := by
  obtain ⟨a, a'⟩ := a
  obtain ⟨b, b'⟩ := b
  obtain ⟨c, c'⟩ := c
  simp only [subT, subB, refB, Bool.or_eq_true, Bool.and_eq_true, beq_iff_eq] at h1 h2 ⊢
  omega
theorem belowT_len {a b : List Typ} (h : belowT a b = true) : a.length = b.length := by
  induction a generalizing b with
  | nil => cases b <;> simp [belowT] at h ⊢
  | cons x a ih =>
    cases b with
    | nil => simp [belowT] at h
    | cons y b => simp only [belowT, Bool.and_eq_true] at h; simp [ih h.2]
theorem belowT_refl (a : List Typ) : belowT a a = true := by
  induction a with
  | nil => rfl
  | cons x a ih => simp [belowT, subT_refl, ih]
theorem belowT_trans {a b c : List Typ} (h1 : belowT a b = true) (h2 : belowT b c = true) : belowT a c = true := by
  induction a generalizing b c with
  | nil => cases b <;> cases c <;> simp [belowT] at h1 h2 ⊢
  | cons x a ih =>
    cases b with
    | nil => simp [belowT] at h1
    | cons y b =>
      cases c with
      | nil => simp [belowT] at h2
      | cons z c =>
        simp only [belowT, Bool.and_eq_true] at h1 h2 ⊢
        exact ⟨subT_trans h1.1 h2.1, ih h1.2 h2.2⟩
theorem belowT_app {a b c d : List Typ} (h1 : belowT a b = true) (h2 : belowT c d = true) : belowT (a ++ c) (b ++ d) = true := by
  induction a generalizing b with
  | nil => cases b <;> simp [belowT] at h1 ⊢; exact h2
  | cons x a ih =>
    cases b with
    | nil => simp [belowT] at h1
    | cons y b =>
      simp only [belowT, Bool.and_eq_true, List.cons_append] at h1 ⊢
      exact ⟨h1.1, ih h1.2⟩
theorem belowT_take {a b : List Typ} (h : belowT a b = true) (n : Nat) : belowT (a.take n) (b.take n) = true := by
  induction a generalizing b n with
  | nil => cases b <;> simp [belowT] at h ⊢
  | cons x a ih =>
    cases b with
    | nil => simp [belowT] at h
    | cons y b =>
      simp only [belowT, Bool.and_eq_true] at h
      cases n with
      | zero => rfl
      | succ n => simp only [List.take_succ_cons, belowT, Bool.and_eq_true]; exact ⟨h.1, ih h.2 n⟩
theorem belowT_drop {a b : List Typ} (h : belowT a b = true) (n : Nat) : belowT (a.drop n) (b.drop n) = true := by
  induction a generalizing b n with
  | nil => cases b <;> simp [belowT] at h ⊢
  | cons x a ih =>
    cases b with
    | nil => simp [belowT] at h
    | cons y b =>
      cases n with
      | zero => exact h
      | succ n =>
        simp only [belowT, Bool.and_eq_true] at h
        simpa using ih h.2 n
theorem belowT_snoc {a b : List Typ} {x y : Typ} (h : belowT (a ++ [x]) (b ++ [y]) = true) : belowT a b = true ∧ subT x y = true := by
  have hl := belowT_len h
  simp at hl
  refine ⟨?_, ?_⟩
  · have := belowT_take h a.length
    rwa [List.take_append_of_le_length (Nat.le_refl _), List.take_length, hl, List.take_append_of_le_length (Nat.le_refl _), List.take_length] at this
  · have := belowT_drop h a.length
    rw [List.drop_append_of_le_length (Nat.le_refl _), List.drop_length, hl, List.drop_append_of_le_length (Nat.le_refl _), List.drop_length] at this
    simpa [belowT] using this

theorem rule_below {m : Mod} {f : Fn} {i : Ins} {a b ins outs : List Typ} (h : belowT a b = true) (hr : ruleB m f i b = some (ins, outs)) :
    ∃ ins' outs', ruleB m f i a = some (ins', outs') ∧ ins'.length = ins.length ∧ belowT outs' outs = true ∧ (belowT (b.drop (b.length - ins.length)) ins = true → belowT (a.drop (a.length - ins'.length)) ins' = true) := by
  have hlen := belowT_len h
  have same : ruleB m f i a = ruleB m f i b → ∃ ins' outs', ruleB m f i a = some (ins', outs') ∧ ins'.length = ins.length ∧ belowT outs' outs = true ∧ (belowT (b.drop (b.length - ins.length)) ins = true → belowT (a.drop (a.length - ins'.length)) ins' = true) := fun e =>
    ⟨ins, outs, by rw [e, hr], rfl, belowT_refl _, fun hb => belowT_trans (by rw [hlen]; exact belowT_drop h _) hb⟩
  have tops : ∀ {y : Typ} {r : List Typ}, b.reverse = y :: r → ∃ x q, a.reverse = x :: q ∧ subT x y = true ∧ belowT q.reverse r.reverse = true := fun {y r} hb => by
    cases ha : a.reverse with
    | nil =>
      have e1 := congrArg List.length ha
      have e2 := congrArg List.length hb
      rw [List.length_reverse] at e1 e2
      simp only [List.length_nil, List.length_cons] at e1 e2
      omega
    | cons x q =>
      have ea : a = q.reverse ++ [x] := by rw [← List.reverse_reverse a, ha]; simp
      have eb : b = r.reverse ++ [y] := by rw [← List.reverse_reverse b, hb]; simp
      rw [ea, eb] at h
      exact ⟨x, q, rfl, (belowT_snoc h).2, (belowT_snoc h).1⟩
  have end1 : ∀ {x : Typ} {q : List Typ}, a.reverse = x :: q → a.drop (a.length - 1) = [x] := fun {x q} ha => by
    have ea : a = q.reverse ++ [x] := by rw [← List.reverse_reverse a, ha]; simp
    rw [ea]
    simp
  have end2 : ∀ {x y : Typ} {q : List Typ}, a.reverse = x :: y :: q → a.drop (a.length - 2) = [y, x] := fun {x y q} ha => by
    have ea : a = q.reverse ++ [y, x] := by rw [← List.reverse_reverse a, ha]; simp
    rw [ea]
    simp
  by_cases h6 : i.1 = 6
  · cases hb : b.reverse with
    | nil => simp [ruleB, h6, hb] at hr
    | cons y r =>
      obtain ⟨x, q, ha, hs, -⟩ := tops hb
      simp [ruleB, h6, hb] at hr
      obtain ⟨rfl, rfl⟩ := hr
      exact ⟨[x], [x, x], by simp [ruleB, h6, ha], rfl, by simp [belowT, hs], fun _ => by rw [List.length_singleton, end1 ha]; simp [belowT, subT_refl]⟩
  by_cases h7 : i.1 = 7
  · cases hb : b.reverse with
    | nil => simp [ruleB, h7, hb] at hr
    | cons y r =>
      cases r with
      | nil => simp [ruleB, h7, hb] at hr
      | cons y2 r =>
        obtain ⟨x, q, ha, hs, hq⟩ := tops hb
        cases q with
        | nil =>
          have := belowT_len hq
          simp at this
        | cons x2 q =>
          simp only [List.reverse_cons] at hq
          have hs2 := (belowT_snoc hq).2
          simp [ruleB, h7, hb] at hr
          obtain ⟨rfl, rfl⟩ := hr
          exact ⟨[x2, x], [x, x2], by simp [ruleB, h7, ha], rfl, by simp [belowT, hs, hs2], fun _ => by rw [show [x2, x].length = 2 from rfl, end2 ha]; simp [belowT, subT_refl]⟩
  by_cases h41 : i.1 = 41
  · cases hb : b.reverse with
    | nil => simp [ruleB, h41, hb] at hr
    | cons y r =>
      obtain ⟨x, q, ha, hs, -⟩ := tops hb
      by_cases hy : y.1 = 5
      · have hx : x.1 = 5 := by
          simp only [subT, subB, refB, Bool.or_eq_true, Bool.and_eq_true, beq_iff_eq] at hs
          omega
        simp [ruleB, h41, hb, hy] at hr
        obtain ⟨rfl, rfl⟩ := hr
        exact ⟨[x], [], by simp [ruleB, h41, ha, hx], rfl, rfl, fun _ => by rw [List.length_singleton, end1 ha]; simp [belowT, subT_refl]⟩
      · simp [ruleB, h41, hb, hy] at hr
  · exact same (by simp only [ruleB, h6, h7, h41, if_false])

theorem ins_below {m : Mod} {f : Fn} {i : Ins} {pc : Nat} {a b t : List Typ} {l : List Int} (h : belowT a b = true) (hf : insB8 m f i pc b = (0, t, l)) : ∃ s, insB8 m f i pc a = (0, s, l) ∧ belowT s t = true := by
  have hlen := belowT_len h
  cases hr : ruleB m f i b with
  | none => simp [insB8, hr] at hf
  | some p =>
    obtain ⟨ins, outs⟩ := p
    obtain ⟨ins', outs', hr', hl, ho, hb⟩ := rule_below h hr
    have hol := belowT_len ho
    cases hm : movB b ins outs with
    | none => simp [insB8, hr, hm] at hf
    | some u =>
      cases hn : nextB f i pc with
      | none => simp [insB8, hr, hm, hn] at hf
      | some q =>
        simp [insB8, hr, hm, hn] at hf
        obtain ⟨rfl, rfl⟩ := hf
        unfold movB at hm
        split at hm
        · rename_i hc
          obtain ⟨c1, c2, c3⟩ := hc
          injection hm with hm
          subst hm
          refine ⟨a.take (a.length - ins'.length) ++ outs', ?_, belowT_app (by rw [hlen, hl]; exact belowT_take h _) ho⟩
          simp only [insB8, hr', hn, movB]
          rw [if_pos ⟨by omega, by omega, hb c3⟩]
        · cases hm
theorem below_step {xs ys : List Typ} {k : Nat} {x y : Typ} (h : belowT (xs.take k) (ys.take k) = true) (hx : xs[k]? = some x) (hy : ys[k]? = some y) (hs : subT x y = true) : belowT (xs.take (k + 1)) (ys.take (k + 1)) = true := by
  obtain ⟨hk, rfl⟩ := List.getElem?_eq_some_iff.1 hx
  obtain ⟨hk2, rfl⟩ := List.getElem?_eq_some_iff.1 hy
  rw [List.take_succ_eq_append_getElem hk, List.take_succ_eq_append_getElem hk2]
  exact belowT_app h (by simp [belowT, hs])
theorem below_not {xs ys : List Typ} {k : Nat} {x y : Typ} (hx : xs[k]? = some x) (hy : ys[k]? = some y) (hs : subT x y = false) : belowT xs ys = false := by
  induction xs generalizing ys k with
  | nil => simp at hx
  | cons a xs ih =>
    cases ys with
    | nil => rfl
    | cons b ys =>
      cases k with
      | zero => simp at hx hy; subst hx hy; simp [belowT, hs]
      | succ k => simp only [belowT, ih (k := k) (by simpa using hx) (by simpa using hy), Bool.and_false]
theorem below_len_not {xs ys : List Typ} (h : xs.length ≠ ys.length) : belowT xs ys = false := by
  cases hb : belowT xs ys
  · rfl
  · exact absurd (belowT_len hb) h
end Go.Proofs.YtikhhcmfjncabaaGreat
namespace Go.Proofs.YtikhhcmfjncabaaGreat
open Go.RowKit

def T2 : List Typ → List Value
  | [] => []
  | t :: ts => .int .i64 t.1 :: .int .i64 t.2 :: T2 ts
theorem T2_app (ts us : List Typ) : T2 (ts ++ us) = T2 ts ++ T2 us := by
  induction ts with
  | nil => rfl
  | cons t ts ih => simp [T2, ih]
theorem T2_length (ts : List Typ) : (T2 ts).length = ts.length * 2 := by
  induction ts with
  | nil => rfl
  | cons t ts ih => simp [T2, ih]; omega
theorem T2_get0 {ts : List Typ} {j : Nat} {t : Typ} (h : ts[j]? = some t) : (T2 ts)[j * 2]? = some (.int .i64 t.1) := by
  induction ts generalizing j with
  | nil => simp at h
  | cons u ts ih =>
    cases j with
    | zero => simp at h; subst h; simp [T2]
    | succ j => rw [show (j + 1) * 2 = j * 2 + 1 + 1 by omega]; simp [T2]; exact ih (by simpa using h)
theorem T2_get1 {ts : List Typ} {j : Nat} {t : Typ} (h : ts[j]? = some t) : (T2 ts)[j * 2 + 1]? = some (.int .i64 t.2) := by
  induction ts generalizing j with
  | nil => simp at h
  | cons u ts ih =>
    cases j with
    | zero => simp at h; subst h; simp [T2]
    | succ j => rw [show (j + 1) * 2 + 1 = j * 2 + 1 + 1 + 1 by omega]; simp [T2]; exact ih (by simpa using h)
theorem T2_one (ts : List Typ) : ∀ u ∈ T2 ts, u.oneCell' = true := by
  induction ts with
  | nil => simp [T2]
  | cons t ts ih =>
    intro u hu
    simp only [T2, List.mem_cons] at hu
    rcases hu with rfl | rfl | hu
    · rfl
    · rfl
    · exact ih u hu
def A64 (ts : List Typ) : Prop := ∀ t ∈ ts, I64 t.1 ∧ I64 t.2
theorem A64.app {ts us : List Typ} (h : A64 ts) (h' : A64 us) : A64 (ts ++ us) := fun t ht => by
  rcases List.mem_append.1 ht with h1 | h1
  · exact h t h1
  · exact h' t h1
theorem A64.take {ts : List Typ} (h : A64 ts) (k : Nat) : A64 (ts.take k) := fun t ht => h t (List.mem_of_mem_take ht)
theorem A64.drop {ts : List Typ} (h : A64 ts) (k : Nat) : A64 (ts.drop k) := fun t ht => h t (List.mem_of_mem_drop ht)
theorem A64.nil : A64 [] := fun t ht => by simp at ht
theorem A64.one {t : Typ} (h : I64 t.1) (h' : I64 t.2) : A64 [t] := fun u hu => by simp at hu; subst hu; exact ⟨h, h'⟩
theorem Sq.a64 {S : Nat → Prop} {w : World} {A : Option Addr} {ts : List Typ} (h : Sq typL S w A ts) : A64 ts := fun t ht => by
  obtain ⟨j, hj⟩ := List.mem_iff_getElem?.1 ht
  obtain ⟨a, cs, -, -, -, hr⟩ := h.at hj
  exact hr.2
theorem Sq.take {α : Type} {L : Lay α} {S : Nat → Prop} {w : World} {A : Option Addr} {xs : List α} (h : Sq L S w A xs) (k : Nat) : Sq L S w A (xs.take k) := fun hn => by
  have hl : (xs.take k).length ≤ xs.length := by simp; omega
  obtain ⟨a, e, hs, hc⟩ := h (by omega)
  refine ⟨a, e, hs, fun j x hx => hc j x ?_⟩
  have hj : j < k := by
    have := (List.getElem?_eq_some_iff.1 hx).1
    simp at this
    omega
  rwa [List.getElem?_take_of_lt hj] at hx
theorem Sq.drop {α : Type} {L : Lay α} {S : Nat → Prop} {w : World} {A : Option Addr} {xs : List α} (h : Sq L S w A xs) (k : Nat) : Sq L S w (A.map (·.add (k * L.k))) (xs.drop k) := fun hn => by
  have hl : (xs.drop k).length = xs.length - k := by simp
  obtain ⟨a, e, hs, hc⟩ := h (by omega)
  refine ⟨a.add (k * L.k), by rw [e]; rfl, by rw [addBlock]; exact hs, fun j x hx => ?_⟩
  rw [List.getElem?_drop] at hx
  obtain ⟨cs, h1, h2⟩ := hc (k + j) x hx
  refine ⟨cs, fun i u hu => ?_, h2⟩
  rw [addAdd, ← h1 i u hu, Nat.add_mul, Nat.add_assoc]
theorem own_sq {w : World} {base n : Nat} {v : Value} {ts : List Typ} (h : w.ownsRow base 41 2 v n (T2 ts)) (ha : A64 ts) :
    ∃ A c, v = .slice A n c ∧ n = ts.length ∧ n ≤ c ∧ c ≤ maxLen ∧ Sq typL (fun b => base ≤ b ∧ b < w.heap.size) w A ts := by
  have hn : n = ts.length := by have := h.1; rw [T2_length] at this; omega
  rcases h.2 with ⟨rfl, h0⟩ | ⟨g, cap, cur, rfl, hb, hg, hnc, hcm, _, _⟩
  · refine ⟨none, 0, by rw [h0], hn, by omega, by simp [maxLen], fun hpos => absurd hpos (by omega)⟩
  · refine ⟨some ⟨g, 0, none⟩, cap, rfl, hn, hnc, hcm, fun _ => ⟨⟨g, 0, none⟩, rfl, ⟨hb, (Array.getElem?_eq_some_iff.1 hg).1⟩, fun j t hj => ⟨_, fun i u hu => ?_, rfl, ha t (List.mem_of_getElem? hj)⟩⟩⟩
    match i, hu with
    | 0, hu => simp at hu; subst hu; exact h.cells rfl (j * 2) _ (T2_get0 hj)
    | 1, hu => simp at hu; subst hu; exact h.cells rfl (j * 2 + 1) _ (T2_get1 hj)
    | i + 2, hu => simp at hu
theorem own_tys_empty (w : World) : (w.alloc (.cells #[] 41)).ownsRow w.heap.size 41 2 (.slice (some ⟨w.heap.size, 0, none⟩) 0 0) 0 (T2 []) :=
  World.ownsRow_made w #[] 0 (Nat.le_refl _) (by simp [maxLen]) (by simp)
theorem sq_cells {S : Nat → Prop} {w : World} {a : Addr} {ts : List Typ} (h : Sq typL S w (some a) ts) : ∀ j u, (T2 ts)[j]? = some u → w.cell? (a.add j) = some u := fun j u hu => by
  have hj := (List.getElem?_eq_some_iff.1 hu).1
  rw [T2_length] at hj
  obtain ⟨a', e, -, hc⟩ := h (by omega)
  injection e with e
  subst e
  obtain ⟨t, ht⟩ : ∃ t, ts[j / 2]? = some t := ⟨ts[j / 2]'(by omega), List.getElem?_eq_getElem _⟩
  obtain ⟨cs, h1, rfl, -⟩ := hc _ t ht
  rcases Nat.mod_two_eq_zero_or_one j with e | e
  · have ej : j = j / 2 * 2 := by omega
    have k0 := h1 0 _ rfl
    rw [ej, T2_get0 ht] at hu
    injection hu with hu
    subst hu
    rw [show j / 2 * typL.k + 0 = j by show j / 2 * 2 + 0 = j; omega] at k0
    exact k0
  · have ej : j = j / 2 * 2 + 1 := by omega
    have k0 := h1 1 _ rfl
    rw [ej, T2_get1 ht] at hu
    injection hu with hu
    subst hu
    rw [show j / 2 * typL.k + 1 = j by show j / 2 * 2 + 1 = j; omega] at k0
    exact k0

theorem typ_info : (Tryz.prog.info? 41).map (fun i => (i.zero, i.size, i.bytes)) = some (some (.agg #[.int .i64 0, .int .i64 0]), 2, 16) := by kernel_rfl

set_option maxRecDepth 100000 in
theorem run_append_tys (w : World) (base ty : Nat) (v : Value) (n : Nat) (xs : List Typ) (hown : w.ownsRow base 41 2 v n (T2 xs)) (A : Option Addr) (m c : Nat) (ys : List Typ) (hm : ys.length = m)
    (S : Nat → Prop) (hy : Sq typL S w A ys) (hbig : n + m ≤ 1000000000) (hbase : base ≤ w.heap.size) :
    ∃ v' w', (Builtin.append_ #[36, 36] ty #[v, .slice A m c]).run Tryz.prog w = .ok v' w' ∧ w'.ownsRow base 41 2 v' (n + m) (T2 (xs ++ ys)) ∧ w.grownBy w' v.ownBlock ∧
      (v'.ownBlock = v.ownBlock ∨ v'.ownBlock = some w.heap.size) := by
  obtain ⟨i0, hi0, hz0, hz1, hz2⟩ := info_parts typ_info
  rw [T2_app]
  rcases A with _ | a
  · have h0 : m = 0 := by
      rcases Nat.eq_zero_or_pos m with h | h
      · exact h
      · obtain ⟨a, h, _⟩ := hy (by omega)
        cases h
    subst h0
    obtain rfl : ys = [] := List.eq_nil_of_length_eq_zero hm
    refine ⟨v, w, ?_, by simpa [T2] using hown, ⟨rfl, rfl, rfl, Nat.le_refl _, fun _ _ _ => rfl⟩, .inl rfl⟩
    have ht := run_underlying (P := Tryz.prog) (w := w) Tryz.underlying36
    rcases hown.2 with ⟨rfl, rfl⟩ | ⟨g, cap, cur, rfl, _, _, hnc, _⟩
    · simp [Builtin.append_, ht, sizeOf, typeInfo, hi0, Builtin.lenOf, Builtin.firstCells]
    · simp [Builtin.append_, ht, sizeOf, typeInfo, hi0, Builtin.lenOf, Builtin.firstCells, hnc, storeCells]
  · obtain ⟨v', w', hrun, h2, h3, _, h5⟩ := run_append_own_at (P := Tryz.prog) w base 36 ty 41 i0 (.agg #[.int .i64 0, .int .i64 0]) 2 16 Tryz.underlying36 hi0 hz0 hz1 hz2 rfl (by omega) v n (T2 xs) hown a m c (T2 ys) (by rw [T2_length]; omega) (sq_cells hy) (T2_one ys)
      (by simp only [maxLen]; omega) (by omega) hbase
    exact ⟨v', w', hrun, h2, h3, h5⟩

theorem walk_append_tys (w : World) {ops : Array Oper} {rest : List Oper} {o : Oper} {a : Act} {Q : Exit → Act → World → Prop} (hgd : o.guard = none) (s x : Operand)
    (ho : o.op = .call { callee := .builtin .append, args := #[s, x], argTypes := #[36, 36] })
    (base : Nat) (v : Value) (n : Nat) (xs : List Typ) (hs : a.eval s = v) (hown : w.ownsRow base 41 2 v n (T2 xs)) (A : Option Addr) (m c : Nat) (ys : List Typ) (hx : a.eval x = .slice A m c) (hm : ys.length = m)
    (S : Nat → Prop) (hy : Sq typL S w A ys) (hbig : n + m ≤ 1000000000) (hbase : base ≤ w.heap.size)
    (h : ∀ v' w', w'.ownsRow base 41 2 v' (n + m) (T2 (xs ++ ys)) → w.grownBy w' v.ownBlock → (v'.ownBlock = v.ownBlock ∨ v'.ownBlock = some w.heap.size) → wpList Tryz.prog ops Q rest (a.put o.dst v') w') :
    wpList Tryz.prog ops Q (o :: rest) a w := by
  refine wpList_plain hgd fun _ hK => ?_
  obtain ⟨v', w', hrun, h2, h3, h4⟩ := run_append_tys w base o.type v n xs hown A m c ys hm S hy hbig hbase
  unfold Oper.wp execOp
  simp only [ho, resolve, invoke, builtin, Sem.run_bind, Sem.run_pure, Result.andThen_ok, List.map_toArray, List.map_cons, List.map_nil, hs, hx, hrun]
  exact hK _ _ (h v' w' h2 h3 h4)

theorem step_append_tys (w : World) {ops : Array Oper} {o : Oper} {a : Act} {K : Act → World → Prop} {Q : Exit → Act → World → Prop} {E : Prop} (hgd : o.guard = none) (s x : Operand)
    (ho : o.op = .call { callee := .builtin .append, args := #[s, x], argTypes := #[36, 36] })
    (base : Nat) (v : Value) (n : Nat) (xs : List Typ) (hs : a.eval s = v) (hown : w.ownsRow base 41 2 v n (T2 xs)) (A : Option Addr) (m c : Nat) (ys : List Typ) (hx : a.eval x = .slice A m c) (hm : ys.length = m)
    (S : Nat → Prop) (hy : Sq typL S w A ys) (hbig : n + m ≤ 1000000000) (hbase : base ≤ w.heap.size)
    (h : ∀ v' w', w'.ownsRow base 41 2 v' (n + m) (T2 (xs ++ ys)) → w.grownBy w' v.ownBlock → (v'.ownBlock = v.ownBlock ∨ v'.ownBlock = some w.heap.size) → K (a.put o.dst v') w') :
    if Region.wanted o (yielded ops a.tmps) = true then Oper.wp Tryz.prog o a w K Q else E := by
  have hw : Region.wanted o (yielded ops a.tmps) = true := by simp [Region.wanted, hgd]
  rw [if_pos hw]
  obtain ⟨v', w', hrun, h2, h3, h4⟩ := run_append_tys w base o.type v n xs hown A m c ys hm S hy hbig hbase
  unfold Oper.wp execOp
  simp only [ho, resolve, invoke, builtin, Sem.run_bind, Sem.run_pure, Result.andThen_ok, List.map_toArray, List.map_cons, List.map_nil, hs, hx, hrun]
  exact h v' w' h2 h3 h4

theorem walk_make_tys (w : World) {ops : Array Oper} {rest : List Oper} {o : Oper} {a : Act} {Q : Exit → Act → World → Prop} (hgd : o.guard = none) (s x : Operand)
    (ho : o.op = .call { callee := .builtin .append, args := #[s, x], argTypes := #[36, 3] })
    (n : Nat) (h0 : 0 < n) (hn : n ≤ 1000000000) (hs : a.eval s = .slice none 0 0) (hx : a.eval x = .int .i64 (n : Nat))
    (h : ∀ G w', n ≤ G → G ≤ maxLen → w'.ownsRow w.heap.size 41 2 (.slice (some ⟨w.heap.size, 0, none⟩) 0 G) 0 (T2 []) → Below w.heap.size w w' → wpList Tryz.prog ops Q rest (a.put o.dst (.slice (some ⟨w.heap.size, 0, none⟩) n G)) w') :
    wpList Tryz.prog ops Q (o :: rest) a w := by
  obtain ⟨i0, hi0, hz0, hz1, hz2⟩ := info_parts typ_info
  refine wpList_plain hgd fun _ hK => ?_
  have hrun := Lib.run_append_nil_zeros (P := Tryz.prog) w 36 3 o.type 41 i0 (.agg #[.int .i64 0, .int .i64 0]) .i64 .i64 Tryz.underlying36 Tryz.underlying3 hi0 hz0 n h0 (by omega) (by omega) (by rw [hz2]; omega)
  have hG := grownCap_ge w n 0 41
  have hG2 := grownCap_le_maxLen w n 0 41 (by unfold maxLen; omega)
  generalize grownCap w n 0 41 = G at hrun hG hG2
  unfold Oper.wp execOp
  simp only [ho, resolve, invoke, builtin, Sem.run_bind, Sem.run_pure, Result.andThen_ok, List.map_toArray, List.map_cons, List.map_nil, hs, hx, hrun]
  refine hK _ _ (h G _ hG hG2 ?_ ((Below.refl _ w).drew.alloc (Nat.le_refl _) _))
  refine World.ownsRow_made (base := w.heap.size) (e := 41) (size := 2) w.drew _ G (Nat.le_refl _) hG2 ?_
  simp [Builtin.zeroCells, Value.cells]
  omega

def Is (l : List Int) : List Value := l.map fun x => Value.int .i64 x
theorem Is_length (l : List Int) : (Is l).length = l.length := by simp [Is]
theorem Is_get {l : List Int} {j : Nat} {x : Int} (h : l[j]? = some x) : (Is l)[j]? = some (.int .i64 x) := by simp [Is, h]
end Go.Proofs.YtikhhcmfjncabaaGreat
namespace Go.Proofs.YtikhhcmfjncabaaGreat
open Go.RowKit

set_option maxRecDepth 100000 in
set_option maxHeartbeats 1000000 in
theorem within_typ (A : Option Addr) (n c : Nat) (xs : List Typ) (lo hi : Int) (g : Typ → Bool) (p7 : Addr) (w : World) (hl : xs.length = n) (h : Sq typL (· < w.heap.size) w A xs) (hn2 : n ≤ 9223372036854775807) (hlo : -1000 ≤ lo ∧ lo ≤ 1000) (hhi : -9223372036854775808 ≤ hi ∧ hi ≤ 1000)
    (hG : ∀ (w1 : World) (cs : List Value) (x : Typ), Below w.heap.size w w1 → x ∈ xs → typL.R (· < w1.heap.size) w1 cs x → Calls Tryz.prog 88 #[vAgg cs, .pointer (some p7)] w1 (Tells (g x) w1)) :
    Calls Tryz.prog 91 #[.slice A n c, .int .i64 lo, .int .i64 hi, .func (.func 88) #[] #[.pointer (some p7)]] w (Tells (witB lo hi g xs) w) := by
  have HL := Lib.hid hl
  have HS := Lib.hid h
  have HP0 := Lib.hid hG
  have HW : Hid (witB lo hi g xs = (decide (lo ≤ (n : Int) ∧ (n : Int) ≤ hi) && xs.all g)) := by rw [← hl]; exact rfl
  clear hl h hG
  obtain ⟨wb, hwb⟩ : ∃ wb, witB lo hi g xs = wb := ⟨_, rfl⟩
  rw [hwb] at HW ⊢
  clear hwb
  by_cases h1 : (n : Int) < lo
  · have e : wb = false := by rw [HW.out]; simp; omega
    rw [e]
    clear HW e
    go_enter Tryz.func91, Tryz.ntmps91
    go_wp2_with fail
    go_ret
    exact ⟨rfl, Below.refl _ _⟩
  by_cases h2 : hi < (n : Int)
  · have e : wb = false := by rw [HW.out]; simp; omega
    rw [e]
    clear HW e
    go_enter Tryz.func91, Tryz.ntmps91
    go_wp2_with fail
    go_ret
    exact ⟨rfl, Below.refl _ _⟩
  replace HW : Hid (wb = xs.all g) := by
    show wb = xs.all g
    rw [HW.out]
    simp
    omega
  go_enter Tryz.func91, Tryz.ntmps91
  go_wp2_with fail
  go_loopw [23] (fun i wr => ∃ k : Nat, k ≤ n ∧ i = .int .i64 (k : Nat) ∧ (xs.take k).all g = true ∧ Below w.heap.size w wr) (fun i _ => n - (intOf i).toNat)
  case atStart => exact ⟨0, Nat.zero_le _, rfl, by simp, Below.refl _ _⟩
  case round =>
    obtain ⟨k, hk, rfl, hall, hbel⟩ := hrel
    have HA := Lib.hid hall
    have HB := Lib.hid hbel
    have hs := hbel.size
    clear hall hbel
    by_cases hlt : k < n
    · skip
      obtain ⟨x, hx⟩ : ∃ x, xs[k]? = some x := ⟨xs[k]'(by rw [HL.out]; exact hlt), List.getElem?_eq_getElem _⟩
      have hmem : x ∈ xs := List.mem_of_getElem? hx
      obtain ⟨a, cs, rfl, hab, hc, hr⟩ := HS.out.at hx
      have HX := Lib.hid hx
      clear hx
      have HR := Lib.hid hr
      obtain ⟨rfl, -, -⟩ := hr
      have c0 := (HB.out.cell (p := a.add (k * 2)) (by rw [addBlock]; exact hab)).trans (hc 0 _ rfl)
      have c1 := (HB.out.cell (p := a.add (k * 2 + 1)) (by rw [addBlock]; exact hab)).trans (hc 1 _ rfl)
      rw [next_cell a (k * 2) 1 (by omega)] at c1
      have HP : Hid (∀ w1, Below w.heap.size w w1 → Calls Tryz.prog 88 #[.agg #[.int .i64 x.1, .int .i64 x.2], .pointer (some p7)] w1 (Tells (g x) w1)) := fun w1 hb => HP0.out w1 [.int .i64 x.1, .int .i64 x.2] x hb hmem (typL.wide (typL.keep HR.out fun b hb1 => hb.block b hb1) fun b hb1 => Nat.lt_of_lt_of_le hb1 hb.size)
      clear hc
      cases hg : g x
      · rw [hg] at HP
        have e : wb = false := by
          rw [HW.out, List.all_eq_false]
          exact ⟨x, hmem, by rw [hg]; simp⟩
        have E := Lib.hid e
        clear e hg
        go_wp2_with (first
          | (go_at_call 88
             refine (HP.out _ (HB.out.alloc hs _)).mono ?_
             rintro e w2 ⟨rfl, hb2⟩
             have Hb2 := Lib.hid ((HB.out.alloc hs _).trans (hb2.mono (by simp; omega)))
             clear hb2))
        go_ret
        exact ⟨by rw [E.out]; rfl, Hb2.out⟩
      · rw [hg] at HP
        have HG := Lib.hid hg
        clear hg
        go_wp2_with (first
          | (go_at_call 88
             refine (HP.out _ (HB.out.alloc hs _)).mono ?_
             rintro e w2 ⟨rfl, hb2⟩
             have Hb2 := Lib.hid ((HB.out.alloc hs _).trans (hb2.mono (by simp; omega)))
             clear hb2))
        refine ⟨⟨k + 1, by omega, by simp, all_take HA.out HX.out HG.out, Hb2.out⟩, by simp [intOf]; omega⟩
    · obtain rfl : k = n := by omega
      go_wp2_with fail
      go_ret
      refine ⟨?_, HB.out⟩
      have e := HA.out
      rw [List.take_of_length_le (by rw [HL.out]; exact Nat.le_refl _)] at e
      rw [HW.out, e]
      rfl
end Go.Proofs.YtikhhcmfjncabaaGreat
namespace Go.Proofs.YtikhhcmfjncabaaGreat
open Go.RowKit

set_option maxRecDepth 100000 in
set_option maxHeartbeats 1000000 in
theorem within_ins (A : Option Addr) (n c : Nat) (xs : List Ins) (lo hi : Int) (g : Ins → Bool) (w : World) (hl : xs.length = n) (h : Sq insL (· < w.heap.size) w A xs) (hn2 : n ≤ 9223372036854775807) (hlo : -1000 ≤ lo ∧ lo ≤ 1000) (hhi : -9223372036854775808 ≤ hi ∧ hi ≤ 1000)
    (hG : ∀ (w1 : World) (cs : List Value) (x : Ins), Below w.heap.size w w1 → x ∈ xs → insL.R (· < w1.heap.size) w1 cs x → Calls Tryz.prog 95 #[vAgg cs] w1 (Tells (g x) w1)) :
    Calls Tryz.prog 94 #[.slice A n c, .int .i64 lo, .int .i64 hi, .func (.func 95) #[] #[]] w (Tells (witB lo hi g xs) w) := by
  have HL := Lib.hid hl
  have HS := Lib.hid h
  have HP0 := Lib.hid hG
  have HW : Hid (witB lo hi g xs = (decide (lo ≤ (n : Int) ∧ (n : Int) ≤ hi) && xs.all g)) := by rw [← hl]; exact rfl
  clear hl h hG
  obtain ⟨wb, hwb⟩ : ∃ wb, witB lo hi g xs = wb := ⟨_, rfl⟩
  rw [hwb] at HW ⊢
  clear hwb
  by_cases h1 : (n : Int) < lo
  · have e : wb = false := by rw [HW.out]; simp; omega
    rw [e]
    clear HW e
    go_enter Tryz.func94, Tryz.ntmps94
    go_wp2_with fail
    go_ret
    exact ⟨rfl, Below.refl _ _⟩
  by_cases h2 : hi < (n : Int)
  · have e : wb = false := by rw [HW.out]; simp; omega
    rw [e]
    clear HW e
    go_enter Tryz.func94, Tryz.ntmps94
    go_wp2_with fail
    go_ret
    exact ⟨rfl, Below.refl _ _⟩
  replace HW : Hid (wb = xs.all g) := by
    show wb = xs.all g
    rw [HW.out]
    simp
    omega
  go_enter Tryz.func94, Tryz.ntmps94
  go_wp2_with fail
  go_loopw [23] (fun i wr => ∃ k : Nat, k ≤ n ∧ i = .int .i64 (k : Nat) ∧ (xs.take k).all g = true ∧ Below w.heap.size w wr) (fun i _ => n - (intOf i).toNat)
  case atStart => exact ⟨0, Nat.zero_le _, rfl, by simp, Below.refl _ _⟩
  case round =>
    obtain ⟨k, hk, rfl, hall, hbel⟩ := hrel
    have HA := Lib.hid hall
    have HB := Lib.hid hbel
    have hs := hbel.size
    clear hall hbel
    by_cases hlt : k < n
    · skip
      obtain ⟨x, hx⟩ : ∃ x, xs[k]? = some x := ⟨xs[k]'(by rw [HL.out]; exact hlt), List.getElem?_eq_getElem _⟩
      have hmem : x ∈ xs := List.mem_of_getElem? hx
      obtain ⟨a, cs, rfl, hab, hc, hr⟩ := HS.out.at hx
      have HX := Lib.hid hx
      clear hx
      have HR := Lib.hid hr
      obtain ⟨rfl, -, -, -⟩ := hr
      have c0 := (HB.out.cell (p := a.add (k * 3)) (by rw [addBlock]; exact hab)).trans (hc 0 _ rfl)
      have c1 := (HB.out.cell (p := a.add (k * 3 + 1)) (by rw [addBlock]; exact hab)).trans (hc 1 _ rfl)
      rw [next_cell a (k * 3) 1 (by omega)] at c1
      have c2 := (HB.out.cell (p := a.add (k * 3 + 2)) (by rw [addBlock]; exact hab)).trans (hc 2 _ rfl)
      rw [next_cell a (k * 3) 2 (by omega)] at c2
      have HP : Hid (∀ w1, Below w.heap.size w w1 → Calls Tryz.prog 95 #[.agg #[.int .i64 x.1, .int .i64 x.2.1, .int .i64 x.2.2]] w1 (Tells (g x) w1)) := fun w1 hb => HP0.out w1 [.int .i64 x.1, .int .i64 x.2.1, .int .i64 x.2.2] x hb hmem (insL.wide (insL.keep HR.out fun b hb1 => hb.block b hb1) fun b hb1 => Nat.lt_of_lt_of_le hb1 hb.size)
      clear hc
      cases hg : g x
      · rw [hg] at HP
        have e : wb = false := by
          rw [HW.out, List.all_eq_false]
          exact ⟨x, hmem, by rw [hg]; simp⟩
        have E := Lib.hid e
        clear e hg
        go_wp2_with (first
          | (go_at_call 95
             refine (HP.out _ (HB.out.alloc hs _)).mono ?_
             rintro e w2 ⟨rfl, hb2⟩
             have Hb2 := Lib.hid ((HB.out.alloc hs _).trans (hb2.mono (by simp; omega)))
             clear hb2))
        go_ret
        exact ⟨by rw [E.out]; rfl, Hb2.out⟩
      · rw [hg] at HP
        have HG := Lib.hid hg
        clear hg
        go_wp2_with (first
          | (go_at_call 95
             refine (HP.out _ (HB.out.alloc hs _)).mono ?_
             rintro e w2 ⟨rfl, hb2⟩
             have Hb2 := Lib.hid ((HB.out.alloc hs _).trans (hb2.mono (by simp; omega)))
             clear hb2))
        refine ⟨⟨k + 1, by omega, by simp, all_take HA.out HX.out HG.out, Hb2.out⟩, by simp [intOf]; omega⟩
    · obtain rfl : k = n := by omega
      go_wp2_with fail
      go_ret
      refine ⟨?_, HB.out⟩
      have e := HA.out
      rw [List.take_of_length_le (by rw [HL.out]; exact Nat.le_refl _)] at e
      rw [HW.out, e]
      rfl
end Go.Proofs.YtikhhcmfjncabaaGreat
namespace Go.Proofs.YtikhhcmfjncabaaGreat
open Go.RowKit

theorem kgood (k n r : Int) (w : World) : Calls Tryz.prog 89 #[.agg #[.int .i64 k, .int .i64 n], .int .i64 r] w fun e w' => e = .returned (.bool (goodB k n r)) ∧ Below w.heap.size w w' := by
  by_cases h1 : k = 1
  · subst h1
    go_enter Tryz.func89, Tryz.ntmps89
    go_wp2_with fail
    go_ret
    exact ⟨rfl, (Below.refl _ _).alloc (Nat.le_refl _) _⟩
  by_cases h2 : k = 2
  · subst h2
    go_enter Tryz.func89, Tryz.ntmps89
    go_wp2_with fail
    go_ret
    exact ⟨rfl, (Below.refl _ _).alloc (Nat.le_refl _) _⟩
  by_cases h3 : k = 3
  · subst h3
    go_enter Tryz.func89, Tryz.ntmps89
    go_wp2_with fail
    go_ret
    exact ⟨rfl, (Below.refl _ _).alloc (Nat.le_refl _) _⟩
  by_cases h7 : k = 7
  · subst h7
    go_enter Tryz.func89, Tryz.ntmps89
    go_wp2_with fail
    go_ret
    exact ⟨rfl, (Below.refl _ _).alloc (Nat.le_refl _) _⟩
  by_cases h4 : k = 4
  · subst h4
    by_cases hn : 0 ≤ n
    · have e : goodB 4 n r = decide (n < r) := by simp [goodB, hn]
      rw [e]
      clear e
      go_enter Tryz.func89, Tryz.ntmps89
      go_wp2_with fail
      go_ret
      exact ⟨rfl, (Below.refl _ _).alloc (Nat.le_refl _) _⟩
    · have e : goodB 4 n r = false := by simp [goodB, hn]
      rw [e]
      clear e
      go_enter Tryz.func89, Tryz.ntmps89
      go_wp2_with fail
      go_ret
      exact ⟨rfl, (Below.refl _ _).alloc (Nat.le_refl _) _⟩
  by_cases h5 : k = 5
  · subst h5
    by_cases hn : 0 ≤ n
    · have e : goodB 5 n r = decide (n < 4) := by simp [goodB, hn]
      rw [e]
      clear e
      go_enter Tryz.func89, Tryz.ntmps89
      go_wp2_with fail
      go_ret
      exact ⟨rfl, (Below.refl _ _).alloc (Nat.le_refl _) _⟩
    · have e : goodB 5 n r = false := by simp [goodB, hn]
      rw [e]
      clear e
      go_enter Tryz.func89, Tryz.ntmps89
      go_wp2_with fail
      go_ret
      exact ⟨rfl, (Below.refl _ _).alloc (Nat.le_refl _) _⟩
  have e : goodB k n r = false := by simp [goodB, h1, h2, h3, h7, h4, h5]
  rw [e]
  clear e
  go_enter Tryz.func89, Tryz.ntmps89
  go_wp2_with fail
  go_ret
  exact ⟨rfl, (Below.refl _ _).alloc (Nat.le_refl _) _⟩
end Go.Proofs.YtikhhcmfjncabaaGreat
namespace Go.Proofs.YtikhhcmfjncabaaGreat
open Go.RowKit

set_option maxHeartbeats 1000000 in
theorem args_any (op : Int) (w : World) : Calls Tryz.prog 113 #[.int .i64 op] w fun e w' => e = .returned (.int .i64 (argN op)) ∧ w = w' := by
  by_cases hc : op = 29 ∨ op = 30 ∨ op = 0 ∨ op = 1 ∨ op = 3 ∨ op = 4 ∨ op = 23 ∨ op = 24 ∨ op = 25 ∨ op = 27 ∨ op = 28
  · rcases hc with rfl | rfl | rfl | rfl | rfl | rfl | rfl | rfl | rfl | rfl | rfl
    all_goals
      go_enter Tryz.func113, Tryz.ntmps113
      go_wp2_with fail
      go_ret
      exact ⟨rfl, rfl⟩
  · obtain ⟨n29, n30, n0, n1, n3, n4, n23, n24, n25, n27, n28⟩ : op ≠ 29 ∧ op ≠ 30 ∧ op ≠ 0 ∧ op ≠ 1 ∧ op ≠ 3 ∧ op ≠ 4 ∧ op ≠ 23 ∧ op ≠ 24 ∧ op ≠ 25 ∧ op ≠ 27 ∧ op ≠ 28 := by omega
    clear hc
    by_cases hlo : op < 0
    · have e : argN op = -1 := by unfold argN; rw [if_neg (by omega), if_neg (by omega), if_pos (by omega)]
      rw [e]
      clear e
      go_enter Tryz.func113, Tryz.ntmps113
      go_wp2_with fail
      go_ret
      exact ⟨rfl, rfl⟩
    by_cases hhi : 42 ≤ op
    · have e : argN op = -1 := by unfold argN; rw [if_neg (by omega), if_neg (by omega), if_pos (by omega)]
      rw [e]
      clear e
      go_enter Tryz.func113, Tryz.ntmps113
      go_wp2_with fail
      go_ret
      exact ⟨rfl, rfl⟩
    have e : argN op = 0 := by unfold argN; rw [if_neg (by omega), if_neg (by omega), if_neg (by omega)]
    rw [e]
    clear e
    go_enter Tryz.func113, Tryz.ntmps113
    go_wp2_with fail
    go_ret
    exact ⟨rfl, rfl⟩
end Go.Proofs.YtikhhcmfjncabaaGreat
namespace Go.Proofs.YtikhhcmfjncabaaGreat
open Go.RowKit

set_option maxHeartbeats 2000000 in
theorem fit_any (n a b : Int) (w : World) : Calls Tryz.prog 114 #[.agg #[.int .i64 a, .int .i64 b], .int .i64 n] w fun e w' => e = .returned (.bool (fitN n a b)) ∧ Below w.heap.size w w' := by
  have i0 : ∀ w, (Instr.index 139 (.agg #[.int .i64 a, .int .i64 b]) (.int .i64 0)).run Tryz.prog w = .ok (.int .i64 a) w := fun _ => by kernel_rfl
  have i1 : ∀ w, (Instr.index 139 (.agg #[.int .i64 a, .int .i64 b]) (.int .i64 1)).run Tryz.prog w = .ok (.int .i64 b) w := fun _ => by kernel_rfl
  unfold fitN
  by_cases h0 : 0 < n
  · rw [if_pos h0]
    by_cases h1 : 1 < n
    · rw [if_pos h1]
      by_cases a0 : a < 0
      · rw [decide_eq_false (by omega)]
        go_enter Tryz.func114, Tryz.ntmps114
        go_wp2_with fail
        refine wp_loop_rounds 3 ?_
        rw [rounds_succ]
        go_wp2_with fail
        go_ret
        exact ⟨rfl, (Below.refl _ _).alloc (Nat.le_refl _) _⟩
      by_cases a1 : 255 < a
      · rw [decide_eq_false (by omega)]
        go_enter Tryz.func114, Tryz.ntmps114
        go_wp2_with fail
        refine wp_loop_rounds 3 ?_
        rw [rounds_succ]
        go_wp2_with fail
        go_ret
        exact ⟨rfl, (Below.refl _ _).alloc (Nat.le_refl _) _⟩
      by_cases b0 : b < 0
      · rw [decide_eq_false (by omega)]
        go_enter Tryz.func114, Tryz.ntmps114
        go_wp2_with fail
        refine wp_loop_rounds 3 ?_
        rw [rounds_succ]
        go_wp2_with fail
        rw [rounds_succ]
        go_wp2_with fail
        go_ret
        exact ⟨rfl, (Below.refl _ _).alloc (Nat.le_refl _) _⟩
      by_cases b1 : 255 < b
      · rw [decide_eq_false (by omega)]
        go_enter Tryz.func114, Tryz.ntmps114
        go_wp2_with fail
        refine wp_loop_rounds 3 ?_
        rw [rounds_succ]
        go_wp2_with fail
        rw [rounds_succ]
        go_wp2_with fail
        go_ret
        exact ⟨rfl, (Below.refl _ _).alloc (Nat.le_refl _) _⟩
      rw [decide_eq_true (by omega)]
      go_enter Tryz.func114, Tryz.ntmps114
      go_wp2_with fail
      refine wp_loop_rounds 3 ?_
      rw [rounds_succ]
      go_wp2_with fail
      rw [rounds_succ]
      go_wp2_with fail
      rw [rounds_succ]
      go_wp2_with fail
      go_ret
      exact ⟨rfl, (Below.refl _ _).alloc (Nat.le_refl _) _⟩
    · rw [if_neg h1]
      by_cases a0 : a < 0
      · rw [decide_eq_false (by omega)]
        go_enter Tryz.func114, Tryz.ntmps114
        go_wp2_with fail
        refine wp_loop_rounds 3 ?_
        rw [rounds_succ]
        go_wp2_with fail
        go_ret
        exact ⟨rfl, (Below.refl _ _).alloc (Nat.le_refl _) _⟩
      by_cases a1 : 255 < a
      · rw [decide_eq_false (by omega)]
        go_enter Tryz.func114, Tryz.ntmps114
        go_wp2_with fail
        refine wp_loop_rounds 3 ?_
        rw [rounds_succ]
        go_wp2_with fail
        go_ret
        exact ⟨rfl, (Below.refl _ _).alloc (Nat.le_refl _) _⟩
      by_cases b0 : b < 0
      · rw [decide_eq_false (by omega)]
        go_enter Tryz.func114, Tryz.ntmps114
        go_wp2_with fail
        refine wp_loop_rounds 3 ?_
        rw [rounds_succ]
        go_wp2_with fail
        rw [rounds_succ]
        go_wp2_with fail
        go_ret
        exact ⟨rfl, (Below.refl _ _).alloc (Nat.le_refl _) _⟩
      by_cases b1 : 0 < b
      · rw [decide_eq_false (by omega)]
        go_enter Tryz.func114, Tryz.ntmps114
        go_wp2_with fail
        refine wp_loop_rounds 3 ?_
        rw [rounds_succ]
        go_wp2_with fail
        rw [rounds_succ]
        go_wp2_with fail
        go_ret
        exact ⟨rfl, (Below.refl _ _).alloc (Nat.le_refl _) _⟩
      rw [decide_eq_true (by omega)]
      go_enter Tryz.func114, Tryz.ntmps114
      go_wp2_with fail
      refine wp_loop_rounds 3 ?_
      rw [rounds_succ]
      go_wp2_with fail
      rw [rounds_succ]
      go_wp2_with fail
      rw [rounds_succ]
      go_wp2_with fail
      go_ret
      exact ⟨rfl, (Below.refl _ _).alloc (Nat.le_refl _) _⟩
  · rw [if_neg h0, if_neg (by omega)]
    have h1 : ¬ 1 < n := by omega
    by_cases a0 : a < 0
    · rw [decide_eq_false (by omega)]
      go_enter Tryz.func114, Tryz.ntmps114
      go_wp2_with fail
      refine wp_loop_rounds 3 ?_
      rw [rounds_succ]
      go_wp2_with fail
      go_ret
      exact ⟨rfl, (Below.refl _ _).alloc (Nat.le_refl _) _⟩
    by_cases a1 : 0 < a
    · rw [decide_eq_false (by omega)]
      go_enter Tryz.func114, Tryz.ntmps114
      go_wp2_with fail
      refine wp_loop_rounds 3 ?_
      rw [rounds_succ]
      go_wp2_with fail
      go_ret
      exact ⟨rfl, (Below.refl _ _).alloc (Nat.le_refl _) _⟩
    by_cases b0 : b < 0
    · rw [decide_eq_false (by omega)]
      go_enter Tryz.func114, Tryz.ntmps114
      go_wp2_with fail
      refine wp_loop_rounds 3 ?_
      rw [rounds_succ]
      go_wp2_with fail
      rw [rounds_succ]
      go_wp2_with fail
      go_ret
      exact ⟨rfl, (Below.refl _ _).alloc (Nat.le_refl _) _⟩
    by_cases b1 : 0 < b
    · rw [decide_eq_false (by omega)]
      go_enter Tryz.func114, Tryz.ntmps114
      go_wp2_with fail
      refine wp_loop_rounds 3 ?_
      rw [rounds_succ]
      go_wp2_with fail
      rw [rounds_succ]
      go_wp2_with fail
      go_ret
      exact ⟨rfl, (Below.refl _ _).alloc (Nat.le_refl _) _⟩
    rw [decide_eq_true (by omega)]
    go_enter Tryz.func114, Tryz.ntmps114
    go_wp2_with fail
    refine wp_loop_rounds 3 ?_
    rw [rounds_succ]
    go_wp2_with fail
    rw [rounds_succ]
    go_wp2_with fail
    rw [rounds_succ]
    go_wp2_with fail
    go_ret
    exact ⟨rfl, (Below.refl _ _).alloc (Nat.le_refl _) _⟩
end Go.Proofs.YtikhhcmfjncabaaGreat
