/-
  Fl Tyr Bn Bks Fp
-/
import Derived.Test.YtpjanfkliaaflaaQ01
import Derived.Test.YtpjanfkliaaflaaQ02
import Derived.Test.YtpjanfkliaaflaaQ07
import Derived.Lib.AppendZeros
import Derived.Deep.RegionLaw
set_option linter.unusedSimpArgs false
set_option linter.unusedVariables false
namespace Go.Proofs.Ytpjanfkliaaflaa

def subT (a b : Typ) : Bool := subB a.1 a.2 b.1 b.2
def belowT : List Typ → List Typ → Bool
  | [], [] => true
  | a :: xs, b :: ys => subT a b && belowT xs ys
  | _, _ => false
def locB (f : Fn) (n : Int) : Typ := if n < 0 then (8, 0) else ((f.args ++ f.locs)[n.toNat]?).getD (8, 0)
def fldB (m : Mod) (a b : Int) : Typ := (((m.recs[a.toNat]?).getD [])[b.toNat]?).getD (0, 0)
def ruleB (m : Mod) (f : Fn) (i : Ins) (s : List Typ) : Option (List Typ × List Typ) :=
  if i.1 = 0 then some ([], [(1, 0)])
  else if i.1 = 1 then some ([], [(2, 0)])
  else if i.1 = 2 then some ([], [(6, 0)])
  else if i.1 = 3 then some ([], [locB f i.2.1])
  else if i.1 = 4 then some ([locB f i.2.1], [])
  else if i.1 = 5 then some ([(8, 0)], [])
  else if i.1 = 6 then (match s.reverse with | x :: _ => some ([x], [x, x]) | _ => none)
  else if i.1 = 7 then (match s.reverse with | x :: y :: _ => some ([y, x], [x, y]) | _ => none)
  else if i.1 = 22 then some ([(1, 0), (1, 0)], [(1, 0), (1, 0)])
  else if i.1 = 23 then some ([], [])
  else if i.1 = 24 then some ([(1, 0)], [])
  else if i.1 = 25 then (match m.funcs[i.2.1.toNat]? with | some g => some (g.args, [g.ret]) | none => none)
  else if i.1 = 26 then some ([f.ret], [])
  else if i.1 = 27 then (match m.imps[i.2.1.toNat]? with | some g => some (g.args, [g.ret]) | none => none)
  else if i.1 = 28 then (match m.recs[i.2.1.toNat]? with | some r => some (r, [(4, i.2.1)]) | none => none)
  else if i.1 = 29 then some ([(4, i.2.1)], [fldB m i.2.1 i.2.2])
  else if i.1 = 30 then some ([(4, i.2.1), fldB m i.2.1 i.2.2], [])
  else if i.1 = 31 then some ([(1, 0)], [(3, 0)])
  else if i.1 = 32 then some ([(3, 0), (1, 0)], [(1, 0)])
  else if i.1 = 33 then some ([(3, 0), (1, 0), (1, 0)], [])
  else if i.1 = 34 then some ([(3, 0)], [(1, 0)])
  else if i.1 = 35 then some ([(1, 0)], [(2, 0)])
  else if i.1 = 36 then some ([(2, 0), (1, 0)], [(1, 0)])
  else if i.1 = 37 then some ([(2, 0), (1, 0), (1, 0)], [])
  else if i.1 = 38 then some ([(2, 0)], [(1, 0)])
  else if i.1 = 39 then some ([(7, 0)], [(1, 0)])
  else if i.1 = 40 then some ([(7, 0), (7, 0)], [(1, 0)])
  else if i.1 = 41 then (match s.reverse with | x :: _ => if x.1 = 5 then some ([x], []) else none | _ => none)
  else some ([(1, 0), (1, 0)], [(1, 0)])
def movB (s ins outs : List Typ) : Option (List Typ) :=
  if ins.length ≤ s.length ∧ s.length - ins.length + outs.length ≤ 8 ∧ belowT (s.drop (s.length - ins.length)) ins = true then some (s.take (s.length - ins.length) ++ outs) else none
def nextB (f : Fn) (i : Ins) (pc : Nat) : Option (List Int) :=
  if i.1 = 26 then some [] else if i.1 = 23 then some [i.2.1] else if f.code.length ≤ pc + 1 then none else if i.1 = 24 then some [(pc : Int) + 1, i.2.1] else some [(pc : Int) + 1]
def insB8 (m : Mod) (f : Fn) (i : Ins) (pc : Nat) (s : List Typ) : Int × List Typ × List Int :=
  match ruleB m f i s with
  | none => (4, [], [])
  | some (ins, outs) => match movB s ins outs with
    | none => (4, [], [])
    | some t => match nextB f i pc with
      | none => (1, [], [])
      | some l => (0, t, l)
def flowB (m : Mod) (f pc : Int) (s : List Typ) : Int × List Typ × List Int :=
  if checkN m ≠ 0 ∨ f < 0 ∨ pc < 0 then (1, [], [])
  else match m.funcs[f.toNat]? with
    | none => (1, [], [])
    | some fn => match fn.code[pc.toNat]? with
      | none => (1, [], [])
      | some i => insB8 m fn i pc.toNat s

theorem subT_refl (a : Typ) : subT a a = true := by simp [subT, subB]
theorem subT_trans {a b c : Typ} (h1 : subT a b = true) (h2 : subT b c = true) : subT a c = true := by
  obtain ⟨a, a'⟩ := a
  obtain ⟨b, b'⟩ := b
  obtain ⟨c, c'⟩ := c
  simp only [subT, subB, refB, Bool.or_eq_true, Bool.and_eq_true, beq_iff_eq] at h1 h2 ⊢
  omega
theorem belowT_len {a b : List Typ} (h : belowT a b = true) : a.length = b.length := by
  induction a generalizing b with
  | nil => cases b <;> simp [belowT] at h ⊢
  | cons x a ih =>
    cases b with
    | nil => simp [belowT] at h
    | cons y b => simp only [belowT, Bool.and_eq_true] at h; simp [ih h.2]
theorem belowT_refl (a : List Typ) : belowT a a = true := by
  induction a with
  | nil => rfl
  | cons x a ih => simp [belowT, subT_refl, ih]
theorem belowT_trans {a b c : List Typ} (h1 : belowT a b = true) (h2 : belowT b c = true) : belowT a c = true := by
  induction a generalizing b c with
  | nil => cases b <;> cases c <;> simp [belowT] at h1 h2 ⊢
  | cons x a ih =>
    cases b with
    | nil => simp [belowT] at h1
    | cons y b =>
      cases c with
      | nil => simp [belowT] at h2
      | cons z c =>
        simp only [belowT, Bool.and_eq_true] at h1 h2 ⊢
        exact ⟨subT_trans h1.1 h2.1, ih h1.2 h2.2⟩
theorem belowT_app {a b c d : List Typ} (h1 : belowT a b = true) (h2 : belowT c d = true) : belowT (a ++ c) (b ++ d) = true := by
  induction a generalizing b with
  | nil => cases b <;> simp [belowT] at h1 ⊢; exact h2
  | cons x a ih =>
    cases b with
    | nil => simp [belowT] at h1
    | cons y b =>
      simp only [belowT, Bool.and_eq_true, List.cons_append] at h1 ⊢
      exact ⟨h1.1, ih h1.2⟩
theorem belowT_take {a b : List Typ} (h : belowT a b = true) (n : Nat) : belowT (a.take n) (b.take n) = true := by
  induction a generalizing b n with
  | nil => cases b <;> simp [belowT] at h ⊢
  | cons x a ih =>
    cases b with
    | nil => simp [belowT] at h
    | cons y b =>
      simp only [belowT, Bool.and_eq_true] at h
      cases n with
      | zero => rfl
      | succ n => simp only [List.take_succ_cons, belowT, Bool.and_eq_true]; exact ⟨h.1, ih h.2 n⟩
theorem belowT_drop {a b : List Typ} (h : belowT a b = true) (n : Nat) : belowT (a.drop n) (b.drop n) = true := by
  induction a generalizing b n with
  | nil => cases b <;> simp [belowT] at h ⊢
  | cons x a ih =>
    cases b with
    | nil => simp [belowT] at h
    | cons y b =>
      cases n with
      | zero => exact h
      | succ n =>
        simp only [belowT, Bool.and_eq_true] at h
        simpa using ih h.2 n
theorem belowT_snoc {a b : List Typ} {x y : Typ} (h : belowT (a ++ [x]) (b ++ [y]) = true) : belowT a b = true ∧ subT x y = true := by
  have hl := belowT_len h
  simp at hl
  refine ⟨?_, ?_⟩
  · have := belowT_take h a.length
    rwa [List.take_append_of_le_length (Nat.le_refl _), List.take_length, hl, List.take_append_of_le_length (Nat.le_refl _), List.take_length] at this
  · have := belowT_drop h a.length
    rw [List.drop_append_of_le_length (Nat.le_refl _), List.drop_length, hl, List.drop_append_of_le_length (Nat.le_refl _), List.drop_length] at this
    simpa [belowT] using this

theorem rule_below {m : Mod} {f : Fn} {i : Ins} {a b ins outs : List Typ} (h : belowT a b = true) (hr : ruleB m f i b = some (ins, outs)) :
    ∃ ins' outs', ruleB m f i a = some (ins', outs') ∧ ins'.length = ins.length ∧ belowT outs' outs = true ∧ (belowT (b.drop (b.length - ins.length)) ins = true → belowT (a.drop (a.length - ins'.length)) ins' = true) := by
  have hlen := belowT_len h
  have same : ruleB m f i a = ruleB m f i b → ∃ ins' outs', ruleB m f i a = some (ins', outs') ∧ ins'.length = ins.length ∧ belowT outs' outs = true ∧ (belowT (b.drop (b.length - ins.length)) ins = true → belowT (a.drop (a.length - ins'.length)) ins' = true) := fun e =>
    ⟨ins, outs, by rw [e, hr], rfl, belowT_refl _, fun hb => belowT_trans (by rw [hlen]; exact belowT_drop h _) hb⟩
  have tops : ∀ {y : Typ} {r : List Typ}, b.reverse = y :: r → ∃ x q, a.reverse = x :: q ∧ subT x y = true ∧ belowT q.reverse r.reverse = true := fun {y r} hb => by
    cases ha : a.reverse with
    | nil =>
      have e1 := congrArg List.length ha
      have e2 := congrArg List.length hb
      rw [List.length_reverse] at e1 e2
      simp only [List.length_nil, List.length_cons] at e1 e2
      omega
    | cons x q =>
      have ea : a = q.reverse ++ [x] := by rw [← List.reverse_reverse a, ha]; simp
      have eb : b = r.reverse ++ [y] := by rw [← List.reverse_reverse b, hb]; simp
      rw [ea, eb] at h
      exact ⟨x, q, rfl, (belowT_snoc h).2, (belowT_snoc h).1⟩
  have end1 : ∀ {x : Typ} {q : List Typ}, a.reverse = x :: q → a.drop (a.length - 1) = [x] := fun {x q} ha => by
    have ea : a = q.reverse ++ [x] := by rw [← List.reverse_reverse a, ha]; simp
    rw [ea]
    simp
  have end2 : ∀ {x y : Typ} {q : List Typ}, a.reverse = x :: y :: q → a.drop (a.length - 2) = [y, x] := fun {x y q} ha => by
    have ea : a = q.reverse ++ [y, x] := by rw [← List.reverse_reverse a, ha]; simp
    rw [ea]
    simp
  by_cases h6 : i.1 = 6
  · cases hb : b.reverse with
    | nil => simp [ruleB, h6, hb] at hr
    | cons y r =>
      obtain ⟨x, q, ha, hs, -⟩ := tops hb
      simp [ruleB, h6, hb] at hr
      obtain ⟨rfl, rfl⟩ := hr
      exact ⟨[x], [x, x], by simp [ruleB, h6, ha], rfl, by simp [belowT, hs], fun _ => by rw [List.length_singleton, end1 ha]; simp [belowT, subT_refl]⟩
  by_cases h7 : i.1 = 7
  · cases hb : b.reverse with
    | nil => simp [ruleB, h7, hb] at hr
    | cons y r =>
      cases r with
      | nil => simp [ruleB, h7, hb] at hr
      | cons y2 r =>
        obtain ⟨x, q, ha, hs, hq⟩ := tops hb
        cases q with
        | nil =>
          have := belowT_len hq
          simp at this
        | cons x2 q =>
          simp only [List.reverse_cons] at hq
          have hs2 := (belowT_snoc hq).2
          simp [ruleB, h7, hb] at hr
          obtain ⟨rfl, rfl⟩ := hr
          exact ⟨[x2, x], [x, x2], by simp [ruleB, h7, ha], rfl, by simp [belowT, hs, hs2], fun _ => by rw [show [x2, x].length = 2 from rfl, end2 ha]; simp [belowT, subT_refl]⟩
  by_cases h41 : i.1 = 41
  · cases hb : b.reverse with
    | nil => simp [ruleB, h41, hb] at hr
    | cons y r =>
      obtain ⟨x, q, ha, hs, -⟩ := tops hb
      by_cases hy : y.1 = 5
      · have hx : x.1 = 5 := by
          simp only [subT, subB, refB, Bool.or_eq_true, Bool.and_eq_true, beq_iff_eq] at hs
          omega
        simp [ruleB, h41, hb, hy] at hr
        obtain ⟨rfl, rfl⟩ := hr
        exact ⟨[x], [], by simp [ruleB, h41, ha, hx], rfl, rfl, fun _ => by rw [List.length_singleton, end1 ha]; simp [belowT, subT_refl]⟩
      · simp [ruleB, h41, hb, hy] at hr
  · exact same (by simp only [ruleB, h6, h7, h41, if_false])

theorem ins_below {m : Mod} {f : Fn} {i : Ins} {pc : Nat} {a b t : List Typ} {l : List Int} (h : belowT a b = true) (hf : insB8 m f i pc b = (0, t, l)) : ∃ s, insB8 m f i pc a = (0, s, l) ∧ belowT s t = true := by
  have hlen := belowT_len h
  cases hr : ruleB m f i b with
  | none => simp [insB8, hr] at hf
  | some p =>
    obtain ⟨ins, outs⟩ := p
    obtain ⟨ins', outs', hr', hl, ho, hb⟩ := rule_below h hr
    have hol := belowT_len ho
    cases hm : movB b ins outs with
    | none => simp [insB8, hr, hm] at hf
    | some u =>
      cases hn : nextB f i pc with
      | none => simp [insB8, hr, hm, hn] at hf
      | some q =>
        simp [insB8, hr, hm, hn] at hf
        obtain ⟨rfl, rfl⟩ := hf
        unfold movB at hm
        split at hm
        · rename_i hc
          obtain ⟨c1, c2, c3⟩ := hc
          injection hm with hm
          subst hm
          refine ⟨a.take (a.length - ins'.length) ++ outs', ?_, belowT_app (by rw [hlen, hl]; exact belowT_take h _) ho⟩
          simp only [insB8, hr', hn, movB]
          rw [if_pos ⟨by omega, by omega, hb c3⟩]
        · cases hm
theorem below_step {xs ys : List Typ} {k : Nat} {x y : Typ} (h : belowT (xs.take k) (ys.take k) = true) (hx : xs[k]? = some x) (hy : ys[k]? = some y) (hs : subT x y = true) : belowT (xs.take (k + 1)) (ys.take (k + 1)) = true := by
  obtain ⟨hk, rfl⟩ := List.getElem?_eq_some_iff.1 hx
  obtain ⟨hk2, rfl⟩ := List.getElem?_eq_some_iff.1 hy
  rw [List.take_succ_eq_append_getElem hk, List.take_succ_eq_append_getElem hk2]
  exact belowT_app h (by simp [belowT, hs])
theorem below_not {xs ys : List Typ} {k : Nat} {x y : Typ} (hx : xs[k]? = some x) (hy : ys[k]? = some y) (hs : subT x y = false) : belowT xs ys = false := by
  induction xs generalizing ys k with
  | nil => simp at hx
  | cons a xs ih =>
    cases ys with
    | nil => rfl
    | cons b ys =>
      cases k with
      | zero => simp at hx hy; subst hx hy; simp [belowT, hs]
      | succ k => simp only [belowT, ih (k := k) (by simpa using hx) (by simpa using hy), Bool.and_false]
theorem below_len_not {xs ys : List Typ} (h : xs.length ≠ ys.length) : belowT xs ys = false := by
  cases hb : belowT xs ys
  · rfl
  · exact absurd (belowT_len hb) h
end Go.Proofs.Ytpjanfkliaaflaa
namespace Go.Proofs.Ytpjanfkliaaflaa
open Go.RowKit

def T2 : List Typ → List Value
  | [] => []
  | t :: ts => .int .i64 t.1 :: .int .i64 t.2 :: T2 ts
theorem T2_app (ts us : List Typ) : T2 (ts ++ us) = T2 ts ++ T2 us := by
  induction ts with
  | nil => rfl
  | cons t ts ih => simp [T2, ih]
theorem T2_length (ts : List Typ) : (T2 ts).length = ts.length * 2 := by
  induction ts with
  | nil => rfl
  | cons t ts ih => simp [T2, ih]; omega
theorem T2_get0 {ts : List Typ} {j : Nat} {t : Typ} (h : ts[j]? = some t) : (T2 ts)[j * 2]? = some (.int .i64 t.1) := by
  induction ts generalizing j with
  | nil => simp at h
  | cons u ts ih =>
    cases j with
    | zero => simp at h; subst h; simp [T2]
    | succ j => rw [show (j + 1) * 2 = j * 2 + 1 + 1 by omega]; simp [T2]; exact ih (by simpa using h)
theorem T2_get1 {ts : List Typ} {j : Nat} {t : Typ} (h : ts[j]? = some t) : (T2 ts)[j * 2 + 1]? = some (.int .i64 t.2) := by
  induction ts generalizing j with
  | nil => simp at h
  | cons u ts ih =>
    cases j with
    | zero => simp at h; subst h; simp [T2]
    | succ j => rw [show (j + 1) * 2 + 1 = j * 2 + 1 + 1 + 1 by omega]; simp [T2]; exact ih (by simpa using h)
theorem T2_one (ts : List Typ) : ∀ u ∈ T2 ts, u.oneCell' = true := by
  induction ts with
  | nil => simp [T2]
  | cons t ts ih =>
    intro u hu
    simp only [T2, List.mem_cons] at hu
    rcases hu with rfl | rfl | hu
    · rfl
    · rfl
    · exact ih u hu
def A64 (ts : List Typ) : Prop := ∀ t ∈ ts, I64 t.1 ∧ I64 t.2
theorem A64.app {ts us : List Typ} (h : A64 ts) (h' : A64 us) : A64 (ts ++ us) := fun t ht => by
  rcases List.mem_append.1 ht with h1 | h1
  · exact h t h1
  · exact h' t h1
theorem A64.take {ts : List Typ} (h : A64 ts) (k : Nat) : A64 (ts.take k) := fun t ht => h t (List.mem_of_mem_take ht)
theorem A64.drop {ts : List Typ} (h : A64 ts) (k : Nat) : A64 (ts.drop k) := fun t ht => h t (List.mem_of_mem_drop ht)
theorem A64.nil : A64 [] := fun t ht => by simp at ht
theorem A64.one {t : Typ} (h : I64 t.1) (h' : I64 t.2) : A64 [t] := fun u hu => by simp at hu; subst hu; exact ⟨h, h'⟩
theorem Sq.a64 {S : Nat → Prop} {w : World} {A : Option Addr} {ts : List Typ} (h : Sq typL S w A ts) : A64 ts := fun t ht => by
  obtain ⟨j, hj⟩ := List.mem_iff_getElem?.1 ht
  obtain ⟨a, cs, -, -, -, hr⟩ := h.at hj
  exact hr.2
theorem Sq.take {α : Type} {L : Lay α} {S : Nat → Prop} {w : World} {A : Option Addr} {xs : List α} (h : Sq L S w A xs) (k : Nat) : Sq L S w A (xs.take k) := fun hn => by
  have hl : (xs.take k).length ≤ xs.length := by simp; omega
  obtain ⟨a, e, hs, hc⟩ := h (by omega)
  refine ⟨a, e, hs, fun j x hx => hc j x ?_⟩
  have hj : j < k := by
    have := (List.getElem?_eq_some_iff.1 hx).1
    simp at this
    omega
  rwa [List.getElem?_take_of_lt hj] at hx
theorem Sq.drop {α : Type} {L : Lay α} {S : Nat → Prop} {w : World} {A : Option Addr} {xs : List α} (h : Sq L S w A xs) (k : Nat) : Sq L S w (A.map (·.add (k * L.k))) (xs.drop k) := fun hn => by
  have hl : (xs.drop k).length = xs.length - k := by simp
  obtain ⟨a, e, hs, hc⟩ := h (by omega)
  refine ⟨a.add (k * L.k), by rw [e]; rfl, by rw [addBlock]; exact hs, fun j x hx => ?_⟩
  rw [List.getElem?_drop] at hx
  obtain ⟨cs, h1, h2⟩ := hc (k + j) x hx
  refine ⟨cs, fun i u hu => ?_, h2⟩
  rw [addAdd, ← h1 i u hu, Nat.add_mul, Nat.add_assoc]
theorem own_sq {w : World} {base n : Nat} {v : Value} {ts : List Typ} (h : w.ownsRow base 23 2 v n (T2 ts)) (ha : A64 ts) :
    ∃ A c, v = .slice A n c ∧ n = ts.length ∧ n ≤ c ∧ c ≤ maxLen ∧ Sq typL (fun b => base ≤ b ∧ b < w.heap.size) w A ts := by
  have hn : n = ts.length := by have := h.1; rw [T2_length] at this; omega
  rcases h.2 with ⟨rfl, h0⟩ | ⟨g, cap, cur, rfl, hb, hg, hnc, hcm, _, _⟩
  · refine ⟨none, 0, by rw [h0], hn, by omega, by simp [maxLen], fun hpos => absurd hpos (by omega)⟩
  · refine ⟨some ⟨g, 0, none⟩, cap, rfl, hn, hnc, hcm, fun _ => ⟨⟨g, 0, none⟩, rfl, ⟨hb, (Array.getElem?_eq_some_iff.1 hg).1⟩, fun j t hj => ⟨_, fun i u hu => ?_, rfl, ha t (List.mem_of_getElem? hj)⟩⟩⟩
    match i, hu with
    | 0, hu => simp at hu; subst hu; exact h.cells rfl (j * 2) _ (T2_get0 hj)
    | 1, hu => simp at hu; subst hu; exact h.cells rfl (j * 2 + 1) _ (T2_get1 hj)
    | i + 2, hu => simp at hu
theorem own_tys_empty (w : World) : (w.alloc (.cells #[] 23)).ownsRow w.heap.size 23 2 (.slice (some ⟨w.heap.size, 0, none⟩) 0 0) 0 (T2 []) :=
  World.ownsRow_made w #[] 0 (Nat.le_refl _) (by simp [maxLen]) (by simp)
theorem sq_cells {S : Nat → Prop} {w : World} {a : Addr} {ts : List Typ} (h : Sq typL S w (some a) ts) : ∀ j u, (T2 ts)[j]? = some u → w.cell? (a.add j) = some u := fun j u hu => by
  have hj := (List.getElem?_eq_some_iff.1 hu).1
  rw [T2_length] at hj
  obtain ⟨a', e, -, hc⟩ := h (by omega)
  injection e with e
  subst e
  obtain ⟨t, ht⟩ : ∃ t, ts[j / 2]? = some t := ⟨ts[j / 2]'(by omega), List.getElem?_eq_getElem _⟩
  obtain ⟨cs, h1, rfl, -⟩ := hc _ t ht
  rcases Nat.mod_two_eq_zero_or_one j with e | e
  · have ej : j = j / 2 * 2 := by omega
    have k0 := h1 0 _ rfl
    rw [ej, T2_get0 ht] at hu
    injection hu with hu
    subst hu
    rw [show j / 2 * typL.k + 0 = j by show j / 2 * 2 + 0 = j; omega] at k0
    exact k0
  · have ej : j = j / 2 * 2 + 1 := by omega
    have k0 := h1 1 _ rfl
    rw [ej, T2_get1 ht] at hu
    injection hu with hu
    subst hu
    rw [show j / 2 * typL.k + 1 = j by show j / 2 * 2 + 1 = j; omega] at k0
    exact k0

theorem typ_info : (Try.prog.info? 23).map (fun i => (i.zero, i.size, i.bytes)) = some (some (.agg #[.int .i64 0, .int .i64 0]), 2, 16) := by kernel_rfl

set_option maxRecDepth 100000 in
theorem run_append_tys (w : World) (base ty : Nat) (v : Value) (n : Nat) (xs : List Typ) (hown : w.ownsRow base 23 2 v n (T2 xs)) (A : Option Addr) (m c : Nat) (ys : List Typ) (hm : ys.length = m)
    (S : Nat → Prop) (hy : Sq typL S w A ys) (hbig : n + m ≤ 1000000000) (hbase : base ≤ w.heap.size) :
    ∃ v' w', (Builtin.append_ #[29, 29] ty #[v, .slice A m c]).run Try.prog w = .ok v' w' ∧ w'.ownsRow base 23 2 v' (n + m) (T2 (xs ++ ys)) ∧ w.grownBy w' v.ownBlock ∧
      (v'.ownBlock = v.ownBlock ∨ v'.ownBlock = some w.heap.size) := by
  obtain ⟨i0, hi0, hz0, hz1, hz2⟩ := info_parts typ_info
  rw [T2_app]
  rcases A with _ | a
  · have h0 : m = 0 := by
      rcases Nat.eq_zero_or_pos m with h | h
      · exact h
      · obtain ⟨a, h, _⟩ := hy (by omega)
        cases h
    subst h0
    obtain rfl : ys = [] := List.eq_nil_of_length_eq_zero hm
    refine ⟨v, w, ?_, by simpa [T2] using hown, ⟨rfl, rfl, rfl, Nat.le_refl _, fun _ _ _ => rfl⟩, .inl rfl⟩
    have ht := run_underlying (P := Try.prog) (w := w) Try.underlying29
    rcases hown.2 with ⟨rfl, rfl⟩ | ⟨g, cap, cur, rfl, _, _, hnc, _⟩
    · simp [Builtin.append_, ht, sizeOf, typeInfo, hi0, Builtin.lenOf, Builtin.firstCells]
    · simp [Builtin.append_, ht, sizeOf, typeInfo, hi0, Builtin.lenOf, Builtin.firstCells, hnc, storeCells]
  · obtain ⟨v', w', hrun, h2, h3, _, h5⟩ := run_append_own_at (P := Try.prog) w base 29 ty 23 i0 (.agg #[.int .i64 0, .int .i64 0]) 2 16 Try.underlying29 hi0 hz0 hz1 hz2 rfl (by omega) v n (T2 xs) hown a m c (T2 ys) (by rw [T2_length]; omega) (sq_cells hy) (T2_one ys)
      (by simp only [maxLen]; omega) (by omega) hbase
    exact ⟨v', w', hrun, h2, h3, h5⟩

theorem walk_append_tys (w : World) {ops : Array Oper} {rest : List Oper} {o : Oper} {a : Act} {Q : Exit → Act → World → Prop} (hgd : o.guard = none) (s x : Operand)
    (ho : o.op = .call { callee := .builtin .append, args := #[s, x], argTypes := #[29, 29] })
    (base : Nat) (v : Value) (n : Nat) (xs : List Typ) (hs : a.eval s = v) (hown : w.ownsRow base 23 2 v n (T2 xs)) (A : Option Addr) (m c : Nat) (ys : List Typ) (hx : a.eval x = .slice A m c) (hm : ys.length = m)
    (S : Nat → Prop) (hy : Sq typL S w A ys) (hbig : n + m ≤ 1000000000) (hbase : base ≤ w.heap.size)
    (h : ∀ v' w', w'.ownsRow base 23 2 v' (n + m) (T2 (xs ++ ys)) → w.grownBy w' v.ownBlock → (v'.ownBlock = v.ownBlock ∨ v'.ownBlock = some w.heap.size) → wpList Try.prog ops Q rest (a.put o.dst v') w') :
    wpList Try.prog ops Q (o :: rest) a w := by
  refine wpList_plain hgd fun _ hK => ?_
  obtain ⟨v', w', hrun, h2, h3, h4⟩ := run_append_tys w base o.type v n xs hown A m c ys hm S hy hbig hbase
  unfold Oper.wp execOp
  simp only [ho, resolve, invoke, builtin, Sem.run_bind, Sem.run_pure, Result.andThen_ok, List.map_toArray, List.map_cons, List.map_nil, hs, hx, hrun]
  exact hK _ _ (h v' w' h2 h3 h4)

theorem step_append_tys (w : World) {ops : Array Oper} {o : Oper} {a : Act} {K : Act → World → Prop} {Q : Exit → Act → World → Prop} {E : Prop} (hgd : o.guard = none) (s x : Operand)
    (ho : o.op = .call { callee := .builtin .append, args := #[s, x], argTypes := #[29, 29] })
    (base : Nat) (v : Value) (n : Nat) (xs : List Typ) (hs : a.eval s = v) (hown : w.ownsRow base 23 2 v n (T2 xs)) (A : Option Addr) (m c : Nat) (ys : List Typ) (hx : a.eval x = .slice A m c) (hm : ys.length = m)
    (S : Nat → Prop) (hy : Sq typL S w A ys) (hbig : n + m ≤ 1000000000) (hbase : base ≤ w.heap.size)
    (h : ∀ v' w', w'.ownsRow base 23 2 v' (n + m) (T2 (xs ++ ys)) → w.grownBy w' v.ownBlock → (v'.ownBlock = v.ownBlock ∨ v'.ownBlock = some w.heap.size) → K (a.put o.dst v') w') :
    if Region.wanted o (yielded ops a.tmps) = true then Oper.wp Try.prog o a w K Q else E := by
  have hw : Region.wanted o (yielded ops a.tmps) = true := by simp [Region.wanted, hgd]
  rw [if_pos hw]
  obtain ⟨v', w', hrun, h2, h3, h4⟩ := run_append_tys w base o.type v n xs hown A m c ys hm S hy hbig hbase
  unfold Oper.wp execOp
  simp only [ho, resolve, invoke, builtin, Sem.run_bind, Sem.run_pure, Result.andThen_ok, List.map_toArray, List.map_cons, List.map_nil, hs, hx, hrun]
  exact h v' w' h2 h3 h4

theorem walk_make_tys (w : World) {ops : Array Oper} {rest : List Oper} {o : Oper} {a : Act} {Q : Exit → Act → World → Prop} (hgd : o.guard = none) (s x : Operand)
    (ho : o.op = .call { callee := .builtin .append, args := #[s, x], argTypes := #[29, 3] })
    (n : Nat) (h0 : 0 < n) (hn : n ≤ 1000000000) (hs : a.eval s = .slice none 0 0) (hx : a.eval x = .int .i64 (n : Nat))
    (h : ∀ G w', n ≤ G → G ≤ maxLen → w'.ownsRow w.heap.size 23 2 (.slice (some ⟨w.heap.size, 0, none⟩) 0 G) 0 (T2 []) → Below w.heap.size w w' → wpList Try.prog ops Q rest (a.put o.dst (.slice (some ⟨w.heap.size, 0, none⟩) n G)) w') :
    wpList Try.prog ops Q (o :: rest) a w := by
  obtain ⟨i0, hi0, hz0, hz1, hz2⟩ := info_parts typ_info
  refine wpList_plain hgd fun _ hK => ?_
  have hrun := Lib.run_append_nil_zeros (P := Try.prog) w 29 3 o.type 23 i0 (.agg #[.int .i64 0, .int .i64 0]) .i64 .i64 Try.underlying29 Try.underlying3 hi0 hz0 n h0 (by omega) (by omega) (by rw [hz2]; omega)
  have hG := grownCap_ge w n 0 23
  have hG2 := grownCap_le_maxLen w n 0 23 (by unfold maxLen; omega)
  generalize grownCap w n 0 23 = G at hrun hG hG2
  unfold Oper.wp execOp
  simp only [ho, resolve, invoke, builtin, Sem.run_bind, Sem.run_pure, Result.andThen_ok, List.map_toArray, List.map_cons, List.map_nil, hs, hx, hrun]
  refine hK _ _ (h G _ hG hG2 ?_ ((Below.refl _ w).drew.alloc (Nat.le_refl _) _))
  refine World.ownsRow_made (base := w.heap.size) (e := 23) (size := 2) w.drew _ G (Nat.le_refl _) hG2 ?_
  simp [Builtin.zeroCells, Value.cells]
  omega

def Is (l : List Int) : List Value := l.map fun x => Value.int .i64 x
theorem Is_length (l : List Int) : (Is l).length = l.length := by simp [Is]
theorem Is_get {l : List Int} {j : Nat} {x : Int} (h : l[j]? = some x) : (Is l)[j]? = some (.int .i64 x) := by simp [Is, h]
end Go.Proofs.Ytpjanfkliaaflaa
namespace Go.Proofs.Ytpjanfkliaaflaa
open Go.RowKit

theorem one_sl {α : Type} {L : Lay α} {S : Nat → Prop} {w : World} {g ty : Nat} {cs : Array Value} {x : α} (h : Blk w g ty cs) (hg : S g) (hR : L.R S w cs.toList x) : (slL L).R S w [.slice (some ⟨g, 0, none⟩) 1 1] [x] := by
  refine ⟨some ⟨g, 0, none⟩, 1, rfl, Nat.le_refl _, by simp [maxLen], fun _ => ⟨_, rfl, hg, fun j y hy => ?_⟩⟩
  have hj : j = 0 := by
    rcases Nat.eq_zero_or_pos j with h | h
    · exact h
    · rw [List.getElem?_eq_none (by simp; omega)] at hy
      cases hy
  subst hj
  simp at hy
  subst hy
  refine ⟨_, fun i u hu => ?_, hR⟩
  have e : (⟨g, 0, none⟩ : Addr).add (0 * L.k + i) = ⟨g, i, none⟩ := by unfold Addr.add; split <;> simp_all
  rw [e, h.cell i]
  simpa using hu
theorem nil_sl {α : Type} (L : Lay α) (S : Nat → Prop) (w : World) : (slL L).R S w [.slice none 0 0] [] := ⟨none, 0, rfl, Nat.le_refl _, by simp [maxLen], Sq.nil _ _ _ _⟩

def tA : Array Value := #[.int .i64 1, .int .i64 0]
def iA : Array Value := #[.int .i64 26, .int .i64 0, .int .i64 0]
def bm : Nat → Nat → Mod
  | 0, k => ⟨List.replicate k [], [fn0], [], [], []⟩
  | 1, k => ⟨[], List.replicate (k + 1) fn0, [], [], []⟩
  | 2, k => ⟨[], [fn0], List.replicate k ⟨[], (1, 0)⟩, [], []⟩
  | 3, k => ⟨[], [fn0], [], List.range k, []⟩
  | 4, k => ⟨[], [fn0], [], [], List.replicate k [97]⟩
  | 5, k => ⟨[], [⟨[], (1, 0), List.replicate k (1, 0), [(26, 0, 0)]⟩], [], [], []⟩
  | _, k => ⟨[], [⟨[], (1, 0), [], (26, 0, 0) :: List.replicate k (5, 0, 0)⟩], [], [], []⟩
def bt : Nat → Nat
  | 0 => 8
  | 1 => 7
  | 2 => 8
  | 3 => 16
  | 4 => 16
  | 5 => 8
  | _ => 63
theorem raw_below {w w' : World} {base B ty k : Nat} {v : Value} {n : Nat} {xs : List Value} (h : w.ownsRow base ty k v n xs) (hb : Below B w w') (hB : w.heap.size ≤ B) : w'.ownsRow base ty k v n xs :=
  h.kept (w' := w') (row := none) ⟨hb.os, hb.tape, hb.output, hb.size, fun k hk _ => hb.block k (by omega)⟩ (by cases v.ownBlock <;> simp)
def Bst (N ty k b0 g ty2 : Nat) (mk : Value → Array Value) (w W0 wr : World) (css : List (List Value)) (v : Value) : Prop :=
  Below N w wr ∧ N + 4 ≤ wr.heap.size ∧ wr.ownsRow (N + 1) ty k v css.length css.flatten ∧ (∀ b, v.ownBlock = some b → b = b0 ∨ N + 4 ≤ b) ∧ (∀ b, b < N + 4 → b ≠ b0 → b ≠ g → wr.heap[b]? = W0.heap[b]?) ∧ Blk wr g ty2 (mk v)
theorem Bst.blk {N ty k b0 g ty2 : Nat} {mk : Value → Array Value} {w W0 wr w1 w2 : World} {css : List (List Value)} {v : Value} (h : Bst N ty k b0 g ty2 mk w W0 wr css v) (hb : b0 ≠ g) (hg : g < N + 4) (h1 : Below wr.heap.size wr w1) (hgr : w1.grownBy w2 v.ownBlock) : Blk w2 g ty2 (mk v) := by
  obtain ⟨a1, a2, a3, a4, a5, a6⟩ := h
  refine ((hgr.block g (Nat.lt_of_lt_of_le a6.lt h1.size) fun e => ?_).trans (h1.block g a6.lt)).trans a6
  rcases a4 g e.symm with h | h <;> omega
theorem Bst.step {N ty k b0 g ty2 i : Nat} {mk : Value → Array Value} {w W0 wr w1 w2 : World} {css : List (List Value)} {ys : List Value} {v v' : Value} (h : Bst N ty k b0 g ty2 mk w W0 wr css v) (hb : b0 ≠ g) (hb0 : N ≤ b0) (hg0 : N ≤ g) (hg : g < N + 4) (h1 : Below wr.heap.size wr w1)
    (hown : w2.ownsRow (N + 1) ty k v' (css.length + 1) (css.flatten ++ ys)) (hgr : w1.grownBy w2 v.ownBlock) (h5 : v'.ownBlock = v.ownBlock ∨ v'.ownBlock = some w1.heap.size) (hset : (mk v).setIfInBounds i v' = mk v') :
    Bst N ty k b0 g ty2 mk w W0 (w2.setCell ⟨g, i, none⟩ v') (css ++ [ys]) v' := by
  have hblk := h.blk hb hg h1 hgr
  obtain ⟨a1, a2, a3, a4, a5, a6⟩ := h
  have s1 := h1.size
  have s2 := hgr.size
  have hv : ∀ b, v'.ownBlock = some b → b = b0 ∨ N + 4 ≤ b := by
    intro b e
    rcases h5 with h | h
    · exact a4 b (h ▸ e)
    · rw [h] at e
      injection e with e
      omega
  have hrow : ∀ j, v.ownBlock = some j → N ≤ j := fun j e => by rcases a4 j e with h | h <;> omega
  refine ⟨((a1.trans (h1.mono (by omega))).trans (below_grown hgr (by omega) hrow)).setCell (p := ⟨g, i, none⟩) hg0 _, by have := (only_set (only_refl g w2) i v').size; omega, ?_, hv, ?_, ?_⟩
  · have := hown.kept (row := some g) (only_set (only_refl g w2) i v') (.inr fun e => by rcases hv g e with h | h <;> omega)
    simpa using this
  · intro b h2 h3 h4
    rw [Below.heap_setCell _ _ _ _ (by simpa using h4), hgr.block b (by omega) (fun e => by rcases a4 b e.symm with h | h <;> omega), h1.block b (by omega)]
    exact a5 b h2 h3 h4
  · rw [← hset]
    exact hblk.set i v'
end Go.Proofs.Ytpjanfkliaaflaa
namespace Go.Proofs.Ytpjanfkliaaflaa
open Go.RowKit

theorem blk_keep {v : World} {o : Obj} {b t : Nat} {c : Array Value} (h : Blk v b t c) : Blk (v.alloc o) b t c := (Below.heap_alloc v o b h.lt).trans h
theorem blk_at {v : World} {b t : Nat} {c : Array Value} (h : v.heap.size = b) : Blk (v.alloc (.cells c t)) b t c := by rw [← h]; exact blk_new v t c
theorem blk_below {v w : World} {B b t : Nat} {c : Array Value} (h : Blk v b t c) (hb : Below B v w) (hB : b < B) : Blk w b t c := (hb.block b hB).trans h
theorem blk_other {v : World} {b t g i : Nat} {c : Array Value} {u : Value} (h : Blk v b t c) (hne : b ≠ g) : Blk (v.setCell ⟨g, i, none⟩ u) b t c := (Below.heap_setCell v ⟨g, i, none⟩ u b hne).trans h

theorem two_sl {α : Type} {L : Lay α} {S : Nat → Prop} {w : World} {g ty : Nat} {cs : Array Value} {c0 c1 : List Value} {x y : α} (h : Blk w g ty cs) (hg : S g) (hc : cs.toList = c0 ++ c1) (h0 : L.R S w c0 x) (h1 : L.R S w c1 y) : (slL L).R S w [.slice (some ⟨g, 0, none⟩) 2 2] [x, y] := by
  have l0 := L.len h0
  have l1 := L.len h1
  have hcell : ∀ i u, (c0 ++ c1)[i]? = some u → w.cell? ⟨g, i, none⟩ = some u := fun i u hu => by
    rw [h.cell i, ← hu, ← hc]
    simp
  have e : ∀ i, (⟨g, 0, none⟩ : Addr).add i = ⟨g, i, none⟩ := fun i => by unfold Addr.add; split <;> simp_all
  refine ⟨some ⟨g, 0, none⟩, 2, rfl, Nat.le_refl _, by simp [maxLen], fun _ => ⟨_, rfl, hg, fun j z hz => ?_⟩⟩
  match j, hz with
  | 0, hz =>
    simp at hz
    subst hz
    refine ⟨c0, fun i u hu => ?_, h0⟩
    rw [e, Nat.zero_mul, Nat.zero_add]
    have hi := (List.getElem?_eq_some_iff.1 hu).1
    exact hcell i u (by rw [List.getElem?_append_left hi]; exact hu)
  | 1, hz =>
    simp at hz
    subst hz
    refine ⟨c1, fun i u hu => ?_, h1⟩
    rw [e, Nat.one_mul]
    exact hcell _ u (by rw [List.getElem?_append_right (by omega)]; simpa [l0] using hu)
  | j + 2, hz => simp at hz
end Go.Proofs.Ytpjanfkliaaflaa
namespace Go.Proofs.Ytpjanfkliaaflaa
open Go.RowKit

def TypIs (t : Typ) (w : World) (e : Ending) (w' : World) : Prop := e = .returned (.agg #[.int .i64 t.1, .int .i64 t.2]) ∧ Below w.heap.size w w'
theorem below_set2 {B R : Nat} {w W : World} {u v : Value} (h : Below B w W) (hR : B ≤ R) : Below B w ((W.setCell ⟨R, 0, none⟩ u).setCell ⟨R, 1, none⟩ v) := (h.setCell (p := ⟨R, 0, none⟩) hR u).setCell (p := ⟨R, 1, none⟩) hR v
theorem below_new (w : World) (o : Obj) : Below w.heap.size w (w.alloc o) := (Below.refl _ w).alloc (Nat.le_refl _) o

set_option maxRecDepth 100000 in
theorem plain_any (k : Int) (w : World) : Calls Try.prog 88 #[.int .i64 k] w (TypIs (k, 0) w) := by
  go_enter Try.func88, Try.ntmps88
  go_wp2_with fail
  exact bodyPost_ret (v := .agg #[.int .i64 k, .int .i64 0]) (by simp [results, Try.results88, go_sem]) rfl ⟨rfl, below_new _ _⟩

set_option maxRecDepth 100000 in
theorem takes_any (A : Option Addr) (n c : Nat) (w : World) : Calls Try.prog 89 #[.slice A n c] w fun e w' => e = .returned (.agg #[.slice A n c, .slice none 0 0]) ∧ Below w.heap.size w w' := by
  go_enter Try.func89, Try.ntmps89
  go_wp2_with fail
  exact bodyPost_ret (v := .agg #[.slice A n c, .slice none 0 0]) (by simp [results, Try.results89, go_sem]) rfl ⟨rfl, below_new _ _⟩

set_option maxRecDepth 100000 in
theorem puts_any (A B : Option Addr) (n c m d : Nat) (w : World) : Calls Try.prog 90 #[.agg #[.slice A n c, .slice none 0 0], .slice B m d] w fun e w' => e = .returned (.agg #[.slice A n c, .slice B m d]) ∧ Below w.heap.size w w' := by
  go_enter Try.func90, Try.ntmps90
  go_wp2_with fail
  exact bodyPost_ret (v := .agg #[.slice A n c, .slice B m d]) (by simp [results, Try.results90, go_sem]) rfl ⟨rfl, (below_new _ _).alloc (by simp) _⟩

def topB (s : List Typ) (n : Nat) : Typ := if n < s.length then (s[s.length - 1 - n]?).getD (8, 0) else (8, 0)

set_option maxRecDepth 100000 in
theorem fromTop_any (A : Option Addr) (n c k : Nat) (ts : List Typ) (w : World) (hl : ts.length = n) (h : Sq typL (· < w.heap.size) w A ts) (hn : n ≤ 9223372036854775807) (hk : k ≤ 1) :
    Calls Try.prog 92 #[.slice A n c, .int .i64 (k : Nat)] w (TypIs (topB ts k) w) := by
  by_cases hkn : k < n
  · obtain ⟨t, ht⟩ : ∃ t, ts[n - 1 - k]? = some t := ⟨ts[n - 1 - k]'(by omega), List.getElem?_eq_getElem _⟩
    have HT : Hid (topB ts k = t) := by
      show topB ts k = t
      rw [topB, hl, if_pos hkn, ht]
      rfl
    obtain ⟨a, cs, rfl, hab, hc, hr⟩ := h.at ht
    obtain ⟨rfl, -, -⟩ := hr
    obtain ⟨j, hj⟩ : ∃ j : Nat, n - 1 - k = j := ⟨_, rfl⟩
    rw [hj] at hc
    have e1 : (n : Int) - 1 - (k : Int) = (j : Int) := by omega
    have j1 : (j : Int) < (n : Int) := by omega
    have k1 : ¬ ((n : Int) ≤ (k : Int)) := by omega
    have c0 := fun ob => (below_new w ob).cell (p := a.add (j * 2)) (by rw [addBlock]; exact hab) |>.trans (hc 0 _ rfl)
    have c1 := fun ob => (below_new w ob).cell (p := a.add (j * 2 + 1)) (by rw [addBlock]; exact hab) |>.trans (hc 1 _ rfl)
    rw [next_cell a (j * 2) 1 (by omega)] at c1
    clear hc h ht hl hj
    go_enter Try.func92, Try.ntmps92
    go_wp2_with fail
    exact bodyPost_ret (v := .agg #[.int .i64 t.1, .int .i64 t.2]) (by simp [results, Try.results92, go_sem]) rfl ⟨by rw [HT.out], below_new _ _⟩
  · have HT : Hid (topB ts k = (8, 0)) := by
      show topB ts k = (8, 0)
      rw [topB, hl, if_neg hkn]
    have hk3 : (n : Int) ≤ (k : Int) := by omega
    have HP := Lib.hid (fun w => plain_any 8 w)
    clear h hl
    go_enter Try.func92, Try.ntmps92
    go_wp2_with (first
      | (go_at_call 88
         refine (HP.out _).mono ?_
         rintro e w1 ⟨rfl, hb1⟩
         have HB := Lib.hid hb1
         obtain ⟨hc1, hf1⟩ := bcell hb1
         have hs1 : w.heap.size < w1.heap.size := (by have := hb1.size; simp at this; omega)
         clear hb1))
    exact bodyPost_ret (v := .agg #[.int .i64 8, .int .i64 0]) (by simp [results, Try.results92, go_sem, hc1, hs1]) rfl ⟨by rw [HT.out], below_set2 ((below_new _ _).trans (HB.out.mono (by simp))) (Nat.le_refl _)⟩

def hasB (n : Nat) (k : Int) : Bool := decide (0 ≤ k) && decide (k < (n : Int))
set_option maxRecDepth 100000 in
theorem hasT_any (A : Option Addr) (n c : Nat) (k : Int) (w : World) : Calls Try.prog 98 #[.slice A n c, .int .i64 k] w fun e w' => e = .returned (.bool (hasB n k)) ∧ w' = w := by
  unfold hasB
  by_cases h0 : 0 ≤ k
  · go_enter Try.func98, Try.ntmps98
    go_wp2_with fail
    go_ret
    exact ⟨by simp [h0], rfl⟩
  · go_enter Try.func98, Try.ntmps98
    go_wp2_with fail
    go_ret
    exact ⟨by simp [h0]; omega, rfl⟩
set_option maxRecDepth 100000 in
theorem hasF_any (A : Option Addr) (n c : Nat) (k : Int) (w : World) : Calls Try.prog 75 #[.slice A n c, .int .i64 k] w fun e w' => e = .returned (.bool (hasB n k)) ∧ w' = w := by
  unfold hasB
  by_cases h0 : 0 ≤ k
  · go_enter Try.func75, Try.ntmps75
    go_wp2_with fail
    go_ret
    exact ⟨by simp [h0], rfl⟩
  · go_enter Try.func75, Try.ntmps75
    go_wp2_with fail
    go_ret
    exact ⟨by simp [h0]; omega, rfl⟩
set_option maxRecDepth 100000 in
theorem hasI_any (A : Option Addr) (n c : Nat) (k : Int) (w : World) : Calls Try.prog 76 #[.slice A n c, .int .i64 k] w fun e w' => e = .returned (.bool (hasB n k)) ∧ w' = w := by
  unfold hasB
  by_cases h0 : 0 ≤ k
  · go_enter Try.func76, Try.ntmps76
    go_wp2_with fail
    go_ret
    exact ⟨by simp [h0], rfl⟩
  · go_enter Try.func76, Try.ntmps76
    go_wp2_with fail
    go_ret
    exact ⟨by simp [h0]; omega, rfl⟩
end Go.Proofs.Ytpjanfkliaaflaa
