/-
  Words for the document's own Flow: what it answers. Conditions: as each theorem says.
  What the document's own Rule comes to, of whatever hangs together. Conditions: as each theorem says.
  Words for the laws FlowHeights and FlowSteps. Conditions: as each theorem says.
  Words for the law FlowSteps. Conditions: as each theorem says.
-/
import Derived.Test.YtlfcglolehmmiaaQ04
import Derived.Test.YtlfcglolehmmiaaQ10
import Derived.Test.YtlfcglolehmmiaaQ11
import Derived.Test.YtlfcglolehmmiaaQ23
import Derived.Test.YtlfcglolehmmiaaQ25
import Derived.Test.YtlfcglolehmmiaaQ26
import Derived.Test.YtlfcglolehmmiaaQ28
import Derived.Test.YtlfcglolehmmiaaQ29
import Derived.Test.YtlfcglolehmmiaaQ30
import Derived.Test.YtlfcglolehmmiaaQ31
import Derived.Test.YtlfcglolehmmiaaQ32
import Derived.Test.YtlfcglolehmmiaaQ33
import Derived.Test.YtlfcglolehmmiaaQ34
import Derived.Test.YtlfcglolehmmiaaQ35
import Derived.Test.YtlfcglolehmmiaaQ36
import Derived.Test.YtlfcglolehmmiaaQ37
import Derived.OwnWalk
namespace Go.Proofs.Ytlfcglolehmmiaa
open Go.RowKit
set_option linter.unusedSimpArgs false
set_option linter.unusedVariables false

/-- What Rule comes to, of whatever hangs together. -/
def RuleAny : Prop := ∀ (A0 A1 A2 A3 A4 P0 P1 P2 D : Option Addr) (n0 n1 n2 n3 n4 d0 d1 d2 d3 d4 ua ul uc c0 c1 c2 k g : Nat) (x : Mod) (f : Fn) (ts : List Typ) (o ia ib : Int) (w : World), Cx w A0 A1 A2 A3 A4 P0 P1 P2 D n0 n1 n2 n3 n4 d0 d1 d2 d3 d4 ua ul uc c0 c1 c2 k g x f ts → goodI o ia ib = true → namedB x f (o, ia, ib) = true → k ≤ g → g ≤ 9223372036854775807 → Calls Try.prog 17 #[.agg #[.slice A0 n0 d0, .slice A1 n1 d1, .slice A2 n2 d2, .slice A3 n3 d3, .slice A4 n4 d4], .agg #[.slice P0 ua c0, .int .i64 f.ret.1, .int .i64 f.ret.2, .slice P1 ul c1, .slice P2 uc c2], .agg #[.int .i64 o, .int .i64 ia, .int .i64 ib], .slice D k g] w (Ruled (ruleB x f (o, ia, ib) ts) w)
/-- It answers an error, a stack, and where it goes on. -/
def RFlows (r : Int × List Typ × List Int) (w : World) (e : Ending) (w' : World) : Prop :=
  Below w.heap.size w w' ∧ ∃ A c B d, e = .returned (.tuple #[.slice A r.2.1.length c, .slice B r.2.2.length d, .int .i64 r.1]) ∧ tysL.R (· < w'.heap.size) w' [.slice A r.2.1.length c] r.2.1 ∧ ∀ j x, r.2.2[j]? = some x → ∃ a, B = some a ∧ a.block < w'.heap.size ∧ w'.cell? (a.add j) = some (.int .i64 x)
theorem rflows_none {er : Int} {r : Int × List Typ × List Int} {w w' : World} (hr : r = (er, [], [])) (h : Below w.heap.size w w') : RFlows r w (.returned (.tuple #[.slice none 0 0, .slice none 0 0, .int .i64 er])) w' := by
  subst hr
  exact ⟨h, none, 0, none, 0, rfl, nil_sl _ _ _, fun j x hx => by simp at hx⟩
theorem ruled_none {w w' : World} {e : Ending} (h : Ruled none w e w') : e = .returned (.tuple #[.slice none 0 0, .slice none 0 0, .bool false]) ∧ Below w.heap.size w w' := by
  obtain ⟨hb, ⟨-, he⟩ | ⟨_, _, _, _, _, _, _, _, hn, -⟩⟩ := h
  · exact ⟨he, hb⟩
  · cases hn
theorem ruled_some {ins outs : List Typ} {w w' : World} {e : Ending} (h : Ruled (some (ins, outs)) w e w') : Below w.heap.size w w' ∧ ∃ A c B d, e = .returned (.tuple #[.slice A ins.length c, .slice B outs.length d, .bool true]) ∧ Sq typL (· < w'.heap.size) w' A ins ∧ Sq typL (· < w'.heap.size) w' B outs := by
  obtain ⟨hb, ⟨hn, -⟩ | ⟨i2, o2, A, n, c, B, m, d, hs, he, ⟨A2, c2, e2, -, -, s2⟩, ⟨B2, d2, e3, -, -, s3⟩⟩⟩ := h
  · cases hn
  · simp only [Option.some.injEq, Prod.mk.injEq] at hs
    obtain ⟨rfl, rfl⟩ := hs
    simp only [List.cons.injEq, Value.slice.injEq, and_true] at e2 e3
    obtain ⟨rfl, rfl, rfl⟩ := e2
    obtain ⟨rfl, rfl, rfl⟩ := e3
    exact ⟨hb, _, _, _, _, he, s2, s3⟩
theorem rule_len {x : Mod} {f : Fn} {i : Ins} {s ins outs : List Typ} (hc : checkN x = 0) (h : ruleB x f i s = some (ins, outs)) : ins.length ≤ 8 ∧ outs.length ≤ 8 := by
  by_cases h6 : i.1 = 6
  · cases hs : s.reverse with
    | nil => simp [ruleB, h6, hs] at h
    | cons t r => simp [ruleB, h6, hs] at h; obtain ⟨rfl, rfl⟩ := h; simp
  by_cases h7 : i.1 = 7
  · cases hs : s.reverse with
    | nil => simp [ruleB, h7, hs] at h
    | cons t r =>
      cases r with
      | nil => simp [ruleB, h7, hs] at h
      | cons y r => simp [ruleB, h7, hs] at h; obtain ⟨rfl, rfl⟩ := h; simp
  by_cases h41 : i.1 = 41
  · cases hs : s.reverse with
    | nil => simp [ruleB, h41, hs] at h
    | cons t r =>
      by_cases h5 : t.1 = 5
      · simp [ruleB, h41, hs, h5] at h; obtain ⟨rfl, rfl⟩ := h; simp
      · simp [ruleB, h41, hs, h5] at h
  have hl := chg_len (f := f) (i := i) (s := s) hc
  simp only [chgB, h6, h7, h41, if_false, h] at hl
  exact hl
theorem ins_none {x : Mod} {f : Fn} {i : Ins} {p : Nat} {s : List Typ} (h : ruleB x f i s = none) : insB8 x f i p s = (4, [], []) := by simp [insB8, h]
theorem ins_mov {x : Mod} {f : Fn} {i : Ins} {p : Nat} {s ins outs : List Typ} (h : ruleB x f i s = some (ins, outs)) (h' : movB s ins outs = none) : insB8 x f i p s = (4, [], []) := by simp [insB8, h, h']
theorem ins_last {x : Mod} {f : Fn} {i : Ins} {p : Nat} {s ins outs t : List Typ} (h : ruleB x f i s = some (ins, outs)) (h' : movB s ins outs = some t) (hn : nextB f i p = none) : insB8 x f i p s = (1, [], []) := by simp [insB8, h, h', hn]
theorem ins_next {x : Mod} {f : Fn} {i : Ins} {p : Nat} {s ins outs t : List Typ} {l : List Int} (h : ruleB x f i s = some (ins, outs)) (h' : movB s ins outs = some t) (hn : nextB f i p = some l) : insB8 x f i p s = (0, t, l) := by simp [insB8, h, h', hn]
/-- The answer of a stack that the call owns, and of numbers that were just laid. -/
theorem rflows_at {r : Int × List Typ × List Int} {t : List Typ} {l : List Int} {N : Nat} {w V w' : World} {v : Value} {n n' g : Nat} {cs : Array Value} (hr : r = (0, t, l)) (ho : V.ownsRow N 39 2 v n (T2 t)) (ha : A64 t) (hV : Below w.heap.size w V) (hw : Below V.heap.size V w') (hg : Blk w' g 3 cs) (hcs : cs.toList = Is l) (hl : l.length = n') : RFlows r w (.returned (.tuple #[v, .slice (some ⟨g, 0, none⟩) n' n', .int .i64 0])) w' := by
  subst hr hl
  obtain ⟨A, c, rfl, hn, h1, h2, h3⟩ := own_sq ho ha
  have e : ∀ i, (⟨g, 0, none⟩ : Addr).add i = ⟨g, i, none⟩ := fun i => by unfold Addr.add; split <;> simp_all
  subst hn
  refine ⟨hV.trans (hw.mono hV.size), A, c, _, _, rfl, ⟨A, c, rfl, h1, h2, (h3.keep fun b hb => hw.block b hb.2).wide fun b hb => Nat.lt_of_lt_of_le hb.2 hw.size⟩, fun j x hx => ⟨_, rfl, hg.lt, ?_⟩⟩
  rw [e, hg.cell j, ← Is_get hx, ← hcs]
  simp
theorem rflows_ret {r : Int × List Typ × List Int} {t : List Typ} {N n : Nat} {w V : World} {v : Value} (hr : r = (0, t, [])) (ho : V.ownsRow N 39 2 v n (T2 t)) (ha : A64 t) (hV : Below w.heap.size w V) : RFlows r w (.returned (.tuple #[v, .slice none 0 0, .int .i64 0])) V := by
  subst hr
  obtain ⟨A, c, rfl, hn, h1, h2, h3⟩ := own_sq ho ha
  subst hn
  exact ⟨hV, A, c, none, 0, rfl, ⟨A, c, rfl, h1, h2, h3.wide fun b hb => hb.2⟩, fun j x hx => by simp at hx⟩
end Go.Proofs.Ytlfcglolehmmiaa
namespace Go.Proofs.Ytlfcglolehmmiaa
open Go.RowKit
set_option linter.unusedSimpArgs false
set_option linter.unusedVariables false

theorem rrule_any : RuleAny := by
  intro A0 A1 A2 A3 A4 P0 P1 P2 D n0 n1 n2 n3 n4 d0 d1 d2 d3 d4 ua ul uc c0 c1 c2 k g x f ts o ia ib w H hg hn hkg hg9
  obtain ⟨o1, j, l, rfl, rfl, rfl, ho, hj, hl, -, -, -⟩ := goodI_parts hg
  by_cases h3 : o1 = 3
  · subst h3
    exact rule_Rrk A0 A1 A2 A3 A4 P0 P1 P2 D n0 n1 n2 n3 n4 d0 d1 d2 d3 d4 ua ul uc c0 c1 c2 k g x f ts 3 j l w H hj hl hkg hg9 (.inl (rfl))
  by_cases h4 : o1 = 4
  · subst h4
    exact rule_Rrk A0 A1 A2 A3 A4 P0 P1 P2 D n0 n1 n2 n3 n4 d0 d1 d2 d3 d4 ua ul uc c0 c1 c2 k g x f ts 4 j l w H hj hl hkg hg9 (.inr (.inl (rfl)))
  by_cases h26 : o1 = 26
  · subst h26
    exact rule_Rrk A0 A1 A2 A3 A4 P0 P1 P2 D n0 n1 n2 n3 n4 d0 d1 d2 d3 d4 ua ul uc c0 c1 c2 k g x f ts 26 j l w H hj hl hkg hg9 (.inr (.inr (.inl (rfl))))
  by_cases h25 : o1 = 25
  · subst h25
    simp [namedB] at hn
    obtain ⟨q, hq⟩ : ∃ q, x.funcs[j]? = some q := ⟨x.funcs[j]'(by omega), List.getElem?_eq_getElem _⟩
    exact rule_Rrk A0 A1 A2 A3 A4 P0 P1 P2 D n0 n1 n2 n3 n4 d0 d1 d2 d3 d4 ua ul uc c0 c1 c2 k g x f ts 25 j l w H hj hl hkg hg9 (.inr (.inr (.inr (.inl (⟨rfl, q, hq⟩)))))
  by_cases h27 : o1 = 27
  · subst h27
    simp [namedB] at hn
    obtain ⟨q, hq⟩ : ∃ q, x.imps[j]? = some q := ⟨x.imps[j]'(by omega), List.getElem?_eq_getElem _⟩
    exact rule_Rrk A0 A1 A2 A3 A4 P0 P1 P2 D n0 n1 n2 n3 n4 d0 d1 d2 d3 d4 ua ul uc c0 c1 c2 k g x f ts 27 j l w H hj hl hkg hg9 (.inr (.inr (.inr (.inr (⟨rfl, q, hq⟩)))))
  by_cases h28 : o1 = 28
  · subst h28
    simp [namedB] at hn
    obtain ⟨r, hr⟩ : ∃ r, x.recs[j]? = some r := ⟨x.recs[j]'(by omega), List.getElem?_eq_getElem _⟩
    exact rule_Rrl A0 A1 A2 A3 A4 P0 P1 P2 D n0 n1 n2 n3 n4 d0 d1 d2 d3 d4 ua ul uc c0 c1 c2 k g x f ts 28 j l w H hj hl hkg hg9 (.inl (⟨rfl, r, hr⟩))
  by_cases h29 : o1 = 29
  · subst h29
    simp [namedB] at hn
    cases hr : x.recs[j]? with
    | none => rw [hr] at hn; simp at hn
    | some r =>
      rw [hr] at hn
      simp at hn
      obtain ⟨t, ht⟩ : ∃ t, r[l]? = some t := ⟨r[l]'(by omega), List.getElem?_eq_getElem _⟩
      exact rule_Rrl A0 A1 A2 A3 A4 P0 P1 P2 D n0 n1 n2 n3 n4 d0 d1 d2 d3 d4 ua ul uc c0 c1 c2 k g x f ts 29 j l w H hj hl hkg hg9 (.inr (.inl (⟨rfl, r, t, hr, ht⟩)))
  by_cases h30 : o1 = 30
  · subst h30
    simp [namedB] at hn
    cases hr : x.recs[j]? with
    | none => rw [hr] at hn; simp at hn
    | some r =>
      rw [hr] at hn
      simp at hn
      obtain ⟨t, ht⟩ : ∃ t, r[l]? = some t := ⟨r[l]'(by omega), List.getElem?_eq_getElem _⟩
      exact rule_Rrl A0 A1 A2 A3 A4 P0 P1 P2 D n0 n1 n2 n3 n4 d0 d1 d2 d3 d4 ua ul uc c0 c1 c2 k g x f ts 30 j l w H hj hl hkg hg9 (.inr (.inr (.inl (⟨rfl, r, t, hr, ht⟩))))
  by_cases h6 : o1 = 6
  · subst h6
    by_cases hk : k = 0
    · exact rule_Rrl A0 A1 A2 A3 A4 P0 P1 P2 D n0 n1 n2 n3 n4 d0 d1 d2 d3 d4 ua ul uc c0 c1 c2 k g x f ts 6 j l w H hj hl hkg hg9 (.inr (.inr (.inr (.inl (⟨rfl, hk⟩)))))
    · exact rule_6 A0 A1 A2 A3 A4 P0 P1 P2 D n0 n1 n2 n3 n4 d0 d1 d2 d3 d4 ua ul uc c0 c1 c2 k g x f ts j l w H hj hl (by omega) hkg hg9
  by_cases h7 : o1 = 7
  · subst h7
    by_cases hk : k < 2
    · exact rule_Rrl A0 A1 A2 A3 A4 P0 P1 P2 D n0 n1 n2 n3 n4 d0 d1 d2 d3 d4 ua ul uc c0 c1 c2 k g x f ts 7 j l w H hj hl hkg hg9 (.inr (.inr (.inr (.inr (.inl (⟨rfl, hk⟩))))))
    · exact rule_7 A0 A1 A2 A3 A4 P0 P1 P2 D n0 n1 n2 n3 n4 d0 d1 d2 d3 d4 ua ul uc c0 c1 c2 k g x f ts j l w H hj hl (by omega) hkg hg9
  by_cases h41 : o1 = 41
  · subst h41
    by_cases hk : k = 0
    · exact rule_Rrl A0 A1 A2 A3 A4 P0 P1 P2 D n0 n1 n2 n3 n4 d0 d1 d2 d3 d4 ua ul uc c0 c1 c2 k g x f ts 41 j l w H hj hl hkg hg9 (.inr (.inr (.inr (.inr (.inr (⟨rfl, hk⟩))))))
    · obtain ⟨t, ht⟩ : ∃ t, ts[k - 1]? = some t := ⟨ts[k - 1]'(by rw [H.hk]; omega), List.getElem?_eq_getElem _⟩
      by_cases h5 : t.1 = 5
      · exact rule_41y A0 A1 A2 A3 A4 P0 P1 P2 D n0 n1 n2 n3 n4 d0 d1 d2 d3 d4 ua ul uc c0 c1 c2 k g x f ts j l w H hj hl (by omega) hkg hg9 fun t' ht' => by
          rw [ht] at ht'
          injection ht' with e
          exact e ▸ h5
      · exact rule_41n A0 A1 A2 A3 A4 P0 P1 P2 D n0 n1 n2 n3 n4 d0 d1 d2 d3 d4 ua ul uc c0 c1 c2 k g x f ts j l w H hj hl (by omega) hkg hg9 fun t' ht' => by
          rw [ht] at ht'
          injection ht' with e
          exact e ▸ h5
  by_cases ha : o1 = 0 ∨ o1 = 1 ∨ o1 = 2 ∨ o1 = 5 ∨ o1 = 22 ∨ o1 = 23 ∨ o1 = 24 ∨ o1 = 31 ∨ o1 = 32
  · exact rule_Rra A0 A1 A2 A3 A4 P0 P1 P2 D n0 n1 n2 n3 n4 d0 d1 d2 d3 d4 ua ul uc c0 c1 c2 k g x f ts (o1 : Int) j l w H hj hl (by omega)
  by_cases hb : o1 = 33 ∨ o1 = 34 ∨ o1 = 35 ∨ o1 = 36 ∨ o1 = 37
  · exact rule_Rrb A0 A1 A2 A3 A4 P0 P1 P2 D n0 n1 n2 n3 n4 d0 d1 d2 d3 d4 ua ul uc c0 c1 c2 k g x f ts (o1 : Int) j l w H hj hl (by omega)
  · exact rule_Rrj A0 A1 A2 A3 A4 P0 P1 P2 D n0 n1 n2 n3 n4 d0 d1 d2 d3 d4 ua ul uc c0 c1 c2 k g x f ts (o1 : Int) j l w H hj hl (by omega)
end Go.Proofs.Ytlfcglolehmmiaa
namespace Go.Proofs.Ytlfcglolehmmiaa
open Go.RowKit
set_option linter.unusedSimpArgs false
set_option linter.unusedVariables false

/-- Where flow's Flow comes to a stack there are a function and an instruction that takes what is there. -/
theorem flow_zero {x : Mod} {fi pc : Int} {ts t : List Typ} {l : List Int} (h : flowB x fi pc ts = (0, t, l)) : ∃ (j p : Nat) (fn : Fn) (o ia ib : Int) (ins outs : List Typ), checkN x = 0 ∧ fi = (j : Int) ∧ pc = (p : Int) ∧ x.funcs[j]? = some fn ∧ fn.code[p]? = some (o, ia, ib) ∧
    ruleB x fn (o, ia, ib) ts = some (ins, outs) ∧ ins.length ≤ ts.length ∧ ts.length - ins.length + outs.length ≤ 8 ∧ t = ts.take (ts.length - ins.length) ++ outs := by
  unfold flowB at h
  split at h
  · simp at h
  · rename_i hc
    split at h
    · simp at h
    · rename_i fn hfn
      split at h
      · simp at h
      · rename_i i hi
        unfold insB8 at h
        split at h
        · simp at h
        · rename_i ins outs hr
          split at h
          · simp at h
          · rename_i t2 hm
            split at h
            · simp at h
            · simp only [Prod.mk.injEq, true_and] at h
              unfold movB at hm
              split at hm
              · rename_i h3
                injection hm with hm
                refine ⟨fi.toNat, pc.toNat, fn, i.1, i.2.1, i.2.2, ins, outs, by omega, by omega, by omega, hfn, hi, hr, h3.1, h3.2.1, ?_⟩
                rw [hm]
                exact h.1.symm
              · cases hm
theorem own_none {w : World} {b ty k n c : Nat} {xs : List Value} (h : w.ownsRow b ty k (.slice none n c) n xs) : n = 0 ∧ c = 0 := by
  rcases h.2 with ⟨e, h0⟩ | ⟨_, _, _, e, _⟩
  · injection e with _ _ e3
    exact ⟨h0, e3⟩
  · cases e
/-- The document's Types over two slices of types. -/
theorem types_below (A B : Option Addr) (n m c d : Nat) (xs ys : List Typ) (w : World) (S T : Nat → Prop) (hl : xs.length = n) (hm : ys.length = m) (h : Sq typL S w A xs) (h' : Sq typL T w B ys) (hn2 : n ≤ 9223372036854775807) (hm2 : m ≤ 9223372036854775807) :
    Calls Try.prog 11 #[.slice A n c, .slice B m d] w fun e w' => e = .returned (.bool (eqB xs ys)) ∧ Below w.heap.size w w' := by
  refine (refTypes_any A B n m c d xs ys w S T hl hm h h' hn2 hm2).mono ?_
  rintro e w' ⟨he, q, rfl⟩
  exact ⟨he, below_drewN w q⟩
end Go.Proofs.Ytlfcglolehmmiaa
namespace Go.Proofs.Ytlfcglolehmmiaa
open Go.RowKit
set_option linter.unusedSimpArgs false
set_option linter.unusedVariables false

/-- The document's Types of a copy that the call owns, and of what was copied. -/
theorem own_types {w w3 w4 : World} {N k b3 : Nat} {Q3 D : Option Addr} {ts : List Typ} (ho : w3.ownsRow N 39 2 (.slice Q3 k b3) k (T2 ts)) (ha : A64 ts) (hb : Below w3.heap.size w3 w4) (hw : Below w.heap.size w w4) (hs : ∀ v, Below w.heap.size w v → Sq typL (· < v.heap.size) v D ts) (hk : ts.length = k) (bk : k ≤ 1000) (g : Nat) :
    Calls Try.prog 11 #[.slice Q3 k b3, .slice D k g] w4 fun e w' => e = .returned (.bool true) ∧ Below w4.heap.size w4 w' := by
  obtain ⟨A, c, e, -, -, -, hsq⟩ := own_sq (raw_below ho hb (Nat.le_refl _)) ha
  simp only [Value.slice.injEq] at e
  obtain ⟨rfl, -, rfl⟩ := e
  have := types_below Q3 D k k b3 g ts ts w4 _ _ hk hk hsq (hs w4 hw) (by omega) (by omega)
  rwa [eqB_self] at this
/-- The document's Types of two stacks that are the same. -/
theorem same_types {w4 w7 : World} {N c d : Nat} {V A : Option Addr} {t : List Typ} (ho : w4.ownsRow N 39 2 (.slice V t.length c) t.length (T2 t)) (ha : A64 t) (hb : Below w4.heap.size w4 w7) (h : tysL.R (· < w7.heap.size) w7 [.slice A t.length d] t) :
    Calls Try.prog 11 #[.slice V t.length c, .slice A t.length d] w7 fun e w' => e = .returned (.bool true) ∧ Below w7.heap.size w7 w' := by
  obtain ⟨A2, c2, e, -, -, -, hsq⟩ := own_sq (raw_below ho hb (Nat.le_refl _)) ha
  simp only [Value.slice.injEq] at e
  obtain ⟨rfl, -, rfl⟩ := e
  obtain ⟨A3, c3, e, h1, h2, hsq2⟩ := h
  simp only [List.cons.injEq, Value.slice.injEq, and_true] at e
  obtain ⟨rfl, -, rfl⟩ := e
  unfold maxLen at h2
  have := types_below V A t.length t.length c d t t w7 _ _ rfl rfl hsq hsq2 (by omega) (by omega)
  rwa [eqB_self] at this
end Go.Proofs.Ytlfcglolehmmiaa
