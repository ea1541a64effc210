/-
  Ctt Fonw Fcp Ffo Ffp Vm
-/
import Derived.Test.YtikhhcmfjncabaaGreatQ03
import Derived.Test.YtikhhcmfjncabaaGreatQ08
import Derived.Deep.RegionHeld3
import Derived.Deep.RegionWith
import Derived.Lib.QuietBelow
import Derived.BigQuiet
set_option linter.unusedSimpArgs false
set_option linter.unusedVariables false
namespace Go.Proofs.YtikhhcmfjncabaaGreat
open Go.RowKit

set_option maxRecDepth 100000 in
set_option maxHeartbeats 400000 in
theorem grow_tys (n : Nat) (w : World) (hn : n ≤ 1000000000) :
    Calls Tryz.prog 110 #[.slice none 0 0, .int .i64 (n : Nat)] w fun e w' => ∃ v, e = .returned v ∧ w'.ownsRow w.heap.size 41 2 v 0 (T2 []) ∧ Below w.heap.size w w' := by
  rcases Nat.eq_zero_or_pos n with h | h
  · subst h
    go_enter Tryz.func110, Tryz.ntmps110
    go_wp2
    go_ret
    exact ⟨_, rfl, World.ownsRow_nil _ _ _ _, Below.refl _ _⟩
  · go_enter Tryz.func110, Tryz.ntmps110
    go_wp2_with (at_builtin
                 refine walk_make_tys _ rfl (.tmp 20) (.tmp 21) rfl n h hn rfl rfl ?_
                 intro G w1 hG hG2 hown hb
                 have hG3 : G ≤ 9223372036854775807 := by unfold maxLen at hG2; omega
                 have HO := Lib.hid hown
                 clear hown hG2)
    go_ret
    exact ⟨_, rfl, HO.out, hb⟩

theorem flatT_le (xss : List (List Typ)) (k : Nat) : (xss.take k).flatten.length ≤ xss.flatten.length := by
  conv => rhs; rw [← List.take_append_drop k xss, List.flatten_append]
  rw [List.length_append]
  omega
theorem flatT_take {xss : List (List Typ)} {k : Nat} {x : List Typ} (h : xss[k]? = some x) : (xss.take (k + 1)).flatten = (xss.take k).flatten ++ x := by
  obtain ⟨hk, rfl⟩ := List.getElem?_eq_some_iff.1 h
  rw [List.take_succ_eq_append_getElem hk, List.flatten_append]
  simp

set_option maxRecDepth 100000 in
set_option maxHeartbeats 1000000 in
theorem concat_tys (A : Option Addr) (n c : Nat) (xss : List (List Typ)) (w : World) (hl : xss.length = n) (hR : Sq tysL (· < w.heap.size) w A xss) (hn : xss.flatten.length ≤ 1000000) (hn2 : n ≤ 1000000) :
    Calls Tryz.prog 84 #[.slice A n c] w fun e w' => ∃ v, e = .returned v ∧ w'.ownsRow w.heap.size 41 2 v xss.flatten.length (T2 xss.flatten) ∧ Below w.heap.size w w' := by
  have HL := Lib.hid hl
  have HR := Lib.hid hR
  clear hl hR
  go_enter Tryz.func84, Tryz.ntmps84
  go_wp2_with fail
  go_loop [3, 11] (fun s i => ∃ k : Nat, k ≤ n ∧ i = .int .i64 (k : Nat) ∧ s = .int .i64 (((xss.take k).flatten.length : Nat) : Int)) (fun _ i => n - (intOf i).toNat)
  case atStart => exact ⟨0, Nat.zero_le _, rfl, by simp⟩
  case round =>
    obtain ⟨k, hk, rfl, rfl⟩ := hrel
    have hle := flatT_le xss k
    obtain ⟨m, hm⟩ : ∃ m, (xss.take k).flatten.length = m := ⟨_, rfl⟩
    rw [hm] at hle ⊢
    have HM := Lib.hid hm
    clear hm
    by_cases hlt : k < n
    · obtain ⟨x, hx⟩ : ∃ x, xss[k]? = some x := ⟨xss[k]'(by rw [HL.out]; exact hlt), List.getElem?_eq_getElem _⟩
      obtain ⟨a, cs, rfl, hab, hc, hr⟩ := HR.out.at hx
      obtain ⟨A2, d2, rfl, -, -, -⟩ := hr
      have hcell := one_cell (K := tysL.k) rfl (hc 0 _ rfl)
      clear hc
      have HF := Lib.hid (flatT_take hx)
      have hle2 := flatT_le xss (k + 1)
      rw [HF.out, List.length_append, HM.out] at hle2
      clear hx
      go_wp2_with fail
      refine ⟨⟨k + 1, by omega, by simp, ?_⟩, by simp [intOf]; omega⟩
      rw [HF.out, List.length_append, HM.out]
      simp
    · obtain rfl : k = n := by omega
      have HE : Hid (m = xss.flatten.length) := by
        show m = xss.flatten.length
        rw [← HM.out, List.take_of_length_le (by rw [HL.out]; exact Nat.le_refl _)]
      go_wp2_with fail
      refine (grow_tys m w (by omega)).mono ?_
      rintro e w1 ⟨v1, rfl, hown1, hb1⟩
      have HO1 := Lib.hid hown1
      have HB1 := Lib.hid hb1
      clear hown1 hb1
      go_wp2_with fail
      go_loopw [6, 27] (fun s i wr => ∃ j : Nat, j ≤ k ∧ i = .int .i64 (j : Nat) ∧ wr.ownsRow w.heap.size 41 2 s (xss.take j).flatten.length (T2 (xss.take j).flatten) ∧ Below w.heap.size w wr) (fun _ i _ => k - (intOf i).toNat)
      case atStart => exact ⟨0, Nat.zero_le _, rfl, by simpa using HO1.out, HB1.out⟩
      case round =>
        obtain ⟨j, hj, rfl, hown, hbel⟩ := hrel
        have HO := Lib.hid hown
        have HB := Lib.hid hbel
        have hs := hbel.size
        clear hown hbel
        have hlej := flatT_le xss j
        by_cases hlt2 : j < k
        · obtain ⟨x, hx⟩ : ∃ x, xss[j]? = some x := ⟨xss[j]'(by rw [HL.out]; exact hlt2), List.getElem?_eq_getElem _⟩
          obtain ⟨a, cs, rfl, hab, hc, hr⟩ := HR.out.at hx
          obtain ⟨A2, d2, rfl, -, -, hsq⟩ := hr
          have hcell2 := (HB.out.cell (p := a.add j) (by rw [addBlock]; exact hab)).trans (one_cell (K := tysL.k) rfl (hc 0 _ rfl))
          clear hc
          have HF := Lib.hid (flatT_take hx)
          have hle2 := flatT_le xss (j + 1)
          rw [HF.out, List.length_append] at hle2
          have HY := Lib.hid hsq
          clear hx hsq
          obtain ⟨q, hq⟩ : ∃ q, (xss.take j).flatten = q := ⟨_, rfl⟩
          have HQ := Lib.hid hq
          have HO2 : Hid (wr.ownsRow w.heap.size 41 2 u6 q.length (T2 q)) := by
            show wr.ownsRow w.heap.size 41 2 u6 q.length (T2 q)
            rw [← hq]; exact HO.out
          rw [hq] at hle2 hlej
          clear hq HO
          go_wp2_with (at_builtin
                       refine walk_append_tys _ rfl (.tmp 31) (.tmp 32) rfl w.heap.size u6 q.length q rfl HO2.out A2 x.length d2 x rfl rfl (· < w.heap.size) (HY.out.below HB.out (Nat.le_refl _)) (by omega) hs ?_
                       intro v2 w2 hown2 hg2 _
                       have HO3 := Lib.hid hown2
                       clear hown2)
          refine ⟨⟨j + 1, by omega, by simp, ?_, HB.out.grown hg2 hs (fun i hi => (HO2.out.lt i hi).1)⟩, by simp [intOf]; omega⟩
          rw [HF.out, HQ.out, List.length_append]
          exact HO3.out
        · obtain rfl : j = k := by omega
          go_wp2_with fail
          go_ret
          refine ⟨_, rfl, ?_, HB.out⟩
          have := HO.out
          rw [List.take_of_length_le (by rw [HL.out]; exact Nat.le_refl _)] at this
          exact this
end Go.Proofs.YtikhhcmfjncabaaGreat
namespace Go.Proofs.YtikhhcmfjncabaaGreat
open Go.RowKit

def Moved (r : Option (List Typ)) (w : World) (e : Ending) (w' : World) : Prop :=
  Below w.heap.size w w' ∧ ((r = none ∧ e = .returned (.tuple #[.slice none 0 0, .bool false])) ∨ ∃ t v, r = some t ∧ e = .returned (.tuple #[v, .bool true]) ∧ w'.ownsRow w.heap.size 41 2 v t.length (T2 t))
theorem movB_few {s ins outs : List Typ} (h : s.length < ins.length) : movB s ins outs = none := by
  rw [movB, if_neg]
  omega
theorem movB_not {s ins outs : List Typ} {b : Nat} (hb : s.length - ins.length = b) (h : belowT (s.drop b) ins = false) : movB s ins outs = none := by
  rw [movB, if_neg]
  rw [hb, h]
  simp
theorem movB_many {s ins outs : List Typ} {b : Nat} (hb : s.length - ins.length = b) (h : 8 < b + outs.length) : movB s ins outs = none := by
  rw [movB, if_neg]
  omega
theorem movB_yes {s ins outs : List Typ} {b : Nat} (hb : s.length - ins.length = b) (hl : ins.length ≤ s.length) (h : belowT (s.drop b) ins = true) (h8 : b + outs.length ≤ 8) : movB s ins outs = some (s.take b ++ outs) := by
  rw [movB, hb, if_pos ⟨hl, h8, h⟩]
theorem sq_from {S : Nat → Prop} {w : World} {D : Option Addr} {ts : List Typ} {b : Nat} (h : Sq typL S w D ts) (D' : Option Addr) (h' : b < ts.length → D' = D.map (·.add (b * 2))) : Sq typL S w D' (ts.drop b) := fun hn => by
  have hl : (ts.drop b).length = ts.length - b := by simp
  rw [h' (by omega)]
  exact h.drop b hn
end Go.Proofs.YtikhhcmfjncabaaGreat
namespace Go.Proofs.YtikhhcmfjncabaaGreat
open Go.RowKit

theorem topB_0 {s r : List Typ} {x : Typ} (h : s.reverse = x :: r) : topB s 0 = x := by
  have e : s = r.reverse ++ [x] := by rw [← List.reverse_reverse s, h]; simp
  subst e
  simp [topB]
theorem topB_1 {s r : List Typ} {x y : Typ} (h : s.reverse = x :: y :: r) : topB s 1 = y := by
  have e : s = r.reverse ++ [y, x] := by rw [← List.reverse_reverse s, h]; simp
  subst e
  simp [topB]
def chgB (m : Mod) (f : Fn) (i : Ins) (s : List Typ) : List Typ × List Typ :=
  if i.1 = 6 then ([topB s 0], [topB s 0, topB s 0])
  else if i.1 = 7 then ([topB s 1, topB s 0], [topB s 0, topB s 1])
  else if i.1 = 41 then ([(5, (topB s 0).2)], [])
  else (ruleB m f i s).getD ([], [])
theorem ite_some {α : Type} {c : Prop} [Decidable c] {a b : Option α} (ha : ∃ p, a = some p) (hb : ∃ p, b = some p) : ∃ p, (if c then a else b) = some p := by
  split
  · exact ha
  · exact hb
theorem rule_some {m : Mod} {f : Fn} {i : Ins} {s : List Typ} (h0 : 0 ≤ i.2.1) (hn : namedB m f i = true) (h6 : i.1 ≠ 6) (h7 : i.1 ≠ 7) (h41 : i.1 ≠ 41) : ∃ p, ruleB m f i s = some p := by
  by_cases h25 : i.1 = 25
  · simp [namedB, h25] at hn
    have hj : i.2.1.toNat < m.funcs.length := by omega
    exact ⟨(_, _), by simp [ruleB, h25, hj]; exact ⟨rfl, rfl⟩⟩
  by_cases h27 : i.1 = 27
  · simp [namedB, h27] at hn
    have hj : i.2.1.toNat < m.imps.length := by omega
    exact ⟨(_, _), by simp [ruleB, h27, hj]; exact ⟨rfl, rfl⟩⟩
  by_cases h28 : i.1 = 28
  · simp [namedB, h28] at hn
    have hj : i.2.1.toNat < m.recs.length := by omega
    exact ⟨(_, _), by simp [ruleB, h28, hj]; exact ⟨rfl, rfl⟩⟩
  · simp only [ruleB, h6, h7, h41, h25, h27, h28, if_false]
    repeat (first | refine ite_some ⟨_, rfl⟩ ?_ | exact ⟨_, rfl⟩)
theorem rule_chg {m : Mod} {f : Fn} {i : Ins} {s : List Typ} (h0 : 0 ≤ i.2.1) (hn : namedB m f i = true) : (match ruleB m f i s with | none => none | some p => movB s p.1 p.2) = movB s (chgB m f i s).1 (chgB m f i s).2 := by
  by_cases h6 : i.1 = 6
  · cases hs : s.reverse with
    | nil =>
      obtain rfl : s = [] := by simpa using hs
      rw [movB_few (by simp [chgB, h6])]
      simp [ruleB, h6]
    | cons x r => simp [ruleB, chgB, h6, hs, topB_0 hs]
  by_cases h7 : i.1 = 7
  · cases hs : s.reverse with
    | nil =>
      obtain rfl : s = [] := by simpa using hs
      rw [movB_few (by simp [chgB, h7])]
      simp [ruleB, h7]
    | cons x r =>
      cases r with
      | nil =>
        have hl : s.length = 1 := by rw [← List.length_reverse, hs]; rfl
        rw [movB_few (by simp [chgB, h7, hl])]
        simp [ruleB, h7, hs]
      | cons y r => simp [ruleB, chgB, h7, hs, topB_0 hs, topB_1 hs]
  by_cases h41 : i.1 = 41
  · cases hs : s.reverse with
    | nil =>
      obtain rfl : s = [] := by simpa using hs
      rw [movB_few (by simp [chgB, h41])]
      simp [ruleB, h41]
    | cons x r =>
      have e : s = r.reverse ++ [x] := by rw [← List.reverse_reverse s, hs]; simp
      by_cases h5 : x.1 = 5
      · have ex : (5, x.2) = x := Prod.ext h5.symm rfl
        simp [ruleB, chgB, h41, hs, topB_0 hs, h5, ex]
      · have hb : belowT (s.drop (s.length - 1)) [(5, x.2)] = false := by
          subst e
          simp [belowT, subT, subB, refB, h5]
        rw [movB_not (b := s.length - 1) (by simp [chgB, h41]) (by simpa [chgB, h41, topB_0 hs] using hb)]
        simp [ruleB, h41, hs, h5]
  · obtain ⟨p, hp⟩ := rule_some (s := s) h0 hn h6 h7 h41
    simp [chgB, h6, h7, h41, hp]
theorem ins_chg {m : Mod} {f : Fn} {i : Ins} {pc : Nat} {s : List Typ} (h0 : 0 ≤ i.2.1) (hn : namedB m f i = true) :
    insB8 m f i pc s = (match movB s (chgB m f i s).1 (chgB m f i s).2 with | none => (4, [], []) | some t => match nextB f i pc with | none => (1, [], []) | some l => (0, t, l)) := by
  rw [← rule_chg h0 hn, insB8]
  cases ruleB m f i s with
  | none => rfl
  | some p => rfl
end Go.Proofs.YtikhhcmfjncabaaGreat
namespace Go.Proofs.YtikhhcmfjncabaaGreat
open Go.RowKit

def follB (i : Ins) (pc : Int) : List Int := if i.1 = 26 then [] else if i.1 = 23 then [i.2.1] else if i.1 = 24 then [pc + 1, i.2.1] else [pc + 1]
def Nums (l : List Int) (w : World) (e : Ending) (w' : World) : Prop := Below w.heap.size w w' ∧ ∃ v, e = .returned v ∧ w'.ownsRow w.heap.size 3 1 v l.length (Is l)
theorem nums_one {w : World} {g N : Nat} {x : Int} (h : Blk w g 3 #[.int .i64 x]) (hg : N ≤ g) : w.ownsRow N 3 1 (.slice (some ⟨g, 0, none⟩) 1 1) 1 (Is [x]) :=
  ⟨rfl, .inr ⟨g, 1, _, rfl, hg, h, Nat.le_refl _, by simp [maxLen], rfl, rfl⟩⟩
theorem nums_two {w : World} {g N : Nat} {x y : Int} (h : Blk w g 3 #[.int .i64 x, .int .i64 y]) (hg : N ≤ g) : w.ownsRow N 3 1 (.slice (some ⟨g, 0, none⟩) 2 2) 2 (Is [x, y]) :=
  ⟨rfl, .inr ⟨g, 2, _, rfl, hg, h, Nat.le_refl _, by simp [maxLen], rfl, rfl⟩⟩

set_option maxRecDepth 100000 in
set_option maxHeartbeats 1000000 in
theorem follow_any (o a b pc : Int) (w : World) (hp : 0 ≤ pc) (hp2 : pc ≤ 1000000) : Calls Tryz.prog 46 #[.agg #[.int .i64 o, .int .i64 a, .int .i64 b], .int .i64 pc] w (Nums (follB (o, a, b) pc) w) := by
  by_cases h26 : o = 26
  · subst h26
    go_enter Tryz.func46, Tryz.ntmps46
    go_wp2_with fail
    go_ret
    exact ⟨below_new _ _, _, rfl, ⟨rfl, .inl ⟨rfl, rfl⟩⟩⟩
  by_cases h23 : o = 23
  · subst h23
    go_enter Tryz.func46, Tryz.ntmps46
    go_wp2_with fail
    go_ret
    exact ⟨(below_new _ _).alloc (by simp) _, _, rfl, nums_one (blk_at (by simp)) (by simp)⟩
  by_cases h24 : o = 24
  · subst h24
    go_enter Tryz.func46, Tryz.ntmps46
    go_wp2_with fail
    go_ret
    exact ⟨(below_new _ _).alloc (by simp) _, _, rfl, nums_two (blk_at (by simp)) (by simp)⟩
  · have e26 : (o == 26) = false := by simpa using h26
    have e23 : (o == 23) = false := by simpa using h23
    have e24 : (o == 24) = false := by simpa using h24
    have HF : Hid (follB (o, a, b) pc = [pc + 1]) := by show follB _ _ = _; simp [follB, h26, h23, h24]
    clear h26 h23 h24
    go_enter Tryz.func46, Tryz.ntmps46
    go_wp2_with fail
    go_ret
    refine ⟨(below_new _ _).alloc (by simp) _, _, rfl, ?_⟩
    rw [HF.out]
    exact nums_one (blk_at (by simp)) (by simp)

set_option maxRecDepth 100000 in
set_option maxHeartbeats 1000000 in
theorem index_ints (A : Option Addr) (n c : Nat) (l : List Int) (y : Int) (w : World) (hl : l.length = n) (hn : n ≤ 1000) (h : ∀ j x, l[j]? = some x → ∃ a, A = some a ∧ w.cell? (a.add j) = some (.int .i64 x)) :
    Calls Tryz.prog 85 #[.slice A n c, .int .i64 y] w fun e w' => ∃ z : Int, e = .returned (.int .i64 z) ∧ w' = w ∧ (0 ≤ z ↔ y ∈ l) := by
  have HL := Lib.hid hl
  have HS := Lib.hid h
  clear hl h
  go_enter Tryz.func85, Tryz.ntmps85
  go_wp2_with fail
  go_loop [8] (fun i => ∃ k : Nat, k ≤ n ∧ i = .int .i64 (k : Nat) ∧ ¬ y ∈ l.take k) (fun i => n - (intOf i).toNat)
  case atStart => exact ⟨0, Nat.zero_le _, rfl, by simp⟩
  case round =>
    obtain ⟨k, hk, rfl, hno⟩ := hrel
    have HN := Lib.hid hno
    clear hno
    by_cases hlt : k < n
    · obtain ⟨x, hx⟩ : ∃ x, l[k]? = some x := ⟨l[k]'(by rw [HL.out]; exact hlt), List.getElem?_eq_getElem _⟩
      obtain ⟨a, rfl, hc⟩ := HS.out k x hx
      have HX := Lib.hid hx
      clear hx
      by_cases hxy : y = x
      · subst hxy
        go_wp2_with fail
        go_ret
        exact ⟨_, rfl, rfl, fun _ => List.mem_of_getElem? HX.out, fun _ => by simp⟩
      · have e1 : (y == x) = false := by simpa using hxy
        have HXY := Lib.hid hxy
        clear hxy
        go_wp2_with fail
        refine ⟨⟨k + 1, by omega, by simp, ?_⟩, by simp [intOf]; omega⟩
        obtain ⟨hk2, e⟩ := List.getElem?_eq_some_iff.1 HX.out
        rw [List.take_succ_eq_append_getElem hk2, e]
        simp only [List.mem_append, List.mem_singleton, not_or]
        exact ⟨HN.out, HXY.out⟩
    · obtain rfl : k = n := by omega
      go_wp2_with fail
      go_ret
      refine ⟨_, rfl, rfl, fun h => absurd h (by omega), fun h => absurd h ?_⟩
      have := HN.out
      rwa [List.take_of_length_le (by rw [HL.out]; exact Nat.le_refl _)] at this

set_option maxRecDepth 100000 in
theorem contains_ints (A : Option Addr) (n c : Nat) (l : List Int) (y : Int) (w : World) (hl : l.length = n) (hn : n ≤ 1000) (h : ∀ j x, l[j]? = some x → ∃ a, A = some a ∧ w.cell? (a.add j) = some (.int .i64 x)) :
    Calls Tryz.prog 47 #[.slice A n c, .int .i64 y] w fun e w' => e = .returned (.bool (decide (y ∈ l))) ∧ w' = w := by
  have HI := Lib.hid (index_ints A n c l y w hl hn h)
  clear h hl hn
  go_enter Tryz.func47, Tryz.ntmps47
  go_wp2_with fail
  refine (HI.out).mono ?_
  rintro e w1 ⟨z, rfl, rfl, hz⟩
  have HZ := Lib.hid hz
  clear hz
  go_wp2_with fail
  go_ret
  refine ⟨?_, rfl⟩
  have : decide (0 ≤ z) = decide (y ∈ l) := by rw [decide_eq_decide]; exact HZ.out
  rw [← this]
  rfl
theorem own_ints {w : World} {N n : Nat} {v : Value} {l : List Int} (h : w.ownsRow N 3 1 v n (Is l)) : ∃ A c, v = .slice A n c ∧ n = l.length ∧ n ≤ c ∧ (∀ j x, l[j]? = some x → ∃ a, A = some a ∧ N ≤ a.block ∧ a.block < w.heap.size ∧ w.cell? (a.add j) = some (.int .i64 x)) := by
  have hn : n = l.length := by have := h.1; rw [Is_length] at this; omega
  rcases h.2 with ⟨rfl, h0⟩ | ⟨g, cap, cur, rfl, hb, hg, hnc, hcm, _, _⟩
  · refine ⟨none, 0, by rw [h0], hn, by omega, fun j x hx => ?_⟩
    have := (List.getElem?_eq_some_iff.1 hx).1
    omega
  · exact ⟨some ⟨g, 0, none⟩, cap, rfl, hn, hnc, fun j x hx => ⟨_, rfl, hb, (Array.getElem?_eq_some_iff.1 hg).1, h.cells rfl j _ (Is_get hx)⟩⟩
end Go.Proofs.YtikhhcmfjncabaaGreat
namespace Go.Proofs.YtikhhcmfjncabaaGreat

theorem sane_fn {x : Mod} {fn : Fn} (h : checkN x = 0) (hf : fn ∈ x.funcs) : fn.args.length ≤ 4 ∧ fn.locs.length ≤ 8 ∧ fn.code.length ≤ 64 ∧ ∀ i ∈ fn.code, goodIn i = true ∧ namedB x fn i = true := by
  have hF := fitB_iff.1 (checkN_fit h)
  have ho := hF.funcs fn hf
  simp only [fnOk, Bool.and_eq_true, witB_iff] at ho
  have hb : badM x = false := by
    cases hb : badM x
    · rfl
    · rw [checkN_bad (checkN_fit h) hb] at h; cases h
  refine ⟨by omega, by omega, by omega, fun i hi => ⟨ho.2.2 i hi, ?_⟩⟩
  cases hn : namedB x fn i
  · rw [badFn_any hf (bad_code hi hn)] at hb; cases hb
  · rfl
theorem sane_imp {x : Mod} {p : Imp} (h : checkN x = 0) (hf : p ∈ x.imps) : p.args.length ≤ 4 := by
  have ho := (fitB_iff.1 (checkN_fit h)).imps p hf
  simp only [impOk, Bool.and_eq_true, witB_iff] at ho
  omega
theorem sane_rec {x : Mod} {r : List Typ} (h : checkN x = 0) (hf : r ∈ x.recs) : r.length ≤ 6 := by
  have ho := (fitB_iff.1 (checkN_fit h)).recs r hf
  simp only [recOk, witB_iff] at ho
  omega
def short2 (p : List Typ × List Typ) : Prop := p.1.length ≤ 8 ∧ p.2.length ≤ 8
theorem short_ite {c : Prop} [Decidable c] {a b : List Typ × List Typ} (ha : short2 a) (hb : short2 b) : short2 (if c then a else b) := by
  split
  · exact ha
  · exact hb
theorem short_iteo {c : Prop} [Decidable c] {a b : Option (List Typ × List Typ)} (ha : short2 (a.getD ([], []))) (hb : short2 (b.getD ([], []))) : short2 ((if c then a else b).getD ([], [])) := by
  split
  · exact ha
  · exact hb
theorem chg_len {x : Mod} {f : Fn} {i : Ins} {s : List Typ} (h : checkN x = 0) : short2 (chgB x f i s) := by
  have e0 : short2 ((none : Option (List Typ × List Typ)).getD ([], [])) := ⟨by simp, by simp⟩
  unfold chgB
  refine short_ite ⟨by simp, by simp⟩ (short_ite ⟨by simp, by simp⟩ (short_ite ⟨by simp, by simp⟩ ?_))
  unfold ruleB
  repeat (first
    | (refine short_iteo ?_ ?_
       (first
        | (refine ⟨?_, ?_⟩ <;> (simp <;> done))
        | (split
           · rename_i g hg
             first
             | exact ⟨by have := (sane_fn h (List.mem_of_getElem? hg)).1; simp; omega, by simp⟩
             | exact ⟨by have := sane_imp h (List.mem_of_getElem? hg); simp; omega, by simp⟩
             | exact ⟨by have := sane_rec h (List.mem_of_getElem? hg); simp; omega, by simp⟩
           · exact e0)
        | (split <;> first | exact e0 | (refine ⟨?_, ?_⟩ <;> (simp <;> done)) | (split <;> first | exact e0 | (refine ⟨?_, ?_⟩ <;> (simp <;> done))))))
    | (refine ⟨?_, ?_⟩ <;> (simp <;> done)))
theorem next_foll {x : Mod} {f : Fn} {i : Ins} {p : Nat} (hn : namedB x f i = true) (hp : p < f.code.length) : nextB f i p = if ((f.code.length : Nat) : Int) ∈ follB i (p : Int) then none else some (follB i (p : Int)) := by
  unfold nextB follB
  by_cases h26 : i.1 = 26
  · simp [h26]
  by_cases h23 : i.1 = 23
  · simp [namedB, h23] at hn
    simp [h23]
    omega
  by_cases h24 : i.1 = 24
  · simp [namedB, h24] at hn
    by_cases hq : f.code.length ≤ p + 1
    · have hq2 : ((f.code.length : Nat) : Int) = (p : Int) + 1 := by omega
      simp [h24, hq, hq2]
    · have hq2 : ¬ ((f.code.length : Nat) : Int) = (p : Int) + 1 := by omega
      have hq3 : ¬ ((f.code.length : Nat) : Int) = i.2.1 := by omega
      simp [h24, hq, hq2, hq3]
  · simp only [h26, h23, h24, if_false, List.mem_singleton]
    by_cases hq : f.code.length ≤ p + 1
    · rw [if_pos hq, if_pos (by omega)]
    · rw [if_neg hq, if_neg (by omega)]
end Go.Proofs.YtikhhcmfjncabaaGreat
namespace Go.Proofs.YtikhhcmfjncabaaGreat

def joinT (a b : Typ) : Typ := (joinK a.1 a.2 b.1 b.2, joinN a.1 a.2 b.1 b.2)
theorem subT_iff {a b : Typ} : subT a b = true ↔ (a = b ∨ b.1 = 8 ∨ (refB a.1 = true ∧ refB b.1 = true ∧ (a.1 = 6 ∨ b.1 = 7))) := by
  obtain ⟨a, a'⟩ := a
  obtain ⟨b, b'⟩ := b
  simp only [subT, subB, Bool.or_eq_true, Bool.and_eq_true, beq_iff_eq, Prod.mk.injEq]
  constructor
  · rintro ((h | h) | ⟨⟨h1, h2⟩, h3⟩)
    · exact .inl h
    · exact .inr (.inl h)
    · exact .inr (.inr ⟨h1, h2, h3⟩)
  · rintro (h | h | ⟨h1, h2, h3⟩)
    · exact .inl (.inl h)
    · exact .inl (.inr h)
    · exact .inr ⟨⟨h1, h2⟩, h3⟩
theorem joinT_cases (a b : Typ) : (subT a b = true ∧ joinT a b = b) ∨ (subT a b = false ∧ subT b a = true ∧ joinT a b = a) ∨ (subT a b = false ∧ subT b a = false ∧ refB a.1 = true ∧ refB b.1 = true ∧ joinT a b = (7, 0)) ∨ (subT a b = false ∧ subT b a = false ∧ ¬ (refB a.1 = true ∧ refB b.1 = true) ∧ joinT a b = (8, 0)) := by
  unfold joinT joinK joinN
  rw [show subB a.1 a.2 b.1 b.2 = subT a b from rfl, show subB b.1 b.2 a.1 a.2 = subT b a from rfl]
  cases h1 : subT a b
  · cases h2 : subT b a
    · cases h3 : refB a.1 <;> cases h4 : refB b.1 <;> simp
    · simp
  · simp
theorem join_right (a b : Typ) : subT b (joinT a b) = true := by
  rcases joinT_cases a b with ⟨_, e⟩ | ⟨_, h, e⟩ | ⟨_, _, _, h, e⟩ | ⟨_, _, _, e⟩ <;> rw [e]
  · exact subT_refl b
  · exact h
  · exact subT_iff.2 (.inr (.inr ⟨h, by decide, .inr rfl⟩))
  · exact subT_iff.2 (.inr (.inl rfl))
theorem join_least {a b c : Typ} (h1 : subT a c = true) (h2 : subT b c = true) : subT (joinT a b) c = true := by
  rcases joinT_cases a b with ⟨_, e⟩ | ⟨_, _, e⟩ | ⟨n1, n2, ra, rb, e⟩ | ⟨n1, n2, hr, e⟩ <;> rw [e]
  · exact h2
  · exact h1
  · rw [subT_iff] at h1 h2 ⊢
    rcases h1 with rfl | h1 | ⟨_, r1, h1⟩
    · rw [subT_iff.2 h2] at n2; cases n2
    · exact .inr (.inl h1)
    · rcases h2 with rfl | h2 | ⟨_, _, h2⟩
      · rw [subT_iff.2 (.inr (.inr ⟨ra, r1, h1⟩))] at n1; cases n1
      · exact .inr (.inl h2)
      · rcases h1 with h1 | h1
        · rw [subT_iff.2 (.inr (.inr ⟨ra, rb, .inl h1⟩))] at n1; cases n1
        · exact .inr (.inr ⟨by decide, r1, .inr h1⟩)
  · rw [subT_iff] at h1 h2 ⊢
    rcases h1 with rfl | h1 | ⟨ra, r1, h1⟩
    · rw [subT_iff.2 h2] at n2; cases n2
    · exact .inr (.inl h1)
    · rcases h2 with rfl | h2 | ⟨rb, _, _⟩
      · rw [subT_iff.2 (.inr (.inr ⟨ra, r1, h1⟩))] at n1; cases n1
      · exact .inr (.inl h2)
      · exact absurd ⟨ra, rb⟩ hr
def canT (t : Typ) : Prop := t.1 = 6 ∨ t.1 = 7 ∨ t.1 = 8 → t.2 = 0
theorem can_anti {a b : Typ} (ha : canT a) (hb : canT b) (h1 : subT a b = true) (h2 : subT b a = true) : a = b := by
  obtain ⟨a, a'⟩ := a
  obtain ⟨b, b'⟩ := b
  simp only [canT] at ha hb
  rw [subT_iff] at h1 h2
  simp only [Prod.mk.injEq, refB, Bool.or_eq_true, beq_iff_eq] at h1 h2 ⊢
  omega
theorem can_join {a b : Typ} (ha : canT a) (hb : canT b) : canT (joinT a b) := by
  rcases joinT_cases a b with ⟨_, e⟩ | ⟨_, _, e⟩ | ⟨_, _, _, _, e⟩ | ⟨_, _, _, e⟩ <;> rw [e]
  · exact hb
  · exact ha
  · intro _; rfl
  · intro _; rfl
def rkT (t : Typ) : Nat := if t.1 = 8 then 0 else if t.1 = 7 then 1 else if t.1 = 6 then 3 else 2
theorem rk_le (t : Typ) : rkT t ≤ 3 := by unfold rkT; repeat (first | (split; omega) | omega)
theorem rk_8 {t : Typ} (h : t.1 = 8) : rkT t = 0 := by simp [rkT, h]
theorem rk_7 {t : Typ} (h : t.1 = 7) : rkT t = 1 := by simp [rkT, h]
theorem rk_6 {t : Typ} (h : t.1 = 6) : rkT t = 3 := by simp [rkT, h]
theorem rk_pos {t : Typ} (h : ¬ t.1 = 8) : 1 ≤ rkT t := by
  unfold rkT
  rw [if_neg h]
  repeat (first | omega | split)
theorem rk_two {t : Typ} (h : ¬ t.1 = 8) (h' : ¬ t.1 = 7) : 2 ≤ rkT t := by
  unfold rkT
  rw [if_neg h, if_neg h']
  split <;> omega
theorem rk_low {t : Typ} (h : ¬ t.1 = 6) : rkT t ≤ 2 := by
  unfold rkT
  rw [if_neg h]
  repeat (first | omega | split)
theorem rk_join {a b : Typ} (ha : canT a) (hb : canT b) : joinT a b = a ∨ rkT (joinT a b) < rkT a := by
  rcases joinT_cases a b with ⟨h, e⟩ | ⟨_, _, e⟩ | ⟨n1, n2, ra, rb, e⟩ | ⟨n1, n2, hr, e⟩ <;> rw [e]
  · by_cases hab : a = b
    · exact .inl hab.symm
    · refine .inr ?_
      have same : a.1 = b.1 → a.1 = 6 ∨ a.1 = 7 ∨ a.1 = 8 → False := fun h1 h2 => hab (Prod.ext h1 ((ha h2).trans (hb (by rw [← h1]; exact h2)).symm))
      rcases subT_iff.1 h with h | h8 | ⟨ra, rb, h6⟩
      · exact absurd h hab
      · rw [rk_8 h8]
        exact rk_pos fun h1 => same (h1.trans h8.symm) (.inr (.inr h1))
      · have a8 : ¬ a.1 = 8 := fun h1 => by rw [h1] at ra; exact absurd ra (by decide)
        by_cases h1 : a.1 = 6
        · rw [rk_6 h1]
          have := rk_low (t := b) fun h2 => same (h1.trans h2.symm) (.inl h1)
          omega
        · have h7 : b.1 = 7 := h6.resolve_left h1
          rw [rk_7 h7]
          exact rk_two a8 fun h2 => same (h2.trans h7.symm) (.inr (.inl h2))
  · exact .inl rfl
  · refine .inr ?_
    have h7 : ¬ a.1 = 7 := fun h => by
      rw [subT_iff.2 (.inr (.inr ⟨rb, ra, .inr h⟩))] at n2
      cases n2
    have h8 : ¬ a.1 = 8 := fun h1 => by rw [h1] at ra; exact absurd ra (by decide)
    rw [rk_7 (t := (7, 0)) rfl]
    exact rk_two h8 h7
  · refine .inr ?_
    have h8 : ¬ a.1 = 8 := fun h => by
      rw [subT_iff.2 (.inr (.inl h))] at n2
      cases n2
    rw [rk_8 (t := (8, 0)) rfl]
    exact rk_pos h8

def joinL : List Typ → List Typ → List Typ
  | a :: xs, b :: ys => joinT a b :: joinL xs ys
  | _, _ => []
def canL (s : List Typ) : Prop := ∀ t ∈ s, canT t
def rkL : List Typ → Nat
  | [] => 0
  | t :: ts => rkT t + rkL ts
theorem joinL_len {a b : List Typ} (h : a.length = b.length) : (joinL a b).length = a.length := by
  induction a generalizing b with
  | nil => rfl
  | cons x a ih =>
    cases b with
    | nil => simp at h
    | cons y b => simp only [joinL, List.length_cons, ih (by simpa using h)]
theorem joinL_right {a b : List Typ} (h : a.length = b.length) : belowT b (joinL a b) = true := by
  induction a generalizing b with
  | nil => cases b <;> simp [belowT, joinL] at h ⊢
  | cons x a ih =>
    cases b with
    | nil => simp at h
    | cons y b => simp only [joinL, belowT, Bool.and_eq_true]; exact ⟨join_right x y, ih (by simpa using h)⟩
theorem joinL_least {a b c : List Typ} (h1 : belowT a c = true) (h2 : belowT b c = true) : belowT (joinL a b) c = true := by
  induction a generalizing b c with
  | nil =>
    cases c with
    | nil => cases b <;> simp [belowT, joinL] at h2 ⊢
    | cons z c => simp [belowT] at h1
  | cons x a ih =>
    cases c with
    | nil => simp [belowT] at h1
    | cons z c =>
      cases b with
      | nil => simp [belowT] at h2
      | cons y b =>
        simp only [belowT, joinL, Bool.and_eq_true] at h1 h2 ⊢
        exact ⟨join_least h1.1 h2.1, ih h1.2 h2.2⟩
theorem belowT_anti {a b : List Typ} (ha : canL a) (hb : canL b) (h1 : belowT a b = true) (h2 : belowT b a = true) : a = b := by
  induction a generalizing b with
  | nil => cases b <;> simp [belowT] at h1 ⊢
  | cons x a ih =>
    cases b with
    | nil => simp [belowT] at h1
    | cons y b =>
      simp only [belowT, Bool.and_eq_true] at h1 h2
      rw [can_anti (ha x (by simp)) (hb y (by simp)) h1.1 h2.1, ih (fun t ht => ha t (by simp [ht])) (fun t ht => hb t (by simp [ht])) h1.2 h2.2]
theorem canL_join {a b : List Typ} (ha : canL a) (hb : canL b) : canL (joinL a b) := by
  induction a generalizing b with
  | nil => intro t ht; cases b <;> simp [joinL] at ht
  | cons x a ih =>
    cases b with
    | nil => intro t ht; simp [joinL] at ht
    | cons y b =>
      intro t ht
      simp only [joinL, List.mem_cons] at ht
      rcases ht with rfl | ht
      · exact can_join (ha x (by simp)) (hb y (by simp))
      · exact ih (fun t ht => ha t (by simp [ht])) (fun t ht => hb t (by simp [ht])) t ht
theorem rkL_le (s : List Typ) : rkL s ≤ 3 * s.length := by
  induction s with
  | nil => simp [rkL]
  | cons t s ih =>
    have := rk_le t
    simp only [rkL, List.length_cons]
    omega
theorem rkL_join {a b : List Typ} (ha : canL a) (hb : canL b) (h : a.length = b.length) : joinL a b = a ∨ rkL (joinL a b) < rkL a := by
  have le : ∀ {a b : List Typ}, canL a → canL b → a.length = b.length → (joinL a b = a ∧ rkL (joinL a b) = rkL a) ∨ rkL (joinL a b) < rkL a := by
    intro a
    induction a with
    | nil => intro b _ _ _; exact .inl ⟨by cases b <;> rfl, by cases b <;> rfl⟩
    | cons x a ih =>
      intro b ha hb h
      cases b with
      | nil => simp at h
      | cons y b =>
        have i := ih (b := b) (fun t ht => ha t (by simp [ht])) (fun t ht => hb t (by simp [ht])) (by simpa using h)
        have j := rk_join (ha x (by simp)) (hb y (by simp))
        simp only [joinL, rkL]
        rcases i with ⟨i1, i2⟩ | i
        · rcases j with j | j
          · exact .inl ⟨by rw [i1, j], by rw [i2, j]⟩
          · exact .inr (by omega)
        · rcases j with j | j
          · exact .inr (by rw [j]; omega)
          · exact .inr (by omega)
  rcases le ha hb h with ⟨h, _⟩ | h
  · exact .inl h
  · exact .inr h
theorem joinL_same {a b : List Typ} (h : a.length = b.length) (hj : joinL a b = a) : belowT b a = true := by
  have := joinL_right h
  rwa [hj] at this

abbrev Shp := Nat → Option (List Typ)
def leO (a b : Option (List Typ)) : Prop := ∀ s, a = some s → ∃ r, b = some r ∧ belowT s r = true
def leS (S R : Shp) : Prop := ∀ p, leO (S p) (R p)
def okAt (m : Mod) (fn : Fn) (S : Shp) (p : Nat) : Prop := ∀ s, S p = some s → ∃ i t l, fn.code[p]? = some i ∧ insB8 m fn i p s = (0, t, l) ∧ ∀ k ∈ l, leO (some t) (S k.toNat)
structure RightF (m : Mod) (fn : Fn) (S : Shp) : Prop where
  zero : S 0 = some []
  at_ : ∀ p, p < fn.code.length → okAt m fn S p
structure Run (m : Mod) (fn : Fn) (S : Shp) : Prop where
  zero : S 0 = some []
  out : ∀ p, fn.code.length ≤ p → S p = none
  least : ∀ R, RightF m fn R → leS S R
  can : ∀ p s, S p = some s → canL s ∧ s.length ≤ 8
def S0 : Shp := fun p => if p = 0 then some [] else none
theorem run_begin {m : Mod} {fn : Fn} (h : 0 < fn.code.length) : Run m fn S0 := by
  refine ⟨rfl, fun p hp => ?_, fun R hR p s hs => ?_, fun p s hs => ?_⟩
  · unfold S0; rw [if_neg (by omega)]
  · unfold S0 at hs
    split at hs
    · rename_i hp
      subst hp
      injection hs with hs
      subst hs
      exact ⟨[], hR.zero, rfl⟩
    · cases hs
  · unfold S0 at hs
    split at hs
    · injection hs with hs
      subst hs
      exact ⟨fun t ht => by simp at ht, by simp⟩
    · cases hs
def Und (m : Mod) (fn : Fn) (p : Nat) (s : List Typ) : Prop := ∀ R, RightF m fn R → leO (some s) (R p)
theorem Run.und {m : Mod} {fn : Fn} {S : Shp} {p : Nat} {s : List Typ} (h : Run m fn S) (hs : S p = some s) : Und m fn p s := fun R hR => by
  have := h.least R hR p
  rwa [hs] at this
theorem run_flow {m : Mod} {fn : Fn} {R : Shp} {p : Nat} {s : List Typ} {i : Ins} (hR : RightF m fn R) (hs : Und m fn p s) (hi : fn.code[p]? = some i) : ∃ t l, insB8 m fn i p s = (0, t, l) ∧ ∀ k ∈ l, leO (some t) (R k.toNat) := by
  obtain ⟨r, hr, hb⟩ := hs R hR s rfl
  obtain ⟨i', t', l, hi', hf, ht⟩ := hR.at_ p (List.getElem?_eq_some_iff.1 hi).1 r hr
  rw [hi] at hi'
  injection hi' with hi'
  subst hi'
  obtain ⟨t, h1, h2⟩ := ins_below hb hf
  refine ⟨t, l, h1, fun k hk q hq => ?_⟩
  injection hq with hq
  subst hq
  obtain ⟨u, hu, h3⟩ := ht k hk t' rfl
  exact ⟨u, hu, belowT_trans h2 h3⟩
theorem run_error {m : Mod} {fn : Fn} {p : Nat} {s : List Typ} {i : Ins} (hs : Und m fn p s) (hi : fn.code[p]? = some i) (he : (insB8 m fn i p s).1 ≠ 0) : ¬ ∃ R, RightF m fn R := by
  rintro ⟨R, hR⟩
  obtain ⟨t, l, hf, -⟩ := run_flow hR hs hi
  rw [hf] at he
  exact he rfl
theorem run_heights {m : Mod} {fn : Fn} {S : Shp} {p k : Nat} {s t u : List Typ} {l : List Int} {i : Ins} (h : Run m fn S) (hs : Und m fn p s) (hi : fn.code[p]? = some i) (hf : insB8 m fn i p s = (0, t, l)) (hk : (k : Int) ∈ l) (hu : S k = some u) (hn : u.length ≠ t.length) : ¬ ∃ R, RightF m fn R := by
  rintro ⟨R, hR⟩
  obtain ⟨t', l', hf', ht⟩ := run_flow hR hs hi
  rw [hf] at hf'
  simp only [Prod.mk.injEq, true_and] at hf'
  obtain ⟨rfl, rfl⟩ := hf'
  obtain ⟨r, hr, h1⟩ := ht _ hk t rfl
  rw [Int.toNat_natCast] at hr
  obtain ⟨r', hr', h2⟩ := h.least R hR k u hu
  rw [hr] at hr'
  injection hr' with hr'
  subst hr'
  exact hn ((belowT_len h2).trans (belowT_len h1).symm)
def putS (S : Shp) (k : Nat) (s : List Typ) : Shp := fun p => if p = k then some s else S p
theorem putS_at (S : Shp) (k : Nat) (s : List Typ) : putS S k s k = some s := by simp [putS]
theorem putS_ne {S : Shp} {k p : Nat} {s : List Typ} (h : p ≠ k) : putS S k s p = S p := by simp [putS, h]
theorem run_new {m : Mod} {fn : Fn} {S : Shp} {p k : Nat} {s t : List Typ} {l : List Int} {i : Ins} (h : Run m fn S) (hs : Und m fn p s) (hi : fn.code[p]? = some i) (hf : insB8 m fn i p s = (0, t, l)) (hk : (k : Int) ∈ l) (hu : S k = none) (hc : canL t) (h8 : t.length ≤ 8) (hlt : k < fn.code.length) : Run m fn (putS S k t) := by
  have hk0 : (0 : Nat) ≠ k := fun e => by rw [← e, h.zero] at hu; cases hu
  refine ⟨by rw [putS_ne hk0]; exact h.zero, fun q hq => by rw [putS_ne (by omega)]; exact h.out q hq, fun R hR q => ?_, fun q r hq => ?_⟩
  · by_cases e : q = k
    · subst e
      rw [putS_at]
      obtain ⟨t', l', hf', ht⟩ := run_flow hR hs hi
      rw [hf] at hf'
      simp only [Prod.mk.injEq, true_and] at hf'
      obtain ⟨rfl, rfl⟩ := hf'
      have := ht _ hk
      rwa [Int.toNat_natCast] at this
    · rw [putS_ne e]
      exact h.least R hR q
  · by_cases e : q = k
    · subst e
      rw [putS_at] at hq
      injection hq with hq
      subst hq
      exact ⟨hc, h8⟩
    · rw [putS_ne e] at hq
      exact h.can q r hq
theorem run_join {m : Mod} {fn : Fn} {S : Shp} {p k : Nat} {s t u : List Typ} {l : List Int} {i : Ins} (h : Run m fn S) (hs : Und m fn p s) (hi : fn.code[p]? = some i) (hf : insB8 m fn i p s = (0, t, l)) (hk : (k : Int) ∈ l) (hu : S k = some u) (hn : u.length = t.length) (hc : canL t) : Run m fn (putS S k (joinL u t)) := by
  have hlt : k < fn.code.length := by
    rcases Nat.lt_or_ge k fn.code.length with h1 | h1
    · exact h1
    · rw [h.out k h1] at hu; cases hu
  refine ⟨?_, fun q hq => by rw [putS_ne (by omega)]; exact h.out q hq, fun R hR q => ?_, fun q r hq => ?_⟩
  · by_cases e : 0 = k
    · subst e
      rw [h.zero] at hu
      injection hu with hu
      subst hu
      rw [putS_at]
      cases t <;> rfl
    · rw [putS_ne e]
      exact h.zero
  · by_cases e : q = k
    · subst e
      rw [putS_at]
      obtain ⟨t', l', hf', ht⟩ := run_flow hR hs hi
      rw [hf] at hf'
      simp only [Prod.mk.injEq, true_and] at hf'
      obtain ⟨rfl, rfl⟩ := hf'
      obtain ⟨r, hr, h1⟩ := ht _ hk t rfl
      rw [Int.toNat_natCast] at hr
      obtain ⟨r', hr', h2⟩ := h.least R hR q u hu
      rw [hr] at hr'
      injection hr' with hr'
      subst hr'
      intro z hz
      injection hz with hz
      subst hz
      exact ⟨r, hr, joinL_least h2 h1⟩
    · rw [putS_ne e]
      exact h.least R hR q
  · by_cases e : q = k
    · subst e
      rw [putS_at] at hq
      injection hq with hq
      subst hq
      obtain ⟨h1, h2⟩ := h.can q u hu
      exact ⟨canL_join h1 hc, by rw [joinL_len hn]; exact h2⟩
    · rw [putS_ne e] at hq
      exact h.can q r hq
theorem run_same {m : Mod} {fn : Fn} {S T : Shp} (h : Run m fn S) (h' : Run m fn T) (hS : RightF m fn S) (hT : RightF m fn T) : ∀ p, S p = T p := fun p => by
  cases hs : S p with
  | none =>
    cases ht : T p with
    | none => rfl
    | some t =>
      obtain ⟨r, hr, -⟩ := h'.least S hS p t ht
      rw [hs] at hr
      cases hr
  | some s =>
    obtain ⟨t, ht, h1⟩ := h.least T hT p s hs
    obtain ⟨r, hr, h2⟩ := h'.least S hS p t ht
    rw [hs] at hr
    injection hr with hr
    subst hr
    rw [ht, belowT_anti (h.can p s hs).1 (h'.can p t ht).1 h1 h2]
def rkO : Option (List Typ) → Nat
  | none => 25
  | some s => rkL s
def rkS (S : Shp) : Nat → Nat
  | 0 => 0
  | n + 1 => rkS S n + rkO (S n)
theorem rkS_put {S : Shp} {k : Nat} {s : List Typ} (n : Nat) : rkS (putS S k s) n + (if k < n then rkO (S k) else 0) = rkS S n + (if k < n then rkL s else 0) := by
  induction n with
  | zero => simp [rkS]
  | succ n ih =>
    simp only [rkS]
    by_cases e : n = k
    · subst e
      rw [putS_at, if_pos (by omega), if_pos (by omega)]
      rw [if_neg (by omega), if_neg (by omega)] at ih
      show rkS (putS S n s) n + rkL s + rkO (S n) = rkS S n + rkO (S n) + rkL s
      omega
    · rw [putS_ne e]
      by_cases h : k < n
      · rw [if_pos h, if_pos h] at ih
        rw [if_pos (by omega), if_pos (by omega)]
        omega
      · rw [if_neg h, if_neg h] at ih
        rw [if_neg (by omega), if_neg (by omega)]
        omega
theorem rkS_new {S : Shp} {k n : Nat} {t : List Typ} (hk : k < n) (hu : S k = none) (h8 : t.length ≤ 8) : rkS (putS S k t) n < rkS S n := by
  have h := rkS_put (S := S) (k := k) (s := t) n
  rw [if_pos hk, if_pos hk, hu] at h
  have := rkL_le t
  simp only [rkO] at h
  omega
theorem rkS_join {S : Shp} {k n : Nat} {t u : List Typ} (hk : k < n) (hu : S k = some u) (ha : canL u) (hb : canL t) (hn : u.length = t.length) (hne : joinL u t ≠ u) : rkS (putS S k (joinL u t)) n < rkS S n := by
  have h := rkS_put (S := S) (k := k) (s := joinL u t) n
  rw [if_pos hk, if_pos hk, hu] at h
  have := (rkL_join ha hb hn).resolve_left hne
  simp only [rkO] at h
  omega
end Go.Proofs.YtikhhcmfjncabaaGreat
