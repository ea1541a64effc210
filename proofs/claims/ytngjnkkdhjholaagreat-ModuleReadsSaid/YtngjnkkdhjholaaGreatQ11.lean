/-
  What a num.Reader's Take does. Conditions: as each theorem says (where a Reader lies, what bytes it holds).
  Module's own reader: where it lies, what it can be, and what its refuse and count do. Conditions: as each theorem says.
  What kind's Get does with a good reader: what it takes, and which type it answers. Conditions: as the theorem says (where the Reader lies, what bytes it holds).
  What kind's Get does with a reader that is bad, or that does not hold two numbers. Conditions: as each theorem says (where the Reader lies, what bytes it holds).
  What module's reader does with one type and one instruction. Conditions: as each theorem says.
-/
import Derived.Test.YtngjnkkdhjholaaGreatQ02
import Derived.Test.YtngjnkkdhjholaaGreatQ03
import Derived.Test.YtngjnkkdhjholaaGreatQ04
import Derived.Test.YtngjnkkdhjholaaGreatQ09
import Derived.Test.YtngjnkkdhjholaaGreatQ10
import Derived.Deep.RegionHeld3
namespace Go.Proofs.YtngjnkkdhjholaaGreat
open Go.RowKit

set_option maxHeartbeats 400000 in
theorem take_nil (n : Int) (w : World) : Calls Tryz.prog 101 #[.pointer none, .int .i64 n] w fun e w' => e = .returned (.slice none 0 0) ∧ w = w' := by
  have q23 : ∀ (w : World) (a : Option Addr) (n c n' c' : Nat), (binOp .eql 31 (.slice a n c) (.slice none n' c')).run Tryz.prog w = .ok (.bool a.isNone) w := fun w a n c n' c' => Lib.run_eql_slice_nil w _ _ a n c n' c' Tryz.underlying31
  go_enter Tryz.func101, Tryz.ntmps101
  go_wp2_with (first | (go_at_call 100; refine (cut_nil _ _).mono ?_; rintro e w' ⟨rfl, rfl⟩) | go_in)
  go_ret
  exact ⟨rfl, rfl⟩

set_option maxHeartbeats 400000 in
theorem take_bad (g : Nat) (n : Int) (w : World) (h : Bad w g) : Calls Tryz.prog 101 #[.pointer (some ⟨g, 0, none⟩), .int .i64 n] w fun e w' => e = .returned (.slice none 0 0) ∧ w = w' := by
  have hc := Lib.hid (cut_bad g n w h)
  clear h
  go_enter Tryz.func101, Tryz.ntmps101
  go_wp2_with (first | (go_at_call 100; refine hc.out.mono ?_; rintro e w' ⟨rfl, rfl⟩) | (go_at_call 90; refine (clone_nil _).mono ?_; rintro e w' ⟨rfl, rfl⟩))
  go_ret
  exact ⟨rfl, rfl⟩

set_option maxHeartbeats 400000 in
theorem take_short (g : Nat) (n : Int) (xs : List Nat) (w : World) (h : Good w g xs) (hn : n < 0 ∨ (xs.length : Int) < n) :
    Calls Tryz.prog 101 #[.pointer (some ⟨g, 0, none⟩), .int .i64 n] w fun e w' => e = .returned (.slice none 0 0) ∧ Bad w' g ∧ Only g w w' := by
  have hc := Lib.hid (cut_short g n xs w h hn)
  clear h hn
  go_enter Tryz.func101, Tryz.ntmps101
  go_wp2_with (first | (go_at_call 100; refine hc.out.mono ?_; rintro e w' ⟨rfl, hB, hO⟩) | (go_at_call 90; refine (clone_nil _).mono ?_; rintro e w' ⟨rfl, rfl⟩))
  go_ret
  exact ⟨rfl, hB, hO⟩

set_option maxHeartbeats 400000 in
theorem take_ok (g : Nat) (k : Nat) (xs : List Nat) (w : World) (h : Good w g xs) (hk : k ≤ xs.length) (hn : k ≤ 140737488355328) :
    Calls Tryz.prog 101 #[.pointer (some ⟨g, 0, none⟩), .int .i64 (k : Nat)] w fun e w' => ∃ v, e = .returned v ∧ w'.ownsRow w.heap.size 5 1 v k (Bs (xs.take k)) ∧ Good w' g (xs.drop k) ∧ Only g w w' := by
  have hc := Lib.hid (cut_ok g k xs w h hk)
  have hg := h.lt
  have hl : (xs.take k).length = k := by simp; omega
  have HL := Lib.hid hl
  clear h hl
  go_enter Tryz.func101, Tryz.ntmps101
  go_wp2_with (first | (go_at_call 100; refine hc.out.mono ?_; rintro e w1 ⟨A, c, rfl, hB, hkc, _, hG, hO⟩; have HB := Lib.hid hB; have HG := Lib.hid hG; have HO := Lib.hid hO; clear hB hG hO)
                     | (go_at_call 90
                        refine (clone_any A k c (xs.take k) w1 HL.out (HB.out.wide fun b hb => by have := HO.out.size; omega) hn).mono ?_
                        rintro e w2 ⟨v, rfl, hown, hbel⟩))
  go_ret
  have hsz := HO.out.size
  have hown' : w2.ownsRow w.heap.size 5 1 v k (Bs (xs.take k)) := by
    refine ⟨hown.1, ?_⟩
    rcases hown.2 with h | ⟨g', cap, cur, e, hb, rest⟩
    · exact .inl h
    · exact .inr ⟨g', cap, cur, e, Nat.le_trans hsz hb, rest⟩
  exact ⟨v, rfl, hown', HG.out.below hbel HG.out.lt, only_trans HO.out (only_below hbel)⟩
end Go.Proofs.YtngjnkkdhjholaaGreat
namespace Go.Proofs.YtngjnkkdhjholaaGreat
open Go.RowKit
set_option linter.unusedSimpArgs false
set_option linter.unusedVariables false

/-- In block rb lies module's reader: its Reader is in block g, it has the lists v0 to v4 so far, and knows of r records. -/
def Mrd (w : World) (rb g : Nat) (v0 v1 v2 v3 v4 : Value) (r : Int) : Prop := rb ≠ g ∧ Blk w rb 80 #[.pointer (some ⟨g, 0, none⟩), v0, v1, v2, v3, v4, .int .i64 r]
theorem Mrd.only {w w' : World} {rb g : Nat} {v0 v1 v2 v3 v4 : Value} {r : Int} (h : Mrd w rb g v0 v1 v2 v3 v4 r) (ho : Only g w w') : Mrd w' rb g v0 v1 v2 v3 v4 r := ⟨h.1, only_blk ho h.2 h.1⟩
theorem Mrd.below {w w' : World} {rb g : Nat} {v0 v1 v2 v3 v4 : Value} {r : Int} (h : Mrd w rb g v0 v1 v2 v3 v4 r) (hb : Below w.heap.size w w') : Mrd w' rb g v0 v1 v2 v3 v4 r := ⟨h.1, (hb.block rb h.2.lt).trans h.2⟩
theorem Mrd.ptr {w : World} {rb g : Nat} {v0 v1 v2 v3 v4 : Value} {r : Int} (h : Mrd w rb g v0 v1 v2 v3 v4 r) : w.cell? ⟨rb, 0, none⟩ = some (.pointer (some ⟨g, 0, none⟩)) := by simpa using h.2.cell 0
theorem Mrd.recs {w : World} {rb g : Nat} {v0 v1 v2 v3 v4 : Value} {r : Int} (h : Mrd w rb g v0 v1 v2 v3 v4 r) : w.cell? ⟨rb, 6, none⟩ = some (.int .i64 r) := by simpa using h.2.cell 6

/-- The Reader in block g: bytes, or bad. -/
def St (w : World) (g : Nat) : Option (List Nat) → Prop
  | some xs => Good w g xs ∧ (∀ x ∈ xs, x < 256) ∧ xs.length ≤ 1000000
  | none => Bad w g
theorem St.lt {w : World} {g : Nat} {s : Option (List Nat)} (h : St w g s) : g < w.heap.size := by
  cases s with
  | none => exact Bad.lt h
  | some xs => exact h.1.lt
theorem St.rest {w w' : World} {g : Nat} {xs rest ys : List Nat} (h : St w g (some xs)) (e : xs = ys ++ rest) (hg : Good w' g rest) : St w' g (some rest) := by
  subst e
  refine ⟨hg, fun x hx => h.2.1 x (by simp [hx]), ?_⟩
  have := h.2.2
  simp at this
  omega
theorem St.below {w w' : World} {g : Nat} {s : Option (List Nat)} (h : St w g s) (hb : Below w.heap.size w w') : St w' g s := by
  have hl := h.lt
  cases s with
  | none => exact Bad.below h hb hl
  | some xs => exact ⟨h.1.below hb hl, h.2⟩
theorem St.low {w w' : World} {g B : Nat} {s : Option (List Nat)} (h : St w g s) (hb : Below B w w') (hl : g < B) : St w' g s := by
  cases s with
  | none => exact Bad.below h hb hl
  | some xs => exact ⟨h.1.below hb hl, h.2⟩
theorem Rdy.low {w w' : World} {g B : Nat} (h : Rdy w g) (hb : Below B w w') (hl : g < B) : Rdy w' g := by
  rcases h with ⟨xs, h⟩ | h
  · exact .inl ⟨xs, h.below hb hl⟩
  · exact .inr (h.below hb hl)
theorem St.rdy {w : World} {g : Nat} {s : Option (List Nat)} (h : St w g s) : Rdy w g := by
  cases s with
  | none => exact .inr h
  | some xs => exact .inl ⟨xs, h.1⟩

set_option maxHeartbeats 400000 in
theorem refuse_any (rb g : Nat) (v0 v1 v2 v3 v4 : Value) (r : Int) (w : World) (h : Mrd w rb g v0 v1 v2 v3 v4 r) (hr : Rdy w g) :
    Calls Tryz.prog 102 #[.pointer (some ⟨rb, 0, none⟩)] w fun e w' => e = .returned (.tuple #[]) ∧ Bad w' g ∧ Only g w w' := by
  have hp := h.ptr
  have HT : Hid (Calls Tryz.prog 101 #[.pointer (some ⟨g, 0, none⟩), .int .i64 (-1)] w fun e w' => e = .returned (.slice none 0 0) ∧ Bad w' g ∧ Only g w w') := by
    rcases hr with ⟨xs, hg⟩ | hb
    · exact take_short g (-1) xs w hg (.inl (by omega))
    · exact (take_bad g (-1) w hb).mono fun e w' ⟨h1, h2⟩ => by subst h2; exact ⟨h1, hb, only_refl _ _⟩
  clear h hr
  go_enter Tryz.func102, Tryz.ntmps102
  go_wp2_with (first
    | (go_at_call 101
       refine HT.out.mono ?_
       rintro e w1 ⟨rfl, hb1, ho1⟩))
  go_end0
  exact ⟨rfl, hb1, ho1⟩

/-- What count answers: how many, if that stands there and is within the bounds; else 0, and the Reader is bad. -/
def Counts (lo hi g : Nat) (s : Option (List Nat)) (w : World) (e : Ending) (w' : World) : Prop :=
  Only g w w' ∧ ∃ v : Nat, e = .returned (.int .i64 (v : Int)) ∧ v ≤ hi ∧ ((lo ≤ v ∧ ∃ xs rest, s = some xs ∧ xs = vb v ++ rest ∧ St w' g (some rest)) ∨ (v = 0 ∧ St w' g none ∧ ∀ xs, s = some xs → ¬ ∃ v rest, lo ≤ v ∧ v ≤ hi ∧ xs = vb v ++ rest))

theorem no_vb {xs : List Nat} (hn : ¬ ∃ v n, IsVar xs v n) (lo hi : Nat) (hhi : hi ≤ 1000) : ¬ ∃ v rest, lo ≤ v ∧ v ≤ hi ∧ xs = vb v ++ rest := by
  rintro ⟨v, rest, _, h2, rfl⟩
  exact hn ⟨v, _, isVar_app v (by unfold B64; omega) rest⟩
theorem not_vb {xs : List Nat} {v n lo hi : Nat} (hv : IsVar xs v n) (hhi : hi ≤ 1000) (h : ¬ (lo ≤ v ∧ v ≤ hi)) : ¬ ∃ v rest, lo ≤ v ∧ v ≤ hi ∧ xs = vb v ++ rest := by
  rintro ⟨u, rest, h1, h2, rfl⟩
  obtain ⟨rfl, _⟩ := isVar_unique hv (isVar_app u (by unfold B64; omega) rest)
  exact h ⟨h1, h2⟩

set_option maxRecDepth 100000 in
set_option maxHeartbeats 1000000 in
theorem count_any (rb g : Nat) (v0 v1 v2 v3 v4 : Value) (r : Int) (lo hi : Nat) (s : Option (List Nat)) (w : World) (h : Mrd w rb g v0 v1 v2 v3 v4 r) (hs : St w g s) (hlo : lo ≤ 1) (hhi : hi ≤ 1000) :
    Calls Tryz.prog 79 #[.pointer (some ⟨rb, 0, none⟩), .int .i64 (lo : Int), .int .i64 (hi : Int)] w (Counts lo hi g s w) := by
  have hp := h.ptr
  have HM := Lib.hid h
  have HR : Hid (∀ w1, Only g w w1 → Rdy w1 g → Calls Tryz.prog 102 #[.pointer (some ⟨rb, 0, none⟩)] w1 fun e w' => e = .returned (.tuple #[]) ∧ Bad w' g ∧ Only g w1 w') := fun w1 ho hr => refuse_any rb g v0 v1 v2 v3 v4 r w1 (HM.out.only ho) hr
  have HS := Lib.hid hs
  clear h
  by_cases hyes : ∃ xs v n, s = some xs ∧ IsVar xs v n
  · obtain ⟨xs, v, n, rfl, hv⟩ := hyes
    have HV : Hid (Calls Tryz.prog 77 #[.pointer (some ⟨g, 0, none⟩)] w fun e w' => e = .returned (.int .u64 (v : Nat)) ∧ Good w' g (xs.drop n) ∧ Only g w w') := rvar_ok g xs v n w hs.1 hs.2.1 hv (by have := hs.2.2; omega)
    have HI := Lib.hid hv
    by_cases hin : lo ≤ v ∧ v ≤ hi
    · obtain ⟨h1, h2⟩ := hin
      have h3 : ¬ v < lo := by omega
      have h4 : ¬ hi < v := by omega
      clear hs hv
      go_enter Tryz.func79, Tryz.ntmps79
      go_wp2_with (first
        | (go_at_call 77
           refine HV.out.mono ?_
           rintro e w1 ⟨rfl, hg1, ho1⟩
           have HG1 := Lib.hid hg1
           have HO1 := Lib.hid ho1
           clear hg1 ho1))
      go_ret
      exact ⟨HO1.out, v, rfl, h2, .inl ⟨h1, xs, _, rfl, isVar_split HI.out, HS.out.rest (isVar_split HI.out) HG1.out⟩⟩
    · have HIN := Lib.hid hin
      have hcase : v < lo ∨ (¬ v < lo ∧ hi < v) := by omega
      clear hs hv hin
      rcases hcase with h3 | ⟨h3, h4⟩
      all_goals
        go_enter Tryz.func79, Tryz.ntmps79
        go_wp2_with (first
          | (go_at_call 77
             refine HV.out.mono ?_
             rintro e w1 ⟨rfl, hg1, ho1⟩
             have HG1 := Lib.hid hg1
             have HO1 := Lib.hid ho1
             clear hg1 ho1)
          | (go_at_call 102
             refine (HR.out _ HO1.out (.inl ⟨_, HG1.out⟩)).mono ?_
             rintro e w2 ⟨rfl, hb2, ho2⟩))
        go_ret
        exact ⟨only_trans HO1.out ho2, 0, rfl, by omega, .inr ⟨rfl, hb2, fun xs' e => by injection e with e; subst e; exact not_vb HI.out hhi HIN.out⟩⟩
  · have HV : Hid (Calls Tryz.prog 77 #[.pointer (some ⟨g, 0, none⟩)] w fun e w' => e = .returned (.int .u64 0) ∧ Bad w' g ∧ Only g w w') := by
      cases s with
      | none => exact (rvar_bad g w hs).mono fun e w' ⟨h1, h2⟩ => by subst h2; exact ⟨h1, hs, only_refl _ _⟩
      | some xs => exact rvar_no g xs w hs.1 hs.2.1 (fun ⟨v, n, hv⟩ => hyes ⟨xs, v, n, rfl, hv⟩) (by have := hs.2.2; omega)
    have HNO : Hid (∀ xs, s = some xs → ¬ ∃ v rest, lo ≤ v ∧ v ≤ hi ∧ xs = vb v ++ rest) := fun xs e => no_vb (fun ⟨v, n, hv⟩ => hyes ⟨xs, v, n, e, hv⟩) lo hi hhi
    clear hs hyes
    by_cases h0 : 0 < lo
    · go_enter Tryz.func79, Tryz.ntmps79
      go_wp2_with (first
        | (go_at_call 77
           refine HV.out.mono ?_
           rintro e w1 ⟨rfl, hg1, ho1⟩
           have HG1 := Lib.hid hg1
           have HO1 := Lib.hid ho1
           clear hg1 ho1)
        | (go_at_call 102
           refine (HR.out _ HO1.out (.inr HG1.out)).mono ?_
           rintro e w2 ⟨rfl, hb2, ho2⟩))
      go_ret
      exact ⟨only_trans HO1.out ho2, 0, rfl, by omega, .inr ⟨rfl, hb2, HNO.out⟩⟩
    · obtain rfl : lo = 0 := by omega
      go_enter Tryz.func79, Tryz.ntmps79
      go_wp2_with (first
        | (go_at_call 77
           refine HV.out.mono ?_
           rintro e w1 ⟨rfl, hg1, ho1⟩
           have HG1 := Lib.hid hg1
           have HO1 := Lib.hid ho1
           clear hg1 ho1))
      go_ret
      exact ⟨HO1.out, 0, rfl, by omega, .inr ⟨rfl, HG1.out, HNO.out⟩⟩

/-- What a read of one thing answers: what stands there, if it does; else something, and the Reader is bad. -/
def Reads {α : Type} (L : Lay α) (V : List Value → Value) (f : α → List Nat) (gd : α → Prop) (g : Nat) (s : Option (List Nat)) (w : World) (e : Ending) (w' : World) : Prop :=
  Only g w w' ∧ ∃ cs x, e = .returned (V cs) ∧ L.R (fun b => w.heap.size ≤ b ∧ b < w'.heap.size) w' cs x ∧
    ((gd x ∧ ∃ xs rest, s = some xs ∧ xs = f x ++ rest ∧ St w' g (some rest)) ∨ (St w' g none ∧ ∀ xs, s = some xs → ¬ Has f gd xs))
end Go.Proofs.YtngjnkkdhjholaaGreat
namespace Go.Proofs.YtngjnkkdhjholaaGreat
open Go.RowKit
set_option linter.unusedSimpArgs false

/-- A Reader's bytes begin with two numbers. -/
def TwoVars (xs : List Nat) (a b : Nat) (rest : List Nat) : Prop := ∃ n m, IsVar xs a n ∧ IsVar (xs.drop n) b m ∧ rest = (xs.drop n).drop m


set_option maxHeartbeats 1000000 in
/-- The two numbers are there, and they make a good type, or not. -/
theorem kget_two (g : Nat) (xs rest : List Nat) (a b : Nat) (r : Int) (w : World) (h : Good w g xs) (hb : ∀ x ∈ xs, x < 256) (hl : xs.length ≤ 140737488355328) (ht : TwoVars xs a b rest) :
    Calls Tryz.prog 109 #[.pointer (some ⟨g, 0, none⟩), .int .i64 r] w fun e w' =>
      e = .returned (if a ≤ 8 ∧ b ≤ 255 ∧ goodB a b r = true then .tuple #[.agg #[.int .i64 (a : Nat), .int .i64 (b : Nat)], .bool true] else .tuple #[.agg #[.int .i64 0, .int .i64 0], .bool false]) ∧ Good w' g rest ∧ Only g w w' := by
  obtain ⟨n, m, h1, h2, hrest⟩ := ht
  have HE := Lib.hid hrest
  clear hrest
  have hg := h.lt
  have HG := Lib.hid h
  have Hb := Lib.hid hb
  have H1 := Lib.hid h1
  have H2 := Lib.hid h2
  have Hl : Hid ((xs.drop n).length ≤ 140737488355328) := by show (xs.drop n).length ≤ 140737488355328; simp; omega
  have Hbd : Hid (∀ x ∈ xs.drop n, x < 256) := fun x hx => hb x (List.mem_of_mem_drop hx)
  clear h hb h1 h2
  have hgw : w.heap.size ≠ g := by omega
  have KG := Lib.hid (fun w => kgood a b r w)
  by_cases ha : a ≤ 8
  · have e8 : decide (8 < a) = false := by simp; omega
    by_cases hb2 : b ≤ 255
    · have e255 : decide (255 < b) = false := by simp; omega
      cases hgd : goodB a b r
      · rw [if_neg (by simp)]
        rw [hgd] at KG
        clear hgd
        go_enter Tryz.func109, Tryz.ntmps109
        go_wp2_with (first
          | (go_at_call 55
             refine (KG.out _).mono ?_
             rintro e w3 ⟨rfl, hb3⟩
             have HB3 := Lib.hid hb3
             have hr3 := (hb3.block w.heap.size (by simp; omega)).trans ((Below.heap_alloc w2 _ _ rlt).trans HR2.out)
             have q0 := Blk.cell hr3 0
             have q1 := Blk.cell hr3 1
             have p0 := Blk.frozen hr3 0
             have p1 := Blk.frozen hr3 1
             simp at q0 q1
             clear hr3
             obtain ⟨hc3, hf3⟩ := bcell hb3
             have hs3 : w2.heap.size < w3.heap.size := (by have := hb3.size; simp at this; omega)
             clear hb3)
          | (go_at_call 43
             obtain ⟨A2, c2, hk2, -⟩ := HG2.out
             refine (bad_at g _ _ _ hk2).mono ?_
             rintro e w3 ⟨rfl, rfl⟩
             clear hk2)
          | (go_at_call 77
             have hp := HG1.out
             clear hp
             refine (rvar_ok g (xs.drop n) b m _ HG1.out Hbd.out H2.out Hl.out).mono ?_
             rintro e w2 ⟨rfl, hg2, ho2⟩
             rw [← HE.out] at hg2
             have HG2 := Lib.hid hg2
             have hr2 := only_blk ho2 HR1.out hgw
             have HR2 := Lib.hid hr2
             have r0 := hr2.cell 0
             have r1 := hr2.cell 1
             have f0 := hr2.frozen 0
             have f1 := hr2.frozen 1
             have rlt := hr2.lt
             simp at r0 r1
             have HO2 := Lib.hid (only_trans HO1.out ho2)
             clear hg2 ho2 hr2)
          | (go_at_call 77
             refine (rvar_ok g xs a n _ (HG.out.alloc _) Hb.out H1.out hl).mono ?_
             rintro e w1 ⟨rfl, hg1, ho1⟩
             have HG1 := Lib.hid hg1
             have HR1 := Lib.hid (only_blk ho1 (blk_new _ _ _) hgw)
             have HO1 := Lib.hid (only_trans (only_alloc _) ho1)
             clear hg1 ho1))
        refine bodyPost_ret (v := .tuple #[.agg #[.int .i64 0, .int .i64 0], .bool false]) (by simp [results, Tryz.results109, go_sem, q0, q1]) rfl ⟨rfl, ((HG2.out.alloc _).below HB3.out (by simp; omega)).keep fun i hi => ?_, only_trans' HO2.out (((((Below.refl _ _).alloc (by omega) _).trans (HB3.out.mono (by simp; omega))).setCell ?_ _).setCell ?_ _)⟩
        · rw [Below.heap_setCell, Below.heap_setCell] <;> (simp; omega)
        all_goals simp
      · rw [if_pos ⟨ha, hb2, rfl⟩]
        rw [hgd] at KG
        clear hgd
        go_enter Tryz.func109, Tryz.ntmps109
        go_wp2_with (first
          | (go_at_call 55
             refine (KG.out _).mono ?_
             rintro e w3 ⟨rfl, hb3⟩
             have HB3 := Lib.hid hb3
             have hr3 := (hb3.block w.heap.size (by simp; omega)).trans ((Below.heap_alloc w2 _ _ rlt).trans HR2.out)
             have q0 := Blk.cell hr3 0
             have q1 := Blk.cell hr3 1
             have p0 := Blk.frozen hr3 0
             have p1 := Blk.frozen hr3 1
             simp at q0 q1
             clear hr3
             obtain ⟨hc3, hf3⟩ := bcell hb3
             have hs3 : w2.heap.size < w3.heap.size := (by have := hb3.size; simp at this; omega)
             clear hb3)
          | (go_at_call 43
             obtain ⟨A2, c2, hk2, -⟩ := HG2.out
             refine (bad_at g _ _ _ hk2).mono ?_
             rintro e w3 ⟨rfl, rfl⟩
             clear hk2)
          | (go_at_call 77
             have hp := HG1.out
             clear hp
             refine (rvar_ok g (xs.drop n) b m _ HG1.out Hbd.out H2.out Hl.out).mono ?_
             rintro e w2 ⟨rfl, hg2, ho2⟩
             rw [← HE.out] at hg2
             have HG2 := Lib.hid hg2
             have hr2 := only_blk ho2 HR1.out hgw
             have HR2 := Lib.hid hr2
             have r0 := hr2.cell 0
             have r1 := hr2.cell 1
             have f0 := hr2.frozen 0
             have f1 := hr2.frozen 1
             have rlt := hr2.lt
             simp at r0 r1
             have HO2 := Lib.hid (only_trans HO1.out ho2)
             clear hg2 ho2 hr2)
          | (go_at_call 77
             refine (rvar_ok g xs a n _ (HG.out.alloc _) Hb.out H1.out hl).mono ?_
             rintro e w1 ⟨rfl, hg1, ho1⟩
             have HG1 := Lib.hid hg1
             have HR1 := Lib.hid (only_blk ho1 (blk_new _ _ _) hgw)
             have HO1 := Lib.hid (only_trans (only_alloc _) ho1)
             clear hg1 ho1))
        refine bodyPost_ret (v := .tuple #[.agg #[.int .i64 (a : Nat), .int .i64 (b : Nat)], .bool true]) (by simp [results, Tryz.results109, go_sem, q0, q1]) rfl ⟨rfl, ((HG2.out.alloc _).below HB3.out (by simp; omega)).keep fun i hi => ?_, only_trans' HO2.out (((((Below.refl _ _).alloc (by omega) _).trans (HB3.out.mono (by simp; omega))).setCell ?_ _).setCell ?_ _)⟩
        · rw [Below.heap_setCell, Below.heap_setCell] <;> (simp; omega)
        all_goals simp
    · rw [if_neg (by omega)]
      have e255 : decide (255 < b) = true := by simp; omega
      go_enter Tryz.func109, Tryz.ntmps109
      go_wp2_with (first
        | (go_at_call 43
           obtain ⟨A2, c2, hk2, -⟩ := HG2.out
           refine (bad_at g _ _ _ hk2).mono ?_
           rintro e w3 ⟨rfl, rfl⟩
           clear hk2)
        | (go_at_call 77
           have hp := HG1.out
           clear hp
           refine (rvar_ok g (xs.drop n) b m _ HG1.out Hbd.out H2.out Hl.out).mono ?_
           rintro e w2 ⟨rfl, hg2, ho2⟩
           rw [← HE.out] at hg2
           have HG2 := Lib.hid hg2
           have hr2 := only_blk ho2 HR1.out hgw
           have HR2 := Lib.hid hr2
           have r0 := hr2.cell 0
           have r1 := hr2.cell 1
           have f0 := hr2.frozen 0
           have f1 := hr2.frozen 1
           have rlt := hr2.lt
           simp at r0 r1
           have HO2 := Lib.hid (only_trans HO1.out ho2)
           clear hg2 ho2 hr2)
        | (go_at_call 77
           refine (rvar_ok g xs a n _ (HG.out.alloc _) Hb.out H1.out hl).mono ?_
           rintro e w1 ⟨rfl, hg1, ho1⟩
           have HG1 := Lib.hid hg1
           have HR1 := Lib.hid (only_blk ho1 (blk_new _ _ _) hgw)
           have HO1 := Lib.hid (only_trans (only_alloc _) ho1)
           clear hg1 ho1))
      refine bodyPost_ret (v := .tuple #[.agg #[.int .i64 0, .int .i64 0], .bool false]) (by simp [results, Tryz.results109, go_sem, r0, r1]) rfl ⟨rfl, HG2.out.keep fun i hi => ?_, only_trans' HO2.out (((Below.refl _ _).setCell ?_ _).setCell ?_ _)⟩
      · rw [Below.heap_setCell, Below.heap_setCell] <;> (simp; omega)
      all_goals simp
  · rw [if_neg (by omega)]
    have e8 : decide (8 < a) = true := by simp; omega
    go_enter Tryz.func109, Tryz.ntmps109
    go_wp2_with (first
      | (go_at_call 43
         obtain ⟨A2, c2, hk2, -⟩ := HG2.out
         refine (bad_at g _ _ _ hk2).mono ?_
         rintro e w3 ⟨rfl, rfl⟩
         clear hk2)
      | (go_at_call 77
         have hp := HG1.out
         clear hp
         refine (rvar_ok g (xs.drop n) b m _ HG1.out Hbd.out H2.out Hl.out).mono ?_
         rintro e w2 ⟨rfl, hg2, ho2⟩
         rw [← HE.out] at hg2
         have HG2 := Lib.hid hg2
         have hr2 := only_blk ho2 HR1.out hgw
         have HR2 := Lib.hid hr2
         have r0 := hr2.cell 0
         have r1 := hr2.cell 1
         have f0 := hr2.frozen 0
         have f1 := hr2.frozen 1
         have rlt := hr2.lt
         simp at r0 r1
         have HO2 := Lib.hid (only_trans HO1.out ho2)
         clear hg2 ho2 hr2)
      | (go_at_call 77
         refine (rvar_ok g xs a n _ (HG.out.alloc _) Hb.out H1.out hl).mono ?_
         rintro e w1 ⟨rfl, hg1, ho1⟩
         have HG1 := Lib.hid hg1
         have HR1 := Lib.hid (only_blk ho1 (blk_new _ _ _) hgw)
         have HO1 := Lib.hid (only_trans (only_alloc _) ho1)
         clear hg1 ho1))
    refine bodyPost_ret (v := .tuple #[.agg #[.int .i64 0, .int .i64 0], .bool false]) (by simp [results, Tryz.results109, go_sem, r0, r1]) rfl ⟨rfl, HG2.out.keep fun i hi => ?_, only_trans' HO2.out (((Below.refl _ _).setCell ?_ _).setCell ?_ _)⟩
    · rw [Below.heap_setCell, Below.heap_setCell] <;> (simp; omega)
    all_goals simp
end Go.Proofs.YtngjnkkdhjholaaGreat
namespace Go.Proofs.YtngjnkkdhjholaaGreat
open Go.RowKit
set_option linter.unusedSimpArgs false
set_option linter.unusedVariables false

set_option maxHeartbeats 1000000 in
theorem kget_bad (g : Nat)  (r : Int) (w : World) (h : Bad w g) :
    Calls Tryz.prog 109 #[.pointer (some ⟨g, 0, none⟩), .int .i64 r] w fun e w' => e = .returned (.tuple #[.agg #[.int .i64 0, .int .i64 0], .bool false]) ∧ Bad w' g ∧ Only g w w' := by
  have hg := h.lt
  have HG := Lib.hid h
  clear h
  have hgw : w.heap.size ≠ g := by omega
  go_enter Tryz.func109, Tryz.ntmps109
  go_wp2_with (first
          | (go_at_call 43
             refine (bad_at g _ _ _ HG2.out).mono ?_
             rintro e w3 ⟨rfl, rfl⟩)
          | (go_at_call 77
             have hp := HG1.out
             clear hp
             refine (rvar_bad g _ HG1.out).mono ?_
             rintro e w2 ⟨rfl, rfl⟩
             have HG2 := Lib.hid (HG1.out)
             have hr2 := HR1.out
             have HO2 := HO1
             have HR2 := Lib.hid hr2
             have r0 := hr2.cell 0
             have r1 := hr2.cell 1
             have f0 := hr2.frozen 0
             have f1 := hr2.frozen 1
             have rlt := hr2.lt
             simp at r0 r1
             clear hr2)
          | (go_at_call 77
             refine (rvar_bad g _ (HG.out.alloc _)).mono ?_
             rintro e w1 ⟨rfl, rfl⟩
             have HG1 := Lib.hid (HG.out.alloc (.cells #[.int .i64 0, .int .i64 0] 49))
             have hr1 : Blk (w.alloc (.cells #[.int .i64 0, .int .i64 0] 49)) w.heap.size 49 #[.int .i64 0, .int .i64 0] := blk_new _ _ _
             have HR1 := Lib.hid hr1
             have HO1 : Hid (Only g w (w.alloc (.cells #[.int .i64 0, .int .i64 0] 49))) := only_alloc _
             clear hr1))
  first
    | exact bodyPost_ret (v := .tuple #[.agg #[.int .i64 0, .int .i64 0], .bool false]) (by simp [results, Tryz.results109, go_sem, r0, r1]) rfl ⟨rfl, HG2.out, HO2.out⟩
    | (refine bodyPost_ret (v := .tuple #[.agg #[.int .i64 0, .int .i64 0], .bool false]) (by simp [results, Tryz.results109, go_sem, r0, r1]) rfl ⟨rfl, set_blk (set_blk HG2.out _ (by omega)) _ (by omega), only_trans' HO2.out (((Below.refl _ _).setCell ?_ _).setCell ?_ _)⟩
       all_goals simp)

set_option maxHeartbeats 1000000 in
theorem kget_no1 (g : Nat) (xs : List Nat) (r : Int) (w : World) (h : Good w g xs) (hb : ∀ x ∈ xs, x < 256) (hl : xs.length ≤ 140737488355328) (hn : ¬ ∃ v n, IsVar xs v n) :
    Calls Tryz.prog 109 #[.pointer (some ⟨g, 0, none⟩), .int .i64 r] w fun e w' => e = .returned (.tuple #[.agg #[.int .i64 0, .int .i64 0], .bool false]) ∧ Bad w' g ∧ Only g w w' := by
  have hg := h.lt
  have HG := Lib.hid h
  have Hb := Lib.hid hb
  have Hn := Lib.hid hn
  clear h hb hn
  have hgw : w.heap.size ≠ g := by omega
  go_enter Tryz.func109, Tryz.ntmps109
  go_wp2_with (first
          | (go_at_call 43
             refine (bad_at g _ _ _ HG2.out).mono ?_
             rintro e w3 ⟨rfl, rfl⟩)
          | (go_at_call 77
             have hp := HG1.out
             clear hp
             refine (rvar_bad g _ HG1.out).mono ?_
             rintro e w2 ⟨rfl, rfl⟩
             have HG2 := Lib.hid (HG1.out)
             have hr2 := HR1.out
             have HO2 := HO1
             have HR2 := Lib.hid hr2
             have r0 := hr2.cell 0
             have r1 := hr2.cell 1
             have f0 := hr2.frozen 0
             have f1 := hr2.frozen 1
             have rlt := hr2.lt
             simp at r0 r1
             clear hr2)
          | (go_at_call 77
             refine (rvar_no g xs _ (HG.out.alloc _) Hb.out Hn.out hl).mono ?_
             rintro e w1 ⟨rfl, hg1, ho1⟩
             have HG1 := Lib.hid hg1
             have hr1 := only_blk ho1 (blk_new _ _ _) hgw
             have HO1 := Lib.hid (only_trans (only_alloc _) ho1)
             clear hg1 ho1
             have HR1 := Lib.hid hr1
             clear hr1))
  first
    | exact bodyPost_ret (v := .tuple #[.agg #[.int .i64 0, .int .i64 0], .bool false]) (by simp [results, Tryz.results109, go_sem, r0, r1]) rfl ⟨rfl, HG2.out, HO2.out⟩
    | (refine bodyPost_ret (v := .tuple #[.agg #[.int .i64 0, .int .i64 0], .bool false]) (by simp [results, Tryz.results109, go_sem, r0, r1]) rfl ⟨rfl, set_blk (set_blk HG2.out _ (by omega)) _ (by omega), only_trans' HO2.out (((Below.refl _ _).setCell ?_ _).setCell ?_ _)⟩
       all_goals simp)

set_option maxHeartbeats 1000000 in
theorem kget_no2 (g : Nat) (xs : List Nat) (a n : Nat) (r : Int) (w : World) (h : Good w g xs) (hb : ∀ x ∈ xs, x < 256) (hl : xs.length ≤ 140737488355328) (h1 : IsVar xs a n) (hn : ¬ ∃ v n', IsVar (xs.drop n) v n') :
    Calls Tryz.prog 109 #[.pointer (some ⟨g, 0, none⟩), .int .i64 r] w fun e w' => e = .returned (.tuple #[.agg #[.int .i64 0, .int .i64 0], .bool false]) ∧ Bad w' g ∧ Only g w w' := by
  have hg := h.lt
  have HG := Lib.hid h
  have Hb := Lib.hid hb
  have H1 := Lib.hid h1
  have Hn := Lib.hid hn
  have Hl : Hid ((xs.drop n).length ≤ 140737488355328) := by show (xs.drop n).length ≤ 140737488355328; simp; omega
  have Hbd : Hid (∀ x ∈ xs.drop n, x < 256) := fun x hx => hb x (List.mem_of_mem_drop hx)
  clear h hb hn h1
  have hgw : w.heap.size ≠ g := by omega
  go_enter Tryz.func109, Tryz.ntmps109
  go_wp2_with (first
          | (go_at_call 43
             refine (bad_at g _ _ _ HG2.out).mono ?_
             rintro e w3 ⟨rfl, rfl⟩)
          | (go_at_call 77
             have hp := HG1.out
             clear hp
             refine (rvar_no g (xs.drop n) _ HG1.out Hbd.out Hn.out Hl.out).mono ?_
             rintro e w2 ⟨rfl, hg2, ho2⟩
             have HG2 := Lib.hid hg2
             have hr2 := only_blk ho2 HR1.out hgw
             have HO2 := Lib.hid (only_trans HO1.out ho2)
             clear hg2 ho2
             have HR2 := Lib.hid hr2
             have r0 := hr2.cell 0
             have r1 := hr2.cell 1
             have f0 := hr2.frozen 0
             have f1 := hr2.frozen 1
             have rlt := hr2.lt
             simp at r0 r1
             clear hr2)
          | (go_at_call 77
             refine (rvar_ok g xs a n _ (HG.out.alloc _) Hb.out H1.out hl).mono ?_
             rintro e w1 ⟨rfl, hg1, ho1⟩
             have HG1 := Lib.hid hg1
             have hr1 := only_blk ho1 (blk_new _ _ _) hgw
             have HO1 := Lib.hid (only_trans (only_alloc _) ho1)
             clear hg1 ho1
             have HR1 := Lib.hid hr1
             clear hr1))
  first
    | exact bodyPost_ret (v := .tuple #[.agg #[.int .i64 0, .int .i64 0], .bool false]) (by simp [results, Tryz.results109, go_sem, r0, r1]) rfl ⟨rfl, HG2.out, HO2.out⟩
    | (refine bodyPost_ret (v := .tuple #[.agg #[.int .i64 0, .int .i64 0], .bool false]) (by simp [results, Tryz.results109, go_sem, r0, r1]) rfl ⟨rfl, set_blk (set_blk HG2.out _ (by omega)) _ (by omega), only_trans' HO2.out (((Below.refl _ _).setCell ?_ _).setCell ?_ _)⟩
       all_goals simp)

end Go.Proofs.YtngjnkkdhjholaaGreat
namespace Go.Proofs.YtngjnkkdhjholaaGreat
open Go.RowKit
set_option linter.unusedSimpArgs false
set_option linter.unusedVariables false

theorem I64_zero : I64 0 := by unfold I64; omega
theorem kget_yes (g : Nat) (t : Typ) (rest : List Nat) (r : Int) (hr : r ≤ 8) (w : World) (hs : St w g (some (tB t ++ rest))) (hg : goodT r t = true) :
    Calls Tryz.prog 109 #[.pointer (some ⟨g, 0, none⟩), .int .i64 r] w fun e w' => e = .returned (.tuple #[.agg #[.int .i64 t.1, .int .i64 t.2], .bool true]) ∧ St w' g (some rest) ∧ Only g w w' := by
  obtain ⟨a, b, rfl, ha, hb⟩ := goodT_nat hr hg
  have ht : TwoVars (tB ((a : Int), (b : Int)) ++ rest) a b rest := by
    refine ⟨(vb a).length, (vb b).length, ?_, ?_, ?_⟩
    · simp only [tB, typB, Int.toNat_natCast, List.append_assoc]
      exact isVar_app a (by unfold B64; omega) _
    · simp only [tB, typB, Int.toNat_natCast, List.append_assoc, List.drop_left]
      exact isVar_app b (by unfold B64; omega) _
    · simp only [tB, typB, Int.toNat_natCast, List.append_assoc, List.drop_left]
  refine (kget_two g _ rest a b r w hs.1 hs.2.1 (by have := hs.2.2; omega) ht).mono ?_
  rintro e w' ⟨rfl, h1, h2⟩
  rw [if_pos ⟨ha, hb, hg⟩]
  exact ⟨rfl, hs.rest rfl h1, h2⟩

theorem kget_not (g : Nat) (r : Int) (hr : r ≤ 8) (s : Option (List Nat)) (w : World) (hs : St w g s) (hno : ∀ xs, s = some xs → ¬ Has tB (fun t => goodT r t = true) xs) :
    Calls Tryz.prog 109 #[.pointer (some ⟨g, 0, none⟩), .int .i64 r] w fun e w' => e = .returned (.tuple #[.agg #[.int .i64 0, .int .i64 0], .bool false]) ∧ Rdy w' g ∧ Only g w w' := by
  cases s with
  | none => exact (kget_bad g r w hs).mono fun e w' ⟨h1, h2, h3⟩ => ⟨h1, .inr h2, h3⟩
  | some xs =>
    have hl : xs.length ≤ 140737488355328 := by have := hs.2.2; omega
    by_cases h1 : ∃ v n, IsVar xs v n
    · obtain ⟨a, n, h1⟩ := h1
      by_cases h2 : ∃ v n', IsVar (xs.drop n) v n'
      · obtain ⟨b, m, h2⟩ := h2
        refine (kget_two g xs ((xs.drop n).drop m) a b r w hs.1 hs.2.1 hl ⟨n, m, h1, h2, rfl⟩).mono ?_
        rintro e w' ⟨rfl, g1, g2⟩
        rw [if_neg]
        · exact ⟨rfl, .inl ⟨_, g1⟩, g2⟩
        · rintro ⟨_, _, hg⟩
          refine hno xs rfl ⟨((a : Int), (b : Int)), (xs.drop n).drop m, hg, ?_⟩
          have e1 := isVar_split h1
          have e2 := isVar_split h2
          simp only [tB, typB, Int.toNat_natCast, List.append_assoc]
          rw [← e2]
          exact e1
      · exact (kget_no2 g xs a n r w hs.1 hs.2.1 hl h1 h2).mono fun e w' ⟨h1, h2, h3⟩ => ⟨h1, .inr h2, h3⟩
    · exact (kget_no1 g xs r w hs.1 hs.2.1 hl h1).mono fun e w' ⟨h1, h2, h3⟩ => ⟨h1, .inr h2, h3⟩

theorem hasI_iff (xs : List Nat) : Has iB (fun t => goodIn t = true) xs → HasI xs := by
  rintro ⟨⟨o, a, b⟩, rest, hg, e⟩
  obtain ⟨o1, a1, b1, e1, e2, e3, _⟩ := goodI_parts (op := o) (a := a) (b := b) hg
  subst e1 e2 e3
  exact ⟨o1, a1, b1, rest, hg, e⟩
theorem iget_not (g : Nat) (s : Option (List Nat)) (w : World) (hs : St w g s) (hno : ∀ xs, s = some xs → ¬ Has iB (fun t => goodIn t = true) xs) :
    Calls Tryz.prog 110 #[.pointer (some ⟨g, 0, none⟩)] w fun e w' => e = .returned (insV 0 0 0 false) ∧ Rdy w' g ∧ Only g w w' := by
  cases s with
  | none => exact (iget_bad g w hs).mono fun e w' ⟨h1, h2, h3⟩ => ⟨h1, .inr h3, h2⟩
  | some xs => exact (iget_none g xs w hs.1 hs.2.1 hs.2.2 (fun ⟨o, x, y, rest, hg, e⟩ => hno xs rfl ⟨((o : Int), (x : Int), (y : Int)), rest, hg, e⟩)).mono fun e w' ⟨h1, h2, h3⟩ => ⟨h1, h3, h2⟩
theorem iget_is (g : Nat) (t : Ins) (rest : List Nat) (w : World) (hs : St w g (some (iB t ++ rest))) (hg : goodIn t = true) :
    Calls Tryz.prog 110 #[.pointer (some ⟨g, 0, none⟩)] w fun e w' => e = .returned (insV t.1 t.2.1 t.2.2 true) ∧ St w' g (some rest) ∧ Only g w w' := by
  obtain ⟨o, a, b⟩ := t
  obtain ⟨o1, a1, b1, e1, e2, e3, _⟩ := goodI_parts (op := o) (a := a) (b := b) hg
  subst e1 e2 e3
  have hr : St w g (some rest) → True := fun _ => trivial
  refine (iget_yes g o1 a1 b1 rest w hg hs.1 (fun z hz => hs.2.1 z (by simp [hz])) (by have := hs.2.2; simp at this; omega)).mono ?_
  rintro e w' ⟨rfl, h1, h2⟩
  exact ⟨rfl, hs.rest rfl h1, h2⟩

/-- Behind a block that is new. -/
theorem below_two {w w1 w2 : World} {g : Nat} (ho : Only g w w1) (hb : Below w.heap.size w1 w2) : Only g w w2 := only_trans' ho hb

set_option maxRecDepth 100000 in
set_option maxHeartbeats 2000000 in
theorem instruction_any (rb g : Nat) (v0 v1 v2 v3 v4 : Value) (r : Int) (s : Option (List Nat)) (w : World) (h : Mrd w rb g v0 v1 v2 v3 v4 r) (hs : St w g s) :
    Calls Tryz.prog 106 #[.pointer (some ⟨rb, 0, none⟩)] w (Reads insL vAgg iB (fun t => goodIn t = true) g s w) := by
  have hp := h.ptr
  have HM := Lib.hid h
  have HS := Lib.hid hs
  have hg := hs.lt
  have hrb := h.2.lt
  have hgw : w.heap.size ≠ g := by omega
  have hrw : rb ≠ w.heap.size := by omega
  by_cases hyes : ∃ xs, s = some xs ∧ Has iB (fun t => goodIn t = true) xs
  · obtain ⟨xs, rfl, t, rest, hgt, rfl⟩ := hyes
    have HC : Hid (∀ w1, Below w.heap.size w w1 → Calls Tryz.prog 110 #[.pointer (some ⟨g, 0, none⟩)] w1 fun e w' => e = .returned (.tuple #[.agg #[.int .i64 t.1, .int .i64 t.2.1, .int .i64 t.2.2], .bool true]) ∧ St w' g (some rest) ∧ Only g w1 w') := fun w1 hb => iget_is g t rest w1 (HS.out.below hb) hgt
    have HI : Hid (I64 t.1 ∧ I64 t.2.1 ∧ I64 t.2.2) := by
      obtain ⟨o, a, b⟩ := t
      obtain ⟨o1, a1, b1, e1, e2, e3, h1, h2, h3, _⟩ := goodI_parts (op := o) (a := a) (b := b) hgt
      subst e1 e2 e3
      show I64 _ ∧ I64 _ ∧ I64 _
      refine ⟨⟨?_, ?_⟩, ⟨?_, ?_⟩, ⟨?_, ?_⟩⟩ <;> simp <;> omega
    have HGT := Lib.hid hgt
    obtain ⟨t1, t2, t3⟩ := t
    simp only at HC HI
    clear h hs hgt
    go_enter Tryz.func106, Tryz.ntmps106
    go_wp2_with (first
      | (go_at_call 110
         refine (HC.out _ ((Below.refl _ _).alloc (Nat.le_refl _) _)).mono ?_
         rintro e w1 ⟨rfl, hs1, ho1⟩
         have HS1 := Lib.hid hs1
         have hr1 := only_blk ho1 (heap_alloc_new w (.cells #[.int .i64 0, .int .i64 0, .int .i64 0] 56)) hgw
         have HO1 := Lib.hid (only_trans (only_alloc _) ho1)
         have r0 := hr1.cell 0
         have r1 := hr1.cell 1
         have r2 := hr1.cell 2
         have f0 := hr1.frozen 0
         have f1 := hr1.frozen 1
         have f2 := hr1.frozen 2
         have rlt := hr1.lt
         simp at r0 r1 r2
         clear hs1 ho1 hr1))
    have hF : Below w.heap.size w1 ((((w1.setCell ⟨w.heap.size, 0, none⟩ (.int .i64 t1)).setCell ⟨w.heap.size, 1, none⟩ (.int .i64 t2)).setCell ⟨w.heap.size, 2, none⟩ (.int .i64 t3)).alloc (.cells #[.int .i64 t1, .int .i64 t2, .int .i64 t3] 56)) :=
      ((((Below.refl _ _).setCell (p := ⟨w.heap.size, 0, none⟩) (Nat.le_refl _) _).setCell (p := ⟨w.heap.size, 1, none⟩) (Nat.le_refl _) _).setCell (p := ⟨w.heap.size, 2, none⟩) (Nat.le_refl _) _).alloc (by simp; omega) _
    refine bodyPost_ret (v := .agg #[.int .i64 t1, .int .i64 t2, .int .i64 t3]) (by simp [results, Tryz.results106, go_sem, r0, r1, r2, rlt, Nat.ne_of_lt rlt]) rfl ?_
    exact ⟨only_trans' HO1.out hF, _, (t1, t2, t3), rfl, ⟨rfl, HI.out⟩, .inl ⟨HGT.out, _, rest, rfl, rfl, HS1.out.low hF hg⟩⟩
  · have HNO : Hid (∀ xs, s = some xs → ¬ Has iB (fun t => goodIn t = true) xs) := fun xs e hh => hyes ⟨xs, e, hh⟩
    have HC : Hid (∀ w1, Below w.heap.size w w1 → Calls Tryz.prog 110 #[.pointer (some ⟨g, 0, none⟩)] w1 fun e w' => e = .returned (.tuple #[.agg #[.int .i64 0, .int .i64 0, .int .i64 0], .bool false]) ∧ Rdy w' g ∧ Only g w1 w') := fun w1 hb => iget_not g s w1 (HS.out.below hb) HNO.out
    have HR : Hid (∀ w1, Only g w w1 → Rdy w1 g → Calls Tryz.prog 102 #[.pointer (some ⟨rb, 0, none⟩)] w1 fun e w' => e = .returned (.tuple #[]) ∧ Bad w' g ∧ Only g w1 w') := fun w1 ho hr => refuse_any rb g v0 v1 v2 v3 v4 r w1 (HM.out.only ho) hr
    clear h hs hyes
    go_enter Tryz.func106, Tryz.ntmps106
    go_wp2_with (first
      | (go_at_call 110
         refine (HC.out _ ((Below.refl _ _).alloc (Nat.le_refl _) _)).mono ?_
         rintro e w1 ⟨rfl, hs1, ho1⟩
         have HS1 := Lib.hid hs1
         have hr1 := only_blk ho1 (heap_alloc_new w (.cells #[.int .i64 0, .int .i64 0, .int .i64 0] 56)) hgw
         have HR1 := Lib.hid hr1
         have HO1 := Lib.hid (only_trans (only_alloc _) ho1)
         have rlt := hr1.lt
         have hg1 : w1.heap.size ≠ g := (by omega)
         clear hs1 ho1 hr1)
      | (go_at_call 102
         refine (HR.out _ (only_trans HO1.out (only_alloc _)) (HS1.out.low ((Below.refl _ _).alloc (Nat.le_refl _) _) (by omega))).mono ?_
         rintro e w2 ⟨rfl, hb2, ho2⟩
         have HB2 := Lib.hid hb2
         have hr2 := only_blk ho2 ((Below.heap_alloc _ _ _ HR1.out.lt).trans HR1.out) hgw
         have hx2 := only_blk ho2 (heap_alloc_new w1 (.cells #[.int .i64 0, .int .i64 0, .int .i64 0] 56)) hg1
         have HO2 := Lib.hid (only_trans (only_trans HO1.out (only_alloc _)) ho2)
         have r0 := Blk.cell hr2 0
         have r1 := Blk.cell hr2 1
         have r2 := Blk.cell hr2 2
         have f0 := Blk.frozen hr2 0
         have f1 := Blk.frozen hr2 1
         have f2 := Blk.frozen hr2 2
         have x0 := Blk.cell hx2 0
         have x1 := Blk.cell hx2 1
         have x2 := Blk.cell hx2 2
         simp at r0 r1 r2 x0 x1 x2
         clear hb2 ho2 hr2 hx2))
    have hF : Below w.heap.size w2 (((w2.setCell ⟨w.heap.size, 0, none⟩ (.int .i64 0)).setCell ⟨w.heap.size, 1, none⟩ (.int .i64 0)).setCell ⟨w.heap.size, 2, none⟩ (.int .i64 0)) :=
      (((Below.refl _ _).setCell (p := ⟨w.heap.size, 0, none⟩) (Nat.le_refl _) _).setCell (p := ⟨w.heap.size, 1, none⟩) (Nat.le_refl _) _).setCell (p := ⟨w.heap.size, 2, none⟩) (Nat.le_refl _) _
    refine bodyPost_ret (v := .agg #[.int .i64 0, .int .i64 0, .int .i64 0]) (by simp [results, Tryz.results106, go_sem, r0, r1, r2]) rfl ?_
    exact ⟨only_trans' HO2.out hF, _, (0, 0, 0), rfl, ⟨rfl, I64_zero, I64_zero, I64_zero⟩, .inr ⟨HB2.out.below hF hg, HNO.out⟩⟩
end Go.Proofs.YtngjnkkdhjholaaGreat
