/-
  What a num.Reader's Take does. Conditions: as each theorem says (where a Reader lies, what bytes it holds).
  Module's own reader: where it lies, what it can be, and what its refuse and count do. Conditions: as each theorem says.
  Lists that are read one by one: what appending one to a list of the call's own does, and what is known in between. Conditions: as each theorem says.
  What module's within does over elements of one kind (chrysalis/api.Type): whether there are so many, and each is good. Conditions: as the theorem says.
  What module's within does over elements of one kind (chrysalis/api.Instr): whether there are so many, and each is good. Conditions: as the theorem says.
  What kind's Good does. Conditions: as each theorem says.
  What inst's fit does. Conditions: none.
-/
import Derived.Test.YtngjnkkdhjholaaP01
import Derived.Test.YtngjnkkdhjholaaP02
import Derived.Test.YtngjnkkdhjholaaP03
import Derived.Test.YtngjnkkdhjholaaP04
import Derived.Test.YtngjnkkdhjholaaP05
import Derived.Maps.AppendAt
import Derived.LoopN
namespace Go.Proofs.Ytngjnkkdhjholaa
open Go.RowKit

set_option maxHeartbeats 400000 in
theorem take_nil (n : Int) (w : World) : Calls Try.prog 89 #[.pointer none, .int .i64 n] w fun e w' => e = .returned (.slice none 0 0) ∧ w = w' := by
  have q23 : ∀ (w : World) (a : Option Addr) (n c n' c' : Nat), (binOp .eql 43 (.slice a n c) (.slice none n' c')).run Try.prog w = .ok (.bool a.isNone) w := fun w a n c n' c' => Lib.run_eql_slice_nil w _ _ a n c n' c' Try.underlying43
  go_enter Try.func89, Try.ntmps89
  go_wp2_with (first | (go_at_call 88; refine (cut_nil _ _).mono ?_; rintro e w' ⟨rfl, rfl⟩) | go_in)
  go_ret
  exact ⟨rfl, rfl⟩

set_option maxHeartbeats 400000 in
theorem take_bad (g : Nat) (n : Int) (w : World) (h : Bad w g) : Calls Try.prog 89 #[.pointer (some ⟨g, 0, none⟩), .int .i64 n] w fun e w' => e = .returned (.slice none 0 0) ∧ w = w' := by
  have hc := Lib.hid (cut_bad g n w h)
  clear h
  go_enter Try.func89, Try.ntmps89
  go_wp2_with (first | (go_at_call 88; refine hc.out.mono ?_; rintro e w' ⟨rfl, rfl⟩) | (go_at_call 79; refine (clone_nil _).mono ?_; rintro e w' ⟨rfl, rfl⟩))
  go_ret
  exact ⟨rfl, rfl⟩

set_option maxHeartbeats 400000 in
theorem take_short (g : Nat) (n : Int) (xs : List Nat) (w : World) (h : Good w g xs) (hn : n < 0 ∨ (xs.length : Int) < n) :
    Calls Try.prog 89 #[.pointer (some ⟨g, 0, none⟩), .int .i64 n] w fun e w' => e = .returned (.slice none 0 0) ∧ Bad w' g ∧ Only g w w' := by
  have hc := Lib.hid (cut_short g n xs w h hn)
  clear h hn
  go_enter Try.func89, Try.ntmps89
  go_wp2_with (first | (go_at_call 88; refine hc.out.mono ?_; rintro e w' ⟨rfl, hB, hO⟩) | (go_at_call 79; refine (clone_nil _).mono ?_; rintro e w' ⟨rfl, rfl⟩))
  go_ret
  exact ⟨rfl, hB, hO⟩

set_option maxHeartbeats 400000 in
theorem take_ok (g : Nat) (k : Nat) (xs : List Nat) (w : World) (h : Good w g xs) (hk : k ≤ xs.length) (hn : k ≤ 140737488355328) :
    Calls Try.prog 89 #[.pointer (some ⟨g, 0, none⟩), .int .i64 (k : Nat)] w fun e w' => ∃ v, e = .returned v ∧ w'.ownsRow w.heap.size 5 1 v k (Bs (xs.take k)) ∧ Good w' g (xs.drop k) ∧ Only g w w' := by
  have hc := Lib.hid (cut_ok g k xs w h hk)
  have hg := h.lt
  have hl : (xs.take k).length = k := by simp; omega
  have HL := Lib.hid hl
  clear h hl
  go_enter Try.func89, Try.ntmps89
  go_wp2_with (first | (go_at_call 88; refine hc.out.mono ?_; rintro e w1 ⟨A, c, rfl, hB, hkc, _, hG, hO⟩; have HB := Lib.hid hB; have HG := Lib.hid hG; have HO := Lib.hid hO; clear hB hG hO)
                     | (go_at_call 79
                        refine (clone_any A k c (xs.take k) w1 HL.out (HB.out.wide fun b hb => by have := HO.out.size; omega) hn).mono ?_
                        rintro e w2 ⟨v, rfl, hown, hbel⟩))
  go_ret
  have hsz := HO.out.size
  have hown' : w2.ownsRow w.heap.size 5 1 v k (Bs (xs.take k)) := by
    refine ⟨hown.1, ?_⟩
    rcases hown.2 with h | ⟨g', cap, cur, e, hb, rest⟩
    · exact .inl h
    · exact .inr ⟨g', cap, cur, e, Nat.le_trans hsz hb, rest⟩
  exact ⟨v, rfl, hown', HG.out.below hbel HG.out.lt, only_trans HO.out (only_below hbel)⟩
end Go.Proofs.Ytngjnkkdhjholaa
namespace Go.Proofs.Ytngjnkkdhjholaa
open Go.RowKit
set_option linter.unusedSimpArgs false
set_option linter.unusedVariables false

/-- In block rb lies module's reader: its Reader is in block g, it has the lists v0 to v4 so far, and knows of r records. -/
def Mrd (w : World) (rb g : Nat) (v0 v1 v2 v3 v4 : Value) (r : Int) : Prop := rb ≠ g ∧ Blk w rb 77 #[.pointer (some ⟨g, 0, none⟩), v0, v1, v2, v3, v4, .int .i64 r]
theorem Mrd.only {w w' : World} {rb g : Nat} {v0 v1 v2 v3 v4 : Value} {r : Int} (h : Mrd w rb g v0 v1 v2 v3 v4 r) (ho : Only g w w') : Mrd w' rb g v0 v1 v2 v3 v4 r := ⟨h.1, only_blk ho h.2 h.1⟩
theorem Mrd.below {w w' : World} {rb g : Nat} {v0 v1 v2 v3 v4 : Value} {r : Int} (h : Mrd w rb g v0 v1 v2 v3 v4 r) (hb : Below w.heap.size w w') : Mrd w' rb g v0 v1 v2 v3 v4 r := ⟨h.1, (hb.block rb h.2.lt).trans h.2⟩
theorem Mrd.ptr {w : World} {rb g : Nat} {v0 v1 v2 v3 v4 : Value} {r : Int} (h : Mrd w rb g v0 v1 v2 v3 v4 r) : w.cell? ⟨rb, 0, none⟩ = some (.pointer (some ⟨g, 0, none⟩)) := by simpa using h.2.cell 0
theorem Mrd.recs {w : World} {rb g : Nat} {v0 v1 v2 v3 v4 : Value} {r : Int} (h : Mrd w rb g v0 v1 v2 v3 v4 r) : w.cell? ⟨rb, 6, none⟩ = some (.int .i64 r) := by simpa using h.2.cell 6

/-- The Reader in block g: bytes, or bad. -/
def St (w : World) (g : Nat) : Option (List Nat) → Prop
  | some xs => Good w g xs ∧ (∀ x ∈ xs, x < 256) ∧ xs.length ≤ 1000000
  | none => Bad w g
theorem St.lt {w : World} {g : Nat} {s : Option (List Nat)} (h : St w g s) : g < w.heap.size := by
  cases s with
  | none => exact Bad.lt h
  | some xs => exact h.1.lt
theorem St.rest {w w' : World} {g : Nat} {xs rest ys : List Nat} (h : St w g (some xs)) (e : xs = ys ++ rest) (hg : Good w' g rest) : St w' g (some rest) := by
  subst e
  refine ⟨hg, fun x hx => h.2.1 x (by simp [hx]), ?_⟩
  have := h.2.2
  simp at this
  omega
theorem St.below {w w' : World} {g : Nat} {s : Option (List Nat)} (h : St w g s) (hb : Below w.heap.size w w') : St w' g s := by
  have hl := h.lt
  cases s with
  | none => exact Bad.below h hb hl
  | some xs => exact ⟨h.1.below hb hl, h.2⟩
theorem St.low {w w' : World} {g B : Nat} {s : Option (List Nat)} (h : St w g s) (hb : Below B w w') (hl : g < B) : St w' g s := by
  cases s with
  | none => exact Bad.below h hb hl
  | some xs => exact ⟨h.1.below hb hl, h.2⟩
theorem Rdy.low {w w' : World} {g B : Nat} (h : Rdy w g) (hb : Below B w w') (hl : g < B) : Rdy w' g := by
  rcases h with ⟨xs, h⟩ | h
  · exact .inl ⟨xs, h.below hb hl⟩
  · exact .inr (h.below hb hl)
theorem St.rdy {w : World} {g : Nat} {s : Option (List Nat)} (h : St w g s) : Rdy w g := by
  cases s with
  | none => exact .inr h
  | some xs => exact .inl ⟨xs, h.1⟩

set_option maxHeartbeats 400000 in
theorem refuse_any (rb g : Nat) (v0 v1 v2 v3 v4 : Value) (r : Int) (w : World) (h : Mrd w rb g v0 v1 v2 v3 v4 r) (hr : Rdy w g) :
    Calls Try.prog 90 #[.pointer (some ⟨rb, 0, none⟩)] w fun e w' => e = .returned (.tuple #[]) ∧ Bad w' g ∧ Only g w w' := by
  have hp := h.ptr
  have HT : Hid (Calls Try.prog 89 #[.pointer (some ⟨g, 0, none⟩), .int .i64 (-1)] w fun e w' => e = .returned (.slice none 0 0) ∧ Bad w' g ∧ Only g w w') := by
    rcases hr with ⟨xs, hg⟩ | hb
    · exact take_short g (-1) xs w hg (.inl (by omega))
    · exact (take_bad g (-1) w hb).mono fun e w' ⟨h1, h2⟩ => by subst h2; exact ⟨h1, hb, only_refl _ _⟩
  clear h hr
  go_enter Try.func90, Try.ntmps90
  go_wp2_with (first
    | (go_at_call 89
       refine HT.out.mono ?_
       rintro e w1 ⟨rfl, hb1, ho1⟩))
  go_end0
  exact ⟨rfl, hb1, ho1⟩

/-- What count answers: how many, if that stands there and is within the bounds; else 0, and the Reader is bad. -/
def Counts (lo hi g : Nat) (s : Option (List Nat)) (w : World) (e : Ending) (w' : World) : Prop :=
  Only g w w' ∧ ∃ v : Nat, e = .returned (.int .i64 (v : Int)) ∧ v ≤ hi ∧ ((lo ≤ v ∧ ∃ xs rest, s = some xs ∧ xs = vb v ++ rest ∧ St w' g (some rest)) ∨ (v = 0 ∧ St w' g none ∧ ∀ xs, s = some xs → ¬ ∃ v rest, lo ≤ v ∧ v ≤ hi ∧ xs = vb v ++ rest))

theorem no_vb {xs : List Nat} (hn : ¬ ∃ v n, IsVar xs v n) (lo hi : Nat) (hhi : hi ≤ 1000) : ¬ ∃ v rest, lo ≤ v ∧ v ≤ hi ∧ xs = vb v ++ rest := by
  rintro ⟨v, rest, _, h2, rfl⟩
  exact hn ⟨v, _, isVar_app v (by unfold B64; omega) rest⟩
theorem not_vb {xs : List Nat} {v n lo hi : Nat} (hv : IsVar xs v n) (hhi : hi ≤ 1000) (h : ¬ (lo ≤ v ∧ v ≤ hi)) : ¬ ∃ v rest, lo ≤ v ∧ v ≤ hi ∧ xs = vb v ++ rest := by
  rintro ⟨u, rest, h1, h2, rfl⟩
  obtain ⟨rfl, _⟩ := isVar_unique hv (isVar_app u (by unfold B64; omega) rest)
  exact h ⟨h1, h2⟩

set_option maxRecDepth 100000 in
set_option maxHeartbeats 1000000 in
theorem count_any (rb g : Nat) (v0 v1 v2 v3 v4 : Value) (r : Int) (lo hi : Nat) (s : Option (List Nat)) (w : World) (h : Mrd w rb g v0 v1 v2 v3 v4 r) (hs : St w g s) (hlo : lo ≤ 1) (hhi : hi ≤ 1000) :
    Calls Try.prog 68 #[.pointer (some ⟨rb, 0, none⟩), .int .i64 (lo : Int), .int .i64 (hi : Int)] w (Counts lo hi g s w) := by
  have hp := h.ptr
  have HM := Lib.hid h
  have HR : Hid (∀ w1, Only g w w1 → Rdy w1 g → Calls Try.prog 90 #[.pointer (some ⟨rb, 0, none⟩)] w1 fun e w' => e = .returned (.tuple #[]) ∧ Bad w' g ∧ Only g w1 w') := fun w1 ho hr => refuse_any rb g v0 v1 v2 v3 v4 r w1 (HM.out.only ho) hr
  have HS := Lib.hid hs
  clear h
  by_cases hyes : ∃ xs v n, s = some xs ∧ IsVar xs v n
  · obtain ⟨xs, v, n, rfl, hv⟩ := hyes
    have HV : Hid (Calls Try.prog 66 #[.pointer (some ⟨g, 0, none⟩)] w fun e w' => e = .returned (.int .u64 (v : Nat)) ∧ Good w' g (xs.drop n) ∧ Only g w w') := rvar_ok g xs v n w hs.1 hs.2.1 hv (by have := hs.2.2; omega)
    have HI := Lib.hid hv
    by_cases hin : lo ≤ v ∧ v ≤ hi
    · obtain ⟨h1, h2⟩ := hin
      have h3 : ¬ v < lo := by omega
      have h4 : ¬ hi < v := by omega
      clear hs hv
      go_enter Try.func68, Try.ntmps68
      go_wp2_with (first
        | (go_at_call 66
           refine HV.out.mono ?_
           rintro e w1 ⟨rfl, hg1, ho1⟩
           have HG1 := Lib.hid hg1
           have HO1 := Lib.hid ho1
           clear hg1 ho1))
      go_ret
      exact ⟨HO1.out, v, rfl, h2, .inl ⟨h1, xs, _, rfl, isVar_split HI.out, HS.out.rest (isVar_split HI.out) HG1.out⟩⟩
    · have HIN := Lib.hid hin
      have hcase : v < lo ∨ (¬ v < lo ∧ hi < v) := by omega
      clear hs hv hin
      rcases hcase with h3 | ⟨h3, h4⟩
      all_goals
        go_enter Try.func68, Try.ntmps68
        go_wp2_with (first
          | (go_at_call 66
             refine HV.out.mono ?_
             rintro e w1 ⟨rfl, hg1, ho1⟩
             have HG1 := Lib.hid hg1
             have HO1 := Lib.hid ho1
             clear hg1 ho1)
          | (go_at_call 90
             refine (HR.out _ HO1.out (.inl ⟨_, HG1.out⟩)).mono ?_
             rintro e w2 ⟨rfl, hb2, ho2⟩))
        go_ret
        exact ⟨only_trans HO1.out ho2, 0, rfl, by omega, .inr ⟨rfl, hb2, fun xs' e => by injection e with e; subst e; exact not_vb HI.out hhi HIN.out⟩⟩
  · have HV : Hid (Calls Try.prog 66 #[.pointer (some ⟨g, 0, none⟩)] w fun e w' => e = .returned (.int .u64 0) ∧ Bad w' g ∧ Only g w w') := by
      cases s with
      | none => exact (rvar_bad g w hs).mono fun e w' ⟨h1, h2⟩ => by subst h2; exact ⟨h1, hs, only_refl _ _⟩
      | some xs => exact rvar_no g xs w hs.1 hs.2.1 (fun ⟨v, n, hv⟩ => hyes ⟨xs, v, n, rfl, hv⟩) (by have := hs.2.2; omega)
    have HNO : Hid (∀ xs, s = some xs → ¬ ∃ v rest, lo ≤ v ∧ v ≤ hi ∧ xs = vb v ++ rest) := fun xs e => no_vb (fun ⟨v, n, hv⟩ => hyes ⟨xs, v, n, e, hv⟩) lo hi hhi
    clear hs hyes
    by_cases h0 : 0 < lo
    · go_enter Try.func68, Try.ntmps68
      go_wp2_with (first
        | (go_at_call 66
           refine HV.out.mono ?_
           rintro e w1 ⟨rfl, hg1, ho1⟩
           have HG1 := Lib.hid hg1
           have HO1 := Lib.hid ho1
           clear hg1 ho1)
        | (go_at_call 90
           refine (HR.out _ HO1.out (.inr HG1.out)).mono ?_
           rintro e w2 ⟨rfl, hb2, ho2⟩))
      go_ret
      exact ⟨only_trans HO1.out ho2, 0, rfl, by omega, .inr ⟨rfl, hb2, HNO.out⟩⟩
    · obtain rfl : lo = 0 := by omega
      go_enter Try.func68, Try.ntmps68
      go_wp2_with (first
        | (go_at_call 66
           refine HV.out.mono ?_
           rintro e w1 ⟨rfl, hg1, ho1⟩
           have HG1 := Lib.hid hg1
           have HO1 := Lib.hid ho1
           clear hg1 ho1))
      go_ret
      exact ⟨HO1.out, 0, rfl, by omega, .inr ⟨rfl, HG1.out, HNO.out⟩⟩

/-- What a read of one thing answers: what stands there, if it does; else something, and the Reader is bad. -/
def Reads {α : Type} (L : Lay α) (V : List Value → Value) (f : α → List Nat) (gd : α → Prop) (g : Nat) (s : Option (List Nat)) (w : World) (e : Ending) (w' : World) : Prop :=
  Only g w w' ∧ ∃ cs x, e = .returned (V cs) ∧ L.R (fun b => w.heap.size ≤ b ∧ b < w'.heap.size) w' cs x ∧
    ((gd x ∧ ∃ xs rest, s = some xs ∧ xs = f x ++ rest ∧ St w' g (some rest)) ∨ (St w' g none ∧ ∀ xs, s = some xs → ¬ Has f gd xs))
end Go.Proofs.Ytngjnkkdhjholaa
namespace Go.Proofs.Ytngjnkkdhjholaa
open Go.RowKit
set_option linter.unusedSimpArgs false
set_option linter.unusedVariables false

theorem Owns.push {α : Type} {L : Lay α} {ty base : Nat} {w w' : World} {v v' : Value} {xs : List α} {css : List (List Value)} {cs : List Value} {x : α} (hl : css.length = xs.length)
    (hR : ∀ (j : Nat) (x : α) (cs : List Value), xs[j]? = some x → css[j]? = some cs → L.R (fun b => base ≤ b ∧ b < w.heap.size ∧ v.ownBlock ≠ some b) w cs x)
    (hx : L.R (fun b => base ≤ b ∧ b < w.heap.size ∧ v.ownBlock ≠ some b) w cs x) (hown : w'.ownsRow base ty L.k v' (xs.length + 1) (css.flatten ++ cs)) (hg : w.grownBy w' v.ownBlock)
    (hv : v'.ownBlock = v.ownBlock ∨ v'.ownBlock = some w.heap.size) : Owns L ty base w' v' (xs ++ [x]) := by
  have hk : ∀ {cs : List Value} {x : α}, L.R (fun b => base ≤ b ∧ b < w.heap.size ∧ v.ownBlock ≠ some b) w cs x → L.R (fun b => base ≤ b ∧ b < w'.heap.size ∧ v'.ownBlock ≠ some b) w' cs x := fun h =>
    L.wide (L.keep h fun b hb => hg.block b hb.2.1 (fun e => hb.2.2 e.symm)) fun b hb => ⟨hb.1, Nat.lt_of_lt_of_le hb.2.1 hg.size, by
      rcases hv with e | e
      · rw [e]; exact hb.2.2
      · rw [e]; intro e2; injection e2 with e2; omega⟩
  refine ⟨css ++ [cs], by simp [hl], by simpa using hown, fun j y ds h1 h2 => ?_⟩
  rcases Nat.lt_or_ge j xs.length with hj | hj
  · rw [List.getElem?_append_left hj] at h1
    rw [List.getElem?_append_left (by omega)] at h2
    exact hk (hR j y ds h1 h2)
  · rw [List.getElem?_append_right hj] at h1
    rw [List.getElem?_append_right (by omega), hl] at h2
    have e0 : j - xs.length = 0 := by
      rcases Nat.eq_zero_or_pos (j - xs.length) with h | h
      · exact h
      · rw [List.getElem?_eq_none (by simp; omega)] at h1
        cases h1
    rw [e0] at h1 h2
    simp at h1 h2
    subst h1 h2
    exact hk hx

set_option maxRecDepth 100000 in
theorem walk_append_el {α : Type} (L : Lay α) (w : World) {ops : Array Oper} {rest : List Oper} {o : Oper} {a : Act} {Q : Exit → Act → World → Prop} (hgd : o.guard = none) (s x : Operand) (T E : TypeId)
    (ho : o.op = .call { callee := .builtin .append, args := #[s, x], argTypes := #[T, T] })
    (z : Value) (B : Nat) (hT : Try.prog.underlying T = some (.slice E)) (hI : (Try.prog.info? E).map (fun i => (i.zero, i.size, i.bytes)) = some (some z, L.k, B)) (hz : z.cells.size = L.k) (hk : 0 < L.k) (hB : B ≤ 100)
    (base : Nat) (v : Value) (xs : List α) (hs : a.eval s = v) (hO : Owns L E base w v xs) (ad : Addr) (d : Nat) (hx : a.eval x = .slice (some ad) 1 d) (cs : List Value) (y : α)
    (hc : ∀ j u, cs[j]? = some u → w.cell? (ad.add j) = some u) (hR : L.R (fun b => base ≤ b ∧ b < w.heap.size ∧ v.ownBlock ≠ some b) w cs y) (hbig : xs.length ≤ 1000000) (hbase : base ≤ w.heap.size)
    (h : ∀ v' w', Owns L E base w' v' (xs ++ [y]) → w.grownBy w' v.ownBlock → wpList Try.prog ops Q rest (a.put o.dst v') w') : wpList Try.prog ops Q (o :: rest) a w := by
  refine wpList_plain hgd fun _ hK => ?_
  obtain ⟨i0, hi0, hz0, hz1, hz2⟩ := info_parts hI
  obtain ⟨css, hl, hown, hRs⟩ := hO
  have hBx : (xs.length + 1) * B ≤ 140737488355328 := by
    have := Nat.mul_le_mul (show xs.length + 1 ≤ 1000001 by omega) hB
    omega
  obtain ⟨v', w', hrun, h2, h3, _, h5⟩ := run_append_own_at (P := Try.prog) w base T o.type E i0 z L.k B hT hi0 hz0 hz1 hz2 hz hk v xs.length css.flatten hown ad 1 d cs (by rw [L.len hR, Nat.one_mul]) hc (L.one hR)
    (by simp only [maxLen]; omega) hBx hbase
  unfold Oper.wp execOp
  simp only [ho, resolve, invoke, builtin, Sem.run_bind, Sem.run_pure, Result.andThen_ok, List.map_toArray, List.map_cons, List.map_nil, hs, hx, hrun]
  exact hK _ _ (h v' w' (Owns.push hl hRs hR h2 h3 h5) h3)

theorem cell_new (w : World) (t : TypeId) (cs : List Value) : ∀ j u, cs[j]? = some u → (w.alloc (.cells cs.toArray t)).cell? ((⟨w.heap.size, 0, none⟩ : Addr).add j) = some u := fun j u hu => by
  have e : (⟨w.heap.size, 0, none⟩ : Addr).add j = ⟨w.heap.size, j, none⟩ := by unfold Addr.add; split <;> simp_all
  rw [e, World.cell?_alloc_mark]
  simpa using hu

theorem only_grown {g : Nat} {w0 w w' : World} {row : Option Nat} (h : Only g w0 w) (hg : w.grownBy w' row) (hr : ∀ i, row = some i → w0.heap.size ≤ i) : Only g w0 w' :=
  ⟨hg.os.trans h.os, hg.tape.trans h.tape, hg.output.trans h.output, Nat.le_trans h.size hg.size, fun i hi hne => (hg.block i (Nat.lt_of_lt_of_le hi h.size) (fun e => by have := hr i e.symm; omega)).trans (h.block i hi hne)⟩
theorem below_grown {B : Nat} {w w' : World} {row : Option Nat} (hg : w.grownBy w' row) (hB : B ≤ w.heap.size) (hr : ∀ i, row = some i → B ≤ i) : Below B w w' := (Below.refl B w).grown hg hB hr

/-- What listOf answers: as many as were asked for, each as it stands there; else something, and the Reader is bad. -/
def ReadsN {α : Type} (L : Lay α) (ty : Nat) (f : α → List Nat) (gd : α → Prop) (n g : Nat) (s : Option (List Nat)) (w : World) (e : Ending) (w' : World) : Prop :=
  Only g w w' ∧ ∃ v xs, e = .returned v ∧ Owns L ty w.heap.size w' v xs ∧ xs.length = n ∧
    (((∀ x ∈ xs, gd x) ∧ ∃ zs rest, s = some zs ∧ zs = (xs.map f).flatten ++ rest ∧ St w' g (some rest)) ∨ (St w' g none ∧ ∀ zs, s = some zs → ¬ HasN f gd n zs))

/-- What is known behind k of them; t: what the Reader is then. -/
def Upto {α : Type} (f : α → List Nat) (gd : α → Prop) (n : Nat) (s t : Option (List Nat)) (xs : List α) : Prop :=
  ((∀ x ∈ xs, gd x) ∧ ∃ zs rest, s = some zs ∧ zs = (xs.map f).flatten ++ rest ∧ t = some rest) ∨ (t = none ∧ ∀ zs, s = some zs → ¬ HasN f gd n zs)
theorem Upto.start {α : Type} (f : α → List Nat) (gd : α → Prop) (n : Nat) (s : Option (List Nat)) : Upto f gd n s s ([] : List α) := by
  cases s with
  | none => exact .inr ⟨rfl, fun zs h => by cases h⟩
  | some zs => exact .inl ⟨by simp, zs, zs, rfl, by simp, rfl⟩
theorem Upto.step {α : Type} {f : α → List Nat} {gd : α → Prop} (hPF : PF f gd) {n : Nat} {s t : Option (List Nat)} {xs : List α} {x : α} (h : Upto f gd n s t xs) (hk : xs.length < n) {w' : World} {g : Nat}
    (hx : (gd x ∧ ∃ ys rest, t = some ys ∧ ys = f x ++ rest ∧ St w' g (some rest)) ∨ (St w' g none ∧ ∀ ys, t = some ys → ¬ Has f gd ys)) : ∃ t', St w' g t' ∧ Upto f gd n s t' (xs ++ [x]) := by
  rcases h with ⟨hg, zs, rest, rfl, hz, rfl⟩ | ⟨rfl, hno⟩
  · rcases hx with ⟨hgx, ys, rest', e1, e2, hs⟩ | ⟨hs, hn⟩
    · injection e1 with e1
      subst e1 e2
      refine ⟨some rest', hs, .inl ⟨fun y hy => ?_, zs, rest', rfl, ?_, rfl⟩⟩
      · rcases List.mem_append.1 hy with h | h
        · exact hg y h
        · simp at h; subst h; exact hgx
      · rw [hz]; simp
    · refine ⟨none, hs, .inr ⟨rfl, fun zs' e => ?_⟩⟩
      injection e with e
      subst e
      exact hPF.row_no hz hg hk (hn rest rfl)
  · rcases hx with ⟨hgx, ys, rest', e1, _⟩ | ⟨hs, hn⟩
    · cases e1
    · exact ⟨none, hs, .inr ⟨rfl, hno⟩⟩
end Go.Proofs.Ytngjnkkdhjholaa
namespace Go.Proofs.Ytngjnkkdhjholaa
open Go.RowKit
set_option linter.unusedSimpArgs false
set_option linter.unusedVariables false

set_option maxRecDepth 100000 in
set_option maxHeartbeats 1000000 in
theorem within_typ (A : Option Addr) (n c : Nat) (xs : List Typ) (lo hi : Int) (g : Typ → Bool) (p7 : Addr) (w : World) (hl : xs.length = n) (h : Sq typL (· < w.heap.size) w A xs) (hn2 : n ≤ 9223372036854775807) (hlo : -1000 ≤ lo ∧ lo ≤ 1000) (hhi : -9223372036854775808 ≤ hi ∧ hi ≤ 1000)
    (hG : ∀ (w1 : World) (cs : List Value) (x : Typ), Below w.heap.size w w1 → x ∈ xs → typL.R (· < w1.heap.size) w1 cs x → Calls Try.prog 45 #[vAgg cs, .pointer (some p7)] w1 (Tells (g x) w1)) :
    Calls Try.prog 48 #[.slice A n c, .int .i64 lo, .int .i64 hi, .func (.func 45) #[] #[.pointer (some p7)]] w (Tells (witB lo hi g xs) w) := by
  have HL := Lib.hid hl
  have HS := Lib.hid h
  have HP0 := Lib.hid hG
  have HW : Hid (witB lo hi g xs = (decide (lo ≤ (n : Int) ∧ (n : Int) ≤ hi) && xs.all g)) := by rw [← hl]; exact rfl
  clear hl h hG
  obtain ⟨wb, hwb⟩ : ∃ wb, witB lo hi g xs = wb := ⟨_, rfl⟩
  rw [hwb] at HW ⊢
  clear hwb
  by_cases h1 : (n : Int) < lo
  · have e : wb = false := by rw [HW.out]; simp; omega
    rw [e]
    clear HW e
    go_enter Try.func48, Try.ntmps48
    go_wp2_with fail
    go_ret
    exact ⟨rfl, Below.refl _ _⟩
  by_cases h2 : hi < (n : Int)
  · have e : wb = false := by rw [HW.out]; simp; omega
    rw [e]
    clear HW e
    go_enter Try.func48, Try.ntmps48
    go_wp2_with fail
    go_ret
    exact ⟨rfl, Below.refl _ _⟩
  replace HW : Hid (wb = xs.all g) := by
    show wb = xs.all g
    rw [HW.out]
    simp
    omega
  go_enter Try.func48, Try.ntmps48
  go_wp2_with fail
  go_loopw [23] (fun i wr => ∃ k : Nat, k ≤ n ∧ i = .int .i64 (k : Nat) ∧ (xs.take k).all g = true ∧ Below w.heap.size w wr) (fun i _ => n - (intOf i).toNat)
  case atStart => exact ⟨0, Nat.zero_le _, rfl, by simp, Below.refl _ _⟩
  case round =>
    obtain ⟨k, hk, rfl, hall, hbel⟩ := hrel
    have HA := Lib.hid hall
    have HB := Lib.hid hbel
    have hs := hbel.size
    clear hall hbel
    by_cases hlt : k < n
    · skip
      obtain ⟨x, hx⟩ : ∃ x, xs[k]? = some x := ⟨xs[k]'(by rw [HL.out]; exact hlt), List.getElem?_eq_getElem _⟩
      have hmem : x ∈ xs := List.mem_of_getElem? hx
      obtain ⟨a, cs, rfl, hab, hc, hr⟩ := HS.out.at hx
      have HX := Lib.hid hx
      clear hx
      have HR := Lib.hid hr
      obtain ⟨rfl, -, -⟩ := hr
      have c0 := (HB.out.cell (p := a.add (k * 2)) (by rw [addBlock]; exact hab)).trans (hc 0 _ rfl)
      have c1 := (HB.out.cell (p := a.add (k * 2 + 1)) (by rw [addBlock]; exact hab)).trans (hc 1 _ rfl)
      rw [next_cell a (k * 2) 1 (by omega)] at c1
      have HP : Hid (∀ w1, Below w.heap.size w w1 → Calls Try.prog 45 #[.agg #[.int .i64 x.1, .int .i64 x.2], .pointer (some p7)] w1 (Tells (g x) w1)) := fun w1 hb => HP0.out w1 [.int .i64 x.1, .int .i64 x.2] x hb hmem (typL.wide (typL.keep HR.out fun b hb1 => hb.block b hb1) fun b hb1 => Nat.lt_of_lt_of_le hb1 hb.size)
      clear hc
      cases hg : g x
      · rw [hg] at HP
        have e : wb = false := by
          rw [HW.out, List.all_eq_false]
          exact ⟨x, hmem, by rw [hg]; simp⟩
        have E := Lib.hid e
        clear e hg
        go_wp2_with (first
          | (go_at_call 45
             refine (HP.out _ (HB.out.alloc hs _)).mono ?_
             rintro e w2 ⟨rfl, hb2⟩
             have Hb2 := Lib.hid ((HB.out.alloc hs _).trans (hb2.mono (by simp; omega)))
             clear hb2))
        go_ret
        exact ⟨by rw [E.out]; rfl, Hb2.out⟩
      · rw [hg] at HP
        have HG := Lib.hid hg
        clear hg
        go_wp2_with (first
          | (go_at_call 45
             refine (HP.out _ (HB.out.alloc hs _)).mono ?_
             rintro e w2 ⟨rfl, hb2⟩
             have Hb2 := Lib.hid ((HB.out.alloc hs _).trans (hb2.mono (by simp; omega)))
             clear hb2))
        refine ⟨⟨k + 1, by omega, by simp, all_take HA.out HX.out HG.out, Hb2.out⟩, by simp [intOf]; omega⟩
    · obtain rfl : k = n := by omega
      go_wp2_with fail
      go_ret
      refine ⟨?_, HB.out⟩
      have e := HA.out
      rw [List.take_of_length_le (by rw [HL.out]; exact Nat.le_refl _)] at e
      rw [HW.out, e]
      rfl
end Go.Proofs.Ytngjnkkdhjholaa
namespace Go.Proofs.Ytngjnkkdhjholaa
open Go.RowKit
set_option linter.unusedSimpArgs false
set_option linter.unusedVariables false

set_option maxRecDepth 100000 in
set_option maxHeartbeats 1000000 in
theorem within_ins (A : Option Addr) (n c : Nat) (xs : List Ins) (lo hi : Int) (g : Ins → Bool) (w : World) (hl : xs.length = n) (h : Sq insL (· < w.heap.size) w A xs) (hn2 : n ≤ 9223372036854775807) (hlo : -1000 ≤ lo ∧ lo ≤ 1000) (hhi : -9223372036854775808 ≤ hi ∧ hi ≤ 1000)
    (hG : ∀ (w1 : World) (cs : List Value) (x : Ins), Below w.heap.size w w1 → x ∈ xs → insL.R (· < w1.heap.size) w1 cs x → Calls Try.prog 52 #[vAgg cs] w1 (Tells (g x) w1)) :
    Calls Try.prog 51 #[.slice A n c, .int .i64 lo, .int .i64 hi, .func (.func 52) #[] #[]] w (Tells (witB lo hi g xs) w) := by
  have HL := Lib.hid hl
  have HS := Lib.hid h
  have HP0 := Lib.hid hG
  have HW : Hid (witB lo hi g xs = (decide (lo ≤ (n : Int) ∧ (n : Int) ≤ hi) && xs.all g)) := by rw [← hl]; exact rfl
  clear hl h hG
  obtain ⟨wb, hwb⟩ : ∃ wb, witB lo hi g xs = wb := ⟨_, rfl⟩
  rw [hwb] at HW ⊢
  clear hwb
  by_cases h1 : (n : Int) < lo
  · have e : wb = false := by rw [HW.out]; simp; omega
    rw [e]
    clear HW e
    go_enter Try.func51, Try.ntmps51
    go_wp2_with fail
    go_ret
    exact ⟨rfl, Below.refl _ _⟩
  by_cases h2 : hi < (n : Int)
  · have e : wb = false := by rw [HW.out]; simp; omega
    rw [e]
    clear HW e
    go_enter Try.func51, Try.ntmps51
    go_wp2_with fail
    go_ret
    exact ⟨rfl, Below.refl _ _⟩
  replace HW : Hid (wb = xs.all g) := by
    show wb = xs.all g
    rw [HW.out]
    simp
    omega
  go_enter Try.func51, Try.ntmps51
  go_wp2_with fail
  go_loopw [23] (fun i wr => ∃ k : Nat, k ≤ n ∧ i = .int .i64 (k : Nat) ∧ (xs.take k).all g = true ∧ Below w.heap.size w wr) (fun i _ => n - (intOf i).toNat)
  case atStart => exact ⟨0, Nat.zero_le _, rfl, by simp, Below.refl _ _⟩
  case round =>
    obtain ⟨k, hk, rfl, hall, hbel⟩ := hrel
    have HA := Lib.hid hall
    have HB := Lib.hid hbel
    have hs := hbel.size
    clear hall hbel
    by_cases hlt : k < n
    · skip
      obtain ⟨x, hx⟩ : ∃ x, xs[k]? = some x := ⟨xs[k]'(by rw [HL.out]; exact hlt), List.getElem?_eq_getElem _⟩
      have hmem : x ∈ xs := List.mem_of_getElem? hx
      obtain ⟨a, cs, rfl, hab, hc, hr⟩ := HS.out.at hx
      have HX := Lib.hid hx
      clear hx
      have HR := Lib.hid hr
      obtain ⟨rfl, -, -, -⟩ := hr
      have c0 := (HB.out.cell (p := a.add (k * 3)) (by rw [addBlock]; exact hab)).trans (hc 0 _ rfl)
      have c1 := (HB.out.cell (p := a.add (k * 3 + 1)) (by rw [addBlock]; exact hab)).trans (hc 1 _ rfl)
      rw [next_cell a (k * 3) 1 (by omega)] at c1
      have c2 := (HB.out.cell (p := a.add (k * 3 + 2)) (by rw [addBlock]; exact hab)).trans (hc 2 _ rfl)
      rw [next_cell a (k * 3) 2 (by omega)] at c2
      have HP : Hid (∀ w1, Below w.heap.size w w1 → Calls Try.prog 52 #[.agg #[.int .i64 x.1, .int .i64 x.2.1, .int .i64 x.2.2]] w1 (Tells (g x) w1)) := fun w1 hb => HP0.out w1 [.int .i64 x.1, .int .i64 x.2.1, .int .i64 x.2.2] x hb hmem (insL.wide (insL.keep HR.out fun b hb1 => hb.block b hb1) fun b hb1 => Nat.lt_of_lt_of_le hb1 hb.size)
      clear hc
      cases hg : g x
      · rw [hg] at HP
        have e : wb = false := by
          rw [HW.out, List.all_eq_false]
          exact ⟨x, hmem, by rw [hg]; simp⟩
        have E := Lib.hid e
        clear e hg
        go_wp2_with (first
          | (go_at_call 52
             refine (HP.out _ (HB.out.alloc hs _)).mono ?_
             rintro e w2 ⟨rfl, hb2⟩
             have Hb2 := Lib.hid ((HB.out.alloc hs _).trans (hb2.mono (by simp; omega)))
             clear hb2))
        go_ret
        exact ⟨by rw [E.out]; rfl, Hb2.out⟩
      · rw [hg] at HP
        have HG := Lib.hid hg
        clear hg
        go_wp2_with (first
          | (go_at_call 52
             refine (HP.out _ (HB.out.alloc hs _)).mono ?_
             rintro e w2 ⟨rfl, hb2⟩
             have Hb2 := Lib.hid ((HB.out.alloc hs _).trans (hb2.mono (by simp; omega)))
             clear hb2))
        refine ⟨⟨k + 1, by omega, by simp, all_take HA.out HX.out HG.out, Hb2.out⟩, by simp [intOf]; omega⟩
    · obtain rfl : k = n := by omega
      go_wp2_with fail
      go_ret
      refine ⟨?_, HB.out⟩
      have e := HA.out
      rw [List.take_of_length_le (by rw [HL.out]; exact Nat.le_refl _)] at e
      rw [HW.out, e]
      rfl
end Go.Proofs.Ytngjnkkdhjholaa
namespace Go.Proofs.Ytngjnkkdhjholaa
open Go.RowKit
set_option linter.unusedSimpArgs false

theorem kgood (k n r : Int) (w : World) : Calls Try.prog 46 #[.agg #[.int .i64 k, .int .i64 n], .int .i64 r] w fun e w' => e = .returned (.bool (goodB k n r)) ∧ Below w.heap.size w w' := by
  by_cases h1 : k = 1
  · subst h1
    go_enter Try.func46, Try.ntmps46
    go_wp2_with fail
    go_ret
    exact ⟨rfl, (Below.refl _ _).alloc (Nat.le_refl _) _⟩
  by_cases h2 : k = 2
  · subst h2
    go_enter Try.func46, Try.ntmps46
    go_wp2_with fail
    go_ret
    exact ⟨rfl, (Below.refl _ _).alloc (Nat.le_refl _) _⟩
  by_cases h3 : k = 3
  · subst h3
    go_enter Try.func46, Try.ntmps46
    go_wp2_with fail
    go_ret
    exact ⟨rfl, (Below.refl _ _).alloc (Nat.le_refl _) _⟩
  by_cases h7 : k = 7
  · subst h7
    go_enter Try.func46, Try.ntmps46
    go_wp2_with fail
    go_ret
    exact ⟨rfl, (Below.refl _ _).alloc (Nat.le_refl _) _⟩
  by_cases h4 : k = 4
  · subst h4
    by_cases hn : 0 ≤ n
    · have e : goodB 4 n r = decide (n < r) := by simp [goodB, hn]
      rw [e]
      clear e
      go_enter Try.func46, Try.ntmps46
      go_wp2_with fail
      go_ret
      exact ⟨rfl, (Below.refl _ _).alloc (Nat.le_refl _) _⟩
    · have e : goodB 4 n r = false := by simp [goodB, hn]
      rw [e]
      clear e
      go_enter Try.func46, Try.ntmps46
      go_wp2_with fail
      go_ret
      exact ⟨rfl, (Below.refl _ _).alloc (Nat.le_refl _) _⟩
  by_cases h5 : k = 5
  · subst h5
    by_cases hn : 0 ≤ n
    · have e : goodB 5 n r = decide (n < 4) := by simp [goodB, hn]
      rw [e]
      clear e
      go_enter Try.func46, Try.ntmps46
      go_wp2_with fail
      go_ret
      exact ⟨rfl, (Below.refl _ _).alloc (Nat.le_refl _) _⟩
    · have e : goodB 5 n r = false := by simp [goodB, hn]
      rw [e]
      clear e
      go_enter Try.func46, Try.ntmps46
      go_wp2_with fail
      go_ret
      exact ⟨rfl, (Below.refl _ _).alloc (Nat.le_refl _) _⟩
  have e : goodB k n r = false := by simp [goodB, h1, h2, h3, h7, h4, h5]
  rw [e]
  clear e
  go_enter Try.func46, Try.ntmps46
  go_wp2_with fail
  go_ret
  exact ⟨rfl, (Below.refl _ _).alloc (Nat.le_refl _) _⟩
end Go.Proofs.Ytngjnkkdhjholaa
namespace Go.Proofs.Ytngjnkkdhjholaa
open Go.RowKit
set_option linter.unusedSimpArgs false

set_option maxHeartbeats 2000000 in
theorem fit_any (n a b : Int) (w : World) : Calls Try.prog 84 #[.agg #[.int .i64 a, .int .i64 b], .int .i64 n] w fun e w' => e = .returned (.bool (fitN n a b)) ∧ Below w.heap.size w w' := by
  have i0 : ∀ w, (Instr.index 124 (.agg #[.int .i64 a, .int .i64 b]) (.int .i64 0)).run Try.prog w = .ok (.int .i64 a) w := fun _ => by kernel_rfl
  have i1 : ∀ w, (Instr.index 124 (.agg #[.int .i64 a, .int .i64 b]) (.int .i64 1)).run Try.prog w = .ok (.int .i64 b) w := fun _ => by kernel_rfl
  unfold fitN
  by_cases h0 : 0 < n
  · rw [if_pos h0]
    by_cases h1 : 1 < n
    · rw [if_pos h1]
      by_cases a0 : a < 0
      · rw [decide_eq_false (by omega)]
        go_enter Try.func84, Try.ntmps84
        go_wp2_with fail
        refine wp_loop_rounds 3 ?_
        rw [rounds_succ]
        go_wp2_with fail
        go_ret
        exact ⟨rfl, (Below.refl _ _).alloc (Nat.le_refl _) _⟩
      by_cases a1 : 255 < a
      · rw [decide_eq_false (by omega)]
        go_enter Try.func84, Try.ntmps84
        go_wp2_with fail
        refine wp_loop_rounds 3 ?_
        rw [rounds_succ]
        go_wp2_with fail
        go_ret
        exact ⟨rfl, (Below.refl _ _).alloc (Nat.le_refl _) _⟩
      by_cases b0 : b < 0
      · rw [decide_eq_false (by omega)]
        go_enter Try.func84, Try.ntmps84
        go_wp2_with fail
        refine wp_loop_rounds 3 ?_
        rw [rounds_succ]
        go_wp2_with fail
        rw [rounds_succ]
        go_wp2_with fail
        go_ret
        exact ⟨rfl, (Below.refl _ _).alloc (Nat.le_refl _) _⟩
      by_cases b1 : 255 < b
      · rw [decide_eq_false (by omega)]
        go_enter Try.func84, Try.ntmps84
        go_wp2_with fail
        refine wp_loop_rounds 3 ?_
        rw [rounds_succ]
        go_wp2_with fail
        rw [rounds_succ]
        go_wp2_with fail
        go_ret
        exact ⟨rfl, (Below.refl _ _).alloc (Nat.le_refl _) _⟩
      rw [decide_eq_true (by omega)]
      go_enter Try.func84, Try.ntmps84
      go_wp2_with fail
      refine wp_loop_rounds 3 ?_
      rw [rounds_succ]
      go_wp2_with fail
      rw [rounds_succ]
      go_wp2_with fail
      rw [rounds_succ]
      go_wp2_with fail
      go_ret
      exact ⟨rfl, (Below.refl _ _).alloc (Nat.le_refl _) _⟩
    · rw [if_neg h1]
      by_cases a0 : a < 0
      · rw [decide_eq_false (by omega)]
        go_enter Try.func84, Try.ntmps84
        go_wp2_with fail
        refine wp_loop_rounds 3 ?_
        rw [rounds_succ]
        go_wp2_with fail
        go_ret
        exact ⟨rfl, (Below.refl _ _).alloc (Nat.le_refl _) _⟩
      by_cases a1 : 255 < a
      · rw [decide_eq_false (by omega)]
        go_enter Try.func84, Try.ntmps84
        go_wp2_with fail
        refine wp_loop_rounds 3 ?_
        rw [rounds_succ]
        go_wp2_with fail
        go_ret
        exact ⟨rfl, (Below.refl _ _).alloc (Nat.le_refl _) _⟩
      by_cases b0 : b < 0
      · rw [decide_eq_false (by omega)]
        go_enter Try.func84, Try.ntmps84
        go_wp2_with fail
        refine wp_loop_rounds 3 ?_
        rw [rounds_succ]
        go_wp2_with fail
        rw [rounds_succ]
        go_wp2_with fail
        go_ret
        exact ⟨rfl, (Below.refl _ _).alloc (Nat.le_refl _) _⟩
      by_cases b1 : 0 < b
      · rw [decide_eq_false (by omega)]
        go_enter Try.func84, Try.ntmps84
        go_wp2_with fail
        refine wp_loop_rounds 3 ?_
        rw [rounds_succ]
        go_wp2_with fail
        rw [rounds_succ]
        go_wp2_with fail
        go_ret
        exact ⟨rfl, (Below.refl _ _).alloc (Nat.le_refl _) _⟩
      rw [decide_eq_true (by omega)]
      go_enter Try.func84, Try.ntmps84
      go_wp2_with fail
      refine wp_loop_rounds 3 ?_
      rw [rounds_succ]
      go_wp2_with fail
      rw [rounds_succ]
      go_wp2_with fail
      rw [rounds_succ]
      go_wp2_with fail
      go_ret
      exact ⟨rfl, (Below.refl _ _).alloc (Nat.le_refl _) _⟩
  · rw [if_neg h0, if_neg (by omega)]
    have h1 : ¬ 1 < n := by omega
    by_cases a0 : a < 0
    · rw [decide_eq_false (by omega)]
      go_enter Try.func84, Try.ntmps84
      go_wp2_with fail
      refine wp_loop_rounds 3 ?_
      rw [rounds_succ]
      go_wp2_with fail
      go_ret
      exact ⟨rfl, (Below.refl _ _).alloc (Nat.le_refl _) _⟩
    by_cases a1 : 0 < a
    · rw [decide_eq_false (by omega)]
      go_enter Try.func84, Try.ntmps84
      go_wp2_with fail
      refine wp_loop_rounds 3 ?_
      rw [rounds_succ]
      go_wp2_with fail
      go_ret
      exact ⟨rfl, (Below.refl _ _).alloc (Nat.le_refl _) _⟩
    by_cases b0 : b < 0
    · rw [decide_eq_false (by omega)]
      go_enter Try.func84, Try.ntmps84
      go_wp2_with fail
      refine wp_loop_rounds 3 ?_
      rw [rounds_succ]
      go_wp2_with fail
      rw [rounds_succ]
      go_wp2_with fail
      go_ret
      exact ⟨rfl, (Below.refl _ _).alloc (Nat.le_refl _) _⟩
    by_cases b1 : 0 < b
    · rw [decide_eq_false (by omega)]
      go_enter Try.func84, Try.ntmps84
      go_wp2_with fail
      refine wp_loop_rounds 3 ?_
      rw [rounds_succ]
      go_wp2_with fail
      rw [rounds_succ]
      go_wp2_with fail
      go_ret
      exact ⟨rfl, (Below.refl _ _).alloc (Nat.le_refl _) _⟩
    rw [decide_eq_true (by omega)]
    go_enter Try.func84, Try.ntmps84
    go_wp2_with fail
    refine wp_loop_rounds 3 ?_
    rw [rounds_succ]
    go_wp2_with fail
    rw [rounds_succ]
    go_wp2_with fail
    rw [rounds_succ]
    go_wp2_with fail
    go_ret
    exact ⟨rfl, (Below.refl _ _).alloc (Nat.le_refl _) _⟩
end Go.Proofs.Ytngjnkkdhjholaa
