/-
  Words on slices of slices of bytes. Conditions: none.
  What the document's Join does. Conditions: as the theorem says (which parts lie there, and that they come to at most a million bytes).
  What the document's Fixed does: the lowest bytes of a number. Conditions: as each theorem says.
  What module's within does over elements of one kind (chrysalis/api.Type): whether there are so many, and each is good. Conditions: as the theorem says.
  What module's within does over elements of one kind (chrysalis/api.Instr): whether there are so many, and each is good. Conditions: as the theorem says.
  What kind's Good does. Conditions: as each theorem says.
  What module's fits asks of a type, of types, of a record, of an instruction, of a text, of a function and of an import. Conditions: as each theorem says (where the closures lie).
-/
import Derived.Test.YtpgfbnilnoopoaaQ01
import Derived.Test.YtpgfbnilnoopoaaQ02
import Derived.Test.YtpgfbnilnoopoaaQ03
import Derived.Test.YtpgfbnilnoopoaaQ04
import Derived.Test.YtpgfbnilnoopoaaQ05
namespace Go.Proofs.Ytpgfbnilnoopoaa
open Go.RowKit

/-- A slice of slices of bytes: at A lie slices that hold the rows xss, all of it in blocks of which S says yes. -/
def Rws (S : Nat → Prop) (w : World) (A : Option Addr) (xss : List (List Nat)) : Prop :=
  0 < xss.length → ∃ a, A = some a ∧ S a.block ∧ ∀ j, j < xss.length → ∃ B c, w.cell? (a.add j) = some (.slice B (xss[j]?.getD []).length c) ∧ (xss[j]?.getD []).length ≤ c ∧ Byt S w B (xss[j]?.getD [])

theorem Rws.nil (S : Nat → Prop) (w : World) (A : Option Addr) : Rws S w A [] := fun h => absurd h (by simp)

theorem Rws.keep {S : Nat → Prop} {w w' : World} {A : Option Addr} {xss : List (List Nat)} (h : Rws S w A xss) (hk : ∀ b, S b → w'.heap[b]? = w.heap[b]?) : Rws S w' A xss := fun hn => by
  obtain ⟨a, e, hs, hc⟩ := h hn
  refine ⟨a, e, hs, fun j hj => ?_⟩
  obtain ⟨B, c, h1, h2, h3⟩ := hc j hj
  exact ⟨B, c, (World.cell?_of_block (hk _ (by rw [addBlock]; exact hs))).trans h1, h2, h3.keep hk⟩

theorem Rws.wide {S T : Nat → Prop} {w : World} {A : Option Addr} {xss : List (List Nat)} (h : Rws S w A xss) (hk : ∀ b, S b → T b) : Rws T w A xss := fun hn => by
  obtain ⟨a, e, hs, hc⟩ := h hn
  refine ⟨a, e, hk _ hs, fun j hj => ?_⟩
  obtain ⟨B, c, h1, h2, h3⟩ := hc j hj
  exact ⟨B, c, h1, h2, h3.wide hk⟩

theorem Rws.below {B B' : Nat} {w w' : World} {A : Option Addr} {xss : List (List Nat)} (h : Rws (· < B) w A xss) (hb : Below B' w w') (hB : B ≤ B') : Rws (· < B) w' A xss := h.keep fun b h1 => hb.block b (Nat.lt_of_lt_of_le h1 hB)

theorem Rws.at {S : Nat → Prop} {w : World} {A : Option Addr} {xss : List (List Nat)} (h : Rws S w A xss) {k : Nat} (hk : k < xss.length) :
    ∃ a B c, A = some a ∧ S a.block ∧ w.cell? (a.add k) = some (.slice B (xss[k]?.getD []).length c) ∧ (xss[k]?.getD []).length ≤ c ∧ Byt S w B (xss[k]?.getD []) := by
  obtain ⟨a, e, hs, hc⟩ := h (by omega)
  obtain ⟨B, c, h1, h2, h3⟩ := hc k hk
  exact ⟨a, B, c, e, hs, h1, h2, h3⟩

theorem flat_take (xss : List (List Nat)) (k : Nat) (h : k < xss.length) : (xss.take (k + 1)).flatten = (xss.take k).flatten ++ (xss[k]?.getD []) := by
  rw [List.take_succ_eq_append_getElem h, List.flatten_append]
  simp [h]

theorem flat_le (xss : List (List Nat)) (k : Nat) : (xss.take k).flatten.length ≤ xss.flatten.length := by
  conv => rhs; rw [← List.take_append_drop k xss]
  rw [List.flatten_append, List.length_append]
  omega

theorem rws_two (w : World) (A B : Option Addr) (c d n m : Nat) (xs ys : List Nat) (hx : xs.length = n) (hy : ys.length = m) (hc : n ≤ c) (hd : m ≤ d) (hA : Byt (· < w.heap.size) w A xs) (hB : Byt (· < w.heap.size) w B ys) :
    Rws (· < (w.alloc (.cells #[.slice A n c, .slice B m d] 49)).heap.size) (w.alloc (.cells #[.slice A n c, .slice B m d] 49)) (some ⟨w.heap.size, 0, none⟩) [xs, ys] := fun _ => by
  subst hx hy
  refine ⟨_, rfl, by simp, fun j hj => ?_⟩
  have hk : ∀ b, b < w.heap.size → (w.alloc (.cells #[.slice A xs.length c, .slice B ys.length d] 49)).heap[b]? = w.heap[b]? := fun b hb => Below.heap_alloc w _ b hb
  have e : (⟨w.heap.size, 0, none⟩ : Addr).add j = ⟨w.heap.size, j, none⟩ := by unfold Addr.add; split <;> simp_all
  rw [e, World.cell?_alloc_mark]
  have : j = 0 ∨ j = 1 := by simp at hj; omega
  rcases this with rfl | rfl
  · exact ⟨A, c, rfl, hc, (hA.keep hk).wide fun b hb => by simp; omega⟩
  · exact ⟨B, d, rfl, hd, (hB.keep hk).wide fun b hb => by simp; omega⟩
end Go.Proofs.Ytpgfbnilnoopoaa
namespace Go.Proofs.Ytpgfbnilnoopoaa
open Go.RowKit

set_option maxRecDepth 100000 in
set_option maxHeartbeats 2000000 in
theorem refJoin_any (A : Option Addr) (n c : Nat) (xss : List (List Nat)) (w : World) (hl : xss.length = n) (hR : Rws (· < w.heap.size) w A xss) (hn : (joinB xss).length ≤ 1000000) :
    Calls Try.prog 49 #[.slice A n c] w fun e w' => ∃ v, e = .returned v ∧ w'.ownsRow w.heap.size 5 1 v (joinB xss).length (Bs (joinB xss)) ∧ Below w.heap.size w w' := by
  have hn2 : n ≤ 1000000 := by have := pts_many xss; rw [joinB_length] at hn; omega
  have HN := Lib.hid hn
  have HL := Lib.hid hl
  have HR := Lib.hid hR
  clear hl hR hn
  have hn3 : n < B64 := by unfold B64; omega
  go_enter Try.func49, Try.ntmps49
  go_wp2_with fail
  refine (refVar_any n w hn3).mono ?_
  rintro e w1 ⟨u1, rfl, hown1, hb1⟩
  have HO1 := Lib.hid hown1
  have HB1 := Lib.hid hb1
  clear hown1 hb1
  go_wp2_with fail
  go_loopw [3, 4] (fun s i wr => ∃ k : Nat, k ≤ n ∧ i = .int .i64 (k : Nat) ∧ (∃ q, q = vb n ++ pts (xss.take k) ∧ q.length ≤ 1000000 ∧ wr.ownsRow w.heap.size 5 1 s q.length (Bs q)) ∧ Below w.heap.size w wr) (fun _ i _ => n - (intOf i).toNat)
  case atStart =>
    refine ⟨0, Nat.zero_le _, rfl, ⟨_, rfl, ?_, ?_⟩, HB1.out⟩
    · have := HN.out
      rw [joinB_length, HL.out] at this
      simp [pts]
      omega
    · simpa [pts] using HO1.out
  case round =>
    obtain ⟨k, hk, rfl, ⟨q, hq, hq2, hown⟩, hbel⟩ := hrel
    have HO : Hid (wr.drew.ownsRow w.heap.size 5 1 u3 q.length (Bs q)) := own_below hown ((Below.refl _ wr).drew) (Nat.le_refl _)
    have HO0 := Lib.hid hown
    have HB0 := Lib.hid hbel
    have HB : Hid (Below w.heap.size w wr.drew) := hbel.drew
    have HQ := Lib.hid hq
    have hs := hbel.size
    clear hown hbel hq
    by_cases hlt : k < n
    · obtain ⟨a, B, c2, rfl, hab, hcell, _, hBy⟩ := HR.out.at (k := k) (by rw [HL.out]; exact hlt)
      have hcell2 : wr.cell? (a.add k) = some (.slice B (xss[k]?.getD []).length c2) := (HB0.out.cell (p := a.add k) (by rw [addBlock]; exact hab)).trans hcell
      have HF := Lib.hid (pts_take xss k (by rw [HL.out]; exact hlt))
      have hle2 := pts_le xss (k + 1)
      rw [HF.out, List.length_append, pt_length] at hle2
      obtain ⟨x, hx⟩ : ∃ x, xss[k]?.getD [] = x := ⟨_, rfl⟩
      rw [hx] at hcell hle2 hcell2 hBy
      have HX := Lib.hid hx
      have HY := Lib.hid hBy
      have HC := Lib.hid hcell
      have HA : Hid ((a.add k).block < w.heap.size) := by show (a.add k).block < w.heap.size; rw [addBlock]; exact hab
      clear hx hcell hBy hab
      have hq3 : q.length + (vb x.length).length + x.length ≤ 1000000 := by
        have := HN.out
        rw [joinB_length, HL.out] at this
        rw [HQ.out, List.length_append]
        omega
      clear hle2
      have hx64 : x.length < B64 := by unfold B64; omega
      have k0 : 0 ≤ (k : Int) := by omega
      have k1 : (k : Int) < (n : Int) := by omega
      have b1 : q.length + (vb x.length).length ≤ 140737488355328 := by omega
      have b2 : q.length + (vb x.length).length + x.length ≤ 140737488355328 := by omega
      have HW : Hid (IntKind.u64.wrap ((x.length : Nat) : Int) = ((x.length : Nat) : Int)) := by show IntKind.u64.wrap ((x.length : Nat) : Int) = _; rw [IntKind.wrap_u64]; omega
      go_wp2_with fail
      go_region_law (first
        | (with_reducible refine step_is (.tmp 15) (.tmp 22) 49 ?_
           refine step_append _ rfl (.tmp 15) (.tmp 22) rfl w.heap.size u3 q.length q rfl HO2.out A2 (vb x.length).length c3 (vb x.length) rfl rfl _ HB2.out b1 HS2.out ?_
           intro v3 w3 hown3 hg3 _
           have HO3 := Lib.hid hown3
           have HB3 := Lib.hid (Hb2.out.grown hg3 HS2.out (fun i hi => (HO.out.lt i hi).1))
           have HS3 := Lib.hid HB3.out.size
           have hcell4 := (HB3.out.cell (p := a.add k) HA.out).trans HC.out
           clear hown3 hg3)
        | (with_reducible refine step_is (.tmp 23) (.tmp 27) 49 ?_
           refine step_append _ rfl (.tmp 23) (.tmp 27) rfl w.heap.size v3 (q.length + (vb x.length).length) (q ++ vb x.length) rfl HO3.out B x.length c2 x rfl rfl (· < w.heap.size) (HY.out.below HB3.out (Nat.le_refl _)) b2 HS3.out ?_
           intro v4 w4 hown4 hg4 _
           have HO4 := Lib.hid hown4
           have HB4 := Lib.hid (HB3.out.grown hg4 HS3.out (fun i hi => (HO3.out.lt i hi).1))
           clear hown4 hg4)
        | (with_reducible refine step_call 44 ?_
           go_simp
           go_at_call 44
           rw [HW.out]
           refine (refVar_any x.length _ hx64).mono ?_
           rintro e w2 ⟨u2, rfl, hown2, hb2⟩
           obtain ⟨A2, c3, rfl, -, -, -, hB2⟩ := own_slice hown2
           have HB2 := Lib.hid hB2
           have Hb2 := Lib.hid (HB.out.trans (hb2.mono HB.out.size))
           have HO2 := Lib.hid (own_below HO.out hb2 (Nat.le_refl _))
           have HS2 := Lib.hid Hb2.out.size
           have hcell3 := (Hb2.out.cell (p := a.add k) HA.out).trans HC.out
           clear hown2 hB2 hb2))
      all_goals
        go_wp2_with fail
        refine ⟨⟨k + 1, by omega, by simp, ⟨q ++ vb x.length ++ x, ?_, ?_, ?_⟩, HB4.out⟩, by simp [intOf]; omega⟩
        · rw [HF.out, HQ.out, HX.out, pt]
          simp [List.append_assoc]
        · simp [List.length_append]
          omega
        · have e : (q ++ vb x.length ++ x).length = q.length + (vb x.length).length + x.length := by simp [List.length_append]; omega
          rw [e]
          exact HO4.out
    · obtain rfl : k = n := by omega
      go_wp2_with fail
      go_ret
      refine ⟨_, rfl, ?_, HB0.out⟩
      have e : joinB xss = q := by
        rw [HQ.out, List.take_of_length_le (by rw [HL.out]; exact Nat.le_refl _), joinB, HL.out]
      rw [e]
      exact HO0.out
end Go.Proofs.Ytpgfbnilnoopoaa
namespace Go.Proofs.Ytpgfbnilnoopoaa
open Go.RowKit
set_option maxHeartbeats 1000000 in
theorem refFixed_any (v : Nat) (n : Int) (w : World) (hv : v < B64) :
    Calls Try.prog 48 #[.int .u64 (v : Nat), .int .i64 n] w fun e w' => ∃ u, e = .returned u ∧ w'.ownsRow w.heap.size 5 1 u (wid n) (Bs (fb v (wid n))) ∧ Below w.heap.size w w' := by
  go_enter Try.func48, Try.ntmps48
  go_wp2
  go_loopw [0, 5, 6] (fun x o i wr => ∃ k : Nat, k ≤ wid n ∧ x = .int .u64 ((v / 256 ^ k : Nat) : Int) ∧ i = .int .i64 (k : Nat) ∧ wr.ownsRow w.heap.size 5 1 o k (Bs (fb v k)) ∧ Below w.heap.size w wr) (fun _ _ i _ => 8 - (intOf i).toNat)
  case atStart => exact ⟨0, Nat.zero_le _, by simp, rfl, World.ownsRow_nil _ _ _ _, Below.refl _ _⟩
  case round =>
    obtain ⟨k, hk, rfl, rfl, hown, hbel⟩ := hrel
    have hw8 := wid_le n
    have hvk : v / 256 ^ k < B64 := Nat.lt_of_le_of_lt (Nat.div_le_self _ _) hv
    obtain ⟨u, hu⟩ : ∃ u, v / 256 ^ k = u := ⟨_, rfl⟩
    rw [hu] at hvk ⊢
    have HU := Lib.hid hu
    have HO := Lib.hid hown
    have HV := Lib.hid hvk
    clear hu hown hvk hv
    have hs := hbel.size
    by_cases hlt : k < wid n
    · have t1 : decide ((k : Int) < n) = true := by unfold wid at hlt; simp; omega
      have t2 : decide ((k : Int) < 8) = true := by simp; omega
      have t3 : k < 8 := by omega
      go_wp2_with (at_builtin
                   refine walk_append _ rfl (.tmp 16) (.tmp 20) rfl w.heap.size u5 k (fb v k) rfl (HO.out.alloc _) (some ⟨wr.heap.size, 0, none⟩) 1 1 [u % 256] rfl rfl (· = wr.heap.size) (byt_one wr _ (u % 256) (by first | rfl | omega | simp)) (by omega) (by simp; omega) ?_
                   intro v1 w1 hown1 hg1 _)
      refine ⟨⟨k + 1, hlt, ?_, by simp, ?_, (hbel.alloc hs _).grown hg1 (by simp; omega) (fun j hj => (HO.out.lt j hj).1)⟩, by simp [intOf]; omega⟩
      · have e : v / 256 ^ (k + 1) = u / 256 := by rw [Nat.pow_succ, ← Nat.div_div_eq_div_mul, HU.out]
        have h := HV.out
        unfold B64 at h
        rw [e, IntKind.wrap_u64]
        congr 1
        omega
      · rw [fb_succ, HU.out]
        exact hown1
    · obtain rfl : k = wid n := by omega
      by_cases hn : ((wid n : Nat) : Int) < n
      · have t1 : decide (((wid n : Nat) : Int) < n) = true := by simpa using hn
        have t2 : decide (((wid n : Nat) : Int) < 8) = false := by unfold wid at hn ⊢; simp; omega
        have t3 : ¬ wid n < 8 := by unfold wid at hn ⊢; omega
        go_wp2
        go_ret
        exact ⟨_, rfl, HO.out, hbel⟩
      · have t1 : decide (((wid n : Nat) : Int) < n) = false := by simpa using hn
        go_wp2
        go_ret
        exact ⟨_, rfl, HO.out, hbel⟩
end Go.Proofs.Ytpgfbnilnoopoaa
namespace Go.Proofs.Ytpgfbnilnoopoaa
open Go.RowKit
set_option linter.unusedSimpArgs false
set_option linter.unusedVariables false

set_option maxRecDepth 100000 in
set_option maxHeartbeats 1000000 in
theorem within_typ (A : Option Addr) (n c : Nat) (xs : List Typ) (lo hi : Int) (g : Typ → Bool) (p7 : Addr) (w : World) (hl : xs.length = n) (h : Sq typL (· < w.heap.size) w A xs) (hn2 : n ≤ 9223372036854775807) (hlo : -1000 ≤ lo ∧ lo ≤ 1000) (hhi : -9223372036854775808 ≤ hi ∧ hi ≤ 1000)
    (hG : ∀ (w1 : World) (cs : List Value) (x : Typ), Below w.heap.size w w1 → x ∈ xs → typL.R (· < w1.heap.size) w1 cs x → Calls Try.prog 50 #[vAgg cs, .pointer (some p7)] w1 (Tells (g x) w1)) :
    Calls Try.prog 53 #[.slice A n c, .int .i64 lo, .int .i64 hi, .func (.func 50) #[] #[.pointer (some p7)]] w (Tells (witB lo hi g xs) w) := by
  have HL := Lib.hid hl
  have HS := Lib.hid h
  have HP0 := Lib.hid hG
  have HW : Hid (witB lo hi g xs = (decide (lo ≤ (n : Int) ∧ (n : Int) ≤ hi) && xs.all g)) := by rw [← hl]; exact rfl
  clear hl h hG
  obtain ⟨wb, hwb⟩ : ∃ wb, witB lo hi g xs = wb := ⟨_, rfl⟩
  rw [hwb] at HW ⊢
  clear hwb
  by_cases h1 : (n : Int) < lo
  · have e : wb = false := by rw [HW.out]; simp; omega
    rw [e]
    clear HW e
    go_enter Try.func53, Try.ntmps53
    go_wp2_with fail
    go_ret
    exact ⟨rfl, Below.refl _ _⟩
  by_cases h2 : hi < (n : Int)
  · have e : wb = false := by rw [HW.out]; simp; omega
    rw [e]
    clear HW e
    go_enter Try.func53, Try.ntmps53
    go_wp2_with fail
    go_ret
    exact ⟨rfl, Below.refl _ _⟩
  replace HW : Hid (wb = xs.all g) := by
    show wb = xs.all g
    rw [HW.out]
    simp
    omega
  go_enter Try.func53, Try.ntmps53
  go_wp2_with fail
  go_loopw [23] (fun i wr => ∃ k : Nat, k ≤ n ∧ i = .int .i64 (k : Nat) ∧ (xs.take k).all g = true ∧ Below w.heap.size w wr) (fun i _ => n - (intOf i).toNat)
  case atStart => exact ⟨0, Nat.zero_le _, rfl, by simp, Below.refl _ _⟩
  case round =>
    obtain ⟨k, hk, rfl, hall, hbel⟩ := hrel
    have HA := Lib.hid hall
    have HB := Lib.hid hbel
    have hs := hbel.size
    clear hall hbel
    by_cases hlt : k < n
    · skip
      obtain ⟨x, hx⟩ : ∃ x, xs[k]? = some x := ⟨xs[k]'(by rw [HL.out]; exact hlt), List.getElem?_eq_getElem _⟩
      have hmem : x ∈ xs := List.mem_of_getElem? hx
      obtain ⟨a, cs, rfl, hab, hc, hr⟩ := HS.out.at hx
      have HX := Lib.hid hx
      clear hx
      have HR := Lib.hid hr
      obtain ⟨rfl, -, -⟩ := hr
      have c0 := (HB.out.cell (p := a.add (k * 2)) (by rw [addBlock]; exact hab)).trans (hc 0 _ rfl)
      have c1 := (HB.out.cell (p := a.add (k * 2 + 1)) (by rw [addBlock]; exact hab)).trans (hc 1 _ rfl)
      rw [next_cell a (k * 2) 1 (by omega)] at c1
      have HP : Hid (∀ w1, Below w.heap.size w w1 → Calls Try.prog 50 #[.agg #[.int .i64 x.1, .int .i64 x.2], .pointer (some p7)] w1 (Tells (g x) w1)) := fun w1 hb => HP0.out w1 [.int .i64 x.1, .int .i64 x.2] x hb hmem (typL.wide (typL.keep HR.out fun b hb1 => hb.block b hb1) fun b hb1 => Nat.lt_of_lt_of_le hb1 hb.size)
      clear hc
      cases hg : g x
      · rw [hg] at HP
        have e : wb = false := by
          rw [HW.out, List.all_eq_false]
          exact ⟨x, hmem, by rw [hg]; simp⟩
        have E := Lib.hid e
        clear e hg
        go_wp2_with (first
          | (go_at_call 50
             refine (HP.out _ (HB.out.alloc hs _)).mono ?_
             rintro e w2 ⟨rfl, hb2⟩
             have Hb2 := Lib.hid ((HB.out.alloc hs _).trans (hb2.mono (by simp; omega)))
             clear hb2))
        go_ret
        exact ⟨by rw [E.out]; rfl, Hb2.out⟩
      · rw [hg] at HP
        have HG := Lib.hid hg
        clear hg
        go_wp2_with (first
          | (go_at_call 50
             refine (HP.out _ (HB.out.alloc hs _)).mono ?_
             rintro e w2 ⟨rfl, hb2⟩
             have Hb2 := Lib.hid ((HB.out.alloc hs _).trans (hb2.mono (by simp; omega)))
             clear hb2))
        refine ⟨⟨k + 1, by omega, by simp, all_take HA.out HX.out HG.out, Hb2.out⟩, by simp [intOf]; omega⟩
    · obtain rfl : k = n := by omega
      go_wp2_with fail
      go_ret
      refine ⟨?_, HB.out⟩
      have e := HA.out
      rw [List.take_of_length_le (by rw [HL.out]; exact Nat.le_refl _)] at e
      rw [HW.out, e]
      rfl
end Go.Proofs.Ytpgfbnilnoopoaa
namespace Go.Proofs.Ytpgfbnilnoopoaa
open Go.RowKit
set_option linter.unusedSimpArgs false
set_option linter.unusedVariables false

set_option maxRecDepth 100000 in
set_option maxHeartbeats 1000000 in
theorem within_ins (A : Option Addr) (n c : Nat) (xs : List Ins) (lo hi : Int) (g : Ins → Bool) (w : World) (hl : xs.length = n) (h : Sq insL (· < w.heap.size) w A xs) (hn2 : n ≤ 9223372036854775807) (hlo : -1000 ≤ lo ∧ lo ≤ 1000) (hhi : -9223372036854775808 ≤ hi ∧ hi ≤ 1000)
    (hG : ∀ (w1 : World) (cs : List Value) (x : Ins), Below w.heap.size w w1 → x ∈ xs → insL.R (· < w1.heap.size) w1 cs x → Calls Try.prog 57 #[vAgg cs] w1 (Tells (g x) w1)) :
    Calls Try.prog 56 #[.slice A n c, .int .i64 lo, .int .i64 hi, .func (.func 57) #[] #[]] w (Tells (witB lo hi g xs) w) := by
  have HL := Lib.hid hl
  have HS := Lib.hid h
  have HP0 := Lib.hid hG
  have HW : Hid (witB lo hi g xs = (decide (lo ≤ (n : Int) ∧ (n : Int) ≤ hi) && xs.all g)) := by rw [← hl]; exact rfl
  clear hl h hG
  obtain ⟨wb, hwb⟩ : ∃ wb, witB lo hi g xs = wb := ⟨_, rfl⟩
  rw [hwb] at HW ⊢
  clear hwb
  by_cases h1 : (n : Int) < lo
  · have e : wb = false := by rw [HW.out]; simp; omega
    rw [e]
    clear HW e
    go_enter Try.func56, Try.ntmps56
    go_wp2_with fail
    go_ret
    exact ⟨rfl, Below.refl _ _⟩
  by_cases h2 : hi < (n : Int)
  · have e : wb = false := by rw [HW.out]; simp; omega
    rw [e]
    clear HW e
    go_enter Try.func56, Try.ntmps56
    go_wp2_with fail
    go_ret
    exact ⟨rfl, Below.refl _ _⟩
  replace HW : Hid (wb = xs.all g) := by
    show wb = xs.all g
    rw [HW.out]
    simp
    omega
  go_enter Try.func56, Try.ntmps56
  go_wp2_with fail
  go_loopw [23] (fun i wr => ∃ k : Nat, k ≤ n ∧ i = .int .i64 (k : Nat) ∧ (xs.take k).all g = true ∧ Below w.heap.size w wr) (fun i _ => n - (intOf i).toNat)
  case atStart => exact ⟨0, Nat.zero_le _, rfl, by simp, Below.refl _ _⟩
  case round =>
    obtain ⟨k, hk, rfl, hall, hbel⟩ := hrel
    have HA := Lib.hid hall
    have HB := Lib.hid hbel
    have hs := hbel.size
    clear hall hbel
    by_cases hlt : k < n
    · skip
      obtain ⟨x, hx⟩ : ∃ x, xs[k]? = some x := ⟨xs[k]'(by rw [HL.out]; exact hlt), List.getElem?_eq_getElem _⟩
      have hmem : x ∈ xs := List.mem_of_getElem? hx
      obtain ⟨a, cs, rfl, hab, hc, hr⟩ := HS.out.at hx
      have HX := Lib.hid hx
      clear hx
      have HR := Lib.hid hr
      obtain ⟨rfl, -, -, -⟩ := hr
      have c0 := (HB.out.cell (p := a.add (k * 3)) (by rw [addBlock]; exact hab)).trans (hc 0 _ rfl)
      have c1 := (HB.out.cell (p := a.add (k * 3 + 1)) (by rw [addBlock]; exact hab)).trans (hc 1 _ rfl)
      rw [next_cell a (k * 3) 1 (by omega)] at c1
      have c2 := (HB.out.cell (p := a.add (k * 3 + 2)) (by rw [addBlock]; exact hab)).trans (hc 2 _ rfl)
      rw [next_cell a (k * 3) 2 (by omega)] at c2
      have HP : Hid (∀ w1, Below w.heap.size w w1 → Calls Try.prog 57 #[.agg #[.int .i64 x.1, .int .i64 x.2.1, .int .i64 x.2.2]] w1 (Tells (g x) w1)) := fun w1 hb => HP0.out w1 [.int .i64 x.1, .int .i64 x.2.1, .int .i64 x.2.2] x hb hmem (insL.wide (insL.keep HR.out fun b hb1 => hb.block b hb1) fun b hb1 => Nat.lt_of_lt_of_le hb1 hb.size)
      clear hc
      cases hg : g x
      · rw [hg] at HP
        have e : wb = false := by
          rw [HW.out, List.all_eq_false]
          exact ⟨x, hmem, by rw [hg]; simp⟩
        have E := Lib.hid e
        clear e hg
        go_wp2_with (first
          | (go_at_call 57
             refine (HP.out _ (HB.out.alloc hs _)).mono ?_
             rintro e w2 ⟨rfl, hb2⟩
             have Hb2 := Lib.hid ((HB.out.alloc hs _).trans (hb2.mono (by simp; omega)))
             clear hb2))
        go_ret
        exact ⟨by rw [E.out]; rfl, Hb2.out⟩
      · rw [hg] at HP
        have HG := Lib.hid hg
        clear hg
        go_wp2_with (first
          | (go_at_call 57
             refine (HP.out _ (HB.out.alloc hs _)).mono ?_
             rintro e w2 ⟨rfl, hb2⟩
             have Hb2 := Lib.hid ((HB.out.alloc hs _).trans (hb2.mono (by simp; omega)))
             clear hb2))
        refine ⟨⟨k + 1, by omega, by simp, all_take HA.out HX.out HG.out, Hb2.out⟩, by simp [intOf]; omega⟩
    · obtain rfl : k = n := by omega
      go_wp2_with fail
      go_ret
      refine ⟨?_, HB.out⟩
      have e := HA.out
      rw [List.take_of_length_le (by rw [HL.out]; exact Nat.le_refl _)] at e
      rw [HW.out, e]
      rfl
end Go.Proofs.Ytpgfbnilnoopoaa
namespace Go.Proofs.Ytpgfbnilnoopoaa
open Go.RowKit
set_option linter.unusedSimpArgs false

theorem kgood (k n r : Int) (w : World) : Calls Try.prog 51 #[.agg #[.int .i64 k, .int .i64 n], .int .i64 r] w fun e w' => e = .returned (.bool (goodB k n r)) ∧ Below w.heap.size w w' := by
  by_cases h1 : k = 1
  · subst h1
    go_enter Try.func51, Try.ntmps51
    go_wp2_with fail
    go_ret
    exact ⟨rfl, (Below.refl _ _).alloc (Nat.le_refl _) _⟩
  by_cases h2 : k = 2
  · subst h2
    go_enter Try.func51, Try.ntmps51
    go_wp2_with fail
    go_ret
    exact ⟨rfl, (Below.refl _ _).alloc (Nat.le_refl _) _⟩
  by_cases h3 : k = 3
  · subst h3
    go_enter Try.func51, Try.ntmps51
    go_wp2_with fail
    go_ret
    exact ⟨rfl, (Below.refl _ _).alloc (Nat.le_refl _) _⟩
  by_cases h7 : k = 7
  · subst h7
    go_enter Try.func51, Try.ntmps51
    go_wp2_with fail
    go_ret
    exact ⟨rfl, (Below.refl _ _).alloc (Nat.le_refl _) _⟩
  by_cases h4 : k = 4
  · subst h4
    by_cases hn : 0 ≤ n
    · have e : goodB 4 n r = decide (n < r) := by simp [goodB, hn]
      rw [e]
      clear e
      go_enter Try.func51, Try.ntmps51
      go_wp2_with fail
      go_ret
      exact ⟨rfl, (Below.refl _ _).alloc (Nat.le_refl _) _⟩
    · have e : goodB 4 n r = false := by simp [goodB, hn]
      rw [e]
      clear e
      go_enter Try.func51, Try.ntmps51
      go_wp2_with fail
      go_ret
      exact ⟨rfl, (Below.refl _ _).alloc (Nat.le_refl _) _⟩
  by_cases h5 : k = 5
  · subst h5
    by_cases hn : 0 ≤ n
    · have e : goodB 5 n r = decide (n < 4) := by simp [goodB, hn]
      rw [e]
      clear e
      go_enter Try.func51, Try.ntmps51
      go_wp2_with fail
      go_ret
      exact ⟨rfl, (Below.refl _ _).alloc (Nat.le_refl _) _⟩
    · have e : goodB 5 n r = false := by simp [goodB, hn]
      rw [e]
      clear e
      go_enter Try.func51, Try.ntmps51
      go_wp2_with fail
      go_ret
      exact ⟨rfl, (Below.refl _ _).alloc (Nat.le_refl _) _⟩
  have e : goodB k n r = false := by simp [goodB, h1, h2, h3, h7, h4, h5]
  rw [e]
  clear e
  go_enter Try.func51, Try.ntmps51
  go_wp2_with fail
  go_ret
  exact ⟨rfl, (Below.refl _ _).alloc (Nat.le_refl _) _⟩
end Go.Proofs.Ytpgfbnilnoopoaa
namespace Go.Proofs.Ytpgfbnilnoopoaa
open Go.RowKit
set_option linter.unusedSimpArgs false
set_option linter.unusedVariables false

/-- Where fits' closures lie: the module's box b (r records), the test of a type g, the test of types t. -/
structure Env (b g t r : Nat) (w : World) : Prop where
  recs : ∃ A c, w.cell? ⟨b, 0, none⟩ = some (.slice A r c)
  good : w.cell? ⟨g, 0, none⟩ = some (.func (.func 50) #[] #[.pointer (some ⟨b, 0, none⟩)])
  types : w.cell? ⟨t, 0, none⟩ = some (.func (.func 52) #[] #[.pointer (some ⟨g, 0, none⟩)])
theorem Env.below {b g t r : Nat} {w w' : World} (h : Env b g t r w) (hb : Below w.heap.size w w') : Env b g t r w' := by
  obtain ⟨A, c, h1⟩ := h.recs
  exact ⟨⟨A, c, (hb.cell (World.block_lt_of_cell? w _ h1)).trans h1⟩, (hb.cell (World.block_lt_of_cell? w _ h.good)).trans h.good, (hb.cell (World.block_lt_of_cell? w _ h.types)).trans h.types⟩

theorem good_any (b : Nat) (x : Typ) (r : Nat) (w : World) (h : ∃ A c, w.cell? ⟨b, 0, none⟩ = some (.slice A r c)) (cs : List Value) (hr : typL.R (· < w.heap.size) w cs x) :
    Calls Try.prog 50 #[vAgg cs, .pointer (some ⟨b, 0, none⟩)] w (Tells (goodT r x) w) := by
  obtain ⟨A, c, h1⟩ := h
  obtain ⟨rfl, i1, i2⟩ := hr
  show Calls Try.prog 50 #[.agg #[.int .i64 x.1, .int .i64 x.2], .pointer (some ⟨b, 0, none⟩)] w (Tells (goodT r x) w)
  have hlt := World.block_lt_of_cell? w _ h1
  simp only at hlt
  have hne : b ≠ w.heap.size := by omega
  have HC : Hid (∀ w, Calls Try.prog 51 #[.agg #[.int .i64 x.1, .int .i64 x.2], .int .i64 (r : Int)] w (Tells (goodT r x) w)) := fun w => kgood x.1 x.2 r w
  generalize goodT r x = gd at *
  go_enter Try.func50, Try.ntmps50
  go_wp2_with (first | (go_at_call 51; refine (HC.out _).mono ?_; rintro e w1 ⟨rfl, hb⟩))
  go_ret
  exact ⟨rfl, ((Below.refl _ _).alloc (Nat.le_refl _) _).trans (hb.mono (by simp))⟩

theorem types_any (b g : Nat) (A : Option Addr) (n c : Nat) (ts : List Typ) (most : Int) (r : Nat) (w : World) (hrec : ∃ A c, w.cell? ⟨b, 0, none⟩ = some (.slice A r c))
    (hg : w.cell? ⟨g, 0, none⟩ = some (.func (.func 50) #[] #[.pointer (some ⟨b, 0, none⟩)])) (hl : ts.length = n) (h : Sq typL (· < w.heap.size) w A ts) (hn : n ≤ 9223372036854775807) (hm : -9223372036854775807 ≤ most ∧ most ≤ 1000) :
    Calls Try.prog 52 #[.slice A n c, .int .i64 most, .pointer (some ⟨g, 0, none⟩)] w (Tells (witB 0 most (goodT r) ts) w) := by
  have HC : Hid (Calls Try.prog 53 #[.slice A n c, .int .i64 0, .int .i64 most, .func (.func 50) #[] #[.pointer (some ⟨b, 0, none⟩)]] w (Tells (witB 0 most (goodT r) ts) w)) :=
    within_typ A n c ts 0 most (goodT r) ⟨b, 0, none⟩ w hl h hn (by omega) ⟨by omega, hm.2⟩ fun w1 cs x hb _ hr => by
      obtain ⟨A', c', h1⟩ := hrec
      exact good_any b x r w1 ⟨A', c', (hb.cell (World.block_lt_of_cell? w _ h1)).trans h1⟩ cs hr
  clear hrec hl h
  go_enter Try.func52, Try.ntmps52
  go_wp2_with (first | (go_at_call 53; refine HC.out.mono ?_; rintro e w1 ⟨rfl, hb⟩))
  go_ret
  exact ⟨rfl, hb⟩

theorem record_any (b g t r : Nat) (x : List Typ) (w : World) (he : Env b g t r w) (cs : List Value) (hr : tysL.R (· < w.heap.size) w cs x) :
    Calls Try.prog 54 #[vOne cs, .pointer (some ⟨t, 0, none⟩)] w (Tells (recOk r x) w) := by
  obtain ⟨A, c, rfl, l1, l2, l3⟩ := hr
  show Calls Try.prog 54 #[.slice A x.length c, .pointer (some ⟨t, 0, none⟩)] w (Tells (recOk r x) w)
  have ht := he.types
  obtain ⟨n, hn⟩ : ∃ n, x.length = n := ⟨_, rfl⟩
  have hn2 : n ≤ 9223372036854775807 := by unfold maxLen at l2; omega
  have HC : Hid (Calls Try.prog 52 #[.slice A n c, .int .i64 6, .pointer (some ⟨g, 0, none⟩)] w (Tells (recOk r x) w)) := types_any b g A n c x 6 r w he.recs he.good hn l3 hn2 (by omega)
  rw [hn]
  clear hn l1 l2 l3 he
  generalize recOk r x = gd at *
  go_enter Try.func54, Try.ntmps54
  go_wp2_with (first | (go_at_call 52; refine HC.out.mono ?_; rintro e w1 ⟨rfl, hb⟩))
  go_ret
  exact ⟨rfl, hb⟩

theorem goodIns_any (x : Ins) (w : World) (cs : List Value) (hr : insL.R (· < w.heap.size) w cs x) : Calls Try.prog 57 #[vAgg cs] w (Tells (goodIn x) w) := by
  obtain ⟨rfl, -⟩ := hr
  show Calls Try.prog 57 #[.agg #[.int .i64 x.1, .int .i64 x.2.1, .int .i64 x.2.2]] w (Tells (goodIn x) w)
  have HC : Hid (∀ w, Calls Try.prog 69 #[.agg #[.int .i64 x.1, .int .i64 x.2.1, .int .i64 x.2.2]] w (Puts (iB x) w)) := fun w => iput_any x.1 x.2.1 x.2.2 w
  have hlen := iB_len x
  have hd : Hid (goodIn x = decide (0 < (iB x).length)) := by
    show goodIn x = decide (0 < (iB x).length)
    cases hg : goodIn x
    · have e : iB x = [] := insB_none (by rw [show goodI x.1 x.2.1 x.2.2 = false from hg]; simp)
      rw [e]
      simp
    · have := insB_pos (op := x.1) (a := x.2.1) (b := x.2.2) hg
      exact (decide_eq_true this).symm
  obtain ⟨y, hy⟩ : ∃ y, iB x = y := ⟨_, rfl⟩
  rw [hy] at HC hd hlen
  generalize goodIn x = gd at *
  clear hy
  generalize x.1 = q1 at *
  generalize x.2.1 = q2 at *
  generalize x.2.2 = q3 at *
  go_enter Try.func57, Try.ntmps57
  go_wp2_with (first | (go_at_call 69; refine (HC.out _).mono ?_; rintro e w1 ⟨u, rfl, hown, hb⟩; obtain ⟨A2, c2, rfl, -, -, -, -⟩ := own_slice hown; clear hown; have HB := Lib.hid hb; clear hb))
  go_ret
  refine ⟨?_, ((Below.refl _ _).alloc (Nat.le_refl _) _).trans (HB.out.mono (by simp))⟩
  rw [hd.out]
  simp

theorem shortText_any (x : List Nat) (w : World) (cs : List Value) (hr : strL.R (· < w.heap.size) w cs x) : Calls Try.prog 63 #[vOne cs] w (Tells (shortB x) w) := by
  obtain ⟨s, rfl, rfl⟩ := hr
  show Calls Try.prog 63 #[.string s] w (Tells (shortB (strB s)) w)
  have hd : Hid (shortB (strB s) = decide (s.size ≤ 32)) := by show shortB (strB s) = _; rw [shortB, strB_len]
  generalize shortB (strB s) = gd at *
  go_enter Try.func63, Try.ntmps63
  go_wp2_with fail
  go_ret
  refine ⟨?_, Below.refl _ _⟩
  rw [hd.out]
  simp
  omega
end Go.Proofs.Ytpgfbnilnoopoaa
