/-
  What hans.New and the methods of a table do: List, isOpen, Use, Close; each where there is no table, too.
  Conditions: as each theorem says.
-/
import Derived.Test.YthahfhmkgkfoaaaHn
import Derived.Test.YthahfhmkgkfoaaaTn
import Derived.Deep.RegionHeld3
import Derived.Deep.DeepCutAuto
namespace Go.Proofs.Ythahfhmkgkfoaaa
open Go.RowKit
set_option linter.unusedSimpArgs false
set_option linter.unusedVariables false

set_option maxRecDepth 100000 in
set_option maxHeartbeats 400000 in
theorem clone_hds (A : Option Addr) (n c : Nat) (H : List Hnd) (w : World) (hl : H.length = n) (hR : Sq hdL (· < w.heap.size) w A H) (hn : n ≤ 1000000) :
    Calls Try.prog 14 #[.slice A n c] w fun e w' => ∃ v, e = .returned v ∧ w'.ownsRow w.heap.size 31 3 v n (Hcs H) ∧ Below w.heap.size w w' := by
  have qq : ∀ (w : World) (a : Option Addr) (n c n' c' : Nat), (binOp .eql 22 (.slice a n c) (.slice none n' c')).run Try.prog w = .ok (.bool a.isNone) w := fun w a n c n' c' => Lib.run_eql_slice_nil w _ _ a n c n' c' Try.underlying22
  have HL := Lib.hid hl
  have HR := Lib.hid hR
  rcases A with _ | a
  · have h0 : H = [] := by
      cases H with
      | nil => rfl
      | cons t ts => obtain ⟨a, e, -⟩ := hR (by simp); cases e
    subst h0
    obtain rfl : n = 0 := by simpa using hl.symm
    clear hl hR
    go_enter Try.func14, Try.ntmps14
    go_wp2_with fail
    go_ret
    exact ⟨_, rfl, World.ownsRow_nil _ _ _ _, Below.refl _ _⟩
  · clear hl hR
    go_enter Try.func14, Try.ntmps14
    go_wp2_with (at_builtin
                 refine walk_append_all hdL _ rfl (.tmp 5) (.tmp 6) 22 31 rfl (.agg #[.int .i64 0, .int .u64 0, .bool false]) 24 Try.underlying22 hd_info rfl (by decide) (by omega) w.heap.size (.slice (some ⟨w.heap.size, 0, none⟩) 0 0) rfl (ownr_empty w _ _) a n c H rfl HL.out (· < w.heap.size) (HR.out.keep fun b hb => Below.heap_alloc w _ b hb) (by omega) (by simp) ?_
                 intro v2 w2 css hcl hown2 hRR hg2
                 rw [hds_flat (hcl.trans HL.out.symm) hRR] at hown2
                 have HO2 := Lib.hid hown2
                 have HB2 := Lib.hid (((Below.refl w.heap.size w).alloc (Nat.le_refl _) (.cells #[] 31)).grown hg2 (by simp) (fun i hi => by simp [Value.ownBlock] at hi; omega))
                 clear hown2 hRR hg2 hcl)
    go_ret
    exact ⟨_, rfl, HO2.out, HB2.out⟩

set_option maxRecDepth 100000 in
theorem tnew_any (A : Option Addr) (n c : Nat) (H : List Hnd) (w : World) (hl : H.length = n) (h : Sq hdL (· < w.heap.size) w A H) (hn : n ≤ 1000000) :
    Calls Try.prog 8 #[.slice A n c] w fun e w' => ∃ g, e = .returned (.pointer (some ⟨g, 0, none⟩)) ∧ w.heap.size ≤ g ∧ IsTb (fun b => w.heap.size ≤ b ∧ b < w'.heap.size) w' g H ∧ Below w.heap.size w w' := by
  have HC := Lib.hid (clone_hds A n c H w hl h hn)
  have HL := Lib.hid hl
  have HK := Lib.hid (sq_ok h)
  clear hl h
  go_enter Try.func8, Try.ntmps8
  go_wp2_with (first
    | (go_at_call 14
       refine HC.out.mono ?_
       rintro e w1 ⟨v1, rfl, ho1, hb1⟩
       rw [← HL.out] at ho1
       obtain ⟨A1, c1, rfl, -, -, -⟩ := hds_sl ho1 HK.out
       have HO1 := Lib.hid ho1
       have HB1 := Lib.hid hb1
       have hs1 := hb1.size
       clear ho1 hb1))
  go_ret
  refine ⟨w1.heap.size, rfl, hs1, ⟨_, blk_at rfl, ⟨hs1, by simp⟩, fun e => ?_, fun b e => ?_, ?_, HK.out⟩, HB1.out.alloc hs1 _⟩
  · have := (HO1.out.lt _ e).2
    omega
  · have := HO1.out.lt _ e
    exact ⟨this.1, by simp; omega⟩
  · have := ownr_keep HO1.out (w' := w1.alloc (.cells #[.slice A1 H.length c1] 47)) fun b e => Below.heap_alloc _ _ _ (HO1.out.lt b e).2
    exact ⟨this.1, this.2.imp id fun ⟨g, cap, cur, e, q1, q2⟩ => ⟨g, cap, cur, e, Nat.zero_le _, q2⟩⟩

theorem tlist_nil (w : World) : Calls Try.prog 13 #[.pointer none] w fun e w' => e = .returned (.slice none 0 0) ∧ w = w' := by
  go_enter Try.func13, Try.ntmps13
  go_wp2
  go_ret
  exact ⟨rfl, rfl⟩
set_option maxRecDepth 100000 in
theorem tlist_any {S : Nat → Prop} {H : List Hnd} (g : Nat) (w : World) (h : IsTb S w g H) (hn : H.length ≤ 1000000) :
    Calls Try.prog 13 #[.pointer (some ⟨g, 0, none⟩)] w fun e w' => ∃ v, e = .returned v ∧ w'.ownsRow w.heap.size 31 3 v H.length (Hcs H) ∧ Below w.heap.size w w' := by
  obtain ⟨v, hb, -, -, -, hO, ok⟩ := h
  obtain ⟨A, c, rfl, -, -, hsq⟩ := hds_sl hO ok
  have HC := Lib.hid (clone_hds A H.length c H w rfl (hsq.wide fun b hb => hb.2.2) hn)
  have c0 := hb.cell 0
  clear hO hsq
  generalize H.length = n at *
  go_enter Try.func13, Try.ntmps13
  go_wp2_with (first
    | (go_at_call 14
       refine HC.out.mono ?_
       rintro e w1 ⟨v1, rfl, ho1, hb1⟩
       have HO1 := Lib.hid ho1
       have HB1 := Lib.hid hb1
       clear ho1 hb1))
  go_ret
  exact ⟨_, rfl, HO1.out, HB1.out⟩

/-- Whether handle n is open. -/
def opnB (H : List Hnd) (n : Nat) : Bool :=
  match H[n]? with
  | none => false
  | some h => h.opn
theorem isOpen_nil (n : Nat) (w : World) : Calls Try.prog 15 #[.pointer none, .int .u64 (n : Int)] w fun e w' => e = .returned (.bool false) ∧ w = w' := by
  go_enter Try.func15, Try.ntmps15
  go_wp2
  go_ret
  exact ⟨rfl, rfl⟩
set_option maxRecDepth 100000 in
set_option maxHeartbeats 400000 in
theorem isOpen_any {S : Nat → Prop} {H : List Hnd} (g n : Nat) (w : World) (h : IsTb S w g H) (hn : H.length ≤ 1000000) (h64 : n < B64) :
    Calls Try.prog 15 #[.pointer (some ⟨g, 0, none⟩), .int .u64 (n : Int)] w fun e w' => e = .returned (.bool (opnB H n)) ∧ w = w' := by
  unfold B64 at h64
  obtain ⟨v, hb, -, -, -, hO, ok⟩ := h
  obtain ⟨A, c, rfl, -, -, -⟩ := hds_sl hO ok
  have c0 := hb.cell 0
  unfold opnB
  cases hx : H[n]? with
  | none =>
    have hm : H.length ≤ n := by rwa [List.getElem?_eq_none_iff] at hx
    clear hx hO
    generalize H.length = m at *
    have hd : decide ((n : Int) < (m : Int)) = false := by simp; omega
    go_enter Try.func15, Try.ntmps15
    go_wp2
    go_ret
    exact ⟨rfl, rfl⟩
  | some x =>
    have hm : n < H.length := (List.getElem?_eq_some_iff.1 hx).1
    obtain ⟨gr, rfl, -, -, -, -, -, k2, -⟩ := hds_at hO hx
    clear hx hO
    generalize H.length = m at *
    have hd : decide ((n : Int) < (m : Int)) = true := by simp; omega
    have hlt : (n : Int) < (m : Int) := by omega
    go_enter Try.func15, Try.ntmps15
    go_wp2
    go_ret
    exact ⟨rfl, rfl⟩
end Go.Proofs.Ythahfhmkgkfoaaa
