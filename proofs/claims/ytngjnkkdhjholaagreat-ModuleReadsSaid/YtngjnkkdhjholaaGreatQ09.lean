/-
  What bytes.Clone does. Conditions: as each theorem says.
  What the small calls of a num.Reader do: Bad, Left, spoil, NewReader, cut. Conditions: as each theorem says (where a Reader lies, what bytes it holds).
  What leadingVar and a Reader's Var do. Conditions: as each theorem says.
  What a Reader's Fixed takes; what slices.Backward over bytes yields to a loop, from the last byte to the first, whatever the loop's body is, as long as the body turns no block but its own. Conditions: as each theorem says.
-/
import Derived.Test.YtngjnkkdhjholaaGreatQ01
import Derived.Test.YtngjnkkdhjholaaGreatQ02
import Derived.RangeFuncNested
import Derived.RangeFuncBound
import Derived.RangeFuncCalls
import Derived.RangeFuncLeaves
import Derived.RangeFuncBox
import Derived.Shelf.Abstract
import Derived.Shelf.RegionOpen
import Derived.OwnWalkIn
import Derived.TacticsInMore
import Derived.LoopNIn
import Derived.LoopIn
import Derived.Laws.BitsAllLaws
import Derived.Laws.Bits64
namespace Go.Proofs.YtngjnkkdhjholaaGreat
open Go.RowKit
set_option maxHeartbeats 400000 in
theorem clone_any (A : Option Addr) (n c : Nat) (xs : List Nat) (w : World) (hx : xs.length = n) (hb : Byt (· < w.heap.size) w A xs) (hn : n ≤ 140737488355328) :
    Calls Tryz.prog 90 #[.slice A n c] w fun e w' => ∃ v, e = .returned v ∧ w'.ownsRow w.heap.size 5 1 v n (Bs xs) ∧ Below w.heap.size w w' := by
  have q23 : ∀ (w : World) (a : Option Addr) (n c n' c' : Nat), (binOp .eql 31 (.slice a n c) (.slice none n' c')).run Tryz.prog w = .ok (.bool a.isNone) w := fun w a n c n' c' => Lib.run_eql_slice_nil w _ _ a n c n' c' Tryz.underlying31
  have HX := Lib.hid hx
  have HB := Lib.hid hb
  clear hx hb
  rcases A with _ | a
  · have h0 : n = 0 := by
      rcases Nat.eq_zero_or_pos n with h | h
      · exact h
      · obtain ⟨a, h, _⟩ := HB.out (by rw [HX.out]; omega)
        cases h
    subst h0
    obtain rfl : xs = [] := List.eq_nil_of_length_eq_zero HX.out
    go_enter Tryz.func90, Tryz.ntmps90
    go_wp2
    go_ret
    exact ⟨_, rfl, World.ownsRow_nil _ _ _ _, Below.refl _ _⟩
  · go_enter Tryz.func90, Tryz.ntmps90
    go_wp2_with (at_builtin
                 refine walk_append _ rfl (.tmp 5) (.tmp 6) rfl w.heap.size (.slice (some ⟨w.heap.size, 0, none⟩) 0 0) 0 [] rfl (own_empty w) (some a) n c xs rfl HX.out (· < w.heap.size)
                   (HB.out.keep fun b hb => Below.heap_alloc w _ b hb) (by omega) (by simp) ?_
                 intro v1 w1 hown1 hg1 _)
    go_ret
    refine ⟨v1, rfl, by simpa using hown1, ((Below.refl _ w).alloc (Nat.le_refl _) _).grown hg1 (by simp) (fun k hk => ?_)⟩
    simp [Value.ownBlock] at hk
    omega

theorem clone_nil (w : World) : Calls Tryz.prog 90 #[.slice none 0 0] w fun e w' => e = .returned (.slice none 0 0) ∧ w = w' := by
  have q23 : ∀ (w : World) (a : Option Addr) (n c n' c' : Nat), (binOp .eql 31 (.slice a n c) (.slice none n' c')).run Tryz.prog w = .ok (.bool a.isNone) w := fun w a n c n' c' => Lib.run_eql_slice_nil w _ _ a n c n' c' Tryz.underlying31
  go_enter Tryz.func90, Tryz.ntmps90
  go_wp2
  go_ret
  exact ⟨rfl, rfl⟩
end Go.Proofs.YtngjnkkdhjholaaGreat
namespace Go.Proofs.YtngjnkkdhjholaaGreat
open Go.RowKit

/-- The Reader in block g is good, and holds the bytes xs. -/
def Good (w : World) (g : Nat) (xs : List Nat) : Prop :=
  ∃ A c, Blk w g 124 #[.slice A xs.length c, .bool false] ∧ xs.length ≤ c ∧ c ≤ maxLen ∧ Byt (· < g) w A xs

/-- The Reader in block g is bad. -/
def Bad (w : World) (g : Nat) : Prop := Blk w g 124 #[.slice none 0 0, .bool true]

theorem Good.lt {w : World} {g : Nat} {xs : List Nat} (h : Good w g xs) : g < w.heap.size := by
  obtain ⟨_, _, h, _⟩ := h
  exact h.lt

theorem Bad.lt {w : World} {g : Nat} (h : Bad w g) : g < w.heap.size := Blk.lt h

theorem Good.keep {w w' : World} {g : Nat} {xs : List Nat} (h : Good w g xs) (hk : ∀ b, b ≤ g → w'.heap[b]? = w.heap[b]?) : Good w' g xs := by
  obtain ⟨A, c, h, hlc, hcm, hB⟩ := h
  exact ⟨A, c, (hk g (Nat.le_refl _)).trans h, hlc, hcm, hB.keep fun b hb => hk b (Nat.le_of_lt hb)⟩

theorem Good.below {w w' : World} {g B : Nat} {xs : List Nat} (h : Good w g xs) (hb : Below B w w') (hg : g < B) : Good w' g xs := h.keep fun b hbg => hb.block b (by omega)

theorem Bad.below {w w' : World} {g B : Nat} (h : Bad w g) (hb : Below B w w') (hg : g < B) : Bad w' g := (hb.block g hg).trans h

theorem Bad.alloc {w : World} {g : Nat} (h : Bad w g) (o : Obj) : Bad (w.alloc o) g := (Below.heap_alloc w o g h.lt).trans h

theorem Good.alloc {w : World} {g : Nat} {xs : List Nat} (h : Good w g xs) (o : Obj) : Good (w.alloc o) g xs := h.keep fun b hb => Below.heap_alloc w o b (by have := h.lt; omega)

set_option maxHeartbeats 400000 in
theorem bad_nil (w : World) : Calls Tryz.prog 43 #[.pointer none] w fun e w' => e = .returned (.bool true) ∧ w = w' := by
  go_enter Tryz.func43, Tryz.ntmps43
  go_wp2
  go_ret
  exact ⟨rfl, rfl⟩

set_option maxHeartbeats 400000 in
theorem bad_at (g : Nat) (v : Value) (b : Bool) (w : World) (h : Blk w g 124 #[v, .bool b]) : Calls Tryz.prog 43 #[.pointer (some ⟨g, 0, none⟩)] w fun e w' => e = .returned (.bool b) ∧ w = w' := by
  have h1 := h.cell 1
  simp at h1
  clear h
  go_enter Tryz.func43, Tryz.ntmps43
  go_wp2
  go_ret
  exact ⟨rfl, rfl⟩

set_option maxHeartbeats 400000 in
theorem left_nil (w : World) : Calls Tryz.prog 44 #[.pointer none] w fun e w' => e = .returned (.int .i64 0) ∧ w = w' := by
  go_enter Tryz.func44, Tryz.ntmps44
  go_wp2_with (go_at_call 43; refine (bad_nil _).mono ?_; rintro e w' ⟨rfl, rfl⟩)
  go_ret
  exact ⟨rfl, rfl⟩

set_option maxHeartbeats 400000 in
theorem left_bad (g : Nat) (w : World) (h : Bad w g) : Calls Tryz.prog 44 #[.pointer (some ⟨g, 0, none⟩)] w fun e w' => e = .returned (.int .i64 0) ∧ w = w' := by
  have hb := Lib.hid (bad_at g _ _ w h)
  clear h
  go_enter Tryz.func44, Tryz.ntmps44
  go_wp2_with (go_at_call 43; refine hb.out.mono ?_; rintro e w' ⟨rfl, rfl⟩)
  go_ret
  exact ⟨rfl, rfl⟩

set_option maxHeartbeats 400000 in
theorem left_good (g : Nat) (xs : List Nat) (w : World) (h : Good w g xs) : Calls Tryz.prog 44 #[.pointer (some ⟨g, 0, none⟩)] w fun e w' => e = .returned (.int .i64 (xs.length : Nat)) ∧ w = w' := by
  obtain ⟨A, c, h, _, _, _⟩ := h
  have hb := Lib.hid (bad_at g _ _ w h)
  have h0 := h.cell 0
  simp at h0
  clear h
  go_enter Tryz.func44, Tryz.ntmps44
  go_wp2_with (go_at_call 43; refine hb.out.mono ?_; rintro e w' ⟨rfl, rfl⟩)
  go_ret
  exact ⟨rfl, rfl⟩

set_option maxHeartbeats 400000 in
theorem spoil_at (g : Nat) (xs : List Nat) (w : World) (h : Good w g xs) : Calls Tryz.prog 99 #[.pointer (some ⟨g, 0, none⟩)] w fun e w' => e = .returned (.tuple #[]) ∧ Bad w' g ∧ Only g w w' := by
  obtain ⟨A, c, h, _, _, _⟩ := h
  have hk := Lib.hid h
  have h0 := h.cell 0
  have h1 := h.cell 1
  have f0 := h.frozen 0
  have f1 := h.frozen 1
  simp at h0 h1
  clear h
  go_enter Tryz.func99, Tryz.ntmps99
  go_wp2
  go_end0
  refine ⟨rfl, ?_, ?_⟩
  · have := (hk.out.set 0 (.slice none 0 0)).set 1 (.bool true)
    unfold Bad
    simpa using this
  · exact only_set (only_set (only_refl g w) _ _) _ _

set_option maxHeartbeats 400000 in
theorem newReader_any (A : Option Addr) (n c : Nat) (xs : List Nat) (w : World) (hx : xs.length = n) (hb : Byt (· < w.heap.size) w A xs) (hn : n ≤ 140737488355328) :
    Calls Tryz.prog 42 #[.slice A n c] w fun e w' => ∃ g, e = .returned (.pointer (some ⟨g, 0, none⟩)) ∧ Good w' g xs ∧ w.heap.size ≤ g ∧ Below w.heap.size w w' := by
  have hc := Lib.hid (clone_any A n c xs w hx hb hn)
  clear hx hb
  go_enter Tryz.func42, Tryz.ntmps42
  go_wp2_with (go_at_call 90
               refine hc.out.mono ?_
               rintro e w1 ⟨v, rfl, hown, hbel⟩
               obtain ⟨A', c', rfl, hl, hlc, hcm, hB⟩ := own_slice hown
               have HO := Lib.hid hown
               have HL := Lib.hid hl
               have HB := Lib.hid hB
               clear hown hl hB)
  go_ret
  have hsz := hbel.size
  refine ⟨w1.heap.size, rfl, ⟨A', c', ?_, by rw [← HL.out]; exact hlc, hcm, ?_⟩, hsz, hbel.alloc hsz _⟩
  · rw [← HL.out]; exact heap_alloc_new w1 _
  · exact (HB.out.keep fun b hb => Below.heap_alloc w1 _ b hb.2).wide fun b hb => hb.2

set_option maxHeartbeats 400000 in
theorem cut_nil (n : Int) (w : World) : Calls Tryz.prog 100 #[.pointer none, .int .i64 n] w fun e w' => e = .returned (.slice none 0 0) ∧ w = w' := by
  go_enter Tryz.func100, Tryz.ntmps100
  go_wp2_with (go_at_call 43; refine (bad_nil _).mono ?_; rintro e w' ⟨rfl, rfl⟩)
  go_ret
  exact ⟨rfl, rfl⟩

set_option maxHeartbeats 400000 in
theorem cut_bad (g : Nat) (n : Int) (w : World) (h : Bad w g) : Calls Tryz.prog 100 #[.pointer (some ⟨g, 0, none⟩), .int .i64 n] w fun e w' => e = .returned (.slice none 0 0) ∧ w = w' := by
  have hb := Lib.hid (bad_at g _ _ w h)
  clear h
  go_enter Tryz.func100, Tryz.ntmps100
  go_wp2_with (go_at_call 43; refine hb.out.mono ?_; rintro e w' ⟨rfl, rfl⟩)
  go_ret
  exact ⟨rfl, rfl⟩

set_option maxHeartbeats 400000 in
theorem cut_short (g : Nat) (n : Int) (xs : List Nat) (w : World) (h : Good w g xs) (hn : n < 0 ∨ (xs.length : Int) < n) :
    Calls Tryz.prog 100 #[.pointer (some ⟨g, 0, none⟩), .int .i64 n] w fun e w' => e = .returned (.slice none 0 0) ∧ Bad w' g ∧ Only g w w' := by
  have hs := Lib.hid (spoil_at g xs w h)
  obtain ⟨A, c, h, _, _, _⟩ := h
  have hb := Lib.hid (bad_at g _ _ w h)
  have h0 := h.cell 0
  simp at h0
  clear h
  rcases hn with hn | hn
  · go_enter Tryz.func100, Tryz.ntmps100
    go_wp2_with (first | (go_at_call 43; refine hb.out.mono ?_; rintro e w' ⟨rfl, rfl⟩) | (go_at_call 99; refine hs.out.mono ?_; rintro e w' ⟨rfl, hB, hO⟩))
    go_ret
    exact ⟨rfl, hB, hO⟩
  · have hn' : ¬ n < 0 := by omega
    go_enter Tryz.func100, Tryz.ntmps100
    go_wp2_with (first | (go_at_call 43; refine hb.out.mono ?_; rintro e w' ⟨rfl, rfl⟩) | (go_at_call 99; refine hs.out.mono ?_; rintro e w' ⟨rfl, hB, hO⟩))
    go_ret
    exact ⟨rfl, hB, hO⟩

set_option maxHeartbeats 400000 in
theorem cut_ok (g : Nat) (k : Nat) (xs : List Nat) (w : World) (h : Good w g xs) (hk : k ≤ xs.length) :
    Calls Tryz.prog 100 #[.pointer (some ⟨g, 0, none⟩), .int .i64 (k : Nat)] w fun e w' => ∃ A c, e = .returned (.slice A k c) ∧ Byt (· < g) w' A (xs.take k) ∧ k ≤ c ∧ c ≤ maxLen ∧ Good w' g (xs.drop k) ∧ Only g w w' := by
  obtain ⟨A, c, h, hlc, hcm, hB⟩ := h
  have hb := Lib.hid (bad_at g _ _ w h)
  have h0 := h.cell 0
  have f0 := h.frozen 0
  simp at h0
  have hk' := Lib.hid h
  have HB := Lib.hid hB
  have hkc : k ≤ c := by omega
  have hk0 : ¬ (k : Int) < 0 := by omega
  clear h hB
  by_cases hck : c = k
  · go_enter Tryz.func100, Tryz.ntmps100
    go_wp2_with (first | (go_at_call 43; refine hb.out.mono ?_; rintro e w' ⟨rfl, rfl⟩))
    go_ret
    refine ⟨A, k, rfl, (HB.out.keep fun b hb => Below.heap_setCell _ _ _ _ (by simp; omega)).take k, Nat.le_refl _, by omega, ⟨A, 0, ?_, by simp; omega, by simp [maxLen], ?_⟩, only_set (only_refl g w) _ _⟩
    · have := hk'.out.set 0 (.slice A (xs.length - k) 0)
      rw [List.length_drop]
      simpa using this
    · have e : xs.drop k = [] := List.eq_nil_of_length_eq_zero (by simp; omega)
      rw [e]
      exact Byt.nil _ _ _
  · go_enter Tryz.func100, Tryz.ntmps100
    go_wp2_with (first | (go_at_call 43; refine hb.out.mono ?_; rintro e w' ⟨rfl, rfl⟩))
    go_ret
    refine ⟨A, c, rfl, (HB.out.keep fun b hb => Below.heap_setCell _ _ _ _ (by simp; omega)).take k, hkc, hcm, ⟨_, c - k, ?_, by simp; omega, by omega, (HB.out.keep fun b hb => Below.heap_setCell _ _ _ _ (by simp; omega)).drop k⟩, only_set (only_refl g w) _ _⟩
    have := hk'.out.set 0 (.slice (A.map (·.add k)) (xs.length - k) (c - k))
    rw [List.length_drop]
    simpa using this
end Go.Proofs.YtngjnkkdhjholaaGreat
namespace Go.Proofs.YtngjnkkdhjholaaGreat
open Go.RowKit

/-- What leadingVar answers. -/
def Lead (xs : List Nat) (w : World) (e : Ending) (w' : World) : Prop :=
  w = w' ∧ ((∃ v n : Nat, IsVar xs v n ∧ e = .returned (.tuple #[.int .u64 (v : Nat), .int .i64 (n : Nat), .bool true])) ∨
    ((¬ ∃ v n, IsVar xs v n) ∧ e = .returned (.tuple #[.int .u64 0, .int .i64 0, .bool false])))

theorem or_var (s x k : Nat) (hs : s < 128 ^ k) (hx : x < 256) (hfit : s + x % 128 * 128 ^ k < B64) :
    bits .or .u64 (s : Int) (IntKind.u64.wrap (IntKind.u64.wrap (bits .andNot .u8 (x : Int) 128) * 2 ^ (7 * k))) = ((s + x % 128 * 128 ^ k : Nat) : Int) := by
  unfold B64 at hfit
  have e1 : bits .andNot .u8 (x : Int) 128 = ((x % 128 : Nat) : Int) := by
    have := u8_andNot_nat x 128 hx (by omega)
    rw [← nat_mask7]
    exact this
  have e2 : (2 : Int) ^ (7 * k) = ((128 ^ k : Nat) : Int) := by
    have : (128 : Nat) ^ k = 2 ^ (7 * k) := by rw [Nat.pow_mul]
    rw [this, Int.natCast_pow]; rfl
  have e3 : ((x % 128 : Nat) : Int) * ((128 ^ k : Nat) : Int) = ((x % 128 * 128 ^ k : Nat) : Int) := by rw [Int.natCast_mul]
  rw [e1, IntKind.wrap_u64 ((x % 128 : Nat) : Int), show ((x % 128 : Nat) : Int) % 18446744073709551616 = ((x % 128 : Nat) : Int) by omega, e2, e3, IntKind.wrap_u64,
    show ((x % 128 * 128 ^ k : Nat) : Int) % 18446744073709551616 = ((x % 128 * 128 ^ k : Nat) : Int) by omega, u64_or_nat _ _ (by omega) (by omega), Nat.or_comm]
  have e4 : (2 : Nat) ^ (7 * k) = 128 ^ k := by rw [Nat.pow_mul]
  rw [nat_join (7 * k) (x % 128 * 128 ^ k) s (by rw [e4]; exact Nat.mul_mod_left _ _) (by rw [e4]; exact hs), Nat.add_comm]

theorem or_take (xs : List Nat) (k x : Nat) (hk : k < xs.length) (hkl : k ≤ xs.length) (_ : k ≤ 9) (hx : xs[k]?.getD 0 = x) (hx2 : x < 256) (hfit : sv (xs.take (k + 1)) < B64) :
    bits .or .u64 ((sv (xs.take k) : Nat) : Int) (IntKind.u64.wrap (IntKind.u64.wrap (bits .andNot .u8 (x : Int) 128) * 2 ^ (7 * k))) = ((sv (xs.take (k + 1)) : Nat) : Int) := by
  rw [sv_take xs k hk, hx] at hfit ⊢
  exact or_var _ _ _ (take_lt xs k hkl) hx2 hfit

theorem ok_tuple {a b : Int} {k : Nat} (h : a = b) : Ending.returned (.tuple #[.int .u64 a, .int .i64 ((k : Int) + 1), .bool true]) = .returned (.tuple #[.int .u64 b, .int .i64 ((k + 1 : Nat) : Int), .bool true]) := by rw [h]; rfl

set_option maxRecDepth 100000 in
set_option maxHeartbeats 1000000 in
theorem leading_any (A : Option Addr) (c : Nat) (xs : List Nat) (w : World) (S : Nat → Prop) (hB : Byt S w A xs) (hb : ∀ x ∈ xs, x < 256) (hc : xs.length ≤ 140737488355328) :
    Calls Tryz.prog 98 #[.slice A xs.length c] w (Lead xs w) := by
  have HB := Lib.hid hB
  have Hb := Lib.hid hb
  clear hB hb
  have hmin : min (xs.length : Int) 10 = ((min xs.length 10 : Nat) : Int) := by omega
  go_enter Tryz.func98, Tryz.ntmps98
  go_wp2
  all_goals
    go_loop [2, 10] (fun v i => ∃ k : Nat, More xs k ∧ k ≤ 10 ∧ i = .int .i64 (k : Nat) ∧ v = .int .u64 (sv (xs.take k) : Nat)) (fun _ i => 10 - (intOf i).toNat)
    case atStart => exact ⟨0, More.zero xs, by omega, rfl, by simp [sv]⟩
    case round =>
      obtain ⟨k, hm, hk10, rfl, rfl⟩ := hrel
      have HM := Lib.hid hm
      have hkl := hm.1
      clear hm
      by_cases hlt : k < xs.length ∧ k < 10
      · obtain ⟨hlt1, hlt2⟩ := hlt
        obtain ⟨a, rfl, _, hcell⟩ := HB.out.at (k := k) hlt1
        obtain ⟨x, hx⟩ : ∃ x, xs[k]?.getD 0 = x := ⟨_, rfl⟩
        rw [hx] at hcell
        have HX := Lib.hid hx
        have hx256 : x < 256 := by
          rw [← hx]
          simp only [hlt1, List.getElem?_eq_getElem, Option.getD_some]
          exact Hb.out _ (List.getElem_mem hlt1)
        clear hx
        by_cases e9 : k = 9
        · have b9 : ((k : Int) == 9) = true := by simp; omega
          have HE := Lib.hid e9
          clear e9
          by_cases x1 : 1 < x
          · have d1 : decide ((1 : Int) < (x : Int)) = true := by simp; omega
            go_wp2
            go_ret3
            refine ⟨rfl, .inr ⟨?_, rfl⟩⟩
            have hm := HM.out
            have hx := HX.out
            rw [HE.out] at hm hx
            exact no_tenth hm (by omega)
          · have d1 : decide ((1 : Int) < (x : Int)) = false := by simp; omega
            have d2 : decide ((x : Int) < 128) = true := by simp; omega
            have d3 : 0 < k := by have := HE.out; omega
            have hk9 : k ≤ 9 := by omega
            by_cases x0 : x = 0
            · have d4 : ((x : Int) == 0) = true := by simp; omega
              have hx0 := Lib.hid x0
              clear x0
              go_wp2
              go_ret3
              exact ⟨rfl, .inr ⟨no_zero HM.out (by have := HE.out; omega) (HX.out.trans hx0.out), rfl⟩⟩
            · have d4 : ((x : Int) == 0) = false := by simp; omega
              have hy := Lib.hid (yes_var (i := k) Hb.out HM.out hlt1 hk9 (by rw [HX.out]; omega) (by rw [HX.out]; omega) (by rw [HX.out]; omega))
              clear x0
              go_wp2
              go_ret3
              exact ⟨rfl, .inl ⟨_, _, hy.out, ok_tuple (or_take xs k x hlt1 HM.out.1 hk9 HX.out hx256 hy.out.2.2)⟩⟩
        · have b9 : ((k : Int) == 9) = false := by simp; omega
          have hk9 : k < 9 := by omega
          have HE := Lib.hid e9
          clear e9
          by_cases h128 : x < 128
          · have d2 : decide ((x : Int) < 128) = true := by simp; omega
            by_cases x0 : x = 0
            · have d4 : ((x : Int) == 0) = true := by simp; omega
              have hx0 := Lib.hid x0
              clear x0
              by_cases k0 : 0 < k
              · have d3 : decide ((0 : Int) < (k : Int)) = true := by simp; omega
                go_wp2
                go_ret3
                exact ⟨rfl, .inr ⟨no_zero HM.out k0 (HX.out.trans hx0.out), rfl⟩⟩
              · have d3 : decide ((0 : Int) < (k : Int)) = false := by simp; omega
                have hy := Lib.hid (yes_var (i := k) Hb.out HM.out hlt1 (by omega) (by rw [HX.out]; omega) (by omega) (by omega))
                go_wp2
                go_ret3
                exact ⟨rfl, .inl ⟨_, _, hy.out, ok_tuple (or_take xs k x hlt1 HM.out.1 (by omega) HX.out hx256 hy.out.2.2)⟩⟩
            · have d4 : ((x : Int) == 0) = false := by simp; omega
              have hy := Lib.hid (yes_var (i := k) Hb.out HM.out hlt1 (by omega) (by rw [HX.out]; omega) (by rw [HX.out]; omega) (by omega))
              clear x0
              go_wp2
              go_ret3
              exact ⟨rfl, .inl ⟨_, _, hy.out, ok_tuple (or_take xs k x hlt1 HM.out.1 (by omega) HX.out hx256 hy.out.2.2)⟩⟩
          · have d2 : decide ((x : Int) < 128) = false := by simp; omega
            go_wp2
            refine ⟨⟨k + 1, HM.out.succ hlt1 (by rw [HX.out]; omega), by omega, by simp, ?_⟩, by simp [intOf]; omega⟩
            have hs := take_lt xs (k + 1) (by omega)
            have hp := pow128 (k + 1) (by omega)
            rw [or_take xs k x hlt1 HM.out.1 (by omega) HX.out hx256 (by unfold B64; omega)]
      · go_wp2
        go_ret3
        refine ⟨rfl, .inr ⟨no_end HM.out (by omega), rfl⟩⟩

set_option maxHeartbeats 400000 in
theorem rvar_nil (w : World) : Calls Tryz.prog 77 #[.pointer none] w fun e w' => e = .returned (.int .u64 0) ∧ w = w' := by
  go_enter Tryz.func77, Tryz.ntmps77
  go_wp2_with (go_at_call 43; refine (bad_nil _).mono ?_; rintro e w' ⟨rfl, rfl⟩)
  go_ret
  exact ⟨rfl, rfl⟩

set_option maxHeartbeats 400000 in
theorem rvar_bad (g : Nat) (w : World) (h : Bad w g) : Calls Tryz.prog 77 #[.pointer (some ⟨g, 0, none⟩)] w fun e w' => e = .returned (.int .u64 0) ∧ w = w' := by
  have hb := Lib.hid (bad_at g _ _ w h)
  clear h
  go_enter Tryz.func77, Tryz.ntmps77
  go_wp2_with (go_at_call 43; refine hb.out.mono ?_; rintro e w' ⟨rfl, rfl⟩)
  go_ret
  exact ⟨rfl, rfl⟩

theorem lead_yes {xs : List Nat} {v n : Nat} {w w' : World} {e : Ending} (h : Lead xs w e w') (hv : IsVar xs v n) : e = .returned (.tuple #[.int .u64 (v : Nat), .int .i64 (n : Nat), .bool true]) ∧ w = w' := by
  obtain ⟨hw, ⟨v', n', h', he⟩ | ⟨hno, _⟩⟩ := h
  · obtain ⟨rfl, rfl⟩ := isVar_unique hv h'
    exact ⟨he, hw⟩
  · exact absurd ⟨v, n, hv⟩ hno

theorem lead_no {xs : List Nat} {w w' : World} {e : Ending} (h : Lead xs w e w') (hv : ¬ ∃ v n, IsVar xs v n) : e = .returned (.tuple #[.int .u64 0, .int .i64 0, .bool false]) ∧ w = w' := by
  obtain ⟨hw, ⟨v', n', h', he⟩ | ⟨hno, he⟩⟩ := h
  · exact absurd ⟨v', n', h'⟩ hv
  · exact ⟨he, hw⟩

set_option maxHeartbeats 400000 in
theorem rvar_ok (g : Nat) (xs : List Nat) (v n : Nat) (w : World) (h : Good w g xs) (hb : ∀ x ∈ xs, x < 256) (hv : IsVar xs v n) (hl : xs.length ≤ 140737488355328) :
    Calls Tryz.prog 77 #[.pointer (some ⟨g, 0, none⟩)] w fun e w' => e = .returned (.int .u64 (v : Nat)) ∧ Good w' g (xs.drop n) ∧ Only g w w' := by
  have hc := Lib.hid (cut_ok g n xs w h hv.1)
  obtain ⟨A, c, h, _, _, hB⟩ := h
  have hl := Lib.hid ((leading_any A c xs w _ hB hb hl).mono fun e w' he => lead_yes he hv)
  have hbd := Lib.hid (bad_at g _ _ w h)
  have h0 := h.cell 0
  simp at h0
  clear h hB hb hv
  go_enter Tryz.func77, Tryz.ntmps77
  go_wp2_with (first
    | (go_at_call 43; refine hbd.out.mono ?_; rintro e w' ⟨rfl, rfl⟩)
    | (go_at_call 98; refine hl.out.mono ?_; rintro e w' ⟨rfl, rfl⟩)
    | (go_at_call 100; refine hc.out.mono ?_; rintro e w2 ⟨A2, c2, rfl, _, _, _, hG, hO⟩; have HG := Lib.hid hG; have HO := Lib.hid hO; clear hG hO))
  go_ret
  exact ⟨rfl, HG.out, HO.out⟩

set_option maxHeartbeats 400000 in
theorem rvar_no (g : Nat) (xs : List Nat) (w : World) (h : Good w g xs) (hb : ∀ x ∈ xs, x < 256) (hv : ¬ ∃ v n, IsVar xs v n) (hl : xs.length ≤ 140737488355328) :
    Calls Tryz.prog 77 #[.pointer (some ⟨g, 0, none⟩)] w fun e w' => e = .returned (.int .u64 0) ∧ Bad w' g ∧ Only g w w' := by
  have hs := Lib.hid (spoil_at g xs w h)
  obtain ⟨A, c, h, _, _, hB⟩ := h
  have hl := Lib.hid ((leading_any A c xs w _ hB hb hl).mono fun e w' he => lead_no he hv)
  have hbd := Lib.hid (bad_at g _ _ w h)
  have h0 := h.cell 0
  simp at h0
  clear h hB hb hv
  go_enter Tryz.func77, Tryz.ntmps77
  go_wp2_with (first
    | (go_at_call 43; refine hbd.out.mono ?_; rintro e w' ⟨rfl, rfl⟩)
    | (go_at_call 98; refine hl.out.mono ?_; rintro e w' ⟨rfl, rfl⟩)
    | (go_at_call 99; refine hs.out.mono ?_; rintro e w2 ⟨rfl, hG, hO⟩; have HG := Lib.hid hG; have HO := Lib.hid hO; clear hG hO))
  go_ret
  exact ⟨rfl, HG.out, HO.out⟩
end Go.Proofs.YtngjnkkdhjholaaGreat
namespace Go.Proofs.YtngjnkkdhjholaaGreat
open Go.RowKit Go.Shelf

attribute [local go_sem] Oper.semAt_some

/-- What has come when the bytes from m on are over: (the last index, the last byte) first. -/
def bk (xs : List Nat) (m : Nat) : List (Nat × Nat) := (List.range (xs.length - m)).map fun j => (xs.length - 1 - j, xs[xs.length - 1 - j]?.getD 0)
theorem bk_step (xs : List Nat) (m : Nat) (h : m < xs.length) : bk xs m = bk xs (m + 1) ++ [(m, xs[m]?.getD 0)] := by
  unfold bk
  have e : xs.length - m = (xs.length - (m + 1)) + 1 := by omega
  have e2 : xs.length - 1 - (xs.length - (m + 1)) = m := by omega
  rw [e, List.range_succ, List.map_append, List.map_cons, List.map_nil, e2]
theorem bk_all (xs : List Nat) : bk xs xs.length = [] := by simp [bk]
theorem bk_length (xs : List Nat) (m : Nat) : (bk xs m).length = xs.length - m := by simp [bk]

/-- Of the blocks below n1 none has turned but Bv. -/
def Kb (Bv n1 : Nat) (W W' : World) : Prop := ∀ k, k < n1 → k ≠ Bv → W'.heap[k]? = W.heap[k]?
theorem Kb.refl (Bv n1 : Nat) (W : World) : Kb Bv n1 W W := fun _ _ _ => rfl
theorem Kb.trans {Bv n1 : Nat} {A B C : World} (h : Kb Bv n1 A B) (k : Kb Bv n1 B C) : Kb Bv n1 A C := fun i hi hn => (k i hi hn).trans (h i hi hn)

set_option maxRecDepth 100000 in
set_option maxHeartbeats 2000000 in
theorem back1_in (F : Fence) (n : Nat) (h28 : F.fn 112) (hro : F.round = none) (hn : 1 ≤ n) (l Bs Bv n1 c : Nat) (A : Option Addr) (xs : List Nat) (hlen : xs.length ≤ 1000000) (hbs : Bs < n1) (hne : Bs ≠ Bv) (J Jx : List (Nat × Nat) → World → Prop)
    (hY : ∀ pre x W, J pre W → pre.length < xs.length → YieldAt F (n - 1) Tryz.prog l #[.int .i64 (x.1 : Nat), .int .u8 (x.2 : Nat)] W fun e W' =>
      (e = .returned (.bool true) ∧ J (pre ++ [x]) W' ∧ Kb Bv n1 W W') ∨ (e = .returned (.bool false) ∧ Jx (pre ++ [x]) W'))
    (W : World) (hBs : W.cell? ⟨Bs, 0, none⟩ = some (.slice A xs.length c)) (hB : Byt (fun b => b < n1 ∧ b ≠ Bv) W A xs) (h0 : J [] W) :
    CallsIn F n Tryz.prog 112 #[.func (.yield l) #[] #[], .pointer (some ⟨Bs, 0, none⟩)] W fun e W' => (∃ v, e = .returned v) ∧
      ((∃ ys, ys = bk xs 0 ∧ J ys W') ∨ (∃ pre, True ∧ Jx pre W')) := by
  have HB := Lib.hid hB
  clear hB
  refine callsIn_of_wp Tryz.func112 rfl h28 ?_ hro
  simp only [Tryz.ntmps112, List.size_toArray, List.length_cons, List.length_nil, Nat.reduceAdd, Nat.reduceSub, Array.replicate_succ, Array.replicate_zero, List.push_toArray, List.append_toArray, List.nil_append, List.cons_append]
  gi_wp2
  gi_loopw [3] (fun i wr => ∃ m : Nat, m ≤ xs.length ∧ i = .int .i64 ((m : Int) - 1) ∧ J (bk xs m) wr ∧ Kb Bv n1 W wr)
    (fun i _ => (intOf i + 1).toNat)
  case atStart => exact ⟨xs.length, Nat.le_refl _, rfl, by rw [bk_all]; exact h0, Kb.refl _ _ _⟩
  case round =>
    obtain ⟨m, hm, rfl, hJs, hnx⟩ := hrel
    have HK := Lib.hid hnx
    have hcs : wr.cell? ⟨Bs, 0, none⟩ = some (.slice A xs.length c) := (World.cell?_of_block (a := ⟨Bs, 0, none⟩) (hnx Bs hbs hne)).trans hBs
    clear hnx hBs
    cases m with
    | zero =>
      gi_wp2
      go_end0
      exact ⟨⟨_, rfl⟩, .inl ⟨_, rfl, hJs⟩⟩
    | succ m =>
      obtain ⟨a, rfl, ha, hc⟩ := HB.out.at (k := m) (by omega)
      have hcx : wr.cell? (a.add m) = some (.int .u8 ((xs[m]?.getD 0 : Nat) : Int)) := (World.cell?_of_block (HK.out _ (by rw [addBlock]; exact ha.1) (by rw [addBlock]; exact ha.2))).trans hc
      obtain ⟨fn, tmps, assign, body, hy, hR⟩ := hY _ (m, xs[m]?.getD 0) wr hJs (by rw [bk_length]; omega)
      dsimp only at hy
      have e1 : ((m + 1 : Nat) : Int) - 1 = (m : Int) := by omega
      rw [e1]
      clear hc ha e1
      gi_wp2
      refine hR.mono ?_
      rintro e W3 (⟨rfl, hJ3, hk3⟩ | ⟨rfl, hJx3⟩)
      · gi_wp2
        go_roundw
        case rel => exact ⟨m, by omega, by first | rfl | simp, by rw [bk_step xs m (by omega)]; exact hJ3, HK.out.trans hk3⟩
        case measure => simp [intOf]
      · gi_wp2
        refine bodyPost_ret (results_none rfl _ _ _) rfl ?_
        exact ⟨⟨_, rfl⟩, .inr ⟨_, trivial, hJx3⟩⟩

theorem back_stops (n : Nat) (hn : 1 ≤ n) (Bs Bv n1 c : Nat) (A : Option Addr) (xs : List Nat) (hlen : xs.length ≤ 1000000) (hbs : Bs < n1) (hne : Bs ≠ Bv) (w : World) (hsz : n1 ≤ w.heap.size)
    (hBs : w.cell? ⟨Bs, 0, none⟩ = some (.slice A xs.length c)) (hB : Byt (fun b => b < n1 ∧ b ≠ Bv) w A xs) :
    SeqStopsK Fence.wide n Tryz.prog 112 #[.pointer (some ⟨Bs, 0, none⟩)] (fun x : Nat × Nat => #[Value.int .i64 (x.1 : Nat), Value.int .u8 (x.2 : Nat)]) (Kb Bv n1) (fun ys => ys = bk xs 0) (fun _ => True) xs.length w := fun l J Jx W hW _ _ hY h0 => by
  exact back1_in Fence.wide n trivial rfl hn l Bs Bv n1 c A xs hlen hbs hne J Jx hY W ((hW.cell (p := ⟨Bs, 0, none⟩) (by show Bs < w.heap.size; omega)).trans hBs) (hB.keep fun b hb => hW.block b (by omega)) h0

set_option maxHeartbeats 400000 in
theorem backward_any (a : Option Addr) (len cap : Nat) (w : World) :
    Calls Tryz.prog 111 #[.slice a len cap] w fun e w' => e = .returned (.func (.func 112) #[] #[.pointer (some ⟨w.heap.size, 0, none⟩)]) ∧ w.alloc (.cells #[.slice a len cap] 31) = w' := by
  go_enter Tryz.func111, Tryz.ntmps111
  go_wp2
  go_ret
  exact ⟨rfl, rfl⟩

theorem kb_put {Bv n1 : Nat} {w : World} (hn : n1 ≤ w.heap.size) (W : World) (l : Nat) (o o' : Obj) (hl : w.heap.size ≤ l) (_ : W.heap[l]? = some o) (_ : o.isCells = false) (_ : o.isWalk = false) : Kb Bv n1 W (W.putObj l o') :=
  fun k hk _ => by
    have : l ≠ k := by omega
    simp [World.putObj, this]

/-- What the bytes that came make of the number so far. -/
def fo (pre : List (Nat × Nat)) : Int := pre.foldl (fun s x => bits .or .u64 (IntKind.u64.wrap (s * 256)) (IntKind.u64.wrap (x.2 : Nat))) 0
theorem fo_snoc (pre : List (Nat × Nat)) (x : Nat × Nat) : fo (pre ++ [x]) = bits .or .u64 (IntKind.u64.wrap (fo pre * 256)) (IntKind.u64.wrap (x.2 : Nat)) := by simp [fo]

set_option maxRecDepth 100000 in
set_option maxHeartbeats 2000000 in
theorem rfixed_core (p : Option Addr) (n : Int) (w : World) (R : List Nat → World → Prop)
    (hcut : Calls Tryz.prog 100 #[.pointer p, .int .i64 (wid n : Nat)] (w.alloc (.cells #[.int .u64 0] 65)) fun e w2 => ∃ A c ys, e = .returned (.slice A ys.length c) ∧ Byt (· < w.heap.size) w2 A ys ∧ ys.length ≤ 8 ∧ Boxed w2 w.heap.size 65 (.int .u64 0) ∧ R ys w2) :
    Calls Tryz.prog 107 #[.pointer p, .int .i64 n] w fun e w' => ∃ ys w2, R ys w2 ∧ e = .returned (.int .u64 (fo (bk ys 0))) ∧ Below w.heap.size w2 w' := by
  have HC := Lib.hid hcut
  clear hcut
  refine (callsIn_wide (n := 3)).1 ?_
  refine callsIn_of_wp_marks Tryz.func107 rfl trivial ?_ rfl
  simp only [Tryz.ntmps107, List.size_toArray, List.length_cons, List.length_nil, Nat.reduceAdd, Nat.reduceSub, Array.replicate_succ, Array.replicate_zero, List.push_toArray, List.append_toArray, List.nil_append, List.cons_append]
  gi_wp2_with (first
    | (refine ⟨trivial, ?_⟩; gi_at_call 97; refine (callsIn_wide.2 (width_any _ _)).mono ?_; rintro e w' ⟨rfl, rfl⟩)
    | (refine ⟨trivial, ?_⟩; gi_at_call 100; refine (callsIn_wide.2 HC.out).mono ?_; rintro e w2 ⟨A, c, ys, rfl, hB, hl, hbx, hR⟩; have HB := Lib.hid hB; have HX := Lib.hid hbx; have HR := Lib.hid hR; clear hB hbx hR)
    | (refine ⟨trivial, ?_⟩; gi_at_call 111; refine (callsIn_wide.2 (backward_any _ _ _ _)).mono ?_; rintro e w' ⟨rfl, rfl⟩))
  have bV : Boxed (w2.alloc (.cells #[.slice A ys.length c] 31)) w.heap.size 65 (.int .u64 0) := HX.out.alloc _
  have hlt : w.heap.size < w2.heap.size := HX.out.lt
  have bS := Boxed.new w2 31 (.slice A ys.length c)
  have hB0 : Below w.heap.size w2 (w2.alloc (.cells #[.slice A ys.length c] 31)) := (Below.refl _ w2).alloc (by omega) _
  refine wpIn_rangeFunc_ownG rfl (by omega) (gf := 112) (lb := #[.pointer (some ⟨w2.heap.size, 0, none⟩)]) rfl trivial (enters_of Tryz.func112 (by kernel_rfl) rfl)
    (back_stops 2 (by omega) w2.heap.size w.heap.size (w2.heap.size + 1) c A ys (by omega) (by omega) (by omega) _ (by simp) bS.cell ((HB.out.keep fun b hb => Below.heap_alloc w2 _ b (by omega)).wide fun b hb => ⟨by omega, by omega⟩))
    Kb.trans (kb_put (by simp)) (Below.refl _ _) (fun _ => rfl)
    (fun pre W => Boxed W w.heap.size 65 (.int .u64 (fo pre)) ∧ Below w.heap.size w2 W)
    (fun _ _ _ => False)
    (OwnFrom.and (Own.from (boxed_own _ _ _) _) (ownFrom_below (by omega) (by simp; omega)))
    (fun _ _ _ _ _ hs _ _ => hs)
    ⟨bV, hB0⟩
    (fun x => { tmps := #[.pointer p, .int .i64 n, undef, undef, .int .u64 0, .pointer (some ⟨w.heap.size, 0, none⟩), undef, .int .u8 (x.2 : Nat), .pointer p, .int .i64 n, .int .i64 (wid n : Nat), .slice A ys.length c, .func (.func 112) #[] #[.pointer (some ⟨w2.heap.size, 0, none⟩)], .int .i64 (x.1 : Nat), .int .u8 (x.2 : Nat), undef, undef, undef, undef, undef, undef], defers := [] }) ?assign ?body ?done ?stop
  case assign =>
    intro l x W K hK
    gi_wp2
    exact hK
  case body =>
    rintro l pre x W ⟨hb, hB⟩ _
    have hc := hb.cell
    have hf := hb.frozen
    gi_wp2
    refine ⟨(KeepsOthers.setCell _ _ _).from _, fun k _ hne => Below.heap_setCell _ _ _ _ hne, ?_, hB.setCell (p := ⟨w.heap.size, 0, none⟩) (Nat.le_refl _) _⟩
    rw [fo_snoc]
    exact hb.set _
  case done =>
    rintro D zs W hD rfl ⟨hb, hB⟩ hK
    have hc := hb.cell
    gi_wp2
    refine ⟨by simp, .inl ⟨_, _, rfl, run_takeDeferred hK, ?_⟩⟩
    exact ⟨_, results_tmp rfl _ _ _, ys, w2, HR.out, rfl, hB.trans (belowK_b (w := w2) (by omega) W D _ _ (by simp at hD; omega) hK rfl rfl)⟩
  case stop =>
    rintro D c pre W _ _ h _
    exact h.elim

theorem or_bytes (s x : Nat) (hs : s < 72057594037927936) (hx : x < 256) : bits .or .u64 (IntKind.u64.wrap ((s : Int) * 256)) (IntKind.u64.wrap (x : Int)) = ((x + 256 * s : Nat) : Int) := by
  rw [IntKind.wrap_u64, IntKind.wrap_u64, show ((s : Int) * 256) % 18446744073709551616 = ((s * 256 : Nat) : Int) by omega, show (x : Int) % 18446744073709551616 = (x : Int) by omega, u64_or_nat _ _ (by omega) (by omega),
    nat_join 8 (s * 256) x (by omega) (by omega)]
  omega
theorem fo_bk (xs : List Nat) (h : ∀ x ∈ xs, x < 256) (h8 : xs.length ≤ 8) (j : Nat) (hj : j ≤ xs.length) : fo (bk xs (xs.length - j)) = (le (xs.drop (xs.length - j)) : Nat) := by
  induction j with
  | zero => simp [bk_all, fo, le]
  | succ j ih =>
    have hm : xs.length - (j + 1) < xs.length := by omega
    have e : xs.length - (j + 1) + 1 = xs.length - j := by omega
    rw [bk_step xs _ hm, fo_snoc, e, ih (by omega), drop_cons xs _ hm, e]
    have h1 := le_lt (xs.drop (xs.length - j)) (fun x hx => h x (List.mem_of_mem_drop hx))
    have h2 := pow_le7 (xs.drop (xs.length - j)).length (by simp; omega)
    refine or_bytes _ _ (by omega) ?_
    simp only [hm, List.getElem?_eq_getElem, Option.getD_some]
    exact h _ (List.getElem_mem hm)
theorem fo_all (xs : List Nat) (h : ∀ x ∈ xs, x < 256) (h8 : xs.length ≤ 8) : fo (bk xs 0) = (le xs : Nat) := by
  have := fo_bk xs h h8 xs.length (Nat.le_refl _)
  simpa using this

set_option maxHeartbeats 400000 in
theorem rfixed_nil (n : Int) (w : World) : Calls Tryz.prog 107 #[.pointer none, .int .i64 n] w fun e w' => e = .returned (.int .u64 0) ∧ Below w.heap.size w w' := by
  refine (rfixed_core none n w (fun ys w2 => ys = [] ∧ Below w.heap.size w w2) ((cut_nil _ _).mono ?_)).mono ?_
  · rintro e w2 ⟨rfl, rfl⟩
    exact ⟨none, 0, [], rfl, Byt.nil _ _ _, by simp, Boxed.new w 65 _, rfl, (Below.refl _ w).alloc (Nat.le_refl _) _⟩
  · rintro e w' ⟨ys, w2, ⟨rfl, h2⟩, rfl, h3⟩
    exact ⟨rfl, h2.trans h3⟩

set_option maxHeartbeats 400000 in
theorem rfixed_bad (g : Nat) (n : Int) (w : World) (h : Bad w g) : Calls Tryz.prog 107 #[.pointer (some ⟨g, 0, none⟩), .int .i64 n] w fun e w' => e = .returned (.int .u64 0) ∧ Below w.heap.size w w' := by
  refine (rfixed_core _ n w (fun ys w2 => ys = [] ∧ Below w.heap.size w w2) ((cut_bad g _ _ (h.alloc _)).mono ?_)).mono ?_
  · rintro e w2 ⟨rfl, rfl⟩
    exact ⟨none, 0, [], rfl, Byt.nil _ _ _, by simp, Boxed.new w 65 _, rfl, (Below.refl _ w).alloc (Nat.le_refl _) _⟩
  · rintro e w' ⟨ys, w2, ⟨rfl, h2⟩, rfl, h3⟩
    exact ⟨rfl, h2.trans h3⟩

theorem boxed_only {g B : Nat} {t : TypeId} {v : Value} {a b : World} (h : Boxed a B t v) (ho : Only g a b) (hne : B ≠ g) : Boxed b B t v := (ho.block B h.lt (fun e => hne (by injection e))).trans h

set_option maxHeartbeats 400000 in
theorem rfixed_short (g : Nat) (n : Int) (xs : List Nat) (w : World) (h : Good w g xs) (hn : xs.length < wid n) :
    Calls Tryz.prog 107 #[.pointer (some ⟨g, 0, none⟩), .int .i64 n] w fun e w' => e = .returned (.int .u64 0) ∧ Bad w' g ∧ Only g w w' := by
  refine (rfixed_core _ n w (fun ys w2 => ys = [] ∧ Bad w2 g ∧ Only g w w2) ((cut_short g _ xs _ (h.alloc _) (.inr (by omega))).mono ?_)).mono ?_
  · rintro e w2 ⟨rfl, hB, hO⟩
    exact ⟨none, 0, [], rfl, Byt.nil _ _ _, by simp, boxed_only (Boxed.new w 65 _) hO (by have := h.lt; omega), rfl, hB, only_trans (only_alloc _) hO⟩
  · rintro e w' ⟨ys, w2, ⟨rfl, hB, hO⟩, rfl, h3⟩
    have hg := h.lt
    have hs := hO.size
    exact ⟨rfl, hB.below h3 hg, only_trans' hO h3⟩

set_option maxHeartbeats 400000 in
theorem rfixed_ok (g : Nat) (n : Int) (xs : List Nat) (w : World) (h : Good w g xs) (hb : ∀ x ∈ xs, x < 256) (hn : wid n ≤ xs.length) :
    Calls Tryz.prog 107 #[.pointer (some ⟨g, 0, none⟩), .int .i64 n] w fun e w' => e = .returned (.int .u64 (le (xs.take (wid n)) : Nat)) ∧ Good w' g (xs.drop (wid n)) ∧ Only g w w' := by
  have hg := h.lt
  have hw := wid_le n
  refine (rfixed_core _ n w (fun ys w2 => ys = xs.take (wid n) ∧ Good w2 g (xs.drop (wid n)) ∧ Only g w w2) ((cut_ok g (wid n) xs _ (h.alloc _) hn).mono ?_)).mono ?_
  · rintro e w2 ⟨A, c, rfl, hB, hkc, hcm, hG, hO⟩
    have hl : (xs.take (wid n)).length = wid n := by simp; omega
    exact ⟨A, c, xs.take (wid n), by rw [hl], hB.wide fun b hb => by omega, by omega, boxed_only (Boxed.new w 65 _) hO (by omega), rfl, hG, only_trans (only_alloc _) hO⟩
  · rintro e w' ⟨ys, w2, ⟨rfl, hG, hO⟩, rfl, h3⟩
    refine ⟨ret_int (fo_all _ (fun x hx => hb x (List.mem_of_mem_take hx)) (by simp; omega)), hG.below h3 hg, only_trans' hO h3⟩
end Go.Proofs.YtngjnkkdhjholaaGreat
