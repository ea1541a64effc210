/-
  What leadingVar and a Reader's Var do.
  Conditions: as each theorem says.
-/
import Derived.Test.YtolofgifcjkaaaaRdr
import Derived.Test.YtolofgifcjkaaaaMath
namespace Go.Proofs.Ytolofgifcjkaaaa
open Go.RowKit

/-- What leadingVar answers. -/
def Lead (xs : List Nat) (w : World) (e : Ending) (w' : World) : Prop :=
  w = w' ∧ ((∃ v n : Nat, IsVar xs v n ∧ e = .returned (.tuple #[.int .u64 (v : Nat), .int .i64 (n : Nat), .bool true])) ∨
    ((¬ ∃ v n, IsVar xs v n) ∧ e = .returned (.tuple #[.int .u64 0, .int .i64 0, .bool false])))

theorem or_var (s x k : Nat) (hs : s < 128 ^ k) (hx : x < 256) (hfit : s + x % 128 * 128 ^ k < B64) :
    bits .or .u64 (s : Int) (IntKind.u64.wrap (IntKind.u64.wrap (bits .andNot .u8 (x : Int) 128) * 2 ^ (7 * k))) = ((s + x % 128 * 128 ^ k : Nat) : Int) := by
  unfold B64 at hfit
  have e1 : bits .andNot .u8 (x : Int) 128 = ((x % 128 : Nat) : Int) := by
    have := u8_andNot_nat x 128 hx (by omega)
    rw [← nat_mask7]
    exact this
  have e2 : (2 : Int) ^ (7 * k) = ((128 ^ k : Nat) : Int) := by
    have : (128 : Nat) ^ k = 2 ^ (7 * k) := by rw [Nat.pow_mul]
    rw [this, Int.natCast_pow]; rfl
  have e3 : ((x % 128 : Nat) : Int) * ((128 ^ k : Nat) : Int) = ((x % 128 * 128 ^ k : Nat) : Int) := by rw [Int.natCast_mul]
  rw [e1, IntKind.wrap_u64 ((x % 128 : Nat) : Int), show ((x % 128 : Nat) : Int) % 18446744073709551616 = ((x % 128 : Nat) : Int) by omega, e2, e3, IntKind.wrap_u64,
    show ((x % 128 * 128 ^ k : Nat) : Int) % 18446744073709551616 = ((x % 128 * 128 ^ k : Nat) : Int) by omega, u64_or_nat _ _ (by omega) (by omega), Nat.or_comm]
  have e4 : (2 : Nat) ^ (7 * k) = 128 ^ k := by rw [Nat.pow_mul]
  rw [nat_join (7 * k) (x % 128 * 128 ^ k) s (by rw [e4]; exact Nat.mul_mod_left _ _) (by rw [e4]; exact hs), Nat.add_comm]

theorem or_take (xs : List Nat) (k x : Nat) (hk : k < xs.length) (hkl : k ≤ xs.length) (_ : k ≤ 9) (hx : xs[k]?.getD 0 = x) (hx2 : x < 256) (hfit : sv (xs.take (k + 1)) < B64) :
    bits .or .u64 ((sv (xs.take k) : Nat) : Int) (IntKind.u64.wrap (IntKind.u64.wrap (bits .andNot .u8 (x : Int) 128) * 2 ^ (7 * k))) = ((sv (xs.take (k + 1)) : Nat) : Int) := by
  rw [sv_take xs k hk, hx] at hfit ⊢
  exact or_var _ _ _ (take_lt xs k hkl) hx2 hfit

theorem ok_tuple {a b : Int} {k : Nat} (h : a = b) : Ending.returned (.tuple #[.int .u64 a, .int .i64 ((k : Int) + 1), .bool true]) = .returned (.tuple #[.int .u64 b, .int .i64 ((k + 1 : Nat) : Int), .bool true]) := by rw [h]; rfl

set_option maxRecDepth 100000 in
set_option maxHeartbeats 1000000 in
theorem leading_any (A : Option Addr) (c : Nat) (xs : List Nat) (w : World) (S : Nat → Prop) (hB : Byt S w A xs) (hb : ∀ x ∈ xs, x < 256) (hc : xs.length ≤ 140737488355328) :
    Calls Try.prog 27 #[.slice A xs.length c] w (Lead xs w) := by
  have HB := Lib.hid hB
  have Hb := Lib.hid hb
  clear hB hb
  have hmin : min (xs.length : Int) 10 = ((min xs.length 10 : Nat) : Int) := by omega
  go_enter Try.func27, Try.ntmps27
  go_wp2
  all_goals
    go_loop [2, 10] (fun v i => ∃ k : Nat, More xs k ∧ k ≤ 10 ∧ i = .int .i64 (k : Nat) ∧ v = .int .u64 (sv (xs.take k) : Nat)) (fun _ i => 10 - (intOf i).toNat)
    case atStart => exact ⟨0, More.zero xs, by omega, rfl, by simp [sv]⟩
    case round =>
      obtain ⟨k, hm, hk10, rfl, rfl⟩ := hrel
      have HM := Lib.hid hm
      have hkl := hm.1
      clear hm
      by_cases hlt : k < xs.length ∧ k < 10
      · obtain ⟨hlt1, hlt2⟩ := hlt
        obtain ⟨a, rfl, _, hcell⟩ := HB.out.at (k := k) hlt1
        obtain ⟨x, hx⟩ : ∃ x, xs[k]?.getD 0 = x := ⟨_, rfl⟩
        rw [hx] at hcell
        have HX := Lib.hid hx
        have hx256 : x < 256 := by
          rw [← hx]
          simp only [hlt1, List.getElem?_eq_getElem, Option.getD_some]
          exact Hb.out _ (List.getElem_mem hlt1)
        clear hx
        by_cases e9 : k = 9
        · have b9 : ((k : Int) == 9) = true := by simp; omega
          have HE := Lib.hid e9
          clear e9
          by_cases x1 : 1 < x
          · have d1 : decide ((1 : Int) < (x : Int)) = true := by simp; omega
            go_wp2
            go_ret3
            refine ⟨rfl, .inr ⟨?_, rfl⟩⟩
            have hm := HM.out
            have hx := HX.out
            rw [HE.out] at hm hx
            exact no_tenth hm (by omega)
          · have d1 : decide ((1 : Int) < (x : Int)) = false := by simp; omega
            have d2 : decide ((x : Int) < 128) = true := by simp; omega
            have d3 : 0 < k := by have := HE.out; omega
            have hk9 : k ≤ 9 := by omega
            by_cases x0 : x = 0
            · have d4 : ((x : Int) == 0) = true := by simp; omega
              have hx0 := Lib.hid x0
              clear x0
              go_wp2
              go_ret3
              exact ⟨rfl, .inr ⟨no_zero HM.out (by have := HE.out; omega) (HX.out.trans hx0.out), rfl⟩⟩
            · have d4 : ((x : Int) == 0) = false := by simp; omega
              have hy := Lib.hid (yes_var (i := k) Hb.out HM.out hlt1 hk9 (by rw [HX.out]; omega) (by rw [HX.out]; omega) (by rw [HX.out]; omega))
              clear x0
              go_wp2
              go_ret3
              exact ⟨rfl, .inl ⟨_, _, hy.out, ok_tuple (or_take xs k x hlt1 HM.out.1 hk9 HX.out hx256 hy.out.2.2)⟩⟩
        · have b9 : ((k : Int) == 9) = false := by simp; omega
          have hk9 : k < 9 := by omega
          have HE := Lib.hid e9
          clear e9
          by_cases h128 : x < 128
          · have d2 : decide ((x : Int) < 128) = true := by simp; omega
            by_cases x0 : x = 0
            · have d4 : ((x : Int) == 0) = true := by simp; omega
              have hx0 := Lib.hid x0
              clear x0
              by_cases k0 : 0 < k
              · have d3 : decide ((0 : Int) < (k : Int)) = true := by simp; omega
                go_wp2
                go_ret3
                exact ⟨rfl, .inr ⟨no_zero HM.out k0 (HX.out.trans hx0.out), rfl⟩⟩
              · have d3 : decide ((0 : Int) < (k : Int)) = false := by simp; omega
                have hy := Lib.hid (yes_var (i := k) Hb.out HM.out hlt1 (by omega) (by rw [HX.out]; omega) (by omega) (by omega))
                go_wp2
                go_ret3
                exact ⟨rfl, .inl ⟨_, _, hy.out, ok_tuple (or_take xs k x hlt1 HM.out.1 (by omega) HX.out hx256 hy.out.2.2)⟩⟩
            · have d4 : ((x : Int) == 0) = false := by simp; omega
              have hy := Lib.hid (yes_var (i := k) Hb.out HM.out hlt1 (by omega) (by rw [HX.out]; omega) (by rw [HX.out]; omega) (by omega))
              clear x0
              go_wp2
              go_ret3
              exact ⟨rfl, .inl ⟨_, _, hy.out, ok_tuple (or_take xs k x hlt1 HM.out.1 (by omega) HX.out hx256 hy.out.2.2)⟩⟩
          · have d2 : decide ((x : Int) < 128) = false := by simp; omega
            go_wp2
            refine ⟨⟨k + 1, HM.out.succ hlt1 (by rw [HX.out]; omega), by omega, by simp, ?_⟩, by simp [intOf]; omega⟩
            have hs := take_lt xs (k + 1) (by omega)
            have hp := pow128 (k + 1) (by omega)
            rw [or_take xs k x hlt1 HM.out.1 (by omega) HX.out hx256 (by unfold B64; omega)]
      · go_wp2
        go_ret3
        refine ⟨rfl, .inr ⟨no_end HM.out (by omega), rfl⟩⟩

set_option maxHeartbeats 400000 in
theorem rvar_nil (w : World) : Calls Try.prog 22 #[.pointer none] w fun e w' => e = .returned (.int .u64 0) ∧ w = w' := by
  go_enter Try.func22, Try.ntmps22
  go_wp2_with (go_at_call 23; refine (bad_nil _).mono ?_; rintro e w' ⟨rfl, rfl⟩)
  go_ret
  exact ⟨rfl, rfl⟩

set_option maxHeartbeats 400000 in
theorem rvar_bad (g : Nat) (w : World) (h : Bad w g) : Calls Try.prog 22 #[.pointer (some ⟨g, 0, none⟩)] w fun e w' => e = .returned (.int .u64 0) ∧ w = w' := by
  have hb := Lib.hid (bad_at g _ _ w h)
  clear h
  go_enter Try.func22, Try.ntmps22
  go_wp2_with (go_at_call 23; refine hb.out.mono ?_; rintro e w' ⟨rfl, rfl⟩)
  go_ret
  exact ⟨rfl, rfl⟩

theorem lead_yes {xs : List Nat} {v n : Nat} {w w' : World} {e : Ending} (h : Lead xs w e w') (hv : IsVar xs v n) : e = .returned (.tuple #[.int .u64 (v : Nat), .int .i64 (n : Nat), .bool true]) ∧ w = w' := by
  obtain ⟨hw, ⟨v', n', h', he⟩ | ⟨hno, _⟩⟩ := h
  · obtain ⟨rfl, rfl⟩ := isVar_unique hv h'
    exact ⟨he, hw⟩
  · exact absurd ⟨v, n, hv⟩ hno

theorem lead_no {xs : List Nat} {w w' : World} {e : Ending} (h : Lead xs w e w') (hv : ¬ ∃ v n, IsVar xs v n) : e = .returned (.tuple #[.int .u64 0, .int .i64 0, .bool false]) ∧ w = w' := by
  obtain ⟨hw, ⟨v', n', h', he⟩ | ⟨hno, he⟩⟩ := h
  · exact absurd ⟨v', n', h'⟩ hv
  · exact ⟨he, hw⟩

set_option maxHeartbeats 400000 in
theorem rvar_ok (g : Nat) (xs : List Nat) (v n : Nat) (w : World) (h : Good w g xs) (hb : ∀ x ∈ xs, x < 256) (hv : IsVar xs v n) (hl : xs.length ≤ 140737488355328) :
    Calls Try.prog 22 #[.pointer (some ⟨g, 0, none⟩)] w fun e w' => e = .returned (.int .u64 (v : Nat)) ∧ Good w' g (xs.drop n) ∧ Only g w w' := by
  have hc := Lib.hid (cut_ok g n xs w h hv.1)
  obtain ⟨A, c, h, _, _, hB⟩ := h
  have hl := Lib.hid ((leading_any A c xs w _ hB hb hl).mono fun e w' he => lead_yes he hv)
  have hbd := Lib.hid (bad_at g _ _ w h)
  have h0 := h.cell 0
  simp at h0
  clear h hB hb hv
  go_enter Try.func22, Try.ntmps22
  go_wp2_with (first
    | (go_at_call 23; refine hbd.out.mono ?_; rintro e w' ⟨rfl, rfl⟩)
    | (go_at_call 27; refine hl.out.mono ?_; rintro e w' ⟨rfl, rfl⟩)
    | (go_at_call 26; refine hc.out.mono ?_; rintro e w2 ⟨A2, c2, rfl, _, _, _, hG, hO⟩; have HG := Lib.hid hG; have HO := Lib.hid hO; clear hG hO))
  go_ret
  exact ⟨rfl, HG.out, HO.out⟩

set_option maxHeartbeats 400000 in
theorem rvar_no (g : Nat) (xs : List Nat) (w : World) (h : Good w g xs) (hb : ∀ x ∈ xs, x < 256) (hv : ¬ ∃ v n, IsVar xs v n) (hl : xs.length ≤ 140737488355328) :
    Calls Try.prog 22 #[.pointer (some ⟨g, 0, none⟩)] w fun e w' => e = .returned (.int .u64 0) ∧ Bad w' g ∧ Only g w w' := by
  have hs := Lib.hid (spoil_at g xs w h)
  obtain ⟨A, c, h, _, _, hB⟩ := h
  have hl := Lib.hid ((leading_any A c xs w _ hB hb hl).mono fun e w' he => lead_no he hv)
  have hbd := Lib.hid (bad_at g _ _ w h)
  have h0 := h.cell 0
  simp at h0
  clear h hB hb hv
  go_enter Try.func22, Try.ntmps22
  go_wp2_with (first
    | (go_at_call 23; refine hbd.out.mono ?_; rintro e w' ⟨rfl, rfl⟩)
    | (go_at_call 27; refine hl.out.mono ?_; rintro e w' ⟨rfl, rfl⟩)
    | (go_at_call 28; refine hs.out.mono ?_; rintro e w2 ⟨rfl, hG, hO⟩; have HG := Lib.hid hG; have HO := Lib.hid hO; clear hG hO))
  go_ret
  exact ⟨rfl, HG.out, HO.out⟩
end Go.Proofs.Ytolofgifcjkaaaa
