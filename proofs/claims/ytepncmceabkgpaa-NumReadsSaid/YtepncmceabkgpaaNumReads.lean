/-
  The law NumReads holds: whatever is taken of any bytes, one behind the other, each is what stands there, up to what can not be taken; then all is nothing; the law's function returns true and turns nothing that was there.
  Conditions: none.
-/
import Derived.Test.YtepncmceabkgpaaRows
import Derived.Test.YtepncmceabkgpaaRdv
import Derived.Test.YtepncmceabkgpaaFix
import Derived.WalkKit
import Derived.ProofKit
import Derived.OpenShut
import Derived.ShutString
import Derived.ChangeOld
import Derived.Below
import Derived.Deep.SlicePairs
import Derived.Deep.DeepCutAuto
import Derived.Deep.CutBlock
namespace Go.Proofs.Ytepncmceabkgpaa.numReads
open Go.ChangeShapes Go.WideShapes Go.ChangeAt Go.RowKit
set_option linter.unusedVariables false

/-- The asks as they lie: what, and how many. -/
def IsAsks (w : World) (a : Option Addr) (len : Nat) (f : Nat → Int × Int) : Prop :=
  0 < len → ∃ x, a = some x ∧ x.block < w.heap.size ∧ ∀ i, i < len → w.cell? (x.add (i * 2)) = some (.int .i64 (f i).1) ∧ w.cell? (x.add (i * 2 + 1)) = some (.int .i64 (f i).2)

theorem add_field (x : Addr) (k : Nat) : (⟨(x.add k).block, (x.add k).off + 1, none⟩ : Addr) = x.add (k + 1) := by
  unfold Addr.add
  by_cases h : k = 0
  · simp [h]
  · simp [h, Nat.add_assoc]

/-- What stands between two rounds. -/
def St (w : World) (g B2 : Nat) (bd : Bool) (A : Option Addr) (n c : Nat) (wr : World) : Prop :=
  ∃ ys : List Nat, ys.length = n ∧ n ≤ c ∧ n ≤ 500 ∧ (∀ y ∈ ys, y < 256) ∧ Byt (fun b => b ≠ g ∧ b < B2) wr A ys ∧ (bd = false → Good wr g ys) ∧ (bd = true → Bad wr g) ∧ Below w.heap.size w wr ∧ B2 ≤ wr.heap.size

theorem readVar_n (A : Option Addr) (n c : Nat) (xs : List Nat) (w : World) (hl : xs.length = n) (hB : Byt (· < w.heap.size) w A xs) (hb : ∀ x ∈ xs, x < 256) (hc : n ≤ 140737488355328) (hlc : n ≤ c) :
    Calls Try.prog 20 #[.slice A n c] w (RV xs w) := by
  subst hl
  exact readVar_any A c xs w hB hb hc hlc
theorem le_step (ys : List Nat) (m j y L : Nat) (hj : j < (ys.take m).length) (hy : ys[j]?.getD 0 = y) (hL : le ((ys.take m).drop (j + 1)) = L) : le ((ys.take m).drop j) = y + 256 * L := by
  rw [drop_cons _ j hj, le, hL, take_get _ _ _ (by rw [List.length_take] at hj; omega), hy]
theorem only_drewN {g : Nat} {a b : World} (h : Only g a b) (q : Nat) : Only g a (b.drewN q) := ⟨h.os, h.tape, h.output, h.size, h.block⟩
theorem st_same {w wr wx : World} {g B2 : Nat} {bd : Bool} {A : Option Addr} {n c : Nat} {ys : List Nat} (hl : ys.length = n) (hnc : n ≤ c) (hn5 : n ≤ 500) (hyb : ∀ y ∈ ys, y < 256) (hyB : Byt (fun b => b ≠ g ∧ b < B2) wr A ys)
    (hO : Only g wr wx) (hbel : Below w.heap.size w wr) (hgw : w.heap.size ≤ g) (hsz : B2 ≤ wr.heap.size) (hG : bd = false → Good wx g ys) (hB : bd = true → Bad wx g) : St w g B2 bd A n c wx :=
  ⟨ys, hl, hnc, hn5, hyb, hyB.keep fun b hb => hO.block b (by omega) (fun e => hb.1 (by injection e)), hG, hB, hbel.trans (below_only hO hgw hbel.size), Nat.le_trans hsz hO.size⟩
theorem st_drop {w wr wx : World} {g B2 : Nat} {A A' : Option Addr} {n c k : Nat} {ys : List Nat} (hl : ys.length = n) (hnc : n ≤ c) (hn5 : n ≤ 500) (hyb : ∀ y ∈ ys, y < 256) (hyB : Byt (fun b => b ≠ g ∧ b < B2) wr A ys) (hk : k ≤ n)
    (hA : (c = k ∧ A' = A) ∨ (¬ c = k ∧ A' = A.map (·.add k)))
    (hO : Only g wr wx) (hbel : Below w.heap.size w wr) (hgw : w.heap.size ≤ g) (hsz : B2 ≤ wr.heap.size) (hG : Good wx g (ys.drop k)) : St w g B2 false A' (n - k) (c - k) wx := by
  refine ⟨ys.drop k, by rw [List.length_drop, hl], by omega, by omega, fun y hy => hyb y (List.mem_of_mem_drop hy), ?_, fun _ => hG, (fun h => by cases h), hbel.trans (below_only hO hgw hbel.size), Nat.le_trans hsz hO.size⟩
  rcases hA with ⟨rfl, rfl⟩ | ⟨_, rfl⟩
  · have : ys.drop c = [] := List.eq_nil_of_length_eq_zero (by rw [List.length_drop]; omega)
    rw [this]
    exact Byt.nil _ _ _
  · exact (hyB.keep fun b hb => hO.block b (by omega) (fun e => hb.1 (by injection e))).drop k

set_option maxRecDepth 100000 in
set_option maxHeartbeats 4000000 in
theorem walkN (a0 a1 : Option Addr) (len0 cap0 len1 cap1 : Nat) (xs : List Nat) (f : Nat → Int × Int) (w : World) (hx : xs.length = len0) (hb : ∀ x ∈ xs, x < 256) (hB : Byt (· < w.heap.size) w a0 xs) (hA : IsAsks w a1 len1 f) :
    Calls Try.prog 4 #[.slice a0 len0 cap0, .slice a1 len1 cap1] w fun e w' => e = .returned (.bool true) ∧ Below w.heap.size w w' := by
  have HX := Lib.hid hx
  have HY := Lib.hid hb
  have HB := Lib.hid hB
  have HA := Lib.hid hA
  clear hx hb hB hA
  by_cases hbig : 500 < len0
  · have t1 : decide ((500 : Int) < (len0 : Int)) = true := by simp; omega
    go_enter Try.func4, Try.ntmps4
    go_wp2_with fail
    refine (answers_any w).mono ?_
    rintro e w1 ⟨rfl, hb1⟩
    go_wp2
    go_ret
    exact ⟨rfl, hb1⟩
  · have t1 : decide ((500 : Int) < (len0 : Int)) = false := by simp; omega
    by_cases hbig1 : 100 < len1
    · have t2 : decide ((100 : Int) < (len1 : Int)) = true := by simp; omega
      go_enter Try.func4, Try.ntmps4
      go_wp2_with fail
      refine (answers_any w).mono ?_
      rintro e w1 ⟨rfl, hb1⟩
      go_wp2
      go_ret
      exact ⟨rfl, hb1⟩
    · have t2 : decide ((100 : Int) < (len1 : Int)) = false := by simp; omega
      go_enter Try.func4, Try.ntmps4
      go_wp2_with fail
      refine (newReader_any a0 len0 cap0 xs w HX.out HB.out (by omega)).mono ?_
      rintro e w1 ⟨g, rfl, hG, hg, hb1⟩
      have HG := Lib.hid hG
      have hs1 := hb1.size
      have hg1 := hG.lt
      clear hG
      go_wp2_with (at_builtin
                   refine walk_append _ rfl (.tmp 27) (.tmp 28) rfl w1.heap.size (.slice (some ⟨w1.heap.size, 0, none⟩) 0 0) 0 [] rfl (own_empty w1) a0 len0 cap0 xs rfl HX.out _ ((HB.out.below hb1 (Nat.le_refl _)).below ((Below.refl w.heap.size w1).alloc hs1 _) (Nat.le_refl _)) (by omega) (by simp) ?_
                   intro v2 w2 hown2 hg2 _
                   have hb12 : Below w1.heap.size w1 w2 := ((Below.refl _ w1).alloc (Nat.le_refl _) _).grown hg2 (by simp) (fun k hk => by simp [Value.ownBlock] at hk; omega)
                   rw [Nat.zero_add, List.nil_append] at hown2
                   obtain ⟨A2, c2, rfl, -, hlc2, -, hB2⟩ := own_slice hown2
                   have HB2 := Lib.hid hB2
                   clear hB2 hown2 hg2)
      have HS : Hid (St w g w2.heap.size false A2 len0 c2 w2) := ⟨xs, HX.out, hlc2, by omega, HY.out, HB2.out.wide fun b hb => by omega, fun _ => HG.out.below hb12 HG.out.lt, (fun h => by cases h), hb1.trans (hb12.mono hs1), Nat.le_refl _⟩
      obtain ⟨B2, hB2⟩ : ∃ B, w2.heap.size = B := ⟨_, rfl⟩
      rw [hB2] at HS
      have hgB : g < B2 := by have := hb12.size; omega
      clear HB2 hB2 HG hb12 hb1 hlc2
      go_loopw [6, 7, 8] (fun s6 s7 s8 wr => ∃ (i n c : Nat) (A : Option Addr) (bd : Bool), s6 = .slice A n c ∧ s7 = .bool bd ∧ s8 = .int .i64 (i : Nat) ∧ i ≤ len1 ∧ St w g B2 bd A n c wr) (fun _ _ s8 _ => len1 - (intOf s8).toNat)
      case atStart => exact ⟨0, len0, c2, A2, false, rfl, rfl, rfl, Nat.zero_le _, HS.out⟩
      case round =>
        obtain ⟨i, n, c, A, bd, rfl, rfl, rfl, hi, hst⟩ := hrel
        obtain ⟨ys, hyl, hnc, hn5, hyb, hyB, hyG, hyD, hbel, hsz⟩ := hst
        have HYL := Lib.hid hyl
        have HYB := Lib.hid hyb
        have HYY := Lib.hid hyB
        have HGd := Lib.hid hyG
        have HBd := Lib.hid hyD
        clear hyl hyb hyB hyG hyD HS
        by_cases hlt : i < len1
        · obtain ⟨x, rfl, hxb, hxc⟩ := HA.out (by omega)
          obtain ⟨hw0, hw1⟩ := hxc i hlt
          have c0 : wr.cell? (x.add (i * 2)) = some (.int .i64 (f i).1) := (World.cell?_of_block (hbel.block _ (by rw [addBlock]; exact hxb))).trans hw0
          have c1 : wr.cell? (x.add (i * 2 + 1)) = some (.int .i64 (f i).2) := (World.cell?_of_block (hbel.block _ (by rw [addBlock]; exact hxb))).trans hw1
          obtain ⟨wh, hwh⟩ : ∃ z, (f i).1 = z := ⟨_, rfl⟩
          obtain ⟨N, hN⟩ : ∃ z, (f i).2 = z := ⟨_, rfl⟩
          rw [hwh] at c0
          rw [hN, ← add_field] at c1
          clear hxc hw0 hw1 hwh hN HA
          go_upto_block 2 with fail
          go_cut [6, 7, 9, 10, 11, 12, 13, 14, 83, 128] (fun s6 s7 s9 s10 s11 s12 s13 s14 s83 s128 wx => ∃ (n c : Nat) (A : Option Addr) (bd : Bool), s6 = .slice A n c ∧ s7 = .bool bd ∧ St w g B2 bd A n c wx)
          case first =>
            by_cases hz : wh = 0
            · have z0 : (wh == 0) = true := by simpa using hz
              clear hz
              go_upto_if 86 with fail
              go_cut [9] (fun s9 wx => s9 = .int .i64 (if N < 0 then 0 else N) ∧ wr = wx)
              case first =>
                by_cases hN : N < 0
                · go_wp2_with fail
                  go_meet
                  exact ⟨by rw [if_pos hN], rfl⟩
                · go_wp2_with fail
                  go_meet
                  exact ⟨by rw [if_neg (by omega)], rfl⟩
              case rest =>
                obtain ⟨rfl, rfl⟩ := hcut
                obtain ⟨N1, hN1⟩ : ∃ z, (if N < 0 then 0 else N) = z := ⟨_, rfl⟩
                rw [hN1]
                have HN1 := Lib.hid hN1
                clear hN1
                go_upto_if 88 with fail
                go_cut [9] (fun s9 wx => s9 = .int .i64 ((wid N : Nat) : Int) ∧ wr = wx)
                case first =>
                  by_cases hN : 8 < N1
                  · go_wp2_with fail
                    go_meet
                    refine ⟨?_, rfl⟩
                    have := HN1.out
                    congr 1
                    unfold wid
                    split at this <;> omega
                  · go_wp2_with fail
                    go_meet
                    refine ⟨?_, rfl⟩
                    have := HN1.out
                    congr 1
                    unfold wid
                    split at this <;> omega
                case rest =>
                  obtain ⟨rfl, rfl⟩ := hcut
                  obtain ⟨m, hm⟩ : ∃ m, wid N = m := ⟨_, rfl⟩
                  have hm8 := wid_le N
                  rw [hm] at hm8 ⊢
                  have HM := Lib.hid hm
                  clear hm
                  rcases bd with _ | _
                  · have HG0 := Lib.hid (HGd.out rfl)
                    clear HGd HBd
                    by_cases hmn : m ≤ n
                    · have d1 : decide ((n : Int) < (m : Int)) = false := by simp; omega
                      have d2 : ¬ n < m := by omega
                      have m0 : 0 ≤ (m : Int) := by omega
                      have m1 : (m : Int) ≤ (n : Int) := by omega
                      have m2 : (m : Int) ≤ (c : Int) := by omega
                      go_wp2_with fail
                      go_loop [10, 11] (fun v k => ∃ j : Nat, j ≤ m ∧ k = .int .i64 ((j : Int) - 1) ∧ v = .int .u64 ((le ((ys.take m).drop j) : Nat) : Int)) (fun _ k => (intOf k + 1).toNat)
                      case atStart =>
                        refine ⟨m, Nat.le_refl _, rfl, ?_⟩
                        rw [List.eq_nil_of_length_eq_zero (l := (ys.take m).drop m) (by rw [List.length_drop, List.length_take]; omega)]
                        rfl
                      case round =>
                        obtain ⟨j, hj, rfl, rfl⟩ := hrel
                        obtain ⟨L, hL⟩ : ∃ L, le ((ys.take m).drop j) = L := ⟨_, rfl⟩
                        rw [hL]
                        have HL := Lib.hid hL
                        clear hL
                        cases j with
                        | zero =>
                          rw [List.drop_zero] at HL
                          by_cases hck : c = m
                          · subst hck
                            obtain rfl : n = c := by omega
                            go_wp2_with fail
                            refine (fixed_ok g N ys wr HG0.out HYB.out (by rw [HM.out, HYL.out]; exact hmn)).mono ?_
                            rintro e w5 ⟨he, hG5, hO5⟩
                            rw [HM.out] at he hG5
                            rw [HL.out] at he
                            subst he
                            have HG5 := Lib.hid hG5
                            have HO5 := Lib.hid hO5
                            clear hG5 hO5
                            go_wp2_with fail
                            go_meet
                            refine ⟨0, 0, A, false, rfl, rfl, ?_⟩
                            have := st_drop (k := n) HYL.out hnc hn5 HYB.out HYY.out (by omega) (.inl ⟨rfl, rfl⟩) HO5.out hbel hg hsz HG5.out
                            rwa [Nat.sub_self] at this
                          · skip
                            go_wp2_with fail
                            refine (fixed_ok g N ys wr HG0.out HYB.out (by rw [HM.out, HYL.out]; exact hmn)).mono ?_
                            rintro e w5 ⟨he, hG5, hO5⟩
                            rw [HM.out] at he hG5
                            rw [HL.out] at he
                            subst he
                            have HG5 := Lib.hid hG5
                            have HO5 := Lib.hid hO5
                            clear hG5 hO5
                            go_wp2_with fail
                            go_meet
                            exact ⟨n - m, c - m, _, false, rfl, rfl, st_drop HYL.out hnc hn5 HYB.out HYY.out hmn (.inr ⟨hck, rfl⟩) HO5.out hbel hg hsz HG5.out⟩
                        | succ j =>
                          obtain ⟨a, rfl, _, hcell⟩ := HYY.out.at (k := j) (by rw [HYL.out]; omega)
                          obtain ⟨y, hy⟩ : ∃ y, ys[j]?.getD 0 = y := ⟨_, rfl⟩
                          rw [hy] at hcell
                          have HYj := Lib.hid hy
                          have j1 : ((j + 1 : Nat) : Int) - 1 = (j : Int) := by omega
                          rw [j1]
                          have j2 : (j : Int) < (n : Int) := by omega
                          have j3 : j < n := by omega
                          clear hy j1
                          go_wp2
                          have hstep := le_step ys m j y L (by rw [List.length_take, HYL.out]; omega) HYj.out HL.out
                          have hbd := le_lt ((ys.take m).drop (j + 1)) (fun z hz => HYB.out z (List.mem_of_mem_take (List.mem_of_mem_drop hz)))
                          have hbd2 := pow_le7 ((ys.take m).drop (j + 1)).length (by rw [List.length_drop, List.length_take]; omega)
                          have hLd := HL.out
                          have hy256 : y < 256 := by
                            rw [← HYj.out]
                            simp only [show j < ys.length by rw [HYL.out]; exact j3, List.getElem?_eq_getElem, Option.getD_some]
                            exact HYB.out _ (List.getElem_mem _)
                          refine ⟨⟨j, by omega, rfl, ?_⟩, by simp [intOf]⟩
                          rw [hstep, IntKind.wrap_u64, IntKind.wrap_u64, IntKind.wrap_u64]
                          congr 1
                          omega
                    · have d1 : decide ((n : Int) < (m : Int)) = true := by simp; omega
                      have d2 : n < m := by omega
                      go_wp2_with fail
                      go_loop [10, 11] (fun v k => v = .int .u64 0 ∧ k = .int .i64 ((m : Int) - 1)) (fun _ _ => 0)
                      case atStart => exact ⟨rfl, rfl⟩
                      case round =>
                        obtain ⟨rfl, rfl⟩ := hrel
                        have hm0 : 1 ≤ m := by omega
                        all_goals
                          go_wp2_with fail
                          refine (fixed_short g N ys wr HG0.out (by rw [HM.out, HYL.out]; exact d2)).mono ?_
                          rintro e w5 ⟨rfl, hB5, hO5⟩
                          have HB5 := Lib.hid hB5
                          have HO5 := Lib.hid hO5
                          clear hB5 hO5
                          go_wp2_with fail
                          go_meet
                          exact ⟨n, c, A, true, rfl, rfl, st_same HYL.out hnc hn5 HYB.out HYY.out HO5.out hbel hg hsz (fun h => by cases h) (fun _ => HB5.out)⟩
                  · have HB0 := Lib.hid (HBd.out rfl)
                    clear HGd HBd
                    go_wp2_with fail
                    go_loop [10, 11] (fun v k => v = .int .u64 0 ∧ k = .int .i64 ((m : Int) - 1)) (fun _ _ => 0)
                    case atStart => exact ⟨rfl, rfl⟩
                    case round =>
                      obtain ⟨rfl, rfl⟩ := hrel
                      by_cases hm0 : 1 ≤ m
                      all_goals
                        go_wp2_with fail
                        refine (fixed_bad g N wr HB0.out).mono ?_
                        rintro e w5 ⟨rfl, hb5⟩
                        have HB5 := Lib.hid (HB0.out.below hb5 HB0.out.lt)
                        have HO5 : Hid (Only g wr w5) := only_below hb5
                        clear hb5
                        go_wp2_with fail
                        go_meet
                        exact ⟨n, c, A, true, rfl, rfl, st_same HYL.out hnc hn5 HYB.out HYY.out HO5.out hbel hg hsz (fun h => by cases h) (fun _ => HB5.out)⟩
            · by_cases ho : wh = 1
              · have z0 : (wh == 0) = false := by simpa using hz
                have z1 : (wh == 1) = true := by simpa using ho
                clear hz ho
                have HRV := Lib.hid (readVar_n A n c ys wr HYL.out (HYY.out.wide fun b hb => by omega) HYB.out (by omega) hnc)
                rcases bd with _ | _
                · have HG0 := Lib.hid (HGd.out rfl)
                  clear HGd HBd
                  go_wp2_with fail
                  refine HRV.out.mono ?_
                  rintro e w5 ⟨hb5, ⟨v, k, hv, rfl⟩ | ⟨hno, rfl⟩⟩
                  · have hk0 := hv.pos
                    have hkn : k ≤ n := by rw [← HYL.out]; exact hv.1
                    have HV := Lib.hid hv
                    have HG5 := Lib.hid (HG0.out.below hb5 HG0.out.lt)
                    have d1 : ((k : Int) == 0) = false := by simp; omega
                    have k0 : 0 ≤ (k : Int) := by omega
                    have k1 : (k : Int) ≤ (n : Int) := by omega
                    clear hv
                    by_cases hck : c = k
                    · subst hck
                      obtain rfl : n = c := by omega
                      go_wp2_with fail
                      refine (rvar_ok g ys v n w5 HG5.out HYB.out HV.out (by rw [HYL.out]; omega)).mono ?_
                      rintro e w6 ⟨rfl, hG6, hO6⟩
                      have HG6 := Lib.hid hG6
                      have HO6 := Lib.hid (only_trans (only_below hb5) hO6)
                      clear hG6 hO6
                      go_wp2_with fail
                      go_meet
                      refine ⟨0, 0, A, false, rfl, rfl, ?_⟩
                      have := st_drop (k := n) HYL.out hnc hn5 HYB.out HYY.out (by omega) (.inl ⟨rfl, rfl⟩) HO6.out hbel hg hsz HG6.out
                      rwa [Nat.sub_self] at this
                    · skip
                      go_wp2_with fail
                      refine (rvar_ok g ys v k w5 HG5.out HYB.out HV.out (by rw [HYL.out]; omega)).mono ?_
                      rintro e w6 ⟨rfl, hG6, hO6⟩
                      have HG6 := Lib.hid hG6
                      have HO6 := Lib.hid (only_trans (only_below hb5) hO6)
                      clear hG6 hO6
                      go_wp2_with fail
                      go_meet
                      exact ⟨n - k, c - k, _, false, rfl, rfl, st_drop HYL.out hnc hn5 HYB.out HYY.out (by omega) (.inr ⟨hck, rfl⟩) HO6.out hbel hg hsz HG6.out⟩
                  · have HNo := Lib.hid hno
                    have HG5 := Lib.hid (HG0.out.below hb5 HG0.out.lt)
                    clear hno
                    go_wp2_with fail
                    refine (rvar_no g ys w5 HG5.out HYB.out HNo.out (by rw [HYL.out]; omega)).mono ?_
                    rintro e w6 ⟨rfl, hG6, hO6⟩
                    have HG6 := Lib.hid hG6
                    have HO6 := Lib.hid (only_trans (only_below hb5) hO6)
                    clear hG6 hO6
                    go_wp2_with fail
                    go_meet
                    exact ⟨n, c, A, true, rfl, rfl, st_same HYL.out hnc hn5 HYB.out HYY.out HO6.out hbel hg hsz (fun h => by cases h) (fun _ => HG6.out)⟩
                · have HB0 := Lib.hid (HBd.out rfl)
                  clear HGd HBd
                  go_wp2_with fail
                  refine HRV.out.mono ?_
                  rintro e w5 ⟨hb5, ⟨v, k, hv, rfl⟩ | ⟨hno, rfl⟩⟩
                  all_goals
                    have HB5 := Lib.hid (HB0.out.below hb5 HB0.out.lt)
                    go_wp2_with fail
                    refine (rvar_bad g w5 HB5.out).mono ?_
                    rintro e w6 ⟨rfl, rfl⟩
                    go_wp2_with fail
                    go_meet
                    exact ⟨n, c, A, true, rfl, rfl, st_same HYL.out hnc hn5 HYB.out HYY.out (only_below hb5) hbel hg hsz (fun h => by cases h) (fun _ => HB5.out)⟩
              · have z0 : (wh == 0) = false := by simpa using hz
                have z1 : (wh == 1) = false := by simpa using ho
                clear hz ho
                rcases bd with _ | _
                · have HG0 := Lib.hid (HGd.out rfl)
                  clear HGd HBd
                  by_cases hN : 0 ≤ N ∧ N ≤ n
                  · obtain ⟨hN0, hN1⟩ := hN
                    obtain ⟨k, rfl⟩ : ∃ k : Nat, N = (k : Int) := ⟨N.toNat, by omega⟩
                    have d1 : decide ((k : Int) < 0) = false := by simp
                    have d2 : decide ((n : Int) < (k : Int)) = false := by simp; omega
                    have d3 : ¬ n < k := by omega
                    have k0 : 0 ≤ (k : Int) := by omega
                    have k1 : (k : Int) ≤ (c : Int) := by omega
                    have k2 : k ≤ c := by omega
                    have HT : Hid ((ys.take k).length = k) := by show (ys.take k).length = k; rw [List.length_take, HYL.out]; omega
                    clear hN0 hN1
                    by_cases hck : c = k
                    · subst hck
                      go_wp2_with fail
                      refine (take_ok g c ys wr HG0.out (by rw [HYL.out]; omega) (by omega)).mono ?_
                      rintro e w5 ⟨vx, rfl, hown, hG5, hO5⟩
                      obtain ⟨Ax, cx, rfl, -, -, -, hBx⟩ := own_slice hown
                      have HBx := Lib.hid hBx
                      have HG5 := Lib.hid hG5
                      have HO5 := Lib.hid hO5
                      have HY5 : Hid (Byt (fun b => b ≠ g ∧ b < B2) w5 A (ys.take c)) := (HYY.out.keep fun b hb => hO5.block b (by omega) (fun e => hb.1 (by injection e))).take c
                      clear hown hBx hG5 hO5
                      go_wp2_with fail
                      refine (same_yes Ax A c c cx c (ys.take c) (ys.take c) w5 _ _ HT.out HT.out rfl HBx.out HY5.out (by omega)).mono ?_
                      rintro e w6 ⟨rfl, q, rfl⟩
                      go_wp2_with fail
                      go_meet
                      refine ⟨0, 0, A, false, rfl, rfl, ?_⟩
                      have := st_drop (k := c) HYL.out hnc hn5 HYB.out HYY.out (by omega) (.inl ⟨rfl, rfl⟩) (only_drewN HO5.out q) hbel hg hsz HG5.out
                      rwa [Nat.sub_self, show n - c = 0 by omega] at this
                    · go_wp2_with fail
                      refine (take_ok g k ys wr HG0.out (by rw [HYL.out]; omega) (by omega)).mono ?_
                      rintro e w5 ⟨vx, rfl, hown, hG5, hO5⟩
                      obtain ⟨Ax, cx, rfl, -, -, -, hBx⟩ := own_slice hown
                      have HBx := Lib.hid hBx
                      have HG5 := Lib.hid hG5
                      have HO5 := Lib.hid hO5
                      have HY5 : Hid (Byt (fun b => b ≠ g ∧ b < B2) w5 A (ys.take k)) := (HYY.out.keep fun b hb => hO5.block b (by omega) (fun e => hb.1 (by injection e))).take k
                      clear hown hBx hG5 hO5
                      go_wp2_with fail
                      refine (same_yes Ax A k k cx c (ys.take k) (ys.take k) w5 _ _ HT.out HT.out rfl HBx.out HY5.out (by omega)).mono ?_
                      rintro e w6 ⟨rfl, q, rfl⟩
                      go_wp2_with fail
                      go_meet
                      exact ⟨n - k, c - k, _, false, rfl, rfl, st_drop HYL.out hnc hn5 HYB.out HYY.out (by omega) (.inr ⟨hck, rfl⟩) (only_drewN HO5.out q) hbel hg hsz HG5.out⟩
                  · by_cases hN0 : N < 0
                    · have d1 : decide (N < 0) = true := by simpa using hN0
                      go_wp2_with (first
                        | (go_at_call 21; refine (take_short g N ys wr HG0.out (.inl hN0)).mono ?_; rintro e w5 ⟨rfl, hBad, hO⟩; have HBad := Lib.hid hBad; have HO := Lib.hid hO; clear hBad hO))
                      go_meet
                      exact ⟨n, c, A, true, rfl, rfl, st_same HYL.out hnc hn5 HYB.out HYY.out HO.out hbel hg hsz (fun h => by cases h) (fun _ => HBad.out)⟩
                    · have d1 : decide (N < 0) = false := by simpa using hN0
                      have d2 : decide ((n : Int) < N) = true := by simp; omega
                      have hN1 : (n : Int) < N := by omega
                      go_wp2_with (first
                        | (go_at_call 21; refine (take_short g N ys wr HG0.out (.inr (by rw [HYL.out]; exact hN1))).mono ?_; rintro e w5 ⟨rfl, hBad, hO⟩; have HBad := Lib.hid hBad; have HO := Lib.hid hO; clear hBad hO))
                      go_meet
                      exact ⟨n, c, A, true, rfl, rfl, st_same HYL.out hnc hn5 HYB.out HYY.out HO.out hbel hg hsz (fun h => by cases h) (fun _ => HBad.out)⟩
                · have HB0 := Lib.hid (HBd.out rfl)
                  clear HGd HBd
                  go_wp2_with (first
                    | (go_at_call 21; refine (take_bad g N wr HB0.out).mono ?_; rintro e w5 ⟨rfl, rfl⟩))
                  go_meet
                  exact ⟨n, c, A, true, rfl, rfl, st_same HYL.out hnc hn5 HYB.out HYY.out (only_refl g wr) hbel hg hsz (fun h => by cases h) (fun _ => HB0.out)⟩
          case rest =>
            obtain ⟨n2, c2', A', bd', rfl, rfl, hst2⟩ := hcut
            obtain ⟨zs, hzl, hzc, hz5, hzb, hzB, hzG, hzD, hbel2, hsz2⟩ := hst2
            have HZL := Lib.hid hzl
            clear hzl
            have HSt : Hid (St w g B2 bd' A' n2 c2' wc) := ⟨zs, HZL.out, hzc, hz5, hzb, hzB, hzG, hzD, hbel2, hsz2⟩
            rcases bd' with _ | _
            · have HG2 := Lib.hid (hzG rfl)
              obtain ⟨Ar, cr, hBlk, _⟩ := hzG rfl
              have HBk := Lib.hid (bad_at g _ _ wc hBlk)
              have HLf := Lib.hid (left_good g zs wc (hzG rfl))
              clear hzb hzB hzG hzD hBlk HYY HYB HGd HBd HYL hbel hsz
              go_wp2_with (first
                | (go_at_call 19; refine HBk.out.mono ?_; rintro e w' ⟨rfl, rfl⟩)
                | (go_at_call 18; refine HLf.out.mono ?_; rintro e w' ⟨he, rfl⟩; rw [HZL.out] at he; subst he))
              exact ⟨⟨i + 1, n2, c2', A', _, rfl, rfl, by simp, by omega, HSt.out⟩, by simp [intOf]; omega⟩
            · have HBk := Lib.hid (bad_at g _ _ wc (hzD rfl))
              have HLf := Lib.hid (left_bad g wc (hzD rfl))
              clear hzb hzB hzG hzD HYY HYB HGd HBd HYL hbel hsz
              go_wp2_with (first
                | (go_at_call 19; refine HBk.out.mono ?_; rintro e w' ⟨rfl, rfl⟩)
                | (go_at_call 18; refine HLf.out.mono ?_; rintro e w' ⟨rfl, rfl⟩))
              exact ⟨⟨i + 1, n2, c2', A', _, rfl, rfl, by simp, by omega, HSt.out⟩, by simp [intOf]; omega⟩
        · clear HGd HBd HYY HYB HYL
          go_wp2_with fail
          refine (answers_any wr).mono ?_
          rintro e w9 ⟨rfl, hb9⟩
          go_wp2
          go_ret
          exact ⟨rfl, hbel.trans (hb9.mono hbel.size)⟩
end Go.Proofs.Ytepncmceabkgpaa.numReads
