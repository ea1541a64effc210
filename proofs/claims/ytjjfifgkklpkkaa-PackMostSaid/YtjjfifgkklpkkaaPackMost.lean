/-
  The law PackMost holds: just as many parts as may be are split again, and not one more; the law's function returns true and turns nothing that was there.
  Conditions: none.
-/
import Derived.Test.YtjjfifgkklpkkaaOpn
import Derived.Test.YtjjfifgkklpkkaaPan
namespace Go.Proofs.Ytjjfifgkklpkkaa.packMost
open Go.ChangeShapes Go.WideShapes Go.ChangeAt Go.RowKit
set_option linter.unusedVariables false

theorem made_get (n j : Nat) (h : j < n) : (madeCells (Value.slice none 0 0).cells (n * 1)).toList[j]? = some (.slice none 0 0) := by
  rw [Nat.mul_one, show (Value.slice none 0 0).cells = #[.slice none 0 0] from rfl, toList_madeCells_one]
  simp [h]
theorem rep_get (k j : Nat) : (List.replicate k ([] : List Nat))[j]?.getD [] = [] := by
  rcases Nat.lt_or_ge j k with h | h
  · simp [h]
  · simp [List.getElem?_eq_none (show (List.replicate k ([] : List Nat)).length ≤ j by simpa using h)]
theorem pts_rep (k : Nat) : pts (List.replicate k []) = List.replicate k 0 := by
  induction k with
  | zero => rfl
  | succ k ih => rw [List.replicate_succ, pts_cons, ih, List.replicate_succ, pt, List.length_nil, vb_small 0 (by omega)]; rfl
theorem join_rep (k : Nat) (h : k < 40) : joinB (List.replicate k []) = k :: List.replicate k 0 := by
  rw [joinB, pts_rep, List.length_replicate, vb_small k (by omega)]
  rfl

set_option maxRecDepth 100000 in
set_option maxHeartbeats 1000000 in
theorem walk (n t : Int) (w : World) (hn : 0 ≤ n ∧ n ≤ 255) (ht : 0 ≤ t ∧ t ≤ 255) :
    Calls Try.prog 7 #[.int .u8 n, .int .u8 t] w fun e w' => e = .returned (.bool true) ∧ Below w.heap.size w w' := by
  obtain ⟨i0, hi0, hz0, hz1, hz2⟩ := info_parts sl_info
  obtain ⟨k, ek, hk⟩ : ∃ k : Nat, n % 40 = (k : Int) ∧ k < 40 := ⟨(n % 40).toNat, by omega, by omega⟩
  obtain ⟨m, em, hm⟩ : ∃ m : Nat, t % 40 = (m : Int) ∧ m < 40 := ⟨(t % 40).toNat, by omega, by omega⟩
  have hb2 : i0.bytes * k ≤ 281474976710656 := by rw [hz2]; omega
  have hb3 : k ≤ maxLen := by unfold maxLen; omega
  go_enter Try.func7, Try.ntmps7
  go_wp2_with (at_make
               refine wpList_make_full _ rfl (.tmp 16) (.tmp 16) 22 rfl w.heap.size 24 i0 (.slice none 0 0) 1 Try.underlying22 hi0 hz0 hz1 .i64 .i64 _ _ k rfl rfl rfl rfl hb2 hb3 (Nat.le_refl _) ?_
               intro w1 hown1 hg1
               have HO1 := Lib.hid hown1
               have HB1 : Hid (Below w.heap.size w w1) := ⟨hg1.os, hg1.tape, hg1.output, hg1.size, fun b hb => hg1.block b hb (by simp)⟩
               clear hown1 hg1)
  have HR : Hid (Rws (· < w1.heap.size) w1 (some ⟨w.heap.size, 0, none⟩) (List.replicate k [])) := fun hpos => by
    have hlt : w.heap.size < w1.heap.size := (HO1.out.lt w.heap.size rfl).2
    refine ⟨_, rfl, hlt, fun j hj => ⟨none, 0, ?_, ?_, ?_⟩⟩
    · rw [rep_get]
      exact HO1.out.cells rfl j _ (made_get k j (by simpa using hj))
    · rw [rep_get]
      exact Nat.le_refl _
    · rw [rep_get]
      exact Byt.nil _ _ _
  refine (join_any _ k k (List.replicate k []) w1 (by simp) HR.out (by rw [join_rep k hk]; simp; omega)).mono ?_
  rintro e w2 ⟨v2, rfl, hown2, hb2'⟩
  obtain ⟨A2, c2, rfl, -, hc2, -, hB2⟩ := own_slice hown2
  have HBy2 := Lib.hid (hB2.wide (T := (· < w2.heap.size)) fun b hb => hb.2)
  have HB2 : Hid (Below w.heap.size w w2) := HB1.out.trans (hb2'.mono HB1.out.size)
  clear hown2 hb2' hB2
  have hs2 := HB2.out.size
  have hjl : (joinB (List.replicate k [])).length = k + 1 := by rw [join_rep k hk]; simp
  rw [hjl]
  go_wp2_with fail
  refine (split_any A2 (k + 1) c2 (joinB (List.replicate k [])) (m : Int) w2 hjl (by rw [join_rep k hk]; simp; omega) HBy2.out (by omega) (by omega)).mono ?_
  rintro e w3 ⟨hb3', hr⟩
  have HB3 : Hid (Below w.heap.size w w3) := HB2.out.trans (hb3'.mono hs2)
  have hs3 := HB3.out.size
  clear hb3'
  rcases hr with ⟨xss, A3, c3, hj, rfl, -, -⟩ | ⟨hno, rfl⟩
  · obtain rfl : xss = List.replicate k [] := join_unique (by rw [hjl]; unfold B64; omega) hj.1 rfl
    have hkm : k ≤ m := by have := hj.2; simp at this; omega
    simp only [List.length_replicate]
    clear hj
    go_wp2_with fail
    refine (answers3 w3).mono ?_
    rintro e w4 ⟨rfl, hb4⟩
    have d1 : decide ((k : Int) ≤ (m : Int)) = true := by simp; omega
    go_wp2_with fail
    go_ret
    exact ⟨rfl, HB3.out.trans (hb4.mono hs3)⟩
  · have hkm : m < k := by
      rcases Nat.lt_or_ge m k with h | h
      · exact h
      · exact absurd ⟨_, rfl, by simp; omega⟩ hno
    clear hno
    go_wp2_with fail
    refine (answers3 w3).mono ?_
    rintro e w4 ⟨rfl, hb4⟩
    have d1 : decide (k ≤ m) = false := by simp; omega
    go_wp2_with fail
    go_ret
    exact ⟨rfl, HB3.out.trans (hb4.mono hs3)⟩

set_option maxRecDepth 100000 in
theorem lifted (os : Os) (started : os.Started) (H : Type) (enc : TypeId × Value → H) :
    ReturnsInHanded {} Try.checked os 7 .any (Rows.packMostSpec.pre6 enc Try.prog Try.f7 Rows.packMostRow.domain false) (Rows.packMostSpec.post enc Try.prog Try.f7 false true false false) := by
  refine returnsInHanded_of_change (C := Try.checked) own started (by kernel_rfl) Try.func7
    (ChangeSpec.witness6 (enc := enc) (C := Try.checked) false ⟨#[], #[.int .u8 0, .int .u8 0], []⟩ 8 (by kernel_rfl) (by kernel_rfl) (by kernel_rfl) (by kernel_rfl)) ?_
  intro W base args ds gs before hval0 hW hcnd _
  have hval : ∀ (j : Nat) t v, Try.f7.params[j]? = some t → args[j]? = some v → Value.okWide Try.prog W .any base t v := hval0
  have hW' := hW
  obtain ⟨p, q, hA0, hV, rfl, hfz, hnd⟩ := hW
  have hA : DataW.TrodAll enc Try.prog W 0 (fun _ => true) true Try.f7.params.toList args.toList ds p := hA0
  rw [Try.params7] at hA hval
  obtain ⟨v0, vs0, d0, ds0, p0, q0, hargs, rfl, rfl, h0, r0⟩ := trodAll_cons hA
  obtain ⟨v1, vs1, d1, ds1, p1, q1, rfl, rfl, rfl, h1, r1⟩ := trodAll_cons r0
  obtain ⟨rfl, rfl, rfl⟩ := trodAll_nil r1
  obtain rfl : args = #[v0, v1] := by cases args; simp_all
  obtain ⟨rfl, rfl⟩ := trodVars_none hV
  obtain ⟨a0, rfl, rfl, rfl, w0⟩ := open_int Try.underlying5 (hval 0 5 v0 rfl rfl) h0
  obtain ⟨a1, rfl, rfl, rfl, w1⟩ := open_int Try.underlying5 (hval 1 5 v1 rfl rfl) h1
  clear hA0 hval0
  simp only [List.append_nil] at hW'
  refine (walk a0 a1 W (bounds_u8 w0) (bounds_u8 w1)).mono fun e W' ⟨he, bel⟩ => ?_
  subst he
  exact ⟨_, rfl, _, _, _, [], _, [], hW', trodAll_mk1 (shut_bool Try.underlying4 _), (trodAll_cons_mk (shut_int Try.underlying5 w0) (trodAll_cons_mk (shut_int Try.underlying5 w1) trodAll_mk0)), rfl, bel.frame _, fun h => by cases h⟩

theorem over : Rows.packMostRow.holds Try.pinned (OpenSpec.ofChange Rows.packMostSpec) :=
  OpenClaim.holds_of_wide 7 Try.f7 rfl rfl rfl rfl rfl rfl rfl ⟨rfl, rfl, rfl, rfl, rfl⟩ rfl rfl rfl rfl rfl (by kernel_rfl) Try.func7 (by kernel_rfl)
    (of_decide_eq_true (by kernel_rfl)) (by unfold Func.isWrapper; first | (rw [if_pos (by decide +kernel)]; kernel_rfl) | (rw [if_neg (by decide +kernel)]; exact ⟨rfl, rfl⟩))
    (fun os started H enc _ => lifted os started H enc)

/-- The statement. -/
theorem proved : Rows.PackMostSaid := over
end Go.Proofs.Ytjjfifgkklpkkaa.packMost
