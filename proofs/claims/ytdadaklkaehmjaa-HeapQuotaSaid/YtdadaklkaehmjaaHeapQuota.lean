/-
  The law HeapQuota holds: as many objects are added as the quota has room for, by what they cost; the law's function returns true and turns nothing that was there.
  Conditions: none.
-/
import Derived.Test.YtdadaklkaehmjaaOpn
import Derived.Test.YtdadaklkaehmjaaHan
import Derived.Deep.OwnRows
namespace Go.Proofs.Ytdadaklkaehmjaa.heapQuota
open Go.ChangeShapes Go.WideShapes Go.ChangeAt Go.RowKit
set_option linter.unusedVariables false
set_option linter.unusedSimpArgs false

def obW (n : Nat) : Ob := ⟨3, 0, List.replicate n 0, []⟩
theorem made_N (n : Nat) : madeCells #[.int .u64 0] n = (Ns (List.replicate n 0)).toArray := by
  apply Array.ext_getElem?
  intro i
  by_cases hi : i < n
  · simp [madeCells, hi, Ns, Nat.mod_one]
  · rw [Array.getElem?_eq_none (by simp [madeCells]; omega), Array.getElem?_eq_none (by simp [Ns]; omega)]
theorem obW_small {n : Nat} (h : n < 20) : (obW n).small := ⟨by simp [obW]; omega, by simp [obW]⟩
theorem obW_cost (n : Nat) : (obW n).cost = 16 + 8 * (n : Int) := by simp [obW, Ob.cost]
set_option maxRecDepth 100000 in
set_option maxHeartbeats 8000000 in
theorem walk (q n : Int) (w : World) (hq : 0 ≤ q ∧ q ≤ 65535) (hn : 0 ≤ n ∧ n ≤ 255) :
    Calls Try.prog 5 #[.int .u16 q, .int .u8 n] w fun e w' => e = .returned (.bool true) ∧ Below w.heap.size w w' := by
  have AN := Lib.hid (fun w => answers12 w)
  obtain ⟨Q, eq, hQ⟩ : ∃ k : Nat, q % 4000 = (k : Int) ∧ k < 4000 := ⟨(q % 4000).toNat, by omega, by omega⟩
  obtain ⟨N, en, hN⟩ : ∃ k : Nat, n % 20 = (k : Int) ∧ k < 20 := ⟨(n % 20).toNat, by omega, by omega⟩
  have HN := Lib.hid (new_any none 0 0 [] (Q : Int) 0 w rfl (Sq.nil _ _ _ _) (by simp) (by omega) ⟨by omega, by omega⟩ ⟨by omega, by omega⟩)
  have hmax : max (-1099511627776) (min (Q : Int) 1099511627776) = (Q : Int) := by omega
  rw [hmax] at HN
  clear hmax
  have hmk : ∀ w : World, (Instr.makeSlice 25 (.int .i64 (N : Nat)) (.int .i64 (N : Nat))).run Try.prog w = .ok (.slice (some ⟨w.heap.size, 0, none⟩) N N) (w.alloc (.cells (Ns (List.replicate N 0)).toArray 31)) := fun w => by
    rw [← made_N]
    exact Go.run_make_row' 25 31 (.int .u64 0) 8 Try.underlying25 num_info rfl .i64 .i64 N (by omega) (by omega) w
  go_enter Try.func5, Try.ntmps5
  go_upto_region 2 with (fail)
  try simp only [eq, en]
  clear eq en hq hn
  go_wp2_with (first
    | (go_at_call 10
       refine HN.out.mono ?_
       rintro e w1 ⟨g, rfl, hg, hp, hb⟩
       have HP : Hid (IsHp (fun b => w.heap.size ≤ b ∧ b < w1.heap.size) w1 g [] (Q : Int) 0) := hp
       have HB := Lib.hid hb
       have hs1 := hb.size
       clear hp hb HN))
  have HM : Hid (∀ k : Nat, (k : Int) * (16 + 8 * (N : Int)) ≤ (Q : Int) → k ≤ 250) := fun k hk => by
    have h1 : (k : Int) * 16 ≤ (k : Int) * (16 + 8 * (N : Int)) := Int.mul_le_mul_of_nonneg_left (by omega) (by omega)
    omega
  go_loopw [8, 9, 10, 11] (fun vk vi v10 v11 wr => ∃ k : Nat, vk = .int .i64 (k : Nat) ∧ vi = .int .i64 (k : Nat) ∧ (k : Int) * (16 + 8 * (N : Int)) ≤ (Q : Int) ∧ Below w.heap.size w wr ∧ IsHp (fun b => w.heap.size ≤ b ∧ b < wr.heap.size) wr g (List.replicate k (obW N)) (Q : Int) ((k : Int) * (16 + 8 * (N : Int)))) (fun _ vi _ _ _ => 300 - (intOf vi).toNat)
  case atStart => exact ⟨0, rfl, rfl, by simp, HB.out, by simpa using HP.out⟩
  case round =>
    obtain ⟨k, rfl, rfl, hk, hbel, hp⟩ := hrel
    have hk250 := HM.out k hk
    have HBr := Lib.hid hbel
    have HPr := Lib.hid hp
    have HK := Lib.hid hk
    have hsr := hbel.size
    clear hbel hp hk HP HB
    obtain ⟨U, eU⟩ : ∃ U : Int, (k : Int) * (16 + 8 * (N : Int)) = U := ⟨_, rfl⟩
    have HU := Lib.hid eU
    rw [eU] at HPr HK
    clear eU
    have hU : 0 ≤ U ∧ U ≤ 4000 := ⟨by rw [← HU.out]; exact Int.mul_nonneg (by omega) (by omega), by have := HK.out; omega⟩
    have HA : Hid (IsHp (fun b => w.heap.size ≤ b ∧ b < wr.heap.size) (wr.alloc (.cells (Ns (List.replicate N 0)).toArray 31)) g (List.replicate k (obW N)) (Q : Int) U) := HPr.out.keep (fun b hb _ => Below.heap_alloc _ _ _ hb) fun b hb => hb.2
    have HOb : Hid (obL.R (· < (wr.alloc (.cells (Ns (List.replicate N 0)).toArray 31)).heap.size) (wr.alloc (.cells (Ns (List.replicate N 0)).toArray 31)) [.int .i64 3, .int .i64 0, .slice (some ⟨wr.heap.size, 0, none⟩) N N, .slice none 0 0] (obW N)) := ob_words (xs := List.replicate N 0) (blk_at rfl) (by simp) (fun x hx => by rw [List.eq_of_mem_replicate hx]; decide) (by simp) (by omega)
    have HBa : Hid (Below w.heap.size w (wr.alloc (.cells (Ns (List.replicate N 0)).toArray 31))) := HBr.out.alloc hsr _
    have hlt : (k : Int) < 300 := by omega
    by_cases hf : (Q : Int) - (16 + 8 * (N : Int)) < U
    · have HF : Hid (Full (List.replicate k (obW N)) (Q : Int) U (obW N).cost) := .inl (by rw [obW_cost]; exact hf)
      have hdw : wrap64 ((Q : Int) / (16 + 8 * (N : Int))) = (k : Int) := by
        have h1 := HK.out
        have h2 := HU.out
        have e : (Q : Int) / (16 + 8 * (N : Int)) = (k : Int) := ((Int.ediv_emod_unique (r := (Q : Int) - U) (show (0 : Int) < 16 + 8 * (N : Int) by omega)).2 ⟨by rw [Int.mul_comm, h2]; omega, by omega, by omega⟩).1
        rw [e]
        exact IntWalk.wrap64_in _ (by omega)
      have hmw : wrap64 ((k : Int) * (16 + 8 * (N : Int))) = U := by
        rw [HU.out]
        exact IntWalk.wrap64_in _ (by omega)
      go_wp2_with (first
        | (go_at_call 11
           refine (add_full [.int .i64 3, .int .i64 0, .slice (some ⟨wr.heap.size, 0, none⟩) N N, .slice none 0 0] (obW N) g (wr.alloc (.cells (Ns (List.replicate N 0)).toArray 31)) HA.out HOb.out (obW_small hN) (by simp; omega) ⟨by omega, by omega⟩ ⟨by omega, by omega⟩ (fun b hb => by simp; omega) HF.out).mono ?_
           rintro e w2 ⟨rfl, hb2⟩
           have HP2 : Hid (IsHp (fun b => w.heap.size ≤ b ∧ b < w2.heap.size) w2 g (List.replicate k (obW N)) (Q : Int) U) := (HA.out.keep (fun b hb _ => hb2.block b hb) (fun b hb => by simp; omega)).wide fun b hb => ⟨hb.1, by have := hb2.size; simp at this; omega⟩
           have HB2 : Hid (Below w.heap.size w w2) := HBa.out.trans (hb2.mono HBa.out.size)
           clear hb2)
        | (go_at_call 8
           refine (AN.out w2).mono ?_
           rintro e w3 ⟨rfl, hb3⟩
           have HP3 : Hid (IsHp (fun b => w.heap.size ≤ b ∧ b < w2.heap.size) w3 g (List.replicate k (obW N)) (Q : Int) U) := HP2.out.keep (fun b hb _ => hb3.block b hb) fun b hb => hb.2
           have HB3 : Hid (Below w.heap.size w w3) := HB2.out.trans (hb3.mono HB2.out.size)
           have hs3 := hb3.size
           clear hb3)
        | (go_at_call 20
           refine (used_any g w3 HP3.out).mono ?_
           rintro e w4 ⟨rfl, rfl⟩)
        | (go_at_call 22
           refine (objs_any g w3 HP3.out (by simp; omega) (fun o ho => by rw [List.eq_of_mem_replicate ho]; exact obW_small hN) (fun b hb => by omega)).mono ?_
           rintro e w5 ⟨v, css, tag, rfl, hr5, hb5⟩
           obtain ⟨A5, c5, rfl, -, -⟩ := hr5.shape
           have HB5 : Hid (Below w.heap.size w w5) := HB3.out.trans (hb5.mono HB3.out.size)
           clear hr5 hb5))
      go_ret
      exact ⟨by simp, HB5.out⟩
    · have HF : Hid (¬ Full (List.replicate k (obW N)) (Q : Int) U (obW N).cost) := fun h => by
        rcases h with h | h
        · rw [obW_cost] at h; exact hf h
        · simp at h; omega
      go_wp2_with (first
        | (go_at_call 11
           refine (add_fits [.int .i64 3, .int .i64 0, .slice (some ⟨wr.heap.size, 0, none⟩) N N, .slice none 0 0] (obW N) g (wr.alloc (.cells (Ns (List.replicate N 0)).toArray 31)) HA.out HOb.out (obW_small hN) ⟨by omega, by omega⟩ ⟨by omega, by omega⟩ (fun b hb => by simp; omega) HF.out).mono ?_
           rintro e w2 ⟨rfl, hp2, ht2⟩
           have hs2 := ht2.size
           have HP2 : Hid (IsHp (fun b => w.heap.size ≤ b ∧ b < w2.heap.size) w2 g (List.replicate k (obW N) ++ [obW N]) (Q : Int) (U + (obW N).cost)) := hp2.wide fun b hb => by simp at hs2 hb; omega
           have HB2 : Hid (Below w.heap.size w w2) := HBa.out.trans (ht2.below (by simp; omega) fun b hb => hb.1)
           clear hp2 ht2))
      refine ⟨⟨k + 1, by simp, by simp, ?_, HB2.out, ?_⟩, by simp [intOf]; omega⟩
      · have := HU.out
        rw [Int.natCast_add, Int.add_mul, this]
        omega
      · have h1 := HP2.out
        have h2 := HU.out
        rw [← List.replicate_succ', obW_cost] at h1
        rw [Int.natCast_add, Int.add_mul, h2, Int.natCast_one, Int.one_mul]
        exact h1

set_option maxRecDepth 100000 in
theorem lifted (os : Os) (started : os.Started) (H : Type) (enc : TypeId × Value → H) :
    ReturnsInHanded {} Try.checked os 5 .any (Rows.heapQuotaSpec.pre6 enc Try.prog Try.f5 Rows.heapQuotaRow.domain false) (Rows.heapQuotaSpec.post enc Try.prog Try.f5 false true false false) := by
  refine returnsInHanded_of_change (C := Try.checked) own started (by kernel_rfl) Try.func5
    (ChangeSpec.witness6 (enc := enc) (C := Try.checked) false ⟨#[], #[.int .u16 0, .int .u8 0], []⟩ 8 (by kernel_rfl) (by kernel_rfl) (by kernel_rfl) (by kernel_rfl)) ?_
  intro W base args ds gs before hval0 hW hcnd _
  have hval : ∀ (j : Nat) t v, Try.f5.params[j]? = some t → args[j]? = some v → Value.okWide Try.prog W .any base t v := hval0
  have hW' := hW
  obtain ⟨p, q, hA0, hV, rfl, hfz, hnd⟩ := hW
  have hA : DataW.TrodAll enc Try.prog W 0 (fun _ => true) true Try.f5.params.toList args.toList ds p := hA0
  rw [Try.params5] at hA hval
  obtain ⟨v0, vs0, d0, ds0, p0, q0, hargs, rfl, rfl, h0, r0⟩ := trodAll_cons hA
  obtain ⟨v1, vs1, d1, ds1, p1, q1, rfl, rfl, rfl, h1, r1⟩ := trodAll_cons r0
  obtain ⟨rfl, rfl, rfl⟩ := trodAll_nil r1
  obtain rfl : args = #[v0, v1] := by cases args; simp_all
  obtain ⟨rfl, rfl⟩ := trodVars_none hV
  obtain ⟨a0, rfl, rfl, rfl, w0⟩ := open_int Try.underlying53 (hval 0 53 v0 rfl rfl) h0
  obtain ⟨a1, rfl, rfl, rfl, w1⟩ := open_int Try.underlying5 (hval 1 5 v1 rfl rfl) h1
  clear hA0 hval0
  simp only [List.append_nil] at hW'
  refine (walk a0 a1 W (bounds_u16 w0) (bounds_u8 w1)).mono fun e W' ⟨he, bel⟩ => ?_
  subst he
  exact ⟨_, rfl, _, _, _, [], _, [], hW', trodAll_mk1 (shut_bool Try.underlying4 _), (trodAll_cons_mk (shut_int Try.underlying53 w0) (trodAll_cons_mk (shut_int Try.underlying5 w1) trodAll_mk0)), rfl, bel.frame _, fun h => by cases h⟩

theorem over : Rows.heapQuotaRow.holds Try.pinned (OpenSpec.ofChange Rows.heapQuotaSpec) :=
  OpenClaim.holds_of_wide 5 Try.f5 rfl rfl rfl rfl rfl rfl rfl ⟨rfl, rfl, rfl, rfl, rfl⟩ rfl rfl rfl rfl rfl (by kernel_rfl) Try.func5 (by kernel_rfl)
    (of_decide_eq_true (by kernel_rfl)) (by unfold Func.isWrapper; first | (rw [if_pos (by decide +kernel)]; kernel_rfl) | (rw [if_neg (by decide +kernel)]; exact ⟨rfl, rfl⟩))
    (fun os started H enc _ => lifted os started H enc)

/-- The statement. -/
theorem proved : Rows.HeapQuotaSaid := over
end Go.Proofs.Ytdadaklkaehmjaa.heapQuota
