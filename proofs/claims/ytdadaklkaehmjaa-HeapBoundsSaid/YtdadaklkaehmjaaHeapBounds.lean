/-
  The law HeapBounds holds: the last word is there and none behind it, so of bytes, and words are no bytes; the law's function returns true and turns nothing that was there.
  Conditions: none.
-/
import Derived.Test.YtdadaklkaehmjaaOpn
import Derived.Test.YtdadaklkaehmjaaHan
import Derived.Test.YtdadaklkaehmjaaHm
import Derived.Deep.OwnRows
namespace Go.Proofs.Ytdadaklkaehmjaa.heapBounds
open Go.ChangeShapes Go.WideShapes Go.ChangeAt Go.RowKit
set_option linter.unusedVariables false
set_option linter.unusedSimpArgs false

def obB (n : Nat) : Ob := ⟨2, 0, [], List.replicate n 0⟩
def obV (xs : List Nat) : Ob := ⟨3, 0, xs, []⟩
def obY (xs : List Nat) : Ob := ⟨2, 0, [], xs⟩
theorem made_N (n : Nat) : madeCells #[.int .u64 0] n = (Ns (List.replicate n 0)).toArray := by
  apply Array.ext_getElem?
  intro i
  by_cases hi : i < n
  · simp [madeCells, hi, Ns, Nat.mod_one]
  · rw [Array.getElem?_eq_none (by simp [madeCells]; omega), Array.getElem?_eq_none (by simp [Ns]; omega)]
theorem made_B (n : Nat) : madeCells #[.int .u8 0] n = (Bs (List.replicate n 0)).toArray := by
  apply Array.ext_getElem?
  intro i
  by_cases hi : i < n
  · simp [madeCells, hi, Bs, Nat.mod_one]
  · rw [Array.getElem?_eq_none (by simp [madeCells]; omega), Array.getElem?_eq_none (by simp [Bs]; omega)]
/-- The two objects that the law begins with. -/
theorem two_obs {V : World} {gw gb gs K : Nat} (hK : K ≤ 50) (h1 : Blk V gw 31 (madeCells #[.int .u64 0] K)) (h2 : Blk V gb 5 (madeCells #[.int .u8 0] K)) (h3 : Blk V gs 28 #[.int .i64 3, .int .i64 0, .slice (some ⟨gw, 0, none⟩) K K, .slice none 0 0, .int .i64 2, .int .i64 0, .slice none 0 0, .slice (some ⟨gb, 0, none⟩) K K]) :
    Sq obL (· < V.heap.size) V (some ⟨gs, 0, none⟩) [obV (List.replicate K 0), obY (List.replicate K 0)] := by
  rw [made_N] at h1
  rw [made_B] at h2
  have o1 : obL.R (· < V.heap.size) V [.int .i64 3, .int .i64 0, .slice (some ⟨gw, 0, none⟩) K K, .slice none 0 0] (obV (List.replicate K 0)) := ob_words (xs := List.replicate K 0) h1 h1.lt (fun x hx => by rw [List.eq_of_mem_replicate hx]; decide) (by simp) (by omega)
  have o2 : obL.R (· < V.heap.size) V [.int .i64 2, .int .i64 0, .slice none 0 0, .slice (some ⟨gb, 0, none⟩) K K] (obY (List.replicate K 0)) := by
    have e : K = (obY (List.replicate K 0)).bytes.length := by simp [obY]
    have := ob_make (S := (· < V.heap.size)) (w := V) (o := obY (List.replicate K 0)) (A := none) (B := some ⟨gb, 0, none⟩) (c := 0) (d := K) (by simp [obY]) (by simp [maxLen]) (by simp [obY]) (by simp only [maxLen]; omega) (Sq.nil _ _ _ _) (fun hp => ⟨_, rfl, h2.lt, fun j hj => by
      rw [add_zero, h2.cell]
      exact (show (Bs (List.replicate K 0)).toArray[j]? = some (.int .u8 (((List.replicate K 0)[j]?.getD 0 : Nat) : Int)) by simpa using Bs_get (List.replicate K 0) j hj)⟩) (fun x hx => by rw [List.eq_of_mem_replicate hx]; decide) ⟨by show (-9223372036854775808 : Int) ≤ 2; omega, by show (2 : Int) ≤ 9223372036854775807; omega⟩ ⟨by show (-9223372036854775808 : Int) ≤ 0; omega, by show (0 : Int) ≤ 9223372036854775807; omega⟩
    rw [← e] at this
    exact this
  refine fun _ => ⟨_, rfl, h3.lt, fun j o hj => ?_⟩
  match j, hj with
  | 0, hj =>
    simp at hj
    subst hj
    refine ⟨_, fun i u hu => ?_, o1⟩
    rw [add_zero, h3.cell, show 0 * obL.k + i = i by omega]
    match i, hu with
    | 0, hu => exact hu
    | 1, hu => exact hu
    | 2, hu => exact hu
    | 3, hu => exact hu
    | i + 4, hu => simp at hu
  | 1, hj =>
    simp at hj
    subst hj
    refine ⟨_, fun i u hu => ?_, o2⟩
    rw [add_zero, h3.cell, show 1 * obL.k + i = 4 + i by show 1 * 4 + i = 4 + i; omega]
    match i, hu with
    | 0, hu => exact hu
    | 1, hu => exact hu
    | 2, hu => exact hu
    | 3, hu => exact hu
    | i + 4, hu => simp at hu
  | j + 2, hj => simp at hj
section
variable {xs ys : List Nat} {J X : Nat}
theorem v_sw (h : J < xs.length) : setWordA [obV xs, obY ys] 1 J X = ([obV (xs.set J X), obY ys], 0) := by simp [setWordA, atO, obV, h]
theorem v_sn (h : xs.length ≤ J) : setWordA [obV xs, obY ys] 1 J X = ([obV xs, obY ys], 3) := by simp [setWordA, atO, obV]; omega
theorem v_bw (h : J < ys.length) : setByteA [obV xs, obY ys] 2 J X = ([obV xs, obY (ys.set J X)], 0) := by simp [setByteA, atO, obY, h]
theorem v_bn (h : ys.length ≤ J) : setByteA [obV xs, obY ys] 2 J X = ([obV xs, obY ys], 3) := by simp [setByteA, atO, obY]; omega
theorem v_wr (h : xs[J]? = some X) : wordA [obV xs, obY ys] 1 J = (X, 0) := by simp [wordA, atO, obV, h]
theorem v_br (h : ys[J]? = some X) : byteA [obV xs, obY ys] 2 J = (X, 0) := by simp [byteA, atO, obY, h]
theorem v_b1 : byteA [obV xs, obY ys] 1 0 = (0, 3) := by simp [byteA, atO, obV]
theorem v_w2 : wordA [obV xs, obY ys] 2 0 = (0, 3) := by simp [wordA, atO, obY]
theorem v_l2 : lenA [obV xs, obY ys] 2 = ((ys.length : Int), 0) := by simp [lenA, atO, obY]
end
theorem two_small {xs ys : List Nat} (h1 : xs.length ≤ 50) (h2 : ys.length ≤ 50) : ∀ o ∈ [obV xs, obY ys], o.small := fun o ho => by
  simp at ho
  rcases ho with rfl | rfl
  · exact ⟨by simp [obV]; omega, by simp [obV]⟩
  · exact ⟨by simp [obY], by simp [obY]; omega⟩
set_option maxRecDepth 100000 in
set_option maxHeartbeats 8000000 in
theorem walk (a x : Int) (w : World) (ha : 0 ≤ a ∧ a ≤ 255) (hx : 0 ≤ x ∧ x ≤ 18446744073709551615) :
    Calls Try.prog 7 #[.int .u8 a, .int .u64 x] w fun e w' => e = .returned (.bool true) ∧ Below w.heap.size w w' := by
  have AN := Lib.hid (fun w => answers12 w)
  obtain ⟨K, eK, hK⟩ : ∃ k : Nat, a % 50 + 1 = (k : Int) ∧ 1 ≤ k ∧ k ≤ 50 := ⟨(a % 50 + 1).toNat, by omega, by omega⟩
  obtain ⟨X, rfl⟩ : ∃ k : Nat, x = (k : Int) := ⟨x.toNat, by omega⟩
  obtain ⟨J, rfl⟩ : ∃ j : Nat, K = j + 1 := ⟨K - 1, by omega⟩
  have m1 : ∀ w : World, (Instr.makeSlice 25 (.int .u64 ((J : Int) + 1)) (.int .u64 ((J : Int) + 1))).run Try.prog w = .ok (.slice (some ⟨w.heap.size, 0, none⟩) (J + 1) (J + 1)) (w.alloc (.cells (madeCells #[.int .u64 0] (J + 1)) 31)) := fun w => by
    rw [show ((J : Int) + 1) = ((J + 1 : Nat) : Int) from rfl]
    exact Go.run_make_row' 25 31 (.int .u64 0) 8 Try.underlying25 num_info rfl .u64 .u64 (J + 1) (by omega) (by omega) w
  have m2 : ∀ w : World, (Instr.makeSlice 26 (.int .u64 ((J : Int) + 1)) (.int .u64 ((J : Int) + 1))).run Try.prog w = .ok (.slice (some ⟨w.heap.size, 0, none⟩) (J + 1) (J + 1)) (w.alloc (.cells (madeCells #[.int .u8 0] (J + 1)) 5)) := fun w => by
    rw [show ((J : Int) + 1) = ((J + 1 : Nat) : Int) from rfl]
    exact Go.run_make_row' 26 5 (.int .u8 0) 1 Try.underlying26 u8_info rfl .u64 .u64 (J + 1) (by omega) (by omega) w
  go_enter Try.func7, Try.ntmps7
  go_upto_region 2 with (fail)
  try simp only [eK]
  clear eK ha
  have HNew : Hid (∀ (V : World) (gw gb gs : Nat), Below w.heap.size w V → Blk V gw 31 (madeCells #[.int .u64 0] (J + 1)) → Blk V gb 5 (madeCells #[.int .u8 0] (J + 1)) → Blk V gs 28 #[.int .i64 3, .int .i64 0, .slice (some ⟨gw, 0, none⟩) (J + 1) (J + 1), .slice none 0 0, .int .i64 2, .int .i64 0, .slice none 0 0, .slice (some ⟨gb, 0, none⟩) (J + 1) (J + 1)] →
      Calls Try.prog 10 #[.slice (some ⟨gs, 0, none⟩) 2 2, .int .i64 0, .int .i64 0] V fun e w' => ∃ g, e = .returned (.pointer (some ⟨g, 0, none⟩)) ∧ Hq w.heap.size w w' g [obV (List.replicate (J + 1) 0), obY (List.replicate (J + 1) 0)] 0 0 ∧ w.heap.size ≤ w'.heap.size) := fun V gw gb gs hV h1 h2 h3 => by
    refine (new_any (some ⟨gs, 0, none⟩) 2 2 [obV (List.replicate (J + 1) 0), obY (List.replicate (J + 1) 0)] 0 0 V rfl (two_obs (by omega) h1 h2 h3) (two_small (by simp; omega) (by simp; omega)) (by omega) ⟨by omega, by omega⟩ ⟨by omega, by omega⟩).mono ?_
    rintro e w' ⟨g, rfl, hg, hp, hb⟩
    exact ⟨g, rfl, ⟨hV.trans (hb.mono hV.size), hp.wide fun b h => ⟨Nat.le_trans hV.size h.1, h.2⟩⟩, Nat.le_trans hV.size hb.size⟩
  go_cut [6] (fun s6 wx => ∃ g, s6 = .pointer (some ⟨g, 0, none⟩) ∧ Hq w.heap.size w wx g [obV (List.replicate (J + 1) 0), obY (List.replicate (J + 1) 0)] 0 0 ∧ w.heap.size ≤ wx.heap.size)
  case first =>
    go_region_with (first
      | (go_at_call 10
         refine (HNew.out _ w.heap.size (w.heap.size + 1) (w.heap.size + 1 + 1) ((((Below.refl _ _).alloc (Nat.le_refl _) _).alloc (by simp) _).alloc (by simp; omega) _).drew (blk_drw (blk_keep (blk_keep (blk_at rfl)))) (blk_drw (blk_keep (blk_at (by simp)))) (blk_drw (blk_at (by simp)))).mono ?_
         rintro e w1 ⟨g, rfl, hp, hs1⟩
         have HP := Lib.hid hp
         clear hp)
      | (go_at_call 10
         refine (HNew.out _ (w.heap.size + 1) w.heap.size (w.heap.size + 1 + 1) ((((Below.refl _ _).alloc (Nat.le_refl _) _).alloc (by simp) _).alloc (by simp; omega) _).drew (blk_drw (blk_keep (blk_at (by simp)))) (blk_drw (blk_keep (blk_keep (blk_at rfl)))) (blk_drw (blk_at (by simp)))).mono ?_
         rintro e w1 ⟨g, rfl, hp, hs1⟩
         have HP := Lib.hid hp
         clear hp))
    all_goals
      go_wp2_with fail
      go_meet
      exact ⟨_, rfl, HP.out, hs1⟩
  case rest =>
    obtain ⟨g, rfl, hp, hs0⟩ := hcut
    have H0 := Lib.hid hp
    clear hp HNew m1 m2
    obtain ⟨R, eR⟩ : ∃ R, List.replicate (J + 1) 0 = R := ⟨_, rfl⟩
    have hR : R.length = J + 1 := by rw [← eR]; simp
    rw [eR] at H0
    clear eR
    have h64 : J + 1 < B64 := by unfold B64; omega
    have hX : X < B64 := by unfold B64; omega
    have HRl := Lib.hid hR
    have H64 := Lib.hid h64
    have HX := Lib.hid hX
    have HJ : Hid (J < B64) := Nat.lt_of_succ_lt h64
    have HS1 : Hid (∀ o ∈ [obV R, obY R], o.small) := two_small (by omega) (by omega)
    have HS2 : Hid (∀ o ∈ [obV (R.set J X), obY R], o.small) := two_small (by rw [List.length_set]; omega) (by omega)
    have HS3 : Hid (∀ o ∈ [obV (R.set J X), obY (R.set J (X % 256))], o.small) := two_small (by rw [List.length_set]; omega) (by rw [List.length_set]; omega)
    have gW : (R.set J X)[J]? = some X := by rw [List.getElem?_set_self (by omega)]
    have gB : (R.set J (X % 256))[J]? = some (X % 256) := by rw [List.getElem?_set_self (by omega)]
    have GW := Lib.hid gW
    have GB := Lib.hid gB
    have hl2 : ((R.set J (X % 256)).length : Int) = (J : Int) + 1 := by rw [List.length_set, hR]; rfl
    have e1 : setWordA [obV R, obY R] 1 J X = ([obV (R.set J X), obY R], 0) := v_sw (by omega)
    have e2 : setWordA [obV (R.set J X), obY R] 1 (J + 1) X = ([obV (R.set J X), obY R], 3) := v_sn (by rw [List.length_set]; omega)
    have e3 : setByteA [obV (R.set J X), obY R] 2 J (X % 256) = ([obV (R.set J X), obY (R.set J (X % 256))], 0) := v_bw (by omega)
    have e4 : setByteA [obV (R.set J X), obY (R.set J (X % 256))] 2 (J + 1) (X % 256) = ([obV (R.set J X), obY (R.set J (X % 256))], 3) := v_bn (by rw [List.length_set]; omega)
    have e9 : lenA [obV (R.set J X), obY (R.set J (X % 256))] 2 = ((J : Int) + 1, 0) := by rw [v_l2, hl2]
    have HE1 := Lib.hid e1
    have HE2 := Lib.hid e2
    have HE3 := Lib.hid e3
    have HE4 := Lib.hid e4
    have HE9 := Lib.hid e9
    clear hR h64 hX gW gB hl2 e1 e2 e3 e4 e9
    go_wp2_with (first
      | (go_at_call 8
         refine (AN.out w9).mono ?_
         rintro e w10 ⟨rfl, hb10⟩
         have HB10 : Hid (Below w.heap.size w w10) := H9.out.1.trans (hb10.mono hs9)
         clear hb10)
      | (go_at_call 19
         refine (hq_len g 2 w w8 H8.out (by decide) (by simp) HS3.out hs8 HE9.out).mono ?_
         rintro e w9 ⟨rfl, hp9, hs9⟩
         have H9 := Lib.hid hp9
         clear hp9)
      | (go_at_call 14
         refine (hq_word g 2 0 w w7 H7.out (by decide) (by decide) (by simp) HS3.out hs7 v_w2).mono ?_
         rintro e w8 ⟨rfl, hp8, hs8⟩
         have H8 := Lib.hid hp8
         clear hp8)
      | (go_at_call 17
         refine (hq_byte g 1 0 w w6 H6.out (by decide) (by decide) (by simp) HS3.out hs6 v_b1).mono ?_
         rintro e w7 ⟨rfl, hp7, hs7⟩
         have H7 := Lib.hid hp7
         clear hp7)
      | (go_at_call 17
         refine (hq_byte g 2 J w w5 H5.out (by decide) HJ.out (by simp) HS3.out hs5 (v_br GB.out)).mono ?_
         rintro e w6 ⟨rfl, hp6, hs6⟩
         have H6 := Lib.hid hp6
         clear hp6)
      | (go_at_call 14
         refine (hq_word g 1 J w w4 H4.out (by decide) HJ.out (by simp) HS3.out hs4 (v_wr GW.out)).mono ?_
         rintro e w5 ⟨rfl, hp5, hs5⟩
         have H5 := Lib.hid hp5
         clear hp5)
      | (go_at_call 18
         refine (hq_setByte g 2 (J + 1) X w w3 H3.out (by decide) H64.out HX.out (by simp) HS3.out hs3 HE4.out).mono ?_
         rintro e w4 ⟨rfl, hp4, hs4⟩
         have H4 := Lib.hid hp4
         clear hp4)
      | (go_at_call 18
         refine (hq_setByte g 2 J X w w2 H2.out (by decide) HJ.out HX.out (by simp) HS2.out hs2 HE3.out).mono ?_
         rintro e w3 ⟨rfl, hp3, hs3⟩
         have H3 := Lib.hid hp3
         clear hp3)
      | (go_at_call 16
         refine (hq_setWord g 1 (J + 1) X w w1 H1.out (by decide) H64.out HX.out (by simp) HS2.out hs1 HE2.out).mono ?_
         rintro e w2 ⟨rfl, hp2, hs2⟩
         have H2 := Lib.hid hp2
         clear hp2)
      | (go_at_call 16
         refine (hq_setWord g 1 J X w wc H0.out (by decide) HJ.out HX.out (by simp) HS1.out hs0 HE1.out).mono ?_
         rintro e w1 ⟨rfl, hp1, hs1⟩
         have H1 := Lib.hid hp1
         clear hp1))
    go_ret
    exact ⟨by simp, HB10.out⟩

set_option maxRecDepth 100000 in
theorem lifted (os : Os) (started : os.Started) (H : Type) (enc : TypeId × Value → H) :
    ReturnsInHanded {} Try.checked os 7 .any (Rows.heapBoundsSpec.pre6 enc Try.prog Try.f7 Rows.heapBoundsRow.domain false) (Rows.heapBoundsSpec.post enc Try.prog Try.f7 false true false false) := by
  refine returnsInHanded_of_change (C := Try.checked) own started (by kernel_rfl) Try.func7
    (ChangeSpec.witness6 (enc := enc) (C := Try.checked) false ⟨#[], #[.int .u8 0, .int .u64 0], []⟩ 8 (by kernel_rfl) (by kernel_rfl) (by kernel_rfl) (by kernel_rfl)) ?_
  intro W base args ds gs before hval0 hW hcnd _
  have hval : ∀ (j : Nat) t v, Try.f7.params[j]? = some t → args[j]? = some v → Value.okWide Try.prog W .any base t v := hval0
  have hW' := hW
  obtain ⟨p, q, hA0, hV, rfl, hfz, hnd⟩ := hW
  have hA : DataW.TrodAll enc Try.prog W 0 (fun _ => true) true Try.f7.params.toList args.toList ds p := hA0
  rw [Try.params7] at hA hval
  obtain ⟨v0, vs0, d0, ds0, p0, q0, hargs, rfl, rfl, h0, r0⟩ := trodAll_cons hA
  obtain ⟨v1, vs1, d1, ds1, p1, q1, rfl, rfl, rfl, h1, r1⟩ := trodAll_cons r0
  obtain ⟨rfl, rfl, rfl⟩ := trodAll_nil r1
  obtain rfl : args = #[v0, v1] := by cases args; simp_all
  obtain ⟨rfl, rfl⟩ := trodVars_none hV
  obtain ⟨a0, rfl, rfl, rfl, w0⟩ := open_int Try.underlying5 (hval 0 5 v0 rfl rfl) h0
  obtain ⟨a1, rfl, rfl, rfl, w1⟩ := open_int Try.underlying31 (hval 1 31 v1 rfl rfl) h1
  clear hA0 hval0
  simp only [List.append_nil] at hW'
  refine (walk a0 a1 W (bounds_u8 w0) (bounds_u64 w1)).mono fun e W' ⟨he, bel⟩ => ?_
  subst he
  exact ⟨_, rfl, _, _, _, [], _, [], hW', trodAll_mk1 (shut_bool Try.underlying4 _), (trodAll_cons_mk (shut_int Try.underlying5 w0) (trodAll_cons_mk (shut_int Try.underlying31 w1) trodAll_mk0)), rfl, bel.frame _, fun h => by cases h⟩

theorem over : Rows.heapBoundsRow.holds Try.pinned (OpenSpec.ofChange Rows.heapBoundsSpec) :=
  OpenClaim.holds_of_wide 7 Try.f7 rfl rfl rfl rfl rfl rfl rfl ⟨rfl, rfl, rfl, rfl, rfl⟩ rfl rfl rfl rfl rfl (by kernel_rfl) Try.func7 (by kernel_rfl)
    (of_decide_eq_true (by kernel_rfl)) (by unfold Func.isWrapper; first | (rw [if_pos (by decide +kernel)]; kernel_rfl) | (rw [if_neg (by decide +kernel)]; exact ⟨rfl, rfl⟩))
    (fun os started H enc _ => lifted os started H enc)

/-- The statement. -/
theorem proved : Rows.HeapBoundsSaid := over
end Go.Proofs.Ytdadaklkaehmjaa.heapBounds
