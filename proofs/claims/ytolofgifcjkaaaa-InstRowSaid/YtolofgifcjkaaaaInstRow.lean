/-
  The law InstRow holds: instructions one behind the other are read one by one; the law's function returns true and turns nothing that was there.
  Conditions: none.
-/
import Derived.Test.YtolofgifcjkaaaaOpn
import Derived.Test.YtolofgifcjkaaaaOis
import Derived.Test.YtolofgifcjkaaaaIan
import Derived.Test.YtolofgifcjkaaaaIro
import Derived.BigQuiet
namespace Go.Proofs.Ytolofgifcjkaaaa.instRow
open Go.ChangeShapes Go.WideShapes Go.ChangeAt Go.RowKit
set_option linter.unusedVariables false
set_option linter.unusedSimpArgs false

/-- What stands behind the rounds so far: the good ones, their bytes, and they themselves. -/
def St (w : World) (k : Nat) (bv wv : Value) (wr : World) (ks : List Ins) : Prop :=
  ks.length ≤ k ∧ (∀ t ∈ ks, gt t = true) ∧ wr.ownsRow w.heap.size 5 1 bv (rowB ks).length (Bs (rowB ks)) ∧ wr.ownsRow w.heap.size 23 3 wv ks.length (I3 ks) ∧ Apart bv wv ∧ Below w.heap.size w wr

theorem ins_new (w : World) (p q r : Int) :
    (w.alloc (.cells #[.int .i64 p, .int .i64 q, .int .i64 r] 23)).cell? ⟨w.heap.size, 0, none⟩ = some (.int .i64 p) ∧
    (w.alloc (.cells #[.int .i64 p, .int .i64 q, .int .i64 r] 23)).cell? ((⟨w.heap.size, 0, none⟩ : Addr).add 1) = some (.int .i64 q) ∧
    (w.alloc (.cells #[.int .i64 p, .int .i64 q, .int .i64 r] 23)).cell? ((⟨w.heap.size, 0, none⟩ : Addr).add 2) = some (.int .i64 r) := by
  exact ⟨by simp, by simp [Addr.add], by simp [Addr.add]⟩
theorem next_cell (a : Addr) (m i : Nat) (hi : 0 < i) : a.add (m + i) = ⟨(a.add m).block, (a.add m).off + i, none⟩ := by
  rw [← addAdd]
  generalize a.add m = x
  have : i ≠ 0 := by omega
  simp [Addr.add, this]

set_option maxRecDepth 100000 in
set_option maxHeartbeats 4000000 in
theorem walk_few (A : Option Addr) (n c : Nat) (ts : List Ins) (w : World) (hx : ts.length = n) (hB : Iss (· < w.heap.size) w A ts) (hcm : c ≤ maxLen) (hn : n ≤ 100) :
    Calls Try.prog 6 #[.slice A n c] w fun e w' => e = .returned (.bool true) ∧ Below w.heap.size w w' := by
  have HX := Lib.hid hx
  have HB := Lib.hid hB
  clear hx hB
  unfold maxLen at hcm
  go_enter Try.func6, Try.ntmps6
  go_wp2_with fail
  go_loopw [3, 4, 5] (fun bv wv i wr => ∃ (k : Nat) (ks : List Ins), k ≤ n ∧ i = .int .i64 (k : Nat) ∧ St w k bv wv wr ks) (fun _ _ i _ => n - (intOf i).toNat)
  case atStart => exact ⟨0, [], Nat.zero_le _, rfl, by simp, by simp, ⟨rfl, .inl ⟨rfl, rfl⟩⟩, own_ins_nil _ _, fun i hi => by simp [Value.ownBlock] at hi, Below.refl _ _⟩
  case round =>
    obtain ⟨k, ks, hk, rfl, hst⟩ := hrel
    have HS := Lib.hid hst
    clear hst
    by_cases hlt : k < n
    · obtain ⟨a, rfl, hab, hc0, hc1, hc2⟩ := HB.out.at (k := k) (by rw [HX.out]; exact hlt)
      obtain ⟨⟨p, q, r⟩, ht⟩ : ∃ t : Ins, ts[k]?.getD (0, 0, 0) = t := ⟨_, rfl⟩
      rw [ht] at hc0 hc1 hc2
      have HC : Hid (∀ V, Below w.heap.size w V → V.cell? (a.add (k * 3)) = some (.int .i64 p) ∧ V.cell? ⟨(a.add (k * 3)).block, (a.add (k * 3)).off + 1, none⟩ = some (.int .i64 q) ∧ V.cell? ⟨(a.add (k * 3)).block, (a.add (k * 3)).off + 2, none⟩ = some (.int .i64 r)) := fun V hV => by
        rw [← next_cell a (k * 3) 1 (by omega), ← next_cell a (k * 3) 2 (by omega)]
        exact ⟨(World.cell?_of_block (hV.block _ (by rw [addBlock]; exact hab))).trans hc0, (World.cell?_of_block (hV.block _ (by rw [addBlock]; exact hab))).trans hc1, (World.cell?_of_block (hV.block _ (by rw [addBlock]; exact hab))).trans hc2⟩
      obtain ⟨d0, d1, d2⟩ := HC.out wr HS.out.2.2.2.2.2
      clear ht hc0 hc1 hc2 hab
      have PT := Lib.hid (fun w => iput_any p q r w)
      obtain ⟨L, hL⟩ : ∃ L, (insB p q r).length = L := ⟨_, rfl⟩
      rw [hL] at PT
      have HL := Lib.hid hL
      by_cases hg : goodI p q r = true
      · have hL5 : L ≤ 5 := by rw [← hL]; exact insB_len _ _ _
        have hL0 : 0 < L := by rw [← hL]; exact insB_pos hg
        have HG := Lib.hid hg
        obtain ⟨nb, hnb⟩ : ∃ nb, (rowB ks).length = nb := ⟨_, rfl⟩
        have HN := Lib.hid hnb
        have hnb5 : nb ≤ 500 := by have := rowB_len ks; have := HS.out.1; omega
        have hks : ks.length ≤ k := HS.out.1
        clear hL hg hnb
        go_wp2_with (first
          | (go_at_call 8
             refine (PT.out _).mono ?_
             rintro e w1 ⟨u1, rfl, hown1, hb1⟩
             obtain ⟨A1, c1, rfl, -, -, -, hY1⟩ := own_slice hown1
             have HY1 := Lib.hid (hY1.wide (T := (· < w1.heap.size)) fun b hb => hb.2)
             have HB1 : Hid (Below w.heap.size w w1) := HS.out.2.2.2.2.2.trans (hb1.mono HS.out.2.2.2.2.2.size)
             have HO1 := Lib.hid (own_below HS.out.2.2.1 hb1 (Nat.le_refl _))
             have HI1 := Lib.hid (ins_below HS.out.2.2.2.1 hb1 (Nat.le_refl _))
             clear hown1 hb1 hY1)
          | (at_builtin
             refine walk_append _ rfl (.tmp 31) (.tmp 32) rfl w.heap.size u3 nb (rowB ks) rfl (by have := HO1.out; rwa [HN.out] at this) A1 L c1 (insB p q r) rfl HL.out _ HY1.out (by omega) HB1.out.size ?_
             intro v2 w2 hown2 hg2 hv2
             have HO2 := Lib.hid hown2
             have HB2 : Hid (Below w.heap.size w w2) := HB1.out.grown hg2 HB1.out.size (fun i hi => (HO1.out.lt i hi).1)
             have HI2 := Lib.hid (HI1.out.kept hg2 HS.out.2.2.2.2.1.symm.ne)
             have HA2 : Hid (Apart v2 u4) := HS.out.2.2.2.2.1.grown hv2 (fun i hi => (HI1.out.lt i hi).2)
             obtain ⟨e0, e1, e2⟩ := HC.out w2 HB2.out
             clear hown2 hg2 hv2)
          | (at_builtin
             refine walk_append_ins _ rfl (.tmp 34) (.tmp 39) rfl w.heap.size u4 ks.length ks rfl (HI2.out.alloc _) ⟨w2.heap.size, 0, none⟩ 1 (p, q, r) rfl (ins_new w2 p q r).1 (ins_new w2 p q r).2.1 (ins_new w2 p q r).2.2 (by omega) (by simp; have := HB2.out.size; omega) ?_
             intro v4 w4 hown4 hg4 hv4
             have HI4 := Lib.hid hown4
             have HB4 : Hid (Below w.heap.size w w4) := (HB2.out.alloc HB2.out.size _).grown hg4 (by simp; have := HB2.out.size; omega) (fun i hi => (HI2.out.lt i hi).1)
             have HO4 := Lib.hid ((HO2.out.alloc _).kept hg4 HA2.out.ne)
             have HA4 : Hid (Apart v2 v4) := (HA2.out.symm.grown hv4 (fun i hi => by have := (HO2.out.lt i hi).2; simp; omega)).symm
             clear hown4 hg4 hv4))
        refine ⟨⟨k + 1, ks ++ [(p, q, r)], by omega, by simp, ?_⟩, by simp [intOf]; omega⟩
        refine ⟨by simp; omega, ?_, ?_, ?_, HA4.out, HB4.out⟩
        · intro t ht
          rcases List.mem_append.1 ht with h | h
          · exact HS.out.2.1 t h
          · simp at h
            subst h
            exact HG.out
        · have e : rowB (ks ++ [(p, q, r)]) = rowB ks ++ insB p q r := by rw [rowB_app]; simp [rowB, insT]
          rw [e, List.length_append, HN.out, HL.out]
          exact HO4.out
        · simpa using HI4.out
      · have h0 : L = 0 := by rw [← hL, insB_none hg]; rfl
        subst h0
        clear hL hg
        go_wp2_with (first
          | (go_at_call 8
             refine (PT.out _).mono ?_
             rintro e w1 ⟨u1, rfl, hown1, hb1⟩
             obtain ⟨A1, c1, rfl, -, -, -, -⟩ := own_slice hown1
             have HB1 : Hid (Below w.heap.size w w1) := HS.out.2.2.2.2.2.trans (hb1.mono HS.out.2.2.2.2.2.size)
             have HO1 := Lib.hid (own_below HS.out.2.2.1 hb1 (Nat.le_refl _))
             have HI1 := Lib.hid (ins_below HS.out.2.2.2.1 hb1 (Nat.le_refl _))
             clear hown1 hb1))
        refine ⟨⟨k + 1, ks, by omega, by simp, ?_⟩, by simp [intOf]; omega⟩
        exact ⟨by have := HS.out.1; omega, HS.out.2.1, HO1.out, HI1.out, HS.out.2.2.2.2.1, HB1.out⟩
    · obtain rfl : k = n := by omega
      obtain ⟨A3, c3, rfl, -, -, -, hY3⟩ := own_slice HS.out.2.2.1
      obtain ⟨A4, c4, rfl, -, hc4, hc4m, hI4⟩ := own_ins HS.out.2.2.2.1
      obtain ⟨nb, hnb⟩ : ∃ nb, (rowB ks).length = nb := ⟨_, rfl⟩
      obtain ⟨m, hm⟩ : ∃ m, ks.length = m := ⟨_, rfl⟩
      have HN := Lib.hid hnb
      have HM := Lib.hid hm
      have hmk : m ≤ k := by rw [← hm]; exact HS.out.1
      have hnb5 : nb ≤ 500 := by have := rowB_len ks; omega
      have HY3 := Lib.hid (hY3.wide (T := (· < wr.heap.size)) fun b hb => hb.2)
      have HI4 := Lib.hid (hI4.wide (T := (· < wr.heap.size)) fun b hb => hb.2)
      have HK := Lib.hid HS.out.2.1
      have HBr := Lib.hid HS.out.2.2.2.2.2
      rw [hnb, hm]
      rw [hm] at hc4
      unfold maxLen at hc4m
      clear HS hY3 hI4 hnb hm
      obtain ⟨N, hN⟩ : ∃ N, wr.heap.size = N := ⟨_, rfl⟩
      have HNw := Lib.hid hN
      clear hN
      go_wp2_with (first
        | (go_at_call 13
           refine (newReader_any A3 nb c3 (rowB ks) wr HN.out HY3.out (by omega)).mono ?_
           rintro e w6 ⟨g, rfl, hG6, hg6, hb6⟩
           have HG6 := Lib.hid hG6
           have HB6 : Hid (Below w.heap.size w w6) := HBr.out.trans (hb6.mono HBr.out.size)
           have HI6 : Hid (Iss (· < N) w6 A4 ks) := (by have := HI4.out.below hb6 (Nat.le_refl _); rwa [HNw.out] at this)
           have hgN : N ≤ g := (by have := HNw.out; omega)
           have HN6 : Hid (N ≤ w6.heap.size) := (by have := hb6.size; have := HNw.out; show N ≤ w6.heap.size; omega)
           have HNb : Hid (w.heap.size ≤ N) := (by have := HBr.out.size; have := HNw.out; show w.heap.size ≤ N; omega)
           clear hG6 hb6 hg6))
      go_loopw [8] (fun i V => ∃ j : Nat, j ≤ m ∧ i = .int .i64 (j : Nat) ∧ Good V g (rowB (ks.drop j)) ∧ Below N w6 V) (fun i _ => m - (intOf i).toNat)
      case atStart => exact ⟨0, Nat.zero_le _, rfl, by simpa using HG6.out, Below.refl _ _⟩
      case round =>
        obtain ⟨j, hj, rfl, hgd, hbl⟩ := hrel
        have HG := Lib.hid hgd
        have HL := Lib.hid hbl
        clear hgd hbl HG6
        by_cases hjm : j < m
        · obtain ⟨o, x, y, ht, hgo⟩ := good_at ks HK.out j (by rw [HM.out]; exact hjm)
          obtain ⟨a, rfl, hab, hc0, hc1, hc2⟩ := HI6.out.at (k := j) (by rw [HM.out]; exact hjm)
          have HR : Hid (rowB (ks.drop j) = insB o x y ++ rowB (ks.drop (j + 1))) := by
            show rowB (ks.drop j) = insB o x y ++ rowB (ks.drop (j + 1))
            rw [rowB_drop ks j (by rw [HM.out]; exact hjm), ht]
            rfl
          rw [ht] at hc0 hc1 hc2
          have HC : Hid (∀ V, Below N w6 V → V.cell? (a.add (j * 3)) = some (.int .i64 (o : Nat)) ∧ V.cell? ⟨(a.add (j * 3)).block, (a.add (j * 3)).off + 1, none⟩ = some (.int .i64 (x : Nat)) ∧ V.cell? ⟨(a.add (j * 3)).block, (a.add (j * 3)).off + 2, none⟩ = some (.int .i64 (y : Nat))) := fun V hV => by
            rw [← next_cell a (j * 3) 1 (by omega), ← next_cell a (j * 3) 2 (by omega)]
            exact ⟨(World.cell?_of_block (hV.block _ (by rw [addBlock]; exact hab))).trans hc0, (World.cell?_of_block (hV.block _ (by rw [addBlock]; exact hab))).trans hc1, (World.cell?_of_block (hV.block _ (by rw [addBlock]; exact hab))).trans hc2⟩
          have Hgo := Lib.hid hgo
          have HLn : Hid ((rowB (ks.drop (j + 1))).length ≤ 1000000) := by
            show (rowB (ks.drop (j + 1))).length ≤ 1000000
            have := rowB_len (ks.drop (j + 1))
            have := HM.out
            simp at *
            omega
          clear ht hc0 hc1 hc2 hab hgo
          go_wp2_with (first
            | (go_at_call 14
               refine (iget_yes g o x y (rowB (ks.drop (j + 1))) wr Hgo.out (by rw [← HR.out]; exact HG.out) (rowB_bytes _) HLn.out).mono ?_
               rintro e w7 ⟨rfl, hG7, ho7⟩
               have HG7 := Lib.hid hG7
               have HB7 : Hid (Below N w6 w7) := HL.out.trans (below_only ho7 hgN (Nat.le_trans HN6.out HL.out.size))
               clear hG7 ho7
               unfold insV))
          refine wp_world fun V hV => ?_
          have HBV : Hid (Below N w6 V) := by
            show Below N w6 V
            rw [hV]
            exact HB7.out.alloc (Nat.le_trans HN6.out HB7.out.size) _
          have HGV : Hid (Good V g (rowB (ks.drop (j + 1)))) := by
            show Good V g (rowB (ks.drop (j + 1)))
            rw [hV]
            exact HG7.out.alloc _
          have x0 : V.cell? ⟨w7.heap.size, 0, none⟩ = some (.int .i64 (o : Nat)) := by rw [hV]; simp [go_sem]
          have x1 : V.cell? ⟨w7.heap.size, 1, none⟩ = some (.int .i64 (x : Nat)) := by rw [hV]; simp [go_sem]
          have x2 : V.cell? ⟨w7.heap.size, 2, none⟩ = some (.int .i64 (y : Nat)) := by rw [hV]; simp [go_sem]
          clear hV
          obtain ⟨d0, d1, d2⟩ := HC.out V HBV.out
          go_quiet (fail)
          go_wp2_with fail
          refine ⟨⟨j + 1, by omega, by simp, HGV.out.keep fun b hb => rfl, ?_⟩, by simp [intOf]; omega⟩
          exact ⟨HBV.out.os, HBV.out.tape, HBV.out.output, HBV.out.size, HBV.out.block⟩
        · obtain rfl : j = m := by omega
          have HZ : Hid (Good wr g []) := by
            show Good wr g []
            have := HG.out
            rw [List.drop_of_length_le (by rw [HM.out]; exact Nat.le_refl _)] at this
            exact this
          go_wp2_with (first
            | (go_at_call 14
               refine (iget_no g [] wr HZ.out (by simp) (by simp) hasI_nil).mono ?_
               rintro e w7 ⟨rfl, ho7⟩
               have HB7 : Hid (Below N w6 w7) := HL.out.trans (below_only ho7 hgN (Nat.le_trans HN6.out HL.out.size))
               clear ho7
               unfold insV)
            | (go_at_call 7
               refine (answers5 _).mono ?_
               rintro e w8 ⟨rfl, hb8⟩
               have HB8 : Hid (Below N w6 w8) := (HB7.out.alloc (Nat.le_trans HN6.out HB7.out.size) _).trans (hb8.mono (by simp; have := HB7.out.size; have := HN6.out; omega))
               clear hb8))
          go_ret
          exact ⟨rfl, HB6.out.trans (HB8.out.mono HNb.out)⟩

theorem walk (A : Option Addr) (n c : Nat) (ts : List Ins) (w : World) (hx : ts.length = n) (hB : Iss (· < w.heap.size) w A ts) (hcm : c ≤ maxLen) :
    Calls Try.prog 6 #[.slice A n c] w fun e w' => e = .returned (.bool true) ∧ Below w.heap.size w w' := by
  by_cases hn : n ≤ 100
  · exact walk_few A n c ts w hx hB hcm hn
  · unfold maxLen at hcm
    have hlen := hx
    clear hx
    go_enter Try.func6, Try.ntmps6
    go_wp2_with fail
    refine (answers5 w).mono ?_
    rintro e w3 ⟨rfl, hb3⟩
    go_wp2_with fail
    go_ret
    exact ⟨rfl, hb3⟩

set_option maxRecDepth 100000 in
theorem lifted (os : Os) (started : os.Started) (H : Type) (enc : TypeId × Value → H) :
    ReturnsInHanded {} Try.checked os 6 .any (Rows.instRowSpec.pre6 enc Try.prog Try.f6 Rows.instRowRow.domain false) (Rows.instRowSpec.post enc Try.prog Try.f6 false true false false) := by
  refine returnsInHanded_of_change (C := Try.checked) own started (by kernel_rfl) Try.func6
    (ChangeSpec.witness6 (enc := enc) (C := Try.checked) false ⟨#[], #[.slice none 0 0], []⟩ 8 (by kernel_rfl) (by kernel_rfl) (by kernel_rfl) (by kernel_rfl)) ?_
  intro W base args ds gs before hval0 hW hcnd _
  have hval : ∀ (j : Nat) t v, Try.f6.params[j]? = some t → args[j]? = some v → Value.okWide Try.prog W .any base t v := hval0
  have hW' := hW
  obtain ⟨p, q, hA0, hV, rfl, hfz, hnd⟩ := hW
  have hA : DataW.TrodAll enc Try.prog W 0 (fun _ => true) true Try.f6.params.toList args.toList ds p := hA0
  rw [Try.params6] at hA hval
  obtain ⟨v0, vs0, d0, ds0, p0, q0, hargs, rfl, rfl, h0, r0⟩ := trodAll_cons hA
  obtain ⟨rfl, rfl, rfl⟩ := trodAll_nil r0
  obtain rfl : args = #[v0] := by cases args; simp_all
  obtain ⟨rfl, rfl⟩ := trodVars_none hV
  obtain ⟨a0, len0, cap0, rfl⟩ := okWide_slice Try.underlying37 (hval 0 37 v0 rfl rfl)
  have lt0 : ∀ x ∈ p0, x.block < W.heap.size := by obtain ⟨m, hm⟩ := h0; exact DataW.trod_lt m _ _ _ hm
  obtain ⟨ts0, hx0, hB0, hlc0, hcm0⟩ := open_iss h0
  clear hA0 hval0
  refine (walk a0 len0 cap0 ts0 W hx0 hB0 hcm0).mono fun e W' ⟨he, bel⟩ => ?_
  subst he
  exact ⟨_, rfl, _, _, _, [], _, [], hW', trodAll_mk1 (shut_bool Try.underlying4 _), (trodAll_cons_mk (Below.trod laidOut (by kernel_rfl) (of_decide_eq_true (by kernel_rfl)) h0 bel lt0) trodAll_mk0), rfl, bel.frame _, fun h => by cases h⟩

theorem over : Rows.instRowRow.holds Try.pinned (OpenSpec.ofChange Rows.instRowSpec) :=
  OpenClaim.holds_of_wide 6 Try.f6 rfl rfl rfl rfl rfl rfl rfl ⟨rfl, rfl, rfl, rfl, rfl⟩ rfl rfl rfl rfl rfl (by kernel_rfl) Try.func6 (by kernel_rfl)
    (of_decide_eq_true (by kernel_rfl)) (by unfold Func.isWrapper; first | (rw [if_pos (by decide +kernel)]; kernel_rfl) | (rw [if_neg (by decide +kernel)]; exact ⟨rfl, rfl⟩))
    (fun os started H enc _ => lifted os started H enc)

/-- The statement. -/
theorem proved : Rows.InstRowSaid := over
end Go.Proofs.Ytolofgifcjkaaaa.instRow
