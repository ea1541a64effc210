/-
  The law HansOwn holds: what was handed in to a table, and what it tells, is memory of its own; the law's function returns true and turns nothing that was there.
  Conditions: none.
-/
import Derived.Test.YthahfhmkgkfoaaaOn0
import Derived.Test.YthahfhmkgkfoaaaHa3
import Derived.Test.YthahfhmkgkfoaaaOhn
import Derived.BigQuiet
namespace Go.Proofs.Ythahfhmkgkfoaaa.hansOwn
open Go.ChangeShapes Go.WideShapes Go.ChangeAt Go.RowKit
set_option linter.unusedVariables false
set_option linter.unusedSimpArgs false

/-- Of the first k handles each is closed. -/
def shutN (H : List Hnd) (k : Nat) : List Hnd := (H.take k).map (fun h => { h with opn := false }) ++ H.drop k
theorem shutN_len (H : List Hnd) (k : Nat) : (shutN H k).length = H.length := by
  simp [shutN]
  omega
theorem shutN_zero (H : List Hnd) : shutN H 0 = H := by simp [shutN]
theorem shutN_at {H : List Hnd} {k : Nat} {x : Hnd} (hx : H[k]? = some x) : (shutN H k)[k]? = some x := by
  have hk := (List.getElem?_eq_some_iff.1 hx).1
  have hl : ((H.take k).map (fun h : Hnd => { h with opn := false })).length = k := by simp; omega
  unfold shutN
  rw [List.getElem?_append_right (by omega), hl, Nat.sub_self, List.getElem?_drop, Nat.add_zero]
  exact hx
theorem shutN_succ {H : List Hnd} {k : Nat} {x : Hnd} (hx : H[k]? = some x) : (shutN H k).set k { x with opn := false } = shutN H (k + 1) := by
  obtain ⟨hk, rfl⟩ := List.getElem?_eq_some_iff.1 hx
  have hl : ((H.take k).map (fun h : Hnd => { h with opn := false })).length = k := by simp; omega
  unfold shutN
  rw [List.set_append_right _ _ (by omega), hl, Nat.sub_self, List.drop_eq_getElem_cons hk, List.set_cons_zero, List.take_succ_eq_append_getElem hk, List.map_append, List.append_assoc]
  rfl
theorem shutN_shut {H : List Hnd} {k : Nat} {x : Hnd} (hx : H[k]? = some x) (h : opnB (shutN H k) k = false) : shutN H k = shutN H (k + 1) := by
  have h1 := shutN_at hx
  unfold opnB at h
  rw [h1] at h
  have h : x.opn = false := h
  rw [← shutN_succ hx, show ({ x with opn := false } : Hnd) = x from by cases x; simp_all]
  exact (List.ext_getElem? fun i => by
    rw [List.getElem?_set]
    split
    · subst_vars
      rw [h1, if_pos (by rw [shutN_len]; exact (List.getElem?_eq_some_iff.1 hx).1)]
    · rfl).symm
theorem shutN_close {H : List Hnd} {k : Nat} {x : Hnd} (hx : H[k]? = some x) : closeH (shutN H k) k = shutN H (k + 1) := by rw [closeH_at (shutN_at hx), shutN_succ hx]
/-- What was told, with the first k opened. -/
def opnN (H : List Hnd) (k : Nat) : List Hnd := (H.take k).map (fun h => { h with opn := true }) ++ (H.drop k).map (fun h => { h with opn := false })
theorem opnN_len (H : List Hnd) (k : Nat) : (opnN H k).length = H.length := by
  simp [opnN]
  omega
theorem opnN_zero (H : List Hnd) : opnN H 0 = shutN H H.length := by simp [opnN, shutN]
theorem opnN_at {H : List Hnd} {k : Nat} {x : Hnd} (hx : H[k]? = some x) : (opnN H k)[k]? = some { x with opn := false } := by
  have hk := (List.getElem?_eq_some_iff.1 hx).1
  have hl : ((H.take k).map (fun h : Hnd => { h with opn := true })).length = k := by simp; omega
  unfold opnN
  rw [List.getElem?_append_right (by omega), hl, Nat.sub_self, List.getElem?_map, List.getElem?_drop, Nat.add_zero, hx]
  rfl
theorem opnN_succ {H : List Hnd} {k : Nat} {x : Hnd} (hx : H[k]? = some x) : (opnN H k).set k { x with opn := true } = opnN H (k + 1) := by
  obtain ⟨hk, rfl⟩ := List.getElem?_eq_some_iff.1 hx
  have hl : ((H.take k).map (fun h : Hnd => { h with opn := true })).length = k := by simp; omega
  unfold opnN
  rw [List.set_append_right _ _ (by omega), hl, Nat.sub_self, List.drop_eq_getElem_cons hk, List.map_cons, List.set_cons_zero, List.take_succ_eq_append_getElem hk, List.map_append, List.append_assoc]
  rfl
/-- The list with the first k Descs one more. -/
def incN (H : List Hnd) (k : Nat) : List Hnd := (H.take k).map (fun h => { h with desc := (h.desc + 1) % B64 }) ++ H.drop k
theorem incN_len (H : List Hnd) (k : Nat) : (incN H k).length = H.length := by
  simp [incN]
  omega
theorem incN_zero (H : List Hnd) : incN H 0 = H := by simp [incN]
theorem incN_at {H : List Hnd} {k : Nat} {x : Hnd} (hx : H[k]? = some x) : (incN H k)[k]? = some x := by
  have hk := (List.getElem?_eq_some_iff.1 hx).1
  have hl : ((H.take k).map (fun h : Hnd => { h with desc := (h.desc + 1) % B64 })).length = k := by simp; omega
  unfold incN
  rw [List.getElem?_append_right (by omega), hl, Nat.sub_self, List.getElem?_drop, Nat.add_zero]
  exact hx
theorem incN_succ {H : List Hnd} {k : Nat} {x : Hnd} (hx : H[k]? = some x) : (incN H k).set k { x with desc := (x.desc + 1) % B64 } = incN H (k + 1) := by
  obtain ⟨hk, rfl⟩ := List.getElem?_eq_some_iff.1 hx
  have hl : ((H.take k).map (fun h : Hnd => { h with desc := (h.desc + 1) % B64 })).length = k := by simp; omega
  unfold incN
  rw [List.set_append_right _ _ (by omega), hl, Nat.sub_self, List.drop_eq_getElem_cons hk, List.set_cons_zero, List.take_succ_eq_append_getElem hk, List.map_append, List.append_assoc]
  rfl
theorem shutN_closed (H : List Hnd) (n : Nat) : opnB (shutN H H.length) n = false := by
  unfold opnB
  cases hx : (shutN H H.length)[n]? with
  | none => rfl
  | some x =>
    have := List.mem_of_getElem? hx
    simp [shutN] at this
    obtain ⟨y, -, rfl⟩ := this
    rfl
theorem wrap_inc (n : Nat) : IntKind.u64.wrap ((n : Int) + 1) = (((n + 1) % B64 : Nat) : Int) := by
  rw [IntKind.wrap_u64]
  unfold B64
  omega
set_option maxRecDepth 100000 in
set_option maxHeartbeats 4000000 in
theorem walk (A : Option Addr) (n c : Nat) (H : List Hnd) (w : World) (hl : H.length = n) (hM : (slL hdL).R (· < w.heap.size) w [.slice A n c] H) :
    Calls Try.prog 6 #[.slice A n c] w fun e w' => e = .returned (.bool true) ∧ Below w.heap.size w w' := by
  have AN := Lib.hid (fun w => answers13 w)
  have HL := Lib.hid hl
  obtain ⟨A', c', e, hnc, hcm, hsq⟩ := hM
  simp only [List.cons.injEq, Value.slice.injEq, and_true] at e
  obtain ⟨rfl, -, rfl⟩ := e
  have HS := Lib.hid hsq
  have HK := Lib.hid (sq_ok hsq)
  rw [hl] at hnc
  simp only [maxLen] at hcm
  clear hl hsq
  by_cases hbig : 16 < n
  · have h16 : (16 : Int) < (n : Int) := by omega
    go_enter Try.func6, Try.ntmps6
    go_wp2_with (first
      | (go_at_call 7
         refine (AN.out w).mono ?_
         rintro e w1 ⟨rfl, hb1⟩
         have HB1 := Lib.hid hb1
         clear hb1))
    go_ret
    exact ⟨rfl, HB1.out⟩
  have h16 : (n : Int) ≤ 16 := by omega
  have hn16 : n ≤ 16 := by omega
  go_enter Try.func6, Try.ntmps6
  go_upto_region 5 with (first
    | (at_builtin
       refine walk_append_opt hdL _ rfl (.tmp 14) (.tmp 15) 22 31 rfl (.agg #[.int .i64 0, .int .u64 0, .bool false]) 24 Try.underlying22 hd_info rfl (by decide) (by omega) w.heap.size (.slice (some ⟨w.heap.size, 0, none⟩) 0 0) rfl (ownr_empty w _ _) A n c H rfl HL.out (· < w.heap.size) (HS.out.keep fun b hb => Below.heap_alloc w _ b hb) (by omega) (by simp) ?_
       intro v1 w1 css hcl hown1 hR1 hg1
       rw [hds_flat (hcl.trans HL.out.symm) hR1] at hown1
       have hO1 : w1.ownsRow w.heap.size 31 3 v1 H.length (Hcs H) := by rw [HL.out]; exact hown1
       obtain ⟨A1, c1, rfl, q1, q2, sq1⟩ := hds_sl hO1 HK.out
       rw [HL.out] at q1 ⊢
       have HO1 := Lib.hid hO1
       have HQ1 := Lib.hid sq1
       have HB1 : Hid (Below w.heap.size w w1) := (((Below.refl w.heap.size w).alloc (Nat.le_refl _) (.cells #[] 31)).grown hg1 (by simp) (fun i hi => by simp [Value.ownBlock] at hi; omega))
       have hs1 := HB1.out.size
       clear hcl hown1 hR1 hg1 hO1 sq1)
    | (go_at_call 8
       refine (tnew_any A1 n c1 H w1 HL.out (HQ1.out.wide fun b hb => hb.2.2) (by omega)).mono ?_
       rintro e w2 ⟨g, rfl, hg, hp, hb⟩
       have HP2 : Hid (IsTb (fun b => w1.heap.size ≤ b ∧ b < w2.heap.size) w2 g H) := hp
       have HB2 : Hid (Below w.heap.size w w2) := HB1.out.trans (hb.mono hs1)
       have HO2 : Hid (w2.ownsRow w.heap.size 31 3 (.slice A1 H.length c1) H.length (Hcs H)) := raw_below HO1.out hb (Nat.le_refl _)
       have hs2 := hb.size
       clear hp hb))
  clear HQ1
  have HO1b : Hid (∀ b, (Value.slice A1 H.length c1).ownBlock = some b → w.heap.size ≤ b ∧ b < w1.heap.size) := HO1.out.lt
  go_wp2_with fail
  go_loopw [5] (fun vi wr => ∃ k : Nat, k ≤ n ∧ vi = .int .i64 (k : Nat) ∧ Below w.heap.size w wr ∧ w2.heap.size ≤ wr.heap.size ∧ IsTb (fun b => w1.heap.size ≤ b ∧ b < w2.heap.size) wr g (shutN H k) ∧ wr.ownsRow w.heap.size 31 3 (.slice A1 H.length c1) H.length (Hcs (incN H k))) (fun vi _ => n - (intOf vi).toNat)
  case atStart => exact ⟨0, Nat.zero_le _, rfl, HB2.out, Nat.le_refl _, by rw [shutN_zero]; exact HP2.out, by rw [incN_zero]; exact HO2.out⟩
  case round =>
    obtain ⟨k, hk, rfl, hbel, hsz, hp, hO⟩ := hrel
    have HBr := Lib.hid hbel
    have HPr := Lib.hid hp
    have HOr := Lib.hid hO
    have hsr := hbel.size
    clear hbel hp hO
    by_cases hlt : k < n
    · as_aux_lemma =>
      obtain ⟨x, hx⟩ : ∃ x, H[k]? = some x := ⟨H[k]'(by rw [HL.out]; exact hlt), List.getElem?_eq_getElem _⟩
      have HX := Lib.hid hx
      have hol := HOr.out
      rw [← incN_len H k] at hol
      obtain ⟨gi, e1, hgi, -, -, -, k1, -, kf⟩ := hds_at hol (incN_at hx)
      subst e1
      have kf1 := kf (k * 3 + 1)
      clear kf hol hx
      have h0 : 0 ≤ (k : Int) := by omega
      have h1 : (k : Int) < (n : Int) := by omega
      have hgb := HO1b.out gi rfl
      go_upto_region 9 with (fail)
      refine wp_world fun W hW => ?_
      have HBW : Hid (Below w.heap.size w W) := by show Below _ _ _; rw [hW]; exact HBr.out.setCell (by show w.heap.size ≤ gi; omega) _
      have hsW : W.heap.size = wr.heap.size := by rw [hW]; simp [World.setCell]
      have HPW : Hid (IsTb (fun b => w1.heap.size ≤ b ∧ b < w2.heap.size) W g (shutN H k)) := HPr.out.keep fun b _ hb2 => by rw [hW]; exact Below.heap_setCell _ _ _ _ (fun (e : b = gi) => by omega)
      have HOW : Hid (W.ownsRow w.heap.size 31 3 (.slice (some ⟨gi, 0, none⟩) H.length c1) H.length (Hcs (incN H (k + 1)))) := by
        have := (HOr.out.stored (k * 3 + 1) (.int .u64 (IntKind.u64.wrap ((x.desc : Int) + 1)))).1
        rw [Hcs_set (incN_at HX.out) (by omega) _ (h' := { x with desc := (x.desc + 1) % B64 }) (by rw [wrap_inc]; rfl), incN_succ HX.out] at this
        rw [hW]
        exact this
      clear hW k1 kf1
      cases ho : opnB (shutN H k) k with
      | true =>
        have HYes := Lib.hid (close_yes g k W HPW.out (by rw [shutN_len, HL.out]; omega) (by unfold B64; omega) ho)
        clear ho
        go_wp2_with (first
          | (go_at_call 11
             refine HYes.out.mono ?_
             rintro e w3 ⟨rfl, hp3, ht3, hs3⟩
             rw [shutN_close HX.out] at hp3
             have HP3 := Lib.hid hp3
             have HT3 := Lib.hid ht3
             clear hp3 ht3))
        refine ⟨⟨k + 1, by omega, by simp, HBW.out.trans (HT3.out.below (by omega) fun b hb => by omega), by omega, HP3.out, ?_⟩, by simp [intOf]; omega⟩
        rw [HL.out] at HOW
        have hx := HOW.out
        rw [HL.out]
        exact ownr_keep hx fun b e => HT3.out.block b (hx.lt b e).2 fun q => by simp [Value.ownBlock] at e; omega
      | false =>
        have HNo := Lib.hid (close_no g k W HPW.out (by rw [shutN_len, HL.out]; omega) (by unfold B64; omega) ho)
        have HPW2 : Hid (IsTb (fun b => w1.heap.size ≤ b ∧ b < w2.heap.size) W g (shutN H (k + 1))) := by show IsTb _ _ _ _; rw [← shutN_shut HX.out ho]; exact HPW.out
        clear ho
        go_wp2_with (first
          | (go_at_call 11
             refine HNo.out.mono ?_
             rintro e w3 ⟨rfl, rfl⟩))
        refine ⟨⟨k + 1, by omega, by simp, HBW.out, by omega, HPW2.out, ?_⟩, by simp [intOf]; omega⟩
        have hx := HOW.out
        rw [HL.out] at hx ⊢
        exact hx
    · obtain rfl : k = n := by omega
      have HPn : Hid (IsTb (fun b => w1.heap.size ≤ b ∧ b < w2.heap.size) wr g (shutN H H.length)) := by rw [← HL.out] at HPr; exact HPr
      clear HPr HOr
      have hkk : ¬ ((k : Int) < (k : Int)) := by omega
      go_wp2_with (first
        | (go_at_call 13
           refine (tlist_any g wr HPn.out (by rw [shutN_len, HL.out]; omega)).mono ?_
           rintro e w3 ⟨v3, rfl, ho3, hb3⟩
           rw [← opnN_zero, opnN_len] at ho3
           obtain ⟨A3, c3, rfl, -, -, -⟩ : ∃ A c, v3 = .slice A H.length c ∧ True ∧ True ∧ True := by
             have := hds_sl (H := opnN H 0) (by rw [opnN_len]; exact ho3) (fun x hx => by
               rw [opnN_zero] at hx
               exact HPn.out.ok x hx)
             rw [opnN_len] at this
             obtain ⟨A, c, e, -⟩ := this
             exact ⟨A, c, e, trivial, trivial, trivial⟩
           have HO3 := Lib.hid ho3
           have HB3 : Hid (Below w.heap.size w w3) := HBr.out.trans (hb3.mono hsr)
           have HP3 : Hid (IsTb (fun b => w1.heap.size ≤ b ∧ b < w2.heap.size) w3 g (shutN H H.length)) := HPn.out.keep fun b hb _ => hb3.block b hb
           have hs3 := hb3.size
           clear ho3 hb3))
      obtain ⟨wf, eW⟩ : ∃ wf, wf = wr := ⟨_, rfl⟩
      subst eW
      have HO3b : Hid (∀ b, (Value.slice A3 H.length c3).ownBlock = some b → wf.heap.size ≤ b ∧ b < w3.heap.size) := HO3.out.lt
      clear HO2 HO1 HP2 HBr HB2 HPn
      rw [HL.out]
      go_upto_region 12 with (fail)
      go_loopw [7] (fun vi ws => ∃ j : Nat, j ≤ k ∧ vi = .int .i64 (j : Nat) ∧ Below w.heap.size w ws ∧ w3.heap.size ≤ ws.heap.size ∧ IsTb (fun b => w1.heap.size ≤ b ∧ b < w2.heap.size) ws g (shutN H H.length) ∧ ws.ownsRow wf.heap.size 31 3 (.slice A3 H.length c3) H.length (Hcs (opnN H j))) (fun vi _ => k - (intOf vi).toNat)
      case atStart => exact ⟨0, Nat.zero_le _, rfl, HB3.out, Nat.le_refl _, HP3.out, HO3.out⟩
      case round =>
        obtain ⟨j, hj, rfl, hbel, hsz2, hp, hO⟩ := hrel
        have HBs := Lib.hid hbel
        have HPs := Lib.hid hp
        have HOs := Lib.hid hO
        have hss := hbel.size
        clear hbel hp hO HB3 HP3 HO3
        by_cases hlt2 : j < k
        · as_aux_lemma =>
          obtain ⟨x, hx⟩ : ∃ x, H[j]? = some x := ⟨H[j]'(by rw [HL.out]; exact hlt2), List.getElem?_eq_getElem _⟩
          have HX := Lib.hid hx
          have hol := HOs.out
          rw [← opnN_len H j] at hol
          obtain ⟨gi, e1, hgi, -, -, -, k1, k2, kf⟩ := hds_at hol (opnN_at hx)
          subst e1
          have kf2 := kf (j * 3 + 2)
          obtain ⟨a, cs, e2, hab, hc, rfl, -⟩ := HS.out.at hx
          subst e2
          have a1 := (HBs.out.cell (p := a.add (j * 3 + 1)) (by rw [addBlock]; exact hab)).trans (hc 1 _ rfl)
          rw [next_cell a (j * 3) 1 (by omega)] at a1
          clear kf hol hx hc
          have h0 : 0 ≤ (j : Int) := by omega
          have h1 : (j : Int) < (k : Int) := by omega
          have hgb := HO3b.out gi rfl
          have t1 : ((x.desc : Int) != (x.desc : Int)) = false := by simp
          go_wp2_with fail
          go_quiet (fail)
          go_wp2_with fail
          refine ⟨⟨j + 1, by omega, by simp, (below_drews' HBs.out _ hss).setCell (by show w.heap.size ≤ gi; omega) _, by simpa [World.setCell] using hsz2, HPs.out.keep fun b _ hb2 => Below.heap_setCell (wr.drewN _) _ _ _ (fun (e : b = gi) => by omega), ?_⟩, by simp [intOf]; omega⟩
          have st : ∀ q, ((wr.drewN q).setCell ⟨gi, j * 3 + 2, none⟩ (.bool true)).ownsRow wf.heap.size 31 3 (.slice (some ⟨gi, 0, none⟩) H.length c3) H.length (Hcs (opnN H (j + 1))) := fun q => by
            have := ((ownr_keep HOs.out (w' := wr.drewN q) fun b _ => rfl).stored (j * 3 + 2) (.bool true)).1
            rw [Hcs_set (opnN_at HX.out) (by omega) _ (h' := { x with opn := true }) rfl, opnN_succ HX.out] at this
            exact this
          rw [HL.out] at st ⊢
          exact st _
        · obtain rfl : j = k := by omega
          clear HOs
          have hc0 : opnB (shutN H H.length) 0 = false := shutN_closed H 0
          go_wp2_with (first
            | (go_at_call 10
               refine (use_any g 0 wr HPs.out (by rw [shutN_len, HL.out]; omega) (by decide)).mono ?_
               rintro e w5 ⟨he, rfl⟩
               rw [useA_no hc0] at he
               subst he)
            | (go_at_call 7
               refine (AN.out wr).mono ?_
               rintro e w6 ⟨rfl, hb6⟩
               have HB6 : Hid (Below w.heap.size w w6) := HBs.out.trans (hb6.mono hss)
               clear hb6))
          go_ret
          exact ⟨by simp, HB6.out⟩

set_option maxRecDepth 100000 in
theorem lifted (os : Os) (started : os.Started) (H : Type) (enc : TypeId × Value → H) :
    ReturnsInHanded {} Try.checked os 6 .any (Rows.hansOwnSpec.pre6 enc Try.prog Try.f6 Rows.hansOwnRow.domain false) (Rows.hansOwnSpec.post enc Try.prog Try.f6 false true false false) := by
  refine returnsInHanded_of_change (C := Try.checked) own started (by kernel_rfl) Try.func6
    (ChangeSpec.witness6 (enc := enc) (C := Try.checked) false ⟨#[], #[.slice none 0 0], []⟩ 8 (by kernel_rfl) (by kernel_rfl) (by kernel_rfl) (by kernel_rfl)) ?_
  intro W base args ds gs before hval0 hW hcnd _
  have hval : ∀ (j : Nat) t v, Try.f6.params[j]? = some t → args[j]? = some v → Value.okWide Try.prog W .any base t v := hval0
  have hW' := hW
  obtain ⟨p, q, hA0, hV, rfl, hfz, hnd⟩ := hW
  have hA : DataW.TrodAll enc Try.prog W 0 (fun _ => true) true Try.f6.params.toList args.toList ds p := hA0
  rw [Try.params6] at hA hval
  obtain ⟨v0, vs0, d0, ds0, p0, q0, hargs, rfl, rfl, h0, r0⟩ := trodAll_cons hA
  obtain ⟨rfl, rfl, rfl⟩ := trodAll_nil r0
  obtain rfl : args = #[v0] := by cases args; simp_all
  obtain ⟨rfl, rfl⟩ := trodVars_none hV
  obtain ⟨a0, len0, cap0, rfl⟩ := okWide_slice Try.underlying22 (hval 0 22 v0 rfl rfl)
  have lt0 : ∀ x ∈ p0, x.block < W.heap.size := by obtain ⟨m, hm⟩ := h0; exact DataW.trod_lt m _ _ _ hm
  obtain ⟨L0, hx0, hM0⟩ := open_hnds h0
  clear hA0 hval0
  refine (walk a0 len0 cap0 L0 W hx0 hM0).mono fun e W' ⟨he, bel⟩ => ?_
  subst he
  exact ⟨_, rfl, _, _, _, [], _, [], hW', trodAll_mk1 (shut_bool Try.underlying4 _), (trodAll_cons_mk (Below.trod laidOut (by kernel_rfl) (of_decide_eq_true (by kernel_rfl)) h0 bel lt0) trodAll_mk0), rfl, bel.frame _, fun h => by cases h⟩

theorem over : Rows.hansOwnRow.holds Try.pinned (OpenSpec.ofChange Rows.hansOwnSpec) :=
  OpenClaim.holds_of_wide 6 Try.f6 rfl rfl rfl rfl rfl rfl rfl ⟨rfl, rfl, rfl, rfl, rfl⟩ rfl rfl rfl rfl rfl (by kernel_rfl) Try.func6 (by kernel_rfl)
    (of_decide_eq_true (by kernel_rfl)) (by unfold Func.isWrapper; first | (rw [if_pos (by decide +kernel)]; kernel_rfl) | (rw [if_neg (by decide +kernel)]; exact ⟨rfl, rfl⟩))
    (fun os started H enc _ => lifted os started H enc)

/-- The statement. -/
theorem proved : Rows.HansOwnSaid := over
end Go.Proofs.Ythahfhmkgkfoaaa.hansOwn
