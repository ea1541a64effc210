/-
  The law HansPlays holds: whatever is opened in a table, used and closed, all answers and all handles are those of the law's own list; the law's function returns true and turns nothing that was there.
  Conditions: none.
-/
import Derived.Test.YthahfhmkgkfoaaaOn0
import Derived.Test.YthahfhmkgkfoaaaHa3
import Derived.Test.YthahfhmkgkfoaaaOha
import Derived.Test.YthahfhmkgkfoaaaRha
import Derived.BigQuiet
namespace Go.Proofs.Ythahfhmkgkfoaaa.hansPlays
open Go.ChangeShapes Go.WideShapes Go.ChangeAt Go.RowKit
set_option linter.unusedVariables false
set_option linter.unusedSimpArgs false

theorem opnB_at {H : List Hnd} {n : Nat} {x : Hnd} (h : H[n]? = some x) : opnB H n = x.opn := by
  unfold opnB
  rw [h]
theorem opnB_none {H : List Hnd} {n : Nat} (h : H[n]? = none) : opnB H n = false := by
  unfold opnB
  rw [h]
set_option maxRecDepth 100000 in
set_option maxHeartbeats 16000000 in
theorem walk (A : Option Addr) (n c : Nat) (H : List Hnd) (B : Option Addr) (m d : Nat) (T : List Hat) (w : World) (hl : H.length = n) (hM : (slL hdL).R (· < w.heap.size) w [.slice A n c] H) (hm : T.length = m) (hT : (slL hatL).R (· < w.heap.size) w [.slice B m d] T) :
    Calls Try.prog 3 #[.slice A n c, .slice B m d] w fun e w' => e = .returned (.bool true) ∧ Below w.heap.size w w' := by
  have AN := Lib.hid (fun w => answers13 w)
  have HL := Lib.hid hl
  have HM := Lib.hid hm
  obtain ⟨A', c', e, hnc, hcm, hsq⟩ := hM
  simp only [List.cons.injEq, Value.slice.injEq, and_true] at e
  obtain ⟨rfl, -, rfl⟩ := e
  obtain ⟨B', d', e, hmd, hdm, hsT⟩ := hT
  simp only [List.cons.injEq, Value.slice.injEq, and_true] at e
  obtain ⟨rfl, -, rfl⟩ := e
  rw [hl] at hnc
  rw [hm] at hmd
  have HS := Lib.hid hsq
  have HT := Lib.hid hsT
  simp only [maxLen] at hcm hdm
  clear hl hm hsq hsT
  by_cases hbig : 30 < n
  · have h30 : (30 : Int) < (n : Int) := by omega
    go_enter Try.func3, Try.ntmps3
    go_wp2_with (first
      | (go_at_call 7
         refine (AN.out w).mono ?_
         rintro e w1 ⟨rfl, hb1⟩
         have HB1 := Lib.hid hb1
         clear hb1))
    go_ret
    exact ⟨rfl, HB1.out⟩
  have h30 : (n : Int) ≤ 30 := by omega
  by_cases hbig2 : 60 < m
  · have h60 : (60 : Int) < (m : Int) := by omega
    go_enter Try.func3, Try.ntmps3
    go_wp2_with (first
      | (go_at_call 7
         refine (AN.out w).mono ?_
         rintro e w1 ⟨rfl, hb1⟩
         have HB1 := Lib.hid hb1
         clear hb1))
    go_ret
    exact ⟨rfl, HB1.out⟩
  have h60 : (m : Int) ≤ 60 := by omega
  have hn30 : n ≤ 30 := by omega
  have hm60 : m ≤ 60 := by omega
  clear hbig hbig2
  go_enter Try.func3, Try.ntmps3
  go_upto_region 5 with (first
    | (go_at_call 8
       refine (tnew_any A n c H w HL.out HS.out (by omega)).mono ?_
       rintro e w1 ⟨g, rfl, hg, hp, hb⟩
       have HP1 : Hid (IsTb (fun b => w.heap.size ≤ b ∧ b < w1.heap.size) w1 g H) := hp
       have HB1 : Hid (Below w.heap.size w w1) := hb
       have hs1 := hb.size
       clear hp hb)
    | (at_builtin
       refine walk_append_opt hdL _ rfl (.tmp 26) (.tmp 27) 22 31 rfl (.agg #[.int .i64 0, .int .u64 0, .bool false]) 24 Try.underlying22 hd_info rfl (by decide) (by omega) w1.heap.size (.slice (some ⟨w1.heap.size, 0, none⟩) 0 0) rfl (ownr_empty w1 _ _) A n c H rfl HL.out (· < w.heap.size) (HS.out.keep fun b hb => (Below.heap_alloc w1 _ b (by omega)).trans (HB1.out.block b hb)) (by omega) (by simp) ?_
       intro v2 w2 css hcl hown2 hR2 hg2
       rw [hds_flat (hcl.trans HL.out.symm) hR2] at hown2
       have hO2 : w2.ownsRow w1.heap.size 31 3 v2 H.length (Hcs H) := by rw [HL.out]; exact hown2
       obtain ⟨A2, c2, rfl, q1, q2, -⟩ := hds_sl hO2 HP1.out.ok
       rw [HL.out] at q1 hown2 ⊢
       have hb2 : Below w1.heap.size w1 w2 := (((Below.refl w1.heap.size w1).alloc (Nat.le_refl _) (.cells #[] 31)).grown hg2 (by simp) (fun i hi => by simp [Value.ownBlock] at hi; omega))
       have HB2 : Hid (Below w.heap.size w w2) := HB1.out.trans (hb2.mono hs1)
       have HP2 : Hid (IsTb (fun b => w.heap.size ≤ b ∧ b < w1.heap.size) w2 g H) := HP1.out.keep fun b hb _ => hb2.block b hb
       have hs2 := hb2.size
       have HO2 := Lib.hid hown2
       clear hcl hown2 hR2 hg2 hb2 HP1 HB1 hO2))
  have HO2b : Hid (∀ b, (Value.slice A2 n c2).ownBlock = some b → w1.heap.size ≤ b ∧ b < w2.heap.size) := HO2.out.lt
  go_wp2_with fail
  go_loopw [6, 7] (fun va vi wr => ∃ (k : Nat) (S : Nat → Prop) (A1 : Option Addr) (n1 c1 : Nat) (H1 : List Hnd), k ≤ m ∧ vi = .int .i64 (k : Nat) ∧ va = .slice A1 n1 c1 ∧ n1 ≤ 30 + k ∧ H1.length = n1 ∧ Below w.heap.size w wr ∧ (∀ b, S b → w.heap.size ≤ b ∧ b < wr.heap.size) ∧ IsTb S wr g H1 ∧ wr.ownsRow w.heap.size 31 3 (.slice A1 n1 c1) n1 (Hcs H1) ∧ ∀ b, (Value.slice A1 n1 c1).ownBlock = some b → ¬ S b) (fun _ vi _ => m - (intOf vi).toNat)
  case atStart => exact ⟨0, _, A2, n, c2, H, Nat.zero_le _, rfl, rfl, by omega, HL.out, HB2.out, fun b hb => ⟨hb.1, by omega⟩, HP2.out, ⟨HO2.out.1, HO2.out.2.imp id fun ⟨g, cap, cur, e, q1, q2⟩ => ⟨g, cap, cur, e, by omega, q2⟩⟩, fun b hb hS => by have := (HO2b.out b hb).1; omega⟩
  case round =>
    obtain ⟨k, S, A1, n1, c1, H1, hk, rfl, rfl, hn1, hl1, hbel, hSb, hp, hO, hD⟩ := hrel
    have HBr := Lib.hid hbel
    have HPr := Lib.hid hp
    have HOr := Lib.hid hO
    have HD := Lib.hid hD
    have HSb := Lib.hid hSb
    have HL1 := Lib.hid hl1
    have HOb : Hid (∀ b, (Value.slice A1 n1 c1).ownBlock = some b → w.heap.size ≤ b ∧ b < wr.heap.size) := hO.lt
    have hsr := hbel.size
    clear hbel hp hO hD hSb hl1 HO2 HO2b HP2 HB2
    by_cases hlt : k < m
    · obtain ⟨⟨wh, kd, N⟩, ht⟩ : ∃ t, T[k]? = some t := ⟨T[k]'(by rw [HM.out]; exact hlt), List.getElem?_eq_getElem _⟩
      obtain ⟨b, cs, eb, hbs, hc, hR⟩ := HT.out.at ht
      clear ht
      subst eb
      obtain ⟨rfl, hw1, hw2, hw3⟩ := hR
      dsimp only at hw1 hw2 hw3 hc
      have hcl : ∀ j v, j < 3 → ([.int .i64 wh, .int .i64 kd, .int .u64 (N : Int)] : List Value)[j]? = some v → wr.cell? (b.add (k * 3 + j)) = some v := fun j v hi hv => (HBr.out.cell (p := b.add (k * 3 + j)) (by rw [addBlock]; exact hbs)).trans (hc j v hv)
      have ca0 := hcl 0 _ (by omega) rfl
      have ca1 := hcl 1 _ (by omega) rfl
      have ca2 := hcl 2 _ (by omega) rfl
      rw [Nat.add_zero] at ca0
      rw [next_cell b (k * 3) 1 (by omega)] at ca1
      rw [next_cell b (k * 3) 2 (by omega)] at ca2
      clear hc hcl
      have k0 : 0 ≤ (k : Int) := by omega
      have k1 : (k : Int) < (m : Int) := by omega
      go_upto_region 9 with (fail)
      refine wp_world fun V hV => ?_
      have hbV : Below wr.heap.size wr V := by rw [hV]; exact (Below.refl _ _).alloc (Nat.le_refl _) _
      have hbx : Blk V wr.heap.size 29 #[.int .i64 wh, .int .i64 kd, .int .u64 (N : Int)] := by rw [hV]; exact blk_at rfl
      have HBV : Hid (Below w.heap.size w V) := HBr.out.trans (hbV.mono hsr)
      have hsV : wr.heap.size < V.heap.size := hbx.lt
      have HPV : Hid (IsTb S V g H1) := HPr.out.keep fun b hb _ => hbV.block b hb
      have HOV : Hid (V.ownsRow w.heap.size 31 3 (.slice A1 n1 c1) n1 (Hcs H1)) := ownr_keep HOr.out fun b e => hbV.block b (HOb.out b e).2
      have HBX := Lib.hid hbx
      have z0 := hbx.cell 0
      have z1 := hbx.cell 1
      have z2 := hbx.cell 2
      have hN : (N : Int) < 18446744073709551616 := by unfold B64 at hw3; omega
      clear hV hbV hbx ca0 ca1 ca2 HBr HPr HOr
      cases hx : H1[N]? with
      | none =>
        have hge : ¬ ((N : Int) < (n1 : Int)) := by have := HL1.out; rw [List.getElem?_eq_none_iff] at hx; omega
        have HOF := Lib.hid (opnB_none hx)
        clear hx
        by_cases h0 : wh = 0
        · subst h0
          by_cases hfit : n1 < 16
          · as_aux_lemma =>
            have g1 : (n1 : Int) < 16 := by omega
            go_wp2_with (first
              | (go_at_call 9
                 have hof := open_fits g kd N V HPV.out (by rw [HL1.out]; exact hfit) hw2 hw3 fun b hb => Nat.lt_trans (HSb.out b hb).2 hsV
                 rw [HL1.out] at hof
                 refine hof.mono ?_
                 rintro e w2 ⟨rfl, hp2, ht2⟩
                 have hs2 := ht2.size
                 have HP2 := Lib.hid hp2
                 have HB2 : Hid (Below w.heap.size w w2) := HBV.out.trans (ht2.below (by omega) fun b hb => (HSb.out b hb).1)
                 have HO2 : Hid (w2.ownsRow w.heap.size 31 3 (.slice A1 n1 c1) n1 (Hcs H1)) := ownr_keep HOV.out fun b e => ht2.block b (by have := (HOb.out b e).2; omega) (HD.out b e)
                 have bx2 : Blk w2 wr.heap.size 29 #[.int .i64 0, .int .i64 kd, .int .u64 (N : Int)] := (ht2.block _ hsV fun q => by have := (HSb.out _ q).2; omega).trans HBX.out
                 have y1 := bx2.cell 1
                 have y2 := bx2.cell 2
                 clear hp2 ht2 hof bx2)
              | (at_builtin
                 refine walk_append_raw 3 _ rfl (.tmp 90) (.tmp 96) 22 31 rfl (.agg #[.int .i64 0, .int .u64 0, .bool false]) 24 Try.underlying22 hd_info rfl (by decide) (by omega) w.heap.size (.slice A1 n1 c1) n1 (Hcs H1) rfl (raw_below HO2.out ((Below.refl _ _).alloc (Nat.le_refl _) _) (Nat.le_refl _)) ⟨w2.heap.size, 0, none⟩ 1 rfl (hdC ⟨kd, N, true⟩) rfl (hd_lit w2 ⟨kd, N, true⟩) (hdC_one _) (by omega) (by simp; omega) ?_
                 intro v3 w3 hown3 hg3 hv3
                 rw [← Hcs_one, ← Hcs_app] at hown3
                 obtain ⟨A3, m3, c3, rfl⟩ := raw_shape hown3
                 obtain rfl : m3 = n1 + 1 := by
                   rcases hown3.2 with ⟨e, h0⟩ | ⟨g', cap, cur, e, -⟩
                   · omega
                   · simp only [Value.slice.injEq] at e; exact e.2.1
                 have hs3 : w2.heap.size + 1 ≤ w3.heap.size := by have := hg3.size; simpa using this
                 have HO3 := Lib.hid hown3
                 have HB3 : Hid (Below w.heap.size w w3) := (HB2.out.alloc (by omega) _).grown hg3 (by simp; omega) fun i hi => (HOb.out i hi).1
                 have HP3 : Hid (IsTb (fun b => S b ∨ (V.heap.size ≤ b ∧ b < w2.heap.size)) w3 g (H1 ++ [⟨kd, N, true⟩])) := HP2.out.keep fun b hb hS => (hg3.block b (by simp; omega) fun e => by
                   rcases hS with q | q
                   · exact HD.out b e.symm q
                   · have := (HOb.out b e.symm).2; omega).trans (Below.heap_alloc _ _ _ hb)
                 have HD3 : Hid (∀ b, (Value.slice A3 (n1 + 1) c3).ownBlock = some b → ¬ (S b ∨ (V.heap.size ≤ b ∧ b < w2.heap.size))) := fun b e => by
                   rcases hv3 with q | q
                   · rw [e] at q
                     have h1 := HD.out b q.symm
                     have h2 := (HOb.out b q.symm).2
                     rintro (r | r)
                     · exact h1 r
                     · omega
                   · rw [e] at q
                     have q : b = w2.heap.size + 1 := by simpa using q
                     rintro (r | r)
                     · have := (HSb.out b r).2; omega
                     · omega
                 clear hown3 hg3 hv3))
            refine ⟨⟨k + 1, _, A3, n1 + 1, c3, H1 ++ [⟨kd, N, true⟩], by omega, by simp, rfl, by omega, by simp [HL1.out], HB3.out, fun b hb => ?_, HP3.out, HO3.out, HD3.out⟩, by simp [intOf]; omega⟩
            rcases hb with q | q
            · have := HSb.out b q; omega
            · omega
          · as_aux_lemma =>
            have g1 : decide ((n1 : Int) < 16) = false := by simp; omega
            have hF := HPV.out
            have hE := HL1.out
            have hfull := Lib.hid (open_full g kd N V hF (by omega) (by omega))
            clear hF hE hfit
            go_wp2_with (first
              | (go_at_call 9
                 refine hfull.out.mono ?_
                 rintro e w2 ⟨rfl, rfl⟩))
            refine ⟨⟨k + 1, S, A1, n1, c1, H1, by omega, by simp, rfl, by omega, HL1.out, HBV.out, fun b hb => ⟨(HSb.out b hb).1, Nat.lt_trans (HSb.out b hb).2 hsV⟩, HPV.out, HOV.out, HD.out⟩, by simp [intOf]; omega⟩
        by_cases h1 : wh = 1
        · subst h1
          as_aux_lemma =>
          go_wp2_with (first
            | (go_at_call 10
               refine (use_any g N V HPV.out (by rw [HL1.out]; omega) hw3).mono ?_
               rintro e w2 ⟨he, rfl⟩
               rw [useA_no HOF.out] at he
               subst he))
          refine ⟨⟨k + 1, S, A1, n1, c1, H1, by omega, by simp, rfl, by omega, HL1.out, HBV.out, fun b hb => ⟨(HSb.out b hb).1, Nat.lt_trans (HSb.out b hb).2 hsV⟩, HPV.out, HOV.out, HD.out⟩, by simp [intOf]; omega⟩
        by_cases h2 : wh = 2
        · subst h2
          as_aux_lemma =>
          go_wp2_with (first
            | (go_at_call 11
               refine (close_no g N V HPV.out (by rw [HL1.out]; omega) hw3 HOF.out).mono ?_
               rintro e w2 ⟨rfl, rfl⟩))
          refine ⟨⟨k + 1, S, A1, n1, c1, H1, by omega, by simp, rfl, by omega, HL1.out, HBV.out, fun b hb => ⟨(HSb.out b hb).1, Nat.lt_trans (HSb.out b hb).2 hsV⟩, HPV.out, HOV.out, HD.out⟩, by simp [intOf]; omega⟩
        as_aux_lemma =>
        have f0 : (wh == 0) = false := by simp [h0]
        have f1 : (wh == 1) = false := by simp [h1]
        have f2 : (wh == 2) = false := by simp [h2]
        go_wp2_with fail
        refine ⟨⟨k + 1, S, A1, n1, c1, H1, by omega, by simp, rfl, by omega, HL1.out, HBV.out, fun b hb => ⟨(HSb.out b hb).1, Nat.lt_trans (HSb.out b hb).2 hsV⟩, HPV.out, HOV.out, HD.out⟩, by simp [intOf]; omega⟩
      | some x =>
        have hlt1 : (N : Int) < (n1 : Int) := by have := HL1.out; have := (List.getElem?_eq_some_iff.1 hx).1; omega
        have hol := HOV.out
        rw [show V.ownsRow w.heap.size 31 3 (.slice A1 n1 c1) n1 (Hcs H1) = V.ownsRow w.heap.size 31 3 (.slice A1 n1 c1) H1.length (Hcs H1) by rw [HL1.out]] at hol
        obtain ⟨gi, e1, hgi, -, -, -, kk1, k2, -⟩ := hds_at hol hx
        subst e1
        have hgb := HOb.out gi rfl
        have HX := Lib.hid hx
        clear hol
        cases hxo : x.opn with
        | true =>
          rw [hxo] at k2
          have HOF : Hid (opnB H1 N = true) := (opnB_at hx).trans hxo
          have HXO := Lib.hid hxo
          clear hx hxo
          have t1 : ((x.desc : Int) != (x.desc : Int)) = false := by simp
          by_cases h0 : wh = 0
          · subst h0
            by_cases hfit : n1 < 16
            · as_aux_lemma =>
              have g1 : (n1 : Int) < 16 := by omega
              go_wp2_with (first
                | (go_at_call 9
                   have hof := open_fits g kd N V HPV.out (by rw [HL1.out]; exact hfit) hw2 hw3 fun b hb => Nat.lt_trans (HSb.out b hb).2 hsV
                   rw [HL1.out] at hof
                   refine hof.mono ?_
                   rintro e w2 ⟨rfl, hp2, ht2⟩
                   have hs2 := ht2.size
                   have HP2 := Lib.hid hp2
                   have HB2 : Hid (Below w.heap.size w w2) := HBV.out.trans (ht2.below (by omega) fun b hb => (HSb.out b hb).1)
                   have HO2 : Hid (w2.ownsRow w.heap.size 31 3 (.slice (some ⟨gi, 0, none⟩) n1 c1) n1 (Hcs H1)) := ownr_keep HOV.out fun b e => ht2.block b (by have := (HOb.out b e).2; omega) (HD.out b e)
                   have bx2 : Blk w2 wr.heap.size 29 #[.int .i64 0, .int .i64 kd, .int .u64 (N : Int)] := (ht2.block _ hsV fun q => by have := (HSb.out _ q).2; omega).trans HBX.out
                   have y1 := bx2.cell 1
                   have y2 := bx2.cell 2
                   clear hp2 ht2 hof bx2)
                | (at_builtin
                   refine walk_append_raw 3 _ rfl (.tmp 90) (.tmp 96) 22 31 rfl (.agg #[.int .i64 0, .int .u64 0, .bool false]) 24 Try.underlying22 hd_info rfl (by decide) (by omega) w.heap.size (.slice (some ⟨gi, 0, none⟩) n1 c1) n1 (Hcs H1) rfl (raw_below HO2.out ((Below.refl _ _).alloc (Nat.le_refl _) _) (Nat.le_refl _)) ⟨w2.heap.size, 0, none⟩ 1 rfl (hdC ⟨kd, N, true⟩) rfl (hd_lit w2 ⟨kd, N, true⟩) (hdC_one _) (by omega) (by simp; omega) ?_
                   intro v3 w3 hown3 hg3 hv3
                   rw [← Hcs_one, ← Hcs_app] at hown3
                   obtain ⟨A3, m3, c3, rfl⟩ := raw_shape hown3
                   obtain rfl : m3 = n1 + 1 := by
                     rcases hown3.2 with ⟨e, h0⟩ | ⟨g', cap, cur, e, -⟩
                     · omega
                     · simp only [Value.slice.injEq] at e; exact e.2.1
                   have hs3 : w2.heap.size + 1 ≤ w3.heap.size := by have := hg3.size; simpa using this
                   have HO3 := Lib.hid hown3
                   have HB3 : Hid (Below w.heap.size w w3) := (HB2.out.alloc (by omega) _).grown hg3 (by simp; omega) fun i hi => (HOb.out i hi).1
                   have HP3 : Hid (IsTb (fun b => S b ∨ (V.heap.size ≤ b ∧ b < w2.heap.size)) w3 g (H1 ++ [⟨kd, N, true⟩])) := HP2.out.keep fun b hb hS => (hg3.block b (by simp; omega) fun e => by
                     rcases hS with q | q
                     · exact HD.out b e.symm q
                     · have := (HOb.out b e.symm).2; omega).trans (Below.heap_alloc _ _ _ hb)
                   have HD3 : Hid (∀ b, (Value.slice A3 (n1 + 1) c3).ownBlock = some b → ¬ (S b ∨ (V.heap.size ≤ b ∧ b < w2.heap.size))) := fun b e => by
                     rcases hv3 with q | q
                     · rw [e] at q
                       have h1 := HD.out b q.symm
                       have h2 := (HOb.out b q.symm).2
                       rintro (r | r)
                       · exact h1 r
                       · omega
                     · rw [e] at q
                       have q : b = w2.heap.size + 1 := by simpa using q
                       rintro (r | r)
                       · have := (HSb.out b r).2; omega
                       · omega
                   clear hown3 hg3 hv3))
              refine ⟨⟨k + 1, _, A3, n1 + 1, c3, H1 ++ [⟨kd, N, true⟩], by omega, by simp, rfl, by omega, by simp [HL1.out], HB3.out, fun b hb => ?_, HP3.out, HO3.out, HD3.out⟩, by simp [intOf]; omega⟩
              rcases hb with q | q
              · have := HSb.out b q; omega
              · omega
            · as_aux_lemma =>
              have g1 : decide ((n1 : Int) < 16) = false := by simp; omega
              have hF := HPV.out
              have hE := HL1.out
              have hfull := Lib.hid (open_full g kd N V hF (by omega) (by omega))
              clear hF hE hfit
              go_wp2_with (first
                | (go_at_call 9
                   refine hfull.out.mono ?_
                   rintro e w2 ⟨rfl, rfl⟩))
              refine ⟨⟨k + 1, S, (some ⟨gi, 0, none⟩), n1, c1, H1, by omega, by simp, rfl, by omega, HL1.out, HBV.out, fun b hb => ⟨(HSb.out b hb).1, Nat.lt_trans (HSb.out b hb).2 hsV⟩, HPV.out, HOV.out, HD.out⟩, by simp [intOf]; omega⟩
          by_cases h1 : wh = 1
          · subst h1
            as_aux_lemma =>
            go_wp2_with (first
              | (go_at_call 10
                 refine (use_any g N V HPV.out (by rw [HL1.out]; omega) hw3).mono ?_
                 rintro e w2 ⟨he, rfl⟩
                 rw [useA_yes HX.out HXO.out] at he
                 subst he))
            refine ⟨⟨k + 1, S, (some ⟨gi, 0, none⟩), n1, c1, H1, by omega, by simp, rfl, by omega, HL1.out, HBV.out, fun b hb => ⟨(HSb.out b hb).1, Nat.lt_trans (HSb.out b hb).2 hsV⟩, HPV.out, HOV.out, HD.out⟩, by simp [intOf]; omega⟩
          by_cases h2 : wh = 2
          · subst h2
            as_aux_lemma =>
            go_wp2_with (first
              | (go_at_call 11
                 refine (close_yes g N V HPV.out (by rw [HL1.out]; omega) hw3 HOF.out).mono ?_
                 rintro e w2 ⟨rfl, hp2, ht2, hs2⟩
                 have HP2 := Lib.hid hp2
                 have HB2 : Hid (Below w.heap.size w w2) := HBV.out.trans (ht2.below (by omega) fun b hb => (HSb.out b hb).1)
                 have HO2 : Hid (w2.ownsRow w.heap.size 31 3 (.slice (some ⟨gi, 0, none⟩) n1 c1) n1 (Hcs H1)) := ownr_keep HOV.out fun b e => ht2.block b (by have := (HOb.out b e).2; omega) (HD.out b e)
                 have y2 := HO2.out.frozenAt (N * 3 + 2)
                 have y3 : w2.cell? ⟨gi, N * 3 + 2, none⟩ = some (.bool true) := by
                   have e := ht2.block gi (by omega) (HD.out gi rfl)
                   exact (World.cell?_of_block (a := ⟨gi, N * 3 + 2, none⟩) e).trans k2
                 have bx2 : Blk w2 wr.heap.size 29 #[.int .i64 2, .int .i64 kd, .int .u64 (N : Int)] := (ht2.block _ hsV fun q => by have := (HSb.out _ q).2; omega).trans HBX.out
                 have y4 := bx2.cell 2
                 clear hp2 ht2 bx2))
            refine ⟨⟨k + 1, S, some ⟨gi, 0, none⟩, n1, c1, closeH H1 N, by omega, by simp, rfl, by omega, by rw [closeH_len, HL1.out], HB2.out.setCell (by show w.heap.size ≤ gi; omega) _, fun b hb => ⟨(HSb.out b hb).1, by have := (HSb.out b hb).2; simp [World.setCell]; omega⟩, HP2.out.keep fun b _ hb2 => Below.heap_setCell _ _ _ _ (fun (e : b = gi) => HD.out gi rfl (by rw [← e]; exact hb2)), ?_, HD.out⟩, by simp [intOf]; omega⟩
            have := (HO2.out.stored (N * 3 + 2) (.bool false)).1
            rw [Hcs_set HX.out (by omega) (.bool false) (h' := { x with opn := false }) rfl] at this
            rw [closeH_at HX.out]
            exact this
          as_aux_lemma =>
          have f0 : (wh == 0) = false := by simp [h0]
          have f1 : (wh == 1) = false := by simp [h1]
          have f2 : (wh == 2) = false := by simp [h2]
          go_wp2_with fail
          refine ⟨⟨k + 1, S, (some ⟨gi, 0, none⟩), n1, c1, H1, by omega, by simp, rfl, by omega, HL1.out, HBV.out, fun b hb => ⟨(HSb.out b hb).1, Nat.lt_trans (HSb.out b hb).2 hsV⟩, HPV.out, HOV.out, HD.out⟩, by simp [intOf]; omega⟩
        | false =>
          rw [hxo] at k2
          have HOF : Hid (opnB H1 N = false) := (opnB_at hx).trans hxo
          clear hx hxo
          by_cases h0 : wh = 0
          · subst h0
            by_cases hfit : n1 < 16
            · as_aux_lemma =>
              have g1 : (n1 : Int) < 16 := by omega
              go_wp2_with (first
                | (go_at_call 9
                   have hof := open_fits g kd N V HPV.out (by rw [HL1.out]; exact hfit) hw2 hw3 fun b hb => Nat.lt_trans (HSb.out b hb).2 hsV
                   rw [HL1.out] at hof
                   refine hof.mono ?_
                   rintro e w2 ⟨rfl, hp2, ht2⟩
                   have hs2 := ht2.size
                   have HP2 := Lib.hid hp2
                   have HB2 : Hid (Below w.heap.size w w2) := HBV.out.trans (ht2.below (by omega) fun b hb => (HSb.out b hb).1)
                   have HO2 : Hid (w2.ownsRow w.heap.size 31 3 (.slice (some ⟨gi, 0, none⟩) n1 c1) n1 (Hcs H1)) := ownr_keep HOV.out fun b e => ht2.block b (by have := (HOb.out b e).2; omega) (HD.out b e)
                   have bx2 : Blk w2 wr.heap.size 29 #[.int .i64 0, .int .i64 kd, .int .u64 (N : Int)] := (ht2.block _ hsV fun q => by have := (HSb.out _ q).2; omega).trans HBX.out
                   have y1 := bx2.cell 1
                   have y2 := bx2.cell 2
                   clear hp2 ht2 hof bx2)
                | (at_builtin
                   refine walk_append_raw 3 _ rfl (.tmp 90) (.tmp 96) 22 31 rfl (.agg #[.int .i64 0, .int .u64 0, .bool false]) 24 Try.underlying22 hd_info rfl (by decide) (by omega) w.heap.size (.slice (some ⟨gi, 0, none⟩) n1 c1) n1 (Hcs H1) rfl (raw_below HO2.out ((Below.refl _ _).alloc (Nat.le_refl _) _) (Nat.le_refl _)) ⟨w2.heap.size, 0, none⟩ 1 rfl (hdC ⟨kd, N, true⟩) rfl (hd_lit w2 ⟨kd, N, true⟩) (hdC_one _) (by omega) (by simp; omega) ?_
                   intro v3 w3 hown3 hg3 hv3
                   rw [← Hcs_one, ← Hcs_app] at hown3
                   obtain ⟨A3, m3, c3, rfl⟩ := raw_shape hown3
                   obtain rfl : m3 = n1 + 1 := by
                     rcases hown3.2 with ⟨e, h0⟩ | ⟨g', cap, cur, e, -⟩
                     · omega
                     · simp only [Value.slice.injEq] at e; exact e.2.1
                   have hs3 : w2.heap.size + 1 ≤ w3.heap.size := by have := hg3.size; simpa using this
                   have HO3 := Lib.hid hown3
                   have HB3 : Hid (Below w.heap.size w w3) := (HB2.out.alloc (by omega) _).grown hg3 (by simp; omega) fun i hi => (HOb.out i hi).1
                   have HP3 : Hid (IsTb (fun b => S b ∨ (V.heap.size ≤ b ∧ b < w2.heap.size)) w3 g (H1 ++ [⟨kd, N, true⟩])) := HP2.out.keep fun b hb hS => (hg3.block b (by simp; omega) fun e => by
                     rcases hS with q | q
                     · exact HD.out b e.symm q
                     · have := (HOb.out b e.symm).2; omega).trans (Below.heap_alloc _ _ _ hb)
                   have HD3 : Hid (∀ b, (Value.slice A3 (n1 + 1) c3).ownBlock = some b → ¬ (S b ∨ (V.heap.size ≤ b ∧ b < w2.heap.size))) := fun b e => by
                     rcases hv3 with q | q
                     · rw [e] at q
                       have h1 := HD.out b q.symm
                       have h2 := (HOb.out b q.symm).2
                       rintro (r | r)
                       · exact h1 r
                       · omega
                     · rw [e] at q
                       have q : b = w2.heap.size + 1 := by simpa using q
                       rintro (r | r)
                       · have := (HSb.out b r).2; omega
                       · omega
                   clear hown3 hg3 hv3))
              refine ⟨⟨k + 1, _, A3, n1 + 1, c3, H1 ++ [⟨kd, N, true⟩], by omega, by simp, rfl, by omega, by simp [HL1.out], HB3.out, fun b hb => ?_, HP3.out, HO3.out, HD3.out⟩, by simp [intOf]; omega⟩
              rcases hb with q | q
              · have := HSb.out b q; omega
              · omega
            · as_aux_lemma =>
              have g1 : decide ((n1 : Int) < 16) = false := by simp; omega
              have hF := HPV.out
              have hE := HL1.out
              have hfull := Lib.hid (open_full g kd N V hF (by omega) (by omega))
              clear hF hE hfit
              go_wp2_with (first
                | (go_at_call 9
                   refine hfull.out.mono ?_
                   rintro e w2 ⟨rfl, rfl⟩))
              refine ⟨⟨k + 1, S, (some ⟨gi, 0, none⟩), n1, c1, H1, by omega, by simp, rfl, by omega, HL1.out, HBV.out, fun b hb => ⟨(HSb.out b hb).1, Nat.lt_trans (HSb.out b hb).2 hsV⟩, HPV.out, HOV.out, HD.out⟩, by simp [intOf]; omega⟩
          by_cases h1 : wh = 1
          · subst h1
            as_aux_lemma =>
            go_wp2_with (first
              | (go_at_call 10
                 refine (use_any g N V HPV.out (by rw [HL1.out]; omega) hw3).mono ?_
                 rintro e w2 ⟨he, rfl⟩
                 rw [useA_no HOF.out] at he
                 subst he))
            refine ⟨⟨k + 1, S, (some ⟨gi, 0, none⟩), n1, c1, H1, by omega, by simp, rfl, by omega, HL1.out, HBV.out, fun b hb => ⟨(HSb.out b hb).1, Nat.lt_trans (HSb.out b hb).2 hsV⟩, HPV.out, HOV.out, HD.out⟩, by simp [intOf]; omega⟩
          by_cases h2 : wh = 2
          · subst h2
            as_aux_lemma =>
            go_wp2_with (first
              | (go_at_call 11
                 refine (close_no g N V HPV.out (by rw [HL1.out]; omega) hw3 HOF.out).mono ?_
                 rintro e w2 ⟨rfl, rfl⟩))
            refine ⟨⟨k + 1, S, (some ⟨gi, 0, none⟩), n1, c1, H1, by omega, by simp, rfl, by omega, HL1.out, HBV.out, fun b hb => ⟨(HSb.out b hb).1, Nat.lt_trans (HSb.out b hb).2 hsV⟩, HPV.out, HOV.out, HD.out⟩, by simp [intOf]; omega⟩
          as_aux_lemma =>
          have f0 : (wh == 0) = false := by simp [h0]
          have f1 : (wh == 1) = false := by simp [h1]
          have f2 : (wh == 2) = false := by simp [h2]
          go_wp2_with fail
          refine ⟨⟨k + 1, S, (some ⟨gi, 0, none⟩), n1, c1, H1, by omega, by simp, rfl, by omega, HL1.out, HBV.out, fun b hb => ⟨(HSb.out b hb).1, Nat.lt_trans (HSb.out b hb).2 hsV⟩, HPV.out, HOV.out, HD.out⟩, by simp [intOf]; omega⟩
    · have hkm : ¬ ((k : Int) < (m : Int)) := by omega
      go_wp2_with (first
        | (go_at_call 7
           refine (AN.out wr).mono ?_
           rintro e w3 ⟨rfl, hb3⟩
           have HB3 : Hid (Below w.heap.size w w3) := HBr.out.trans (hb3.mono hsr)
           have HP3 : Hid (IsTb S w3 g H1) := HPr.out.keep fun b hb _ => hb3.block b hb
           have HO3 : Hid (w3.ownsRow w.heap.size 31 3 (.slice A1 n1 c1) H1.length (Hcs H1)) := by rw [HL1.out]; exact ownr_keep HOr.out fun b e => hb3.block b (HOb.out b e).2
           clear hb3)
        | (go_at_call 13
           refine (tlist_any g w3 HP3.out (by rw [HL1.out]; omega)).mono ?_
           rintro e w5 ⟨v, rfl, ho5, hb5⟩
           have HB5 : Hid (Below w.heap.size w w5) := HB3.out.trans (hb5.mono HB3.out.size)
           obtain ⟨A5, c5, rfl, -, -, sq5⟩ := hds_sl ho5 HP3.out.ok
           have HQ5 := Lib.hid sq5
           have ho6 : w5.ownsRow w.heap.size 31 3 (.slice A1 n1 c1) H1.length (Hcs H1) := raw_below HO3.out hb5 (Nat.le_refl _)
           obtain ⟨A6, c6, e6, -, -, sq6⟩ := hds_sl ho6 HP3.out.ok
           simp only [Value.slice.injEq] at e6
           obtain ⟨rfl, -, rfl⟩ := e6
           have HQ6 := Lib.hid sq6
           rw [HL1.out]
           clear ho5 hb5 sq5 ho6 sq6)
        | (go_at_call 12
           refine (rhans_any A5 A1 n1 n1 c5 c1 H1 H1 w5 _ _ HL1.out HL1.out HQ5.out HQ6.out (by omega) (by omega)).mono ?_
           rintro e w6 ⟨he, q, rfl⟩
           rw [decide_eq_true rfl] at he
           subst he
           have HB6 : Hid (Below w.heap.size w (w5.drewN q)) := below_drews' HB5.out q HB5.out.size))
      go_ret
      exact ⟨by simp, HB6.out⟩

set_option maxRecDepth 100000 in
theorem lifted (os : Os) (started : os.Started) (H : Type) (enc : TypeId × Value → H) :
    ReturnsInHanded {} Try.checked os 3 .any (Rows.hansPlaysSpec.pre6 enc Try.prog Try.f3 Rows.hansPlaysRow.domain false) (Rows.hansPlaysSpec.post enc Try.prog Try.f3 false true false false) := by
  refine returnsInHanded_of_change (C := Try.checked) own started (by kernel_rfl) Try.func3
    (ChangeSpec.witness6 (enc := enc) (C := Try.checked) false ⟨#[], #[.slice none 0 0, .slice none 0 0], []⟩ 8 (by kernel_rfl) (by kernel_rfl) (by kernel_rfl) (by kernel_rfl)) ?_
  intro W base args ds gs before hval0 hW hcnd _
  have hval : ∀ (j : Nat) t v, Try.f3.params[j]? = some t → args[j]? = some v → Value.okWide Try.prog W .any base t v := hval0
  have hW' := hW
  obtain ⟨p, q, hA0, hV, rfl, hfz, hnd⟩ := hW
  have hA : DataW.TrodAll enc Try.prog W 0 (fun _ => true) true Try.f3.params.toList args.toList ds p := hA0
  rw [Try.params3] at hA hval
  obtain ⟨v0, vs0, d0, ds0, p0, q0, hargs, rfl, rfl, h0, r0⟩ := trodAll_cons hA
  obtain ⟨v1, vs1, d1, ds1, p1, q1, rfl, rfl, rfl, h1, r1⟩ := trodAll_cons r0
  obtain ⟨rfl, rfl, rfl⟩ := trodAll_nil r1
  obtain rfl : args = #[v0, v1] := by cases args; simp_all
  obtain ⟨rfl, rfl⟩ := trodVars_none hV
  obtain ⟨a0, len0, cap0, rfl⟩ := okWide_slice Try.underlying22 (hval 0 22 v0 rfl rfl)
  have lt0 : ∀ x ∈ p0, x.block < W.heap.size := by obtain ⟨m, hm⟩ := h0; exact DataW.trod_lt m _ _ _ hm
  obtain ⟨L0, hx0, hM0⟩ := open_hnds h0
  obtain ⟨a1, len1, cap1, rfl⟩ := okWide_slice Try.underlying23 (hval 1 23 v1 rfl rfl)
  have lt1 : ∀ x ∈ p1, x.block < W.heap.size := by obtain ⟨m, hm⟩ := h1; exact DataW.trod_lt m _ _ _ hm
  obtain ⟨L1, hx1, hM1⟩ := open_hats h1
  clear hA0 hval0
  refine (walk a0 len0 cap0 L0 a1 len1 cap1 L1 W hx0 hM0 hx1 hM1).mono fun e W' ⟨he, bel⟩ => ?_
  subst he
  exact ⟨_, rfl, _, _, _, [], _, [], hW', trodAll_mk1 (shut_bool Try.underlying4 _), (trodAll_cons_mk (Below.trod laidOut (by kernel_rfl) (of_decide_eq_true (by kernel_rfl)) h0 bel lt0) (trodAll_cons_mk (Below.trod laidOut (by kernel_rfl) (of_decide_eq_true (by kernel_rfl)) h1 bel lt1) trodAll_mk0)), rfl, bel.frame _, fun h => by cases h⟩

theorem over : Rows.hansPlaysRow.holds Try.pinned (OpenSpec.ofChange Rows.hansPlaysSpec) :=
  OpenClaim.holds_of_wide 3 Try.f3 rfl rfl rfl rfl rfl rfl rfl ⟨rfl, rfl, rfl, rfl, rfl⟩ rfl rfl rfl rfl rfl (by kernel_rfl) Try.func3 (by kernel_rfl)
    (of_decide_eq_true (by kernel_rfl)) (by unfold Func.isWrapper; first | (rw [if_pos (by decide +kernel)]; kernel_rfl) | (rw [if_neg (by decide +kernel)]; exact ⟨rfl, rfl⟩))
    (fun os started H enc _ => lifted os started H enc)

/-- The statement. -/
theorem proved : Rows.HansPlaysSaid := over
end Go.Proofs.Ythahfhmkgkfoaaa.hansPlays
