/-
  The law HeapPlays holds: whatever is added to a heap, read and written, all answers, traps, what was used and all objects are those of the law's own objects; the law's function returns true and turns nothing that was there.
  Conditions: none.
-/
import Derived.Test.YtdadaklkaehmjaaOpn
import Derived.Test.YtdadaklkaehmjaaHp2
import Derived.Test.YtdadaklkaehmjaaHp3
import Derived.Test.YtdadaklkaehmjaaHw2
import Derived.BigQuiet
import Derived.Lib.QuietBelow
namespace Go.Proofs.Ytdadaklkaehmjaa.heapPlays
open Go.ChangeShapes Go.WideShapes Go.ChangeAt Go.RowKit
set_option linter.unusedVariables false
set_option linter.unusedSimpArgs false

set_option maxRecDepth 100000 in
set_option maxHeartbeats 16000000 in
theorem walk (A : Option Addr) (n c : Nat) (O : List Ob) (q u : Int) (B : Option Addr) (m d : Nat) (T : List Hap) (w : World) (hl : O.length = n) (hO : (slL obL).R (· < w.heap.size) w [.slice A n c] O) (hz : Zl Zo O) (hq : I64 q) (hu : I64 u) (hm : T.length = m) (hT : (slL hapL).R (· < w.heap.size) w [.slice B m d] T) (hzT : Zl Zh T) :
    Calls Try.prog 3 #[.slice A n c, .int .i64 q, .int .i64 u, .slice B m d] w fun e w' => e = .returned (.bool true) ∧ Below w.heap.size w w' := by
  have AN := Lib.hid (fun w => answers12 w)
  have HL := Lib.hid hl
  have HM := Lib.hid hm
  have hrb : reachBytes ≤ 1000000000000000 := by unfold reachBytes; omega
  have HZ : Hid (∀ o ∈ O, o.words.length ≤ 1000000000000000 ∧ o.bytes.length ≤ 1000000000000000) := fun o ho => ⟨Nat.le_trans (hz.2 o ho).1 hrb, Nat.le_trans (hz.2 o ho).2 hrb⟩
  have HZT : Hid (∀ t ∈ T, t.obj.words.length ≤ 1000000000000000 ∧ t.obj.bytes.length ≤ 1000000000000000) := fun t ht => ⟨Nat.le_trans (hzT.2 t ht).1 hrb, Nat.le_trans (hzT.2 t ht).2 hrb⟩
  obtain ⟨A', c', e, hnc, hcm, hsq⟩ := hO
  simp only [List.cons.injEq, Value.slice.injEq, and_true] at e
  obtain ⟨rfl, -, rfl⟩ := e
  rw [hl] at hnc
  obtain ⟨B', d', e, hmd, hdm, hsT⟩ := hT
  simp only [List.cons.injEq, Value.slice.injEq, and_true] at e
  obtain ⟨rfl, -, rfl⟩ := e
  rw [hm] at hmd
  have HS := Lib.hid hsq
  have HT := Lib.hid hsT
  simp only [maxLen] at hcm hdm
  unfold I64 at hq hu
  clear hl hm hz hzT hrb hsq hsT
  by_cases hbad : (20 : Int) < n ∨ (n : Int) ≤ 20 ∧ (60 : Int) < m ∨ (n : Int) ≤ 20 ∧ (m : Int) ≤ 60 ∧ 1099511627776 < q ∨ (n : Int) ≤ 20 ∧ (m : Int) ≤ 60 ∧ q ≤ 1099511627776 ∧ q < -1099511627776 ∨ (n : Int) ≤ 20 ∧ (m : Int) ≤ 60 ∧ q ≤ 1099511627776 ∧ -1099511627776 ≤ q ∧ 1099511627776 < u ∨ (n : Int) ≤ 20 ∧ (m : Int) ≤ 60 ∧ q ≤ 1099511627776 ∧ -1099511627776 ≤ q ∧ u ≤ 1099511627776 ∧ u < -1099511627776
  · exact plays_bad A n c q u B m d w hbad
  have hn20 : n ≤ 20 := by omega
  have hm60 : m ≤ 60 := by omega
  have g1 : (n : Int) ≤ 20 := by omega
  have g2 : (m : Int) ≤ 60 := by omega
  have g3 : q ≤ 1099511627776 := by omega
  have g4 : -1099511627776 ≤ q := by omega
  have g5 : u ≤ 1099511627776 := by omega
  have g6 : -1099511627776 ≤ u := by omega
  clear hbad hq hu
  go_enter Try.func3, Try.ntmps3
  go_wp2_with fail
  go_loopw [9, 10] (fun v i wr => ∃ (k : Nat) (tag : Nat → Nat) (css : List (List Value)) (A' : Option Addr) (c' : Nat), k ≤ n ∧ i = .int .i64 (k : Nat) ∧ v = .slice A' k c' ∧ Below w.heap.size w wr ∧ Row (fun b => w.heap.size ≤ b ∧ b < wr.heap.size) tag wr (.slice A' k c') css (O.take k) ∧ ∀ o ∈ O.take k, o.words.length + o.bytes.length ≤ 300) (fun _ i _ => n - (intOf i).toNat)
  case atStart => exact ⟨0, fun _ => 0, [], none, 0, Nat.zero_le _, rfl, rfl, Below.refl _ _, by simpa using Row.nil _ _ _, by simp⟩
  case round =>
    obtain ⟨k, tag, css, A', c', hk, rfl, rfl, hbel, hrow, hsm⟩ := hrel
    have HB := Lib.hid hbel
    have HR := Lib.hid hrow
    have HSm := Lib.hid hsm
    have hsr := hbel.size
    have HLk : Hid ((O.take k).length = k) := by show List.length _ = k; rw [List.length_take, HL.out]; omega
    clear hbel hrow hsm
    by_cases hlt : k < n
    · obtain ⟨o, ho⟩ : ∃ o, O[k]? = some o := ⟨O[k]'(by rw [HL.out]; exact hlt), List.getElem?_eq_getElem _⟩
      have hbz := HZ.out o (List.mem_of_getElem? ho)
      obtain ⟨a, cs, ea, hab, hc, hR⟩ := HS.out.at ho
      have HO := Lib.hid ho
      clear ho
      subst ea
      obtain ⟨A0, c0, B0, d0, rfl, -⟩ := ob_parts hR
      clear hR
      have ca2 := (HB.out.cell (p := a.add (k * 4 + 2)) (by rw [addBlock]; exact hab)).trans (hc 2 _ rfl)
      rw [next_cell a (k * 4) 2 (by omega)] at ca2
      have ca3 := (HB.out.cell (p := a.add (k * 4 + 3)) (by rw [addBlock]; exact hab)).trans (hc 3 _ rfl)
      rw [next_cell a (k * 4) 3 (by omega)] at ca3
      clear hc
      obtain ⟨pp, ep⟩ : ∃ p, o.words.length = p := ⟨_, rfl⟩
      obtain ⟨qq, eq⟩ : ∃ p, o.bytes.length = p := ⟨_, rfl⟩
      rw [ep, eq] at hbz
      rw [ep] at ca2
      rw [eq] at ca3
      have EP := Lib.hid ep
      have EQ := Lib.hid eq
      clear ep eq
      have wk := wrap_in (x := (pp : Int) + (qq : Int)) ⟨by omega, by omega⟩
      have k0 : 0 ≤ (k : Int) := by omega
      have k1 : (k : Int) < (n : Int) := by omega
      have k2 : ¬ (c = k) := by omega
      by_cases h300 : 300 < pp + qq
      · have d3 : decide ((300 : Int) < (pp : Int) + (qq : Int)) = true := by simp; omega
        go_wp2_with fail
        go_quiet (fail)
        go_wp2_with (first
          | (go_at_call 8
             refine (AN.out _).mono ?_
             rintro e w1 ⟨rfl, hb1⟩
             have HB1 : Hid (Below w.heap.size w w1) := (below_drews' HB.out _ hsr).trans (hb1.mono hsr)
             clear hb1))
        go_ret
        exact ⟨rfl, HB1.out⟩
      · have d3 : decide ((300 : Int) < (pp : Int) + (qq : Int)) = false := by simp; omega
        go_wp2_with fail
        go_quiet (fail)
        go_upto_region 9 with (fail)
        refine wp_world fun W9 hW9 => ?_
        have hb9 : Below wr.heap.size wr W9 := by rw [hW9]; exact below_drewN wr _
        have HB9 := Lib.hid hb9
        have hs9 := hb9.size
        clear hW9 hb9 ca2 ca3
        have HR9 : Hid (Row (fun b => w.heap.size ≤ b ∧ b < wr.heap.size) tag W9 (.slice A' k c') css (O.take k)) := HR.out.keep fun b hb _ => HB9.out.block b hb.2
        have HOW : Hid (∀ X, Below W9.heap.size W9 X → X.ownsRow 0 28 4 (.slice A' k c') k css.flatten) := fun X hX => by
          have := (HR9.out.keep (w' := X) fun b hb _ => hX.block b (by omega)).2.1
          rw [HLk.out] at this
          exact this
        have HLk1 : Hid ((O.take (k + 1)).length = k + 1) := by show List.length _ = _; rw [List.length_take, HL.out]; omega
        have HCp := Lib.hid (rcopy_any (some (a.add (k * 4))) 1 (c - k) [o] W9 rfl (((sq_one HS.out HO.out).keep (fun b hb => (HB9.out.block b (by omega)).trans (HB.out.block b hb))).wide fun b hb => by omega) (fun p hp => by simp at hp; subst hp; exact ⟨by rw [EP.out]; omega, by rw [EQ.out]; omega⟩) (by omega))
        go_wp2_with (first
          | (go_at_call 9
             refine HCp.out.mono ?_
             rintro e w1 ⟨v1, u1, css1, tag1, rfl, hr1, hb1⟩
             obtain ⟨A1, c1, rfl, -, -⟩ := hr1.shape
             have hr1 : Row (fun b => W9.heap.size ≤ b ∧ b < w1.heap.size) tag1 w1 (.slice A1 1 c1) css1 [o] := hr1
             obtain ⟨g1, cs1, rfl, -, -, hgl1, hcs1, hcell1, -, hob1⟩ := hr1.cells (j := 0) rfl
             obtain ⟨A2, c2, B2, d2, rfl, -, -⟩ := hob1.parts
             have k0 := hcell1 0 _ rfl
             have k1 := hcell1 1 _ rfl
             have k2 := hcell1 2 _ rfl
             have k3 := hcell1 3 _ rfl
             have HR1 := Lib.hid hr1
             have HC1 := Lib.hid hcs1
             have HB1 := Lib.hid hb1
             have hs1 := hb1.size
             have hfd := fun v => field_st (.slice none 0 0) (.slice (some ⟨g1, 0, none⟩) 1 c1) u1 v rfl
             clear hr1 hcs1 hb1 hcell1 hob1)
          | (at_builtin
             refine walk_append_raw 4 _ rfl (.tmp 79) (.tmp 90) 22 28 rfl (.agg #[.int .i64 0, .int .i64 0, .slice none 0 0, .slice none 0 0]) 64 Try.underlying22 ob_info rfl (by decide) (by omega) 0 (.slice A' k c') k css.flatten rfl (HOW.out _ (HB1.out.alloc HB1.out.size _)) ⟨w1.heap.size, 0, none⟩ 1 rfl [.int .i64 o.kind, .int .i64 o.n, .slice A2 o.words.length c2, .slice B2 o.bytes.length d2] rfl (cell_new w1 28 [.int .i64 o.kind, .int .i64 o.n, .slice A2 o.words.length c2, .slice B2 o.bytes.length d2]) (fun u hu => by simp at hu; rcases hu with rfl | rfl | rfl | rfl <;> rfl) (by omega) (Nat.zero_le _) ?_
             intro v2 w2 hown2 hg2 hv2
             have HPU := Lib.hid (push_copy HR9.out (fun b hb => by omega) HB1.out HR1.out HC1.out (by rw [HLk.out]; exact hown2) hg2 hv2)
             obtain ⟨⟨tag2, hrow2⟩, htr2⟩ := HPU.out
             rw [take_app HO.out] at hrow2
             obtain ⟨A5, c5, rfl, -, -⟩ := hrow2.shape
             rw [HLk1.out] at hrow2
             have HR2 := Lib.hid hrow2
             have hs2 := htr2.size
             have HB2 : Hid (Below w.heap.size w w2) := ((HB.out.trans (HB9.out.mono hsr)).trans (htr2.below (by omega) fun b hb => hb.1))
             clear hown2 hg2 hv2 hrow2 htr2 HPU))
        try simp only [HLk1.out]
        refine ⟨⟨k + 1, tag2, _, A5, c5, by omega, by simp, by rw [show min (k + 1) O.length = k + 1 from by rw [HL.out]; omega], HB2.out, HR2.out.wide (fun b hb => by omega), fun p hp => ?_⟩, by simp [intOf]; omega⟩
        rw [← take_app HO.out] at hp
        rcases List.mem_append.1 hp with h | h
        · exact HSm.out p h
        · simp at h; rw [h, EP.out, EQ.out]; omega
    · have hkn : k = n := by omega
      rw [hkn] at HR HSm ⊢
      have hkk : ¬ ((n : Int) < (n : Int)) := by omega
      have eO : O.take n = O := by rw [← HL.out, List.take_length]
      have HNw : Hid (∀ V, Below wr.heap.size wr V → Calls Try.prog 10 #[.slice A n c, .int .i64 q, .int .i64 u] V fun e w' => ∃ g, e = .returned (.pointer (some ⟨g, 0, none⟩)) ∧ V.heap.size ≤ g ∧ IsHp (fun b => V.heap.size ≤ b ∧ b < w'.heap.size) w' g O (max (-1099511627776) (min q 1099511627776)) (max (-1099511627776) (min u 1099511627776)) ∧ Below V.heap.size V w') := fun V hV =>
        new_any A n c O q u V HL.out ((HS.out.keep (fun b hb => (hV.block b (Nat.lt_of_lt_of_le hb hsr)).trans (HB.out.block b hb))).wide fun b hb => Nat.lt_of_lt_of_le hb (Nat.le_trans hsr hV.size)) (fun o ho => by
          have := HSm.out o (by rw [eO]; exact ho)
          exact ⟨by omega, by omega⟩) (by omega) ⟨by omega, by omega⟩ ⟨by omega, by omega⟩
      have eq : max (-1099511627776) (min q 1099511627776) = q := by omega
      have eu : max (-1099511627776) (min u 1099511627776) = u := by omega
      rw [eO] at HR HSm
      clear hkn hlt hk HLk
      go_wp2_with (first
        | (go_at_call 10
           refine (HNw.out _ (by first | exact Below.refl _ _ | exact (Below.refl _ _).drew)).mono ?_
           rintro e w2 ⟨g, rfl, hg, hp, hb⟩
           rw [eq, eu] at hp
           have hs2 := hb.size
           have HP : Hid (Pl (fun _ => False) w w.heap.size w g q u A' n c' O O w2) := ⟨HB.out.trans (hb.mono hsr), Nat.le_trans hsr hs2, HL.out, by omega, by rw [HL.out]; omega, fun o ho => by have := HSm.out o ho; exact ⟨by omega, by omega⟩, fun o ho => by have := HSm.out o ho; exact ⟨by omega, by omega⟩, _, _, tag, css, HR.out.keep (fun b hb1 _ => hb.block b hb1.2), hp, fun b hb1 => ⟨hb1.1, Nat.lt_of_lt_of_le hb1.2 hs2⟩, fun b hb1 => ⟨Nat.le_trans hsr hb1.1, hb1.2⟩, fun b hb1 hb2 => by have := hb1.2; have := hb2.1; omega, fun b hb1 => hb1.elim⟩
           clear hp hb HNw HR HB HSm))
      go_loopw [2, 9, 12] (fun vu v i wr => ∃ (k : Nat) (U : Int) (A' : Option Addr) (n' c' : Nat) (O' : List Ob), k ≤ m ∧ i = .int .i64 (k : Nat) ∧ vu = .int .i64 U ∧ v = .slice A' n' c' ∧ n' ≤ 20 + k ∧ (-1099511627776 ≤ U ∧ U ≤ 1099511627776 + 10000 * (k : Int)) ∧ Pl (fun _ => False) w w.heap.size w g q U A' n' c' O' O' wr) (fun _ _ i _ => m - (intOf i).toNat)
      case atStart => exact ⟨0, u, A', n, c', O, Nat.zero_le _, rfl, rfl, rfl, by omega, by omega, HP.out⟩
      case round =>
        obtain ⟨k, U, A1, n1, c1, O1, hk, rfl, rfl, rfl, hn1, hU, hpl⟩ := hrel
        have HPl := Lib.hid hpl
        clear hpl
        by_cases hlt : k < m
        · obtain ⟨⟨wh, o, r, i, x⟩, ht⟩ : ∃ t, T[k]? = some t := ⟨T[k]'(by rw [HM.out]; exact hlt), List.getElem?_eq_getElem _⟩
          have htz := HZT.out _ (List.mem_of_getElem? ht)
          obtain ⟨b, cs, eb, hbs, hc, hR⟩ := HT.out.at ht
          clear ht
          subst eb
          obtain ⟨vk, vm, v0, v1, rfl, hw1, hw2, hw3, hw4, hob⟩ := hR
          dsimp only at htz hw1 hw2 hw3 hw4 hob hc
          obtain ⟨A0, c0, B0, d0, e, -⟩ := ob_parts hob
          simp only [List.cons.injEq, and_true] at e
          obtain ⟨rfl, rfl, rfl, rfl⟩ := e
          have hcl : ∀ j v, j < 8 → ([.int .i64 wh, .int .i64 o.kind, .int .i64 o.n, .slice A0 o.words.length c0, .slice B0 o.bytes.length d0, .int .u64 (r : Int), .int .u64 (i : Int), .int .u64 (x : Int)] : List Value)[j]? = some v → wr.cell? (b.add (k * 8 + j)) = some v := fun j v hi hv => (HPl.out.1.cell (p := b.add (k * 8 + j)) (by rw [addBlock]; exact hbs)).trans (hc j v hv)
          have ca0 := hcl 0 _ (by omega) rfl
          have ca1 := hcl 1 _ (by omega) rfl
          have ca2 := hcl 2 _ (by omega) rfl
          have ca3 := hcl 3 _ (by omega) rfl
          have ca4 := hcl 4 _ (by omega) rfl
          have ca5 := hcl 5 _ (by omega) rfl
          have ca6 := hcl 6 _ (by omega) rfl
          have ca7 := hcl 7 _ (by omega) rfl
          rw [Nat.add_zero] at ca0
          rw [next_cell b (k * 8) 1 (by omega)] at ca1
          rw [next_cell b (k * 8) 2 (by omega)] at ca2
          rw [next_cell b (k * 8) 3 (by omega)] at ca3
          rw [next_cell b (k * 8) 4 (by omega)] at ca4
          rw [next_cell b (k * 8) 5 (by omega)] at ca5
          rw [next_cell b (k * 8) 6 (by omega)] at ca6
          rw [next_cell b (k * 8) 7 (by omega)] at ca7
          clear hc hcl
          have k0 : 0 ≤ (k : Int) := by omega
          have k1 : (k : Int) < (m : Int) := by omega
          go_upto_region 15 with (fail)
          refine wp_world fun V hV => ?_
          have hbV : Below wr.heap.size wr V := by rw [hV]; exact (Below.refl _ _).alloc (Nat.le_refl _) _
          have hbx : Blk V wr.heap.size 38 #[.int .i64 wh, .int .i64 o.kind, .int .i64 o.n, .slice A0 o.words.length c0, .slice B0 o.bytes.length d0, .int .u64 (r : Int), .int .u64 (i : Int), .int .u64 (x : Int)] := by rw [hV]; exact blk_at rfl
          have HOB : Hid (obL.R (· < V.heap.size) V [.int .i64 o.kind, .int .i64 o.n, .slice A0 o.words.length c0, .slice B0 o.bytes.length d0] o) := obL.wide (obL.keep hob fun b hb => (hbV.block b (Nat.lt_of_lt_of_le hb HPl.out.2.1)).trans (HPl.out.1.block b hb)) fun b hb => Nat.lt_of_lt_of_le hb (Nat.le_trans HPl.out.2.1 hbV.size)
          have HPV : Hid (Pl (· = wr.heap.size) V w.heap.size w g q U A1 n1 c1 O1 O1 V) := HPl.out.box hbV ⟨Nat.le_refl _, hbx.lt⟩
          have HBX := Lib.hid hbx
          have HOW := Lib.hid hob
          have z0 := hbx.cell 0
          have z1 := hbx.cell 1
          have z2 := hbx.cell 2
          have z3 := hbx.cell 3
          have z4 := hbx.cell 4
          have z5 := hbx.cell 5
          have z6 := hbx.cell 6
          have z7 := hbx.cell 7
          clear hbV hV hbx hob ca0 ca1 ca2 ca3 ca4 ca5 ca6 ca7 HPl
          by_cases h0 : wh = 0
          · subst h0
            as_aux_lemma =>
            obtain ⟨pp, ep⟩ : ∃ p, o.words.length = p := ⟨_, rfl⟩
            obtain ⟨qq, eq0⟩ : ∃ p, o.bytes.length = p := ⟨_, rfl⟩
            rw [ep, eq0] at htz
            have HK := Lib.hid (fun V hz => cost_shape o A0 B0 c0 d0 V hz)
            have HRK := Lib.hid (fun V hz => rcost_shape o A0 B0 c0 d0 V hz)
            rw [ep] at z3 HOB HOW HBX HK HRK
            rw [eq0] at z4 HOB HOW HBX HK HRK
            have wk := wrap_in (x := (pp : Int) + (qq : Int)) ⟨by omega, by omega⟩
            by_cases h300 : 300 < pp + qq
            · have d3 : decide ((300 : Int) < (pp : Int) + (qq : Int)) = true := by simp; omega
              go_wp2_with fail
              refine ⟨⟨k + 1, U, A1, n1, c1, O1, by omega, by simp, rfl, rfl, by omega, by omega, HPV.out.free⟩, by simp [intOf]; omega⟩
            have d3 : decide ((300 : Int) < (pp : Int) + (qq : Int)) = false := by simp; omega
            have hz : o.small := ⟨by omega, by omega⟩
            have hck : 16 ≤ o.cost ∧ o.cost ≤ 3000 := by unfold Ob.cost; omega
            obtain ⟨ck, eck⟩ : ∃ x, o.cost = x := ⟨_, rfl⟩
            have HZO := Lib.hid hz
            have ECK := Lib.hid eck
            have EP := Lib.hid ep
            have EQ := Lib.hid eq0
            have HKc : Hid (∀ V, Calls Try.prog 13 #[.agg #[.int .i64 o.kind, .int .i64 o.n, .slice A0 pp c0, .slice B0 qq d0]] V fun e w' => e = .returned (.int .i64 ck) ∧ Below V.heap.size V w') := fun V => by rw [← eck]; exact HK.out V hz
            have HRKc : Hid (∀ V, Calls Try.prog 12 #[.agg #[.int .i64 o.kind, .int .i64 o.n, .slice A0 pp c0, .slice B0 qq d0]] V fun e w' => e = .returned (.int .i64 ck) ∧ Below V.heap.size V w') := fun V => by rw [← eck]; exact HRK.out V hz
            rw [eck] at hck
            have wq := wrap_in (x := q - ck) ⟨by omega, by omega⟩
            have wu := wrap_in (x := U + ck) ⟨by omega, by omega⟩
            by_cases hf : q - ck < U
            · have d4 : decide (U ≤ q - ck) = false := by simp; omega
              have HAdd : Hid (Calls Try.prog 11 #[.pointer (some ⟨g, 0, none⟩), .agg #[.int .i64 o.kind, .int .i64 o.n, .slice A0 pp c0, .slice B0 qq d0]] V fun e w' => e = .returned (.tuple #[.int .u64 0, .bool false]) ∧ Pl (· = wr.heap.size) V w.heap.size w g q U A1 n1 c1 O1 O1 w') := pl_add_full [.int .i64 o.kind, .int .i64 o.n, .slice A0 pp c0, .slice B0 qq d0] o HPV.out HOB.out hz ⟨by omega, by omega⟩ ⟨by omega, by omega⟩ (by rw [eck]; exact hf)
              clear hz eck ep eq0 HK HRK
              go_wp2_with (first
              | (go_at_call 11
                 refine HAdd.out.mono ?_
                 rintro e w1 ⟨rfl, hp1⟩
                 have HP1 := Lib.hid hp1
                 have bx := hp1.at HBX.out
                 have y1 := bx.cell 1
                 have y2 := bx.cell 2
                 have y3 := bx.cell 3
                 have y4 := bx.cell 4
                 clear hp1 bx)
              | (go_at_call 12
                 refine (HRKc.out _).mono ?_
                 rintro e w2 ⟨rfl, hb2⟩
                 have HP2 : Hid (Pl (· = wr.heap.size) V w.heap.size w g q U A1 n1 c1 O1 O1 w2) := HP1.out.below (by first | exact hb2 | exact (Below.refl _ _).drew.trans hb2)
                 clear hb2))
              refine ⟨⟨k + 1, U, A1, n1, c1, O1, by omega, by simp, rfl, rfl, by omega, by omega, HP2.out.free⟩, by simp [intOf]; omega⟩
            have d4 : decide (U ≤ q - ck) = true := by simp; omega
            have EL : Hid (O1.length = n1) := HPV.out.2.2.1
            have hl1 : O1.length = n1 := EL.out
            have HAdd : Hid (Calls Try.prog 11 #[.pointer (some ⟨g, 0, none⟩), .agg #[.int .i64 o.kind, .int .i64 o.n, .slice A0 pp c0, .slice B0 qq d0]] V fun e w' => e = .returned (.tuple #[.int .u64 ((n1 : Int) + 1), .bool true]) ∧ Pl (· = wr.heap.size) V w.heap.size w g q (U + ck) A1 n1 c1 O1 (O1 ++ [o]) w') := by
              have := pl_add_fits [.int .i64 o.kind, .int .i64 o.n, .slice A0 pp c0, .slice B0 qq d0] o HPV.out HOB.out hz ⟨by omega, by omega⟩ ⟨by omega, by omega⟩ (by rw [eck]; exact hf) (by rw [hl1]; omega)
              rw [hl1, eck] at this
              exact this
            clear hz eck ep eq0 HK HRK hl1
            go_upto_region 23 with (first
              | (go_at_call 11
                 refine HAdd.out.mono ?_
                 rintro e w1 ⟨rfl, hp1⟩
                 have HP1 := Lib.hid hp1
                 have bx := hp1.at HBX.out
                 have y1 := bx.cell 1
                 have y2 := bx.cell 2
                 have y3 := bx.cell 3
                 have y4 := bx.cell 4
                 clear hp1 bx)
              | (go_at_call 12
                 refine (HRKc.out _).mono ?_
                 rintro e w2 ⟨rfl, hb2⟩
                 have HP2 : Hid (Pl (· = wr.heap.size) V w.heap.size w g q (U + ck) A1 n1 c1 O1 (O1 ++ [o]) w2) := HP1.out.below (by first | exact hb2 | exact (Below.refl _ _).drew.trans hb2)
                 clear hb2))
            have bx := HP2.out.at HBX.out
            have x1 := bx.cell 1
            have x2 := bx.cell 2
            have x3 := bx.cell 3
            have x4 := bx.cell 4
            obtain ⟨p1, p2, -, -, p5, p6, p7, Sm, Sh, tag2, css2, hr, hp, hm, hh, hd⟩ := HP2.out
            have P1 := Lib.hid p1
            have P2 := Lib.hid p2
            have P5 := Lib.hid p5
            have P6 := Lib.hid p6
            have P7 := Lib.hid p7
            have PR := Lib.hid hr
            have PP := Lib.hid hp
            have PM := Lib.hid hm
            have PH := Lib.hid hh
            have PD := Lib.hid hd
            have HOR : Hid (∀ X, Below w2.heap.size w2 X → X.ownsRow 0 28 4 (.slice A1 n1 c1) n1 css2.flatten) := fun X hX => by
              have := (PR.out.keep (w' := X) fun b hb _ => hX.block b (PM.out b hb).2).2.1
              rw [EL.out] at this
              exact this
            have HCp := Lib.hid (rcopy_any (some ⟨w2.heap.size, 0, none⟩) 1 1 [o] (w2.alloc (.cells #[.int .i64 o.kind, .int .i64 o.n, .slice A0 pp c0, .slice B0 qq d0] 28)) rfl (sq_new (cs := [.int .i64 o.kind, .int .i64 o.n, .slice A0 pp c0, .slice B0 qq d0]) (obL.wide (obL.keep HOW.out fun b hb => p1.block b hb) fun b hb => Nat.lt_of_lt_of_le hb p2)) (fun p hp => by simp at hp; subst hp; exact ⟨by rw [EP.out]; omega, by rw [EQ.out]; omega⟩) (by omega))
            clear bx p1 p2 p5 p6 p7 hr hp hm hh hd
            go_upto_region 25 with (first
              | (go_at_call 9
                 refine HCp.out.mono ?_
                 rintro e w3 ⟨v1, u1, css1, tag1, rfl, hr1, hb1⟩
                 obtain ⟨A2, c2, rfl, -, -⟩ := hr1.shape
                 have hb3 : Below w2.heap.size w2 w3 := ((Below.refl w2.heap.size w2).alloc (Nat.le_refl _) _).trans (hb1.mono (by simp))
                 have hr3 : Row (fun b => w2.heap.size ≤ b ∧ b < w3.heap.size) tag1 w3 (.slice A2 1 c2) css1 [o] := hr1.wide fun b hb => ⟨by have := hb.1; simp at this; omega, hb.2⟩
                 obtain ⟨g1, cs1, rfl, -, -, hgl1, hcs1, hcell1, -, hob1⟩ := hr3.cells (j := 0) rfl
                 obtain ⟨A3, c3, B3, d3, rfl, -, -⟩ := hob1.parts
                 have k0 := hcell1 0 _ rfl
                 have k1 := hcell1 1 _ rfl
                 have k2 := hcell1 2 _ rfl
                 have k3 := hcell1 3 _ rfl
                 have HR3 := Lib.hid hr3
                 have HC3 := Lib.hid hcs1
                 have HB3 := Lib.hid hb3
                 have hfd := fun v => field_st (.slice none 0 0) (.slice (some ⟨g1, 0, none⟩) 1 c2) u1 v rfl
                 clear hr1 hcs1 hb1 hcell1 hob1 hb3 hr3)
              | (at_builtin
                 refine walk_append_raw 4 _ rfl (.tmp 146) (.tmp 155) 22 28 rfl (.agg #[.int .i64 0, .int .i64 0, .slice none 0 0, .slice none 0 0]) 64 Try.underlying22 ob_info rfl (by decide) (by omega) 0 (.slice A1 n1 c1) n1 css2.flatten rfl (HOR.out _ (HB3.out.alloc HB3.out.size _)) ⟨w3.heap.size, 0, none⟩ 1 rfl [.int .i64 o.kind, .int .i64 o.n, .slice A3 o.words.length c3, .slice B3 o.bytes.length d3] rfl (cell_new w3 28 [.int .i64 o.kind, .int .i64 o.n, .slice A3 o.words.length c3, .slice B3 o.bytes.length d3]) (fun u hu => by simp at hu; rcases hu with rfl | rfl | rfl | rfl <;> rfl) (by omega) (Nat.zero_le _) ?_
                 intro v2 w4 hown2 hg2 hv2
                 obtain ⟨A5, c5, rfl, hp4⟩ := Pl.push P1.out P2.out EL.out (by omega) P5.out P6.out P7.out PR.out PP.out PM.out PH.out PD.out HZO.out HB3.out HR3.out HC3.out hown2 hg2 hv2
                 have HP4 := Lib.hid hp4
                 have bx4 := hp4.at HBX.out
                 have t1 := bx4.cell 1
                 have t2 := bx4.cell 2
                 have t3 := bx4.cell 3
                 have t4 := bx4.cell 4
                 clear hown2 hg2 hv2 hp4 bx4)
              | (go_at_call 12
                 refine (HRKc.out _).mono ?_
                 rintro e w5 ⟨rfl, hb5⟩
                 have HP5 : Hid (Pl (· = wr.heap.size) V w.heap.size w g q (U + ck) A5 (n1 + 1) c5 (O1 ++ [o]) (O1 ++ [o]) w5) := HP4.out.below (by first | exact hb5 | exact (Below.refl _ _).drew.trans hb5)
                 clear hb5))
            have hb5 := HP5.out.at HBX.out
            have e0 := cell_regrown (hb5.cell 0)
            have e1 := cell_regrown (hb5.cell 1)
            have e2 := cell_regrown (hb5.cell 2)
            have e3 := cell_regrown (hb5.cell 3)
            have e4 := cell_regrown (hb5.cell 4)
            have wn : IntKind.u64.wrap ((n1 : Int) + 1) = (n1 : Int) + 1 := IntWalk.u64_in _ (by omega)
            have hrg : Hid (∀ dq osq, Pl (· = wr.heap.size) V w.heap.size w g q (U + ck) A5 (n1 + 1) c5 (O1 ++ [o]) (O1 ++ [o]) (Go.Sort.grow (redrawn w5 dq) osq)) := fun dq osq => HP5.out.below (below_regrown w5 dq osq)
            clear hb5
            refine wp_region_quiet_below (by kernel_rfl) (by kernel_rfl) ?_
            repeat (quiet_step (first | with_reducible exact Calls.regrown_of (HKc.out _) | with_reducible exact Calls.regrown_of (HRKc.out _)))
            refine wpQuiet_nil ?_
            intro _ hw'
            obtain ⟨⟨dq, osq⟩, hw''⟩ := hw'
            subst hw''
            go_wp2_with fail
            refine ⟨⟨k + 1, U + ck, A5, n1 + 1, c5, O1 ++ [o], by omega, by simp, rfl, rfl, by omega, by omega, (hrg.out dq osq).free⟩, by simp [intOf]; omega⟩
          by_cases h1 : wh = 1
          · subst h1
            as_aux_lemma =>
            go_wp2_with (first
            | (go_at_call 14
               refine (pl_word r i (HPV.out.below (by first | exact Below.refl _ _ | exact (Below.refl _ _).drew)) hw2 hw3).mono ?_
               rintro e w1 ⟨rfl, hp1⟩
               have HP1 := Lib.hid hp1
               have bx := hp1.at HBX.out
               have y0 := bx.cell 0
               have y1 := bx.cell 1
               have y2 := bx.cell 2
               have y3 := bx.cell 3
               have y4 := bx.cell 4
               have y5 := bx.cell 5
               have y6 := bx.cell 6
               have y7 := bx.cell 7
               clear hp1 bx)
            | (go_at_call 15
               refine (pl_same_word r i x _ _ _ _ (HP1.out.below (by first | exact Below.refl _ _ | exact (Below.refl _ _).drew)) hw2 hw3 hw4).mono ?_
               rintro e w2 ⟨rfl, hp2⟩
               have HP2 := Lib.hid hp2
               clear hp2))
            refine ⟨⟨k + 1, U, A1, n1, c1, _, by omega, by simp, rfl, rfl, by omega, by omega, HP2.out.free⟩, by simp [intOf]; omega⟩
          by_cases h2 : wh = 2
          · subst h2
            as_aux_lemma =>
            go_wp2_with (first
            | (go_at_call 15
               refine (pl_same_setWord r i x _ _ _ _ (HPV.out.below (by first | exact Below.refl _ _ | exact (Below.refl _ _).drew)) hw2 hw3 hw4).mono ?_
               rintro e w1 ⟨y, rfl, hp1⟩
               have HP1 := Lib.hid hp1
               have bx := hp1.at HBX.out
               have y0 := bx.cell 0
               have y1 := bx.cell 1
               have y2 := bx.cell 2
               have y3 := bx.cell 3
               have y4 := bx.cell 4
               have y5 := bx.cell 5
               have y6 := bx.cell 6
               have y7 := bx.cell 7
               clear hp1 bx)
            | (go_at_call 16
               refine (pl_setWord r i x (HP1.out.below (by first | exact Below.refl _ _ | exact (Below.refl _ _).drew)) hw2 hw3 hw4).mono ?_
               rintro e w2 ⟨rfl, hp2⟩
               have HP2 := Lib.hid hp2
               clear hp2))
            refine ⟨⟨k + 1, U, A1, n1, c1, _, by omega, by simp, rfl, rfl, by omega, by omega, HP2.out.free⟩, by simp [intOf]; omega⟩
          by_cases h3 : wh = 3
          · subst h3
            as_aux_lemma =>
            go_wp2_with (first
            | (go_at_call 17
               refine (pl_byte r i (HPV.out.below (by first | exact Below.refl _ _ | exact (Below.refl _ _).drew)) hw2 hw3).mono ?_
               rintro e w1 ⟨rfl, hp1⟩
               have HP1 := Lib.hid hp1
               have bx := hp1.at HBX.out
               have y0 := bx.cell 0
               have y1 := bx.cell 1
               have y2 := bx.cell 2
               have y3 := bx.cell 3
               have y4 := bx.cell 4
               have y5 := bx.cell 5
               have y6 := bx.cell 6
               have y7 := bx.cell 7
               clear hp1 bx)
            | (go_at_call 15
               refine (pl_same_byte r i x _ _ _ _ (HP1.out.below (by first | exact Below.refl _ _ | exact (Below.refl _ _).drew)) hw2 hw3 hw4).mono ?_
               rintro e w2 ⟨rfl, hp2⟩
               have HP2 := Lib.hid hp2
               clear hp2))
            refine ⟨⟨k + 1, U, A1, n1, c1, _, by omega, by simp, rfl, rfl, by omega, by omega, HP2.out.free⟩, by simp [intOf]; omega⟩
          by_cases h4 : wh = 4
          · subst h4
            as_aux_lemma =>
            go_wp2_with (first
            | (go_at_call 15
               refine (pl_same_setByte r i x _ _ _ _ (HPV.out.below (by first | exact Below.refl _ _ | exact (Below.refl _ _).drew)) hw2 hw3 hw4).mono ?_
               rintro e w1 ⟨y, rfl, hp1⟩
               have HP1 := Lib.hid hp1
               have bx := hp1.at HBX.out
               have y0 := bx.cell 0
               have y1 := bx.cell 1
               have y2 := bx.cell 2
               have y3 := bx.cell 3
               have y4 := bx.cell 4
               have y5 := bx.cell 5
               have y6 := bx.cell 6
               have y7 := bx.cell 7
               clear hp1 bx)
            | (go_at_call 18
               refine (pl_setByte r i x (HP1.out.below (by first | exact Below.refl _ _ | exact (Below.refl _ _).drew)) hw2 hw3 hw4).mono ?_
               rintro e w2 ⟨rfl, hp2⟩
               have HP2 := Lib.hid hp2
               clear hp2))
            refine ⟨⟨k + 1, U, A1, n1, c1, _, by omega, by simp, rfl, rfl, by omega, by omega, HP2.out.free⟩, by simp [intOf]; omega⟩
          have wl : IntKind.u64.wrap (lenA O1 r).1 = (lenA O1 r).1 := by
            have := len_range (O := O1) (r := r) HPV.out.2.2.2.2.2.1
            exact IntWalk.u64_in _ (by omega)
          by_cases h5 : wh = 5
          · subst h5
            as_aux_lemma =>
            go_wp2_with (first
            | (go_at_call 19
               refine (pl_len r (HPV.out.below (by first | exact Below.refl _ _ | exact (Below.refl _ _).drew)) hw2).mono ?_
               rintro e w1 ⟨rfl, hp1⟩
               have HP1 := Lib.hid hp1
               have bx := hp1.at HBX.out
               have y0 := bx.cell 0
               have y1 := bx.cell 1
               have y2 := bx.cell 2
               have y3 := bx.cell 3
               have y4 := bx.cell 4
               have y5 := bx.cell 5
               have y6 := bx.cell 6
               have y7 := bx.cell 7
               clear hp1 bx)
            | (go_at_call 15
               refine (pl_same_len r i x _ _ _ _ (HP1.out.below (by first | exact Below.refl _ _ | exact (Below.refl _ _).drew)) hw2 hw3 hw4).mono ?_
               rintro e w2 ⟨rfl, hp2⟩
               have HP2 := Lib.hid hp2
               clear hp2))
            refine ⟨⟨k + 1, U, A1, n1, c1, _, by omega, by simp, rfl, rfl, by omega, by omega, HP2.out.free⟩, by simp [intOf]; omega⟩
          have f0 : (wh == 0) = false := by simp [h0]
          have f1 : (wh == 1) = false := by simp [h1]
          have f2 : (wh == 2) = false := by simp [h2]
          have f3 : (wh == 3) = false := by simp [h3]
          have f4 : (wh == 4) = false := by simp [h4]
          have f5 : (wh == 5) = false := by simp [h5]
          go_wp2_with fail
          refine ⟨⟨k + 1, U, A1, n1, c1, O1, by omega, by simp, rfl, rfl, by omega, by omega, HPV.out.free⟩, by simp [intOf]; omega⟩
        · have hkm : ¬ ((k : Int) < (m : Int)) := by omega
          go_wp2_with (first
            | (go_at_call 8
               refine (AN.out _).mono ?_
               rintro e w3 ⟨rfl, hb3⟩
               have HP3 : Hid (Pl (fun _ => False) w w.heap.size w g q U A1 n1 c1 O1 O1 w3) := HPl.out.below (by first | exact hb3 | exact (Below.refl _ _).drew.trans hb3)
               clear hb3)
            | (go_at_call 20
               refine (pl_used HP3.out).mono ?_
               rintro e w4 ⟨rfl, rfl⟩)
            | (go_at_call 22
               refine (pl_objs HP3.out).mono ?_
               rintro e w5 ⟨A5, c5, rfl, hs5, hp5⟩
               rw [hp5.2.2.1]
               have HS5 := Lib.hid hs5
               have HP5 := Lib.hid hp5
               clear hs5 hp5)
            | (go_at_call 21
               refine (robjs_yes A5 A1 n1 c5 c1 O1 w5 _ _ HP5.out.2.2.1 (fun b hb => hb) (fun b hb => hb) HS5.out (pl_sq HP5.out) HP5.out.2.2.2.2.2.1 (by omega)).mono ?_
               rintro e w6 ⟨rfl, hb6⟩
               have HB6 : Hid (Below w.heap.size w w6) := HP5.out.1.trans (hb6.mono HP5.out.2.1)
               clear hb6))
          go_ret
          exact ⟨by simp, HB6.out⟩

set_option maxRecDepth 100000 in
theorem lifted (os : Os) (started : os.Started) (H : Type) (enc : TypeId × Value → H) :
    ReturnsInHanded {} Try.checked os 3 .any (Rows.heapPlaysSpec.pre6 enc Try.prog Try.f3 Rows.heapPlaysRow.domain false) (Rows.heapPlaysSpec.post enc Try.prog Try.f3 false true false false) := by
  refine returnsInHanded_of_change_sized (C := Try.checked) own started (by kernel_rfl) Try.func3
    (ChangeSpec.witness6 (enc := enc) (C := Try.checked) false ⟨#[], #[.slice none 0 0, .int .i64 0, .int .i64 0, .slice none 0 0], []⟩ 8 (by kernel_rfl) (by kernel_rfl) (by kernel_rfl) (by kernel_rfl)) ?_
  intro W base args ds gs before hval0 hW hcnd hwz _
  have hval : ∀ (j : Nat) t v, Try.f3.params[j]? = some t → args[j]? = some v → Value.okWide Try.prog W .any base t v := hval0
  have hW' := hW
  obtain ⟨p, q, hA0, hV, rfl, hfz, hnd⟩ := hW
  have hA : DataW.TrodAll enc Try.prog W 0 (fun _ => true) true Try.f3.params.toList args.toList ds p := hA0
  rw [Try.params3] at hA hval
  obtain ⟨v0, vs0, d0, ds0, p0, q0, hargs, rfl, rfl, h0, r0⟩ := trodAll_cons hA
  obtain ⟨v1, vs1, d1, ds1, p1, q1, rfl, rfl, rfl, h1, r1⟩ := trodAll_cons r0
  obtain ⟨v2, vs2, d2, ds2, p2, q2, rfl, rfl, rfl, h2, r2⟩ := trodAll_cons r1
  obtain ⟨v3, vs3, d3, ds3, p3, q3, rfl, rfl, rfl, h3, r3⟩ := trodAll_cons r2
  obtain ⟨rfl, rfl, rfl⟩ := trodAll_nil r3
  obtain rfl : args = #[v0, v1, v2, v3] := by cases args; simp_all
  obtain ⟨rfl, rfl⟩ := trodVars_none hV
  obtain ⟨a0, len0, cap0, rfl⟩ := okWide_slice Try.underlying22 (hval 0 22 v0 rfl rfl)
  have lt0 : ∀ x ∈ p0, x.block < W.heap.size := by obtain ⟨m, hm⟩ := h0; exact DataW.trod_lt m _ _ _ hm
  have hwz0 : ∀ n ∈ d0.weights Try.prog 22, n ≤ reachBytes := fun n hn => by simpa using List.all_eq_true.1 hwz n (DataW.weights_mem_each (j := 0) (t := 22) (d := d0) (by first | rfl | kernel_rfl) rfl n hn)
  obtain ⟨O0, hx0, hO0, hz0⟩ := open_obsZ h0 hwz0
  obtain ⟨a1, rfl, rfl, rfl, w1⟩ := open_int Try.underlying3 (hval 1 3 v1 rfl rfl) h1
  obtain ⟨a2, rfl, rfl, rfl, w2⟩ := open_int Try.underlying3 (hval 2 3 v2 rfl rfl) h2
  obtain ⟨a3, len3, cap3, rfl⟩ := okWide_slice Try.underlying23 (hval 3 23 v3 rfl rfl)
  have lt3 : ∀ x ∈ p3, x.block < W.heap.size := by obtain ⟨m, hm⟩ := h3; exact DataW.trod_lt m _ _ _ hm
  have hwz3 : ∀ n ∈ d3.weights Try.prog 23, n ≤ reachBytes := fun n hn => by simpa using List.all_eq_true.1 hwz n (DataW.weights_mem_each (j := 3) (t := 23) (d := d3) (by first | rfl | kernel_rfl) rfl n hn)
  obtain ⟨T3, hx3, hO3, hz3⟩ := open_actsZ h3 hwz3
  clear hA0 hval0
  refine (walk a0 len0 cap0 O0 a1 a2 a3 len3 cap3 T3 W hx0 hO0 hz0 (i64_of w1) (i64_of w2) hx3 hO3 hz3).mono fun e W' ⟨he, bel⟩ => ?_
  subst he
  exact ⟨_, rfl, _, _, _, [], _, [], hW', trodAll_mk1 (shut_bool Try.underlying4 _), (trodAll_cons_mk (Below.trod laidOut (by kernel_rfl) (of_decide_eq_true (by kernel_rfl)) h0 bel lt0) (trodAll_cons_mk (shut_int Try.underlying3 w1) (trodAll_cons_mk (shut_int Try.underlying3 w2) (trodAll_cons_mk (Below.trod laidOut (by kernel_rfl) (of_decide_eq_true (by kernel_rfl)) h3 bel lt3) trodAll_mk0)))), rfl, bel.frame _, fun h => by cases h⟩

theorem over : Rows.heapPlaysRow.holds Try.pinned (OpenSpec.ofChange Rows.heapPlaysSpec) :=
  OpenClaim.holds_of_wide 3 Try.f3 rfl rfl rfl rfl rfl rfl rfl ⟨rfl, rfl, rfl, rfl, rfl⟩ rfl rfl rfl rfl rfl (by kernel_rfl) Try.func3 (by kernel_rfl)
    (of_decide_eq_true (by kernel_rfl)) (by unfold Func.isWrapper; first | (rw [if_pos (by decide +kernel)]; kernel_rfl) | (rw [if_neg (by decide +kernel)]; exact ⟨rfl, rfl⟩))
    (fun os started H enc _ => lifted os started H enc)

/-- The statement. -/
theorem proved : Rows.HeapPlaysSaid := over
end Go.Proofs.Ytdadaklkaehmjaa.heapPlays
