/-
  What heap.copies does.
  Conditions: as each theorem says.
-/
import Derived.Test.YtdadaklkaehmjaaHd
namespace Go.Proofs.Ytdadaklkaehmjaa
open Go.RowKit
set_option linter.unusedSimpArgs false
set_option linter.unusedVariables false

theorem take_put {O : List Ob} {k n : Nat} {o : Ob} (hl : O.length = n) (hk : O[k]? = some o) : (O.take k ++ List.replicate (n - k) ob0).set k o = O.take (k + 1) ++ List.replicate (n - (k + 1)) ob0 := by
  obtain ⟨h, rfl⟩ := List.getElem?_eq_some_iff.1 hk
  rw [List.set_append_right _ _ (by simp; omega), List.take_succ_eq_append_getElem h, List.append_assoc]
  congr 1
  obtain ⟨m, hm⟩ : ∃ m, n - k = m + 1 := ⟨n - k - 1, by omega⟩
  rw [hm, List.replicate_succ, show n - (k + 1) = m by omega]
  simp [Nat.min_eq_left (Nat.le_of_lt h)]

set_option maxRecDepth 100000 in
set_option maxHeartbeats 4000000 in
theorem copies_any (A : Option Addr) (n c : Nat) (O : List Ob) (w : World) (hl : O.length = n) (h : Sq obL (· < w.heap.size) w A O) (hz : ∀ o ∈ O, o.small) (hn : n ≤ 100000) : Calls Try.prog 23 #[.slice A n c] w fun e w' =>
    ∃ v css tag, e = .returned v ∧ Row (fun b => w.heap.size ≤ b ∧ b < w'.heap.size) tag w' v css O ∧ Below w.heap.size w w' := by
  have HL := Lib.hid hl
  have HS := Lib.hid h
  have HZ := Lib.hid hz
  have M1 := run_make_ob n (by omega)
  clear hl h hz
  go_enter Try.func23, Try.ntmps23
  go_upto_region 3 with (fail)
  refine wp_world fun W hW => ?_
  have HR0 : Hid (Row (fun b => w.heap.size ≤ b ∧ b < W.heap.size) (fun _ => 1) W (.slice (some ⟨w.heap.size, 0, none⟩) n n) (List.replicate n zer4) (List.replicate n ob0)) := by
    have := Row.made w n (by omega)
    rw [← hW] at this
    exact this.wide fun b hb => by subst hb; exact ⟨Nat.le_refl _, by rw [hW]; simp⟩
  have HB0 : Hid (Below w.heap.size w W) := by show Below _ _ _; rw [hW]; exact (Below.refl _ _).alloc (Nat.le_refl _) _
  have s0 : w.heap.size < W.heap.size := by rw [hW]; simp
  clear hW M1
  go_loopw [11] (fun i wr => ∃ k : Nat, k ≤ n ∧ i = .int .i64 (k : Nat) ∧ Below w.heap.size w wr ∧ w.heap.size < wr.heap.size ∧ ∃ css tag, Row (fun b => w.heap.size ≤ b ∧ b < wr.heap.size) tag wr (.slice (some ⟨w.heap.size, 0, none⟩) n n) css (O.take k ++ List.replicate (n - k) ob0)) (fun i _ => n - (intOf i).toNat)
  case atStart => exact ⟨0, Nat.zero_le _, rfl, HB0.out, s0, _, _, by simpa using HR0.out⟩
  case round =>
    obtain ⟨k, hk, rfl, hbel, hsz, css, tag, hrow⟩ := hrel
    have HB := Lib.hid hbel
    have HR := Lib.hid hrow
    clear hbel hrow HR0 HB0
    by_cases hlt : k < n
    · obtain ⟨o, ho⟩ : ∃ o, O[k]? = some o := ⟨O[k]'(by rw [HL.out]; exact hlt), List.getElem?_eq_getElem _⟩
      obtain ⟨a, cs, ea, hab, hc, hR⟩ := HS.out.at ho
      have HO := Lib.hid ho
      have HQ := Lib.hid hR
      clear ho
      subst ea
      obtain ⟨A0, c0, B0, d0, rfl, -⟩ := ob_parts hR
      clear hR
      have ca0 := (HB.out.cell (p := a.add (k * 4)) (by rw [addBlock]; exact hab)).trans (hc 0 _ rfl)
      have ca1 := (HB.out.cell (p := a.add (k * 4 + 1)) (by rw [addBlock]; exact hab)).trans (hc 1 _ rfl)
      rw [next_cell a (k * 4) 1 (by omega)] at ca1
      have ca2 := (HB.out.cell (p := a.add (k * 4 + 2)) (by rw [addBlock]; exact hab)).trans (hc 2 _ rfl)
      rw [next_cell a (k * 4) 2 (by omega)] at ca2
      have ca3 := (HB.out.cell (p := a.add (k * 4 + 3)) (by rw [addBlock]; exact hab)).trans (hc 3 _ rfl)
      rw [next_cell a (k * 4) 3 (by omega)] at ca3
      clear hc
      have hcall : Hid (∀ V, Below wr.heap.size wr V → Calls Try.prog 25 #[.agg #[.int .i64 o.kind, .int .i64 o.n, .slice A0 o.words.length c0, .slice B0 o.bytes.length d0]] V fun e w' =>
          ∃ A c B d m, e = .returned (.agg #[.int .i64 o.kind, .int .i64 o.n, .slice A o.words.length c, .slice B o.bytes.length d]) ∧ (V.heap.size ≤ m ∧ m ≤ w'.heap.size) ∧ Obj1 (fun b => V.heap.size ≤ b ∧ b < m) (fun b => m ≤ b ∧ b < w'.heap.size) w' [.int .i64 o.kind, .int .i64 o.n, .slice A o.words.length c, .slice B o.bytes.length d] o ∧ Below V.heap.size V w') := fun V hV => by
        have hb := HB.out.trans (hV.mono (Nat.le_of_lt hsz))
        exact copied_flat _ o V (obL.wide (obL.keep HQ.out fun b hb1 => hb.block b hb1) fun b hb1 => Nat.lt_of_lt_of_le hb1 hb.size) (HZ.out o (List.mem_of_getElem? HO.out))
      generalize o.kind = kk at *
      generalize o.n = nn at *
      generalize o.words.length = pp at *
      generalize o.bytes.length = qq at *
      go_upto_region 5 with (fail)
      refine wp_world fun V hV => ?_
      have HBV : Hid (Below wr.heap.size wr V) := by show Below _ _ _; rw [hV]; exact (Below.refl _ _).alloc (Nat.le_refl _) _
      have b0 : Blk V wr.heap.size 28 #[.int .i64 kk, .int .i64 nn, .slice A0 pp c0, .slice B0 qq d0] := by rw [hV]; exact blk_at rfl
      have sV : V.heap.size = wr.heap.size + 1 := by rw [hV]; simp
      clear hV ca0 ca1 ca2 ca3
      have e0 := b0.cell 0
      have e1 := b0.cell 1
      have e2 := b0.cell 2
      have e3 := b0.cell 3
      clear b0
      have HRV : Hid (Row (fun b => w.heap.size ≤ b ∧ b < wr.heap.size) tag V (.slice (some ⟨w.heap.size, 0, none⟩) n n) css (O.take k ++ List.replicate (n - k) ob0)) := HR.out.keep fun b hb _ => HBV.out.block b hb.2
      have HlO : Hid ((O.take k ++ List.replicate (n - k) ob0).length = n) := by show List.length _ = n; have := HL.out; simp; omega
      go_upto_region 6 with (first
        | (go_at_call 25
           refine (hcall.out V HBV.out).mono ?_
           rintro e w1 ⟨A1, c1, B1, d1, m, rfl, ⟨hm1, hm2⟩, hob, hb1⟩
           have HR1 : Hid (Row (fun b => w.heap.size ≤ b ∧ b < wr.heap.size) tag w1 (.slice (some ⟨w.heap.size, 0, none⟩) n n) css (O.take k ++ List.replicate (n - k) ob0)) := HRV.out.keep fun b hb _ => hb1.block b (by omega)
           have HO1 := Lib.hid hob
           have HB1 := Lib.hid hb1
           have s1 := hb1.size
           have fr := fun i => HR1.out.frozen0 rfl (by rw [HlO.out]; omega) i
           have fr0 := fr (k * 4)
           have fr1 := fr (k * 4 + 1)
           have fr2 := fr (k * 4 + 2)
           have fr3 := fr (k * 4 + 3)
           obtain ⟨x0, x1, x2, x3, g0, g1, g2, g3⟩ := HR1.out.four (j := k) (by rw [HlO.out]; omega)
           clear hob hb1 fr))
      refine wp_world fun V2 hV2 => ?_
      obtain ⟨tag', hrow', -⟩ := HR1.out.put (j := k) (by rw [HlO.out]; omega) HO1.out (fun b (hb : V.heap.size ≤ b ∧ b < m) (hs : w.heap.size ≤ b ∧ b < wr.heap.size) => by omega) (fun b (hb : m ≤ b ∧ b < w1.heap.size) (hs : w.heap.size ≤ b ∧ b < wr.heap.size) => by omega) (fun b (hb : V.heap.size ≤ b ∧ b < m) (hs : m ≤ b ∧ b < w1.heap.size) => by omega)
      rw [take_put HL.out HO.out] at hrow'
      have HR2 : Hid (Row (fun b => w.heap.size ≤ b ∧ b < V2.heap.size) tag' V2 (.slice (some ⟨w.heap.size, 0, none⟩) n n) (css.set k [.int .i64 kk, .int .i64 nn, .slice A1 pp c1, .slice B1 qq d1]) (O.take (k + 1) ++ List.replicate (n - (k + 1)) ob0)) := by
        rw [hV2]
        refine (show Row _ _ (put4 w1 w.heap.size (k * 4) _ _ _ _) _ _ _ from hrow').wide fun b hb => ?_
        have := put4_size w1 w.heap.size (k * 4) (.int .i64 kk) (.int .i64 nn) (.slice A1 pp c1) (.slice B1 qq d1)
        unfold put4 at this
        rw [this]
        rcases hb with (hb : w.heap.size ≤ b ∧ b < wr.heap.size) | (hb : V.heap.size ≤ b ∧ b < m) | (hb : m ≤ b ∧ b < w1.heap.size)
        · omega
        · omega
        · omega
      have s2 : V2.heap.size = w1.heap.size := by
        rw [hV2]
        exact put4_size w1 w.heap.size (k * 4) (.int .i64 kk) (.int .i64 nn) (.slice A1 pp c1) (.slice B1 qq d1)
      have HB2 : Hid (Below w.heap.size w V2) := by
        show Below _ _ _
        rw [hV2]
        exact (HB.out.trans ((HBV.out.trans (HB1.out.mono (by omega))).mono (by omega))).trans (below_only (put4_only w1 w.heap.size (k * 4) (.int .i64 kk) (.int .i64 nn) (.slice A1 pp c1) (.slice B1 qq d1)) (Nat.le_refl _) (by omega))
      clear hV2 hrow' fr0 fr1 fr2 fr3 g0 g1 g2 g3 e0 e1 e2 e3
      go_wp2_with fail
      exact ⟨⟨k + 1, by omega, by simp, HB2.out, by omega, _, _, HR2.out⟩, by simp [intOf]; omega⟩
    obtain rfl : k = n := by omega
    go_wp2_with fail
    go_ret
    refine ⟨_, css, tag, rfl, ?_, HB.out⟩
    have := HR.out
    rw [Nat.sub_self, List.take_of_length_le (by rw [HL.out]; exact Nat.le_refl _), List.replicate_zero, List.append_nil] at this
    exact this
end Go.Proofs.Ytdadaklkaehmjaa
