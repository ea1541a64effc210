/-
  What the document's Type does: the bytes of a type's two numbers. Conditions: the two numbers are of 64 bits.
  What the document's types does: how many types there are, and each, or that one of them is none. Conditions: as the theorem says.
  What the document's own Args does. Conditions: as each theorem says.
  What the document's Instr does: the bytes of an instruction, or nothing. Conditions: none.
-/
import Derived.Test.YtlfcglolehmmiaaQ01
import Derived.Test.YtlfcglolehmmiaaQ02
import Derived.Test.YtlfcglolehmmiaaQ03
import Derived.Test.YtlfcglolehmmiaaQ06
import Derived.Test.YtlfcglolehmmiaaQ23
import Derived.BigQuiet
namespace Go.Proofs.Ytlfcglolehmmiaa
open Go.RowKit
set_option linter.unusedSimpArgs false

set_option maxHeartbeats 1000000 in
theorem rtype (k n : Int) (w : World) (hk : -9223372036854775808 ≤ k ∧ k ≤ 9223372036854775807) (hn : -9223372036854775808 ≤ n ∧ n ≤ 9223372036854775807) :
    Calls Try.prog 52 #[.agg #[.int .i64 k, .int .i64 n]] w fun e w' => ∃ u, e = .returned u ∧ w'.ownsRow w.heap.size 5 1 u (typB k n).length (Bs (typB k n)) ∧ Below w.heap.size w w' := by
  have hl : (vb k.toNat).length + (vb n.toNat).length ≤ 140737488355328 := by
    have := typB_len k n hk.2 hn.2
    simp [typB] at this
    omega
  have hk64 : k.toNat < B64 := by unfold B64; omega
  have hn64 : n.toNat < B64 := by unfold B64; omega
  unfold typB
  by_cases h1 : k < 0
  · rw [show k.toNat = 0 by omega] at hl hk64 ⊢
    by_cases h2 : n < 0
    · rw [show n.toNat = 0 by omega] at hl hn64 ⊢
      go_enter Try.func52, Try.ntmps52
      go_wp2_with fail
      refine wp_world fun W hW => ?_
      have c0 : W.cell? ⟨w.heap.size, 0, none⟩ = some (.int .i64 k) := by rw [hW]; simp [go_sem]
      have c1 : W.cell? ⟨w.heap.size, 1, none⟩ = some (.int .i64 n) := by rw [hW]; simp [go_sem]
      have HB0 : Hid (Below w.heap.size w W) := by
        show Below w.heap.size w W
        rw [hW]
        exact (Below.refl _ _).alloc (Nat.le_refl _) _
      clear hW
      go_quiet (fail)
      generalize hW1 : World.drewN W _ = W1
      have HB0' : Hid (Below w.heap.size w W1) := by
        show Below w.heap.size w W1
        rw [← hW1]
        exact ⟨HB0.out.os, HB0.out.tape, HB0.out.output, HB0.out.size, HB0.out.block⟩
      clear hW1 c0 c1 HB0
      go_wp2_with (first
        | (at_builtin
           refine walk_append _ rfl (.tmp 15) (.tmp 18) rfl W1.heap.size u1 (vb 0).length (vb 0) rfl HO1.out A2 (vb 0).length c2 (vb 0) rfl rfl _ HY2.out hl HS2.out ?_
           intro v3 w3 hown3 hg3 _
           have HO3 := Lib.hid hown3
           have HB3 := Lib.hid (HB2.out.grown hg3 HS2.out (fun i hi => (HO1.out.lt i hi).1))
           clear hown3 hg3)
        | (go_at_call 49
           have hp := HP1.out
           clear hp
           refine (refVar_any 0 _ (by decide)).mono ?_
           rintro e w2 ⟨u2, rfl, hown2, hb2⟩
           obtain ⟨A2, c2, rfl, -, -, -, hY2⟩ := own_slice hown2
           have HY2 := Lib.hid hY2
           have HB2 := Lib.hid (HB1.out.trans (hb2.mono HB1.out.size))
           have HO1 := Lib.hid (own_below HP1.out hb2 (Nat.le_refl _))
           have HS2 := Lib.hid HB2.out.size
           clear hown2 hY2 hb2)
        | (go_at_call 49
           refine (refVar_any 0 _ (by decide)).mono ?_
           rintro e w1 ⟨u1, rfl, hown1, hb1⟩
           have HP1 := Lib.hid hown1
           have HB1 := Lib.hid (hb1.mono (Nat.le_refl W1.heap.size))
           clear hown1 hb1))
      go_ret
      refine ⟨_, rfl, ?_, HB0'.out.trans (HB3.out.mono HB0'.out.size)⟩
      rw [List.length_append]
      exact own_wide HO3.out HB0'.out.size
    · obtain ⟨b, rfl⟩ : ∃ b : Nat, n = (b : Int) := ⟨n.toNat, by omega⟩
      rw [Int.toNat_natCast] at hl hn64 ⊢
      go_enter Try.func52, Try.ntmps52
      go_wp2_with fail
      refine wp_world fun W hW => ?_
      have c0 : W.cell? ⟨w.heap.size, 0, none⟩ = some (.int .i64 k) := by rw [hW]; simp [go_sem]
      have c1 : W.cell? ⟨w.heap.size, 1, none⟩ = some (.int .i64 (b : Int)) := by rw [hW]; simp [go_sem]
      have HB0 : Hid (Below w.heap.size w W) := by
        show Below w.heap.size w W
        rw [hW]
        exact (Below.refl _ _).alloc (Nat.le_refl _) _
      clear hW
      go_quiet (fail)
      generalize hW1 : World.drewN W _ = W1
      have HB0' : Hid (Below w.heap.size w W1) := by
        show Below w.heap.size w W1
        rw [← hW1]
        exact ⟨HB0.out.os, HB0.out.tape, HB0.out.output, HB0.out.size, HB0.out.block⟩
      clear hW1 c0 c1 HB0
      go_wp2_with (first
        | (at_builtin
           refine walk_append _ rfl (.tmp 15) (.tmp 18) rfl W1.heap.size u1 (vb 0).length (vb 0) rfl HO1.out A2 (vb b).length c2 (vb b) rfl rfl _ HY2.out hl HS2.out ?_
           intro v3 w3 hown3 hg3 _
           have HO3 := Lib.hid hown3
           have HB3 := Lib.hid (HB2.out.grown hg3 HS2.out (fun i hi => (HO1.out.lt i hi).1))
           clear hown3 hg3)
        | (go_at_call 49
           have hp := HP1.out
           clear hp
           refine (refVar_any b _ hn64).mono ?_
           rintro e w2 ⟨u2, rfl, hown2, hb2⟩
           obtain ⟨A2, c2, rfl, -, -, -, hY2⟩ := own_slice hown2
           have HY2 := Lib.hid hY2
           have HB2 := Lib.hid (HB1.out.trans (hb2.mono HB1.out.size))
           have HO1 := Lib.hid (own_below HP1.out hb2 (Nat.le_refl _))
           have HS2 := Lib.hid HB2.out.size
           clear hown2 hY2 hb2)
        | (go_at_call 49
           refine (refVar_any 0 _ (by decide)).mono ?_
           rintro e w1 ⟨u1, rfl, hown1, hb1⟩
           have HP1 := Lib.hid hown1
           have HB1 := Lib.hid (hb1.mono (Nat.le_refl W1.heap.size))
           clear hown1 hb1))
      go_ret
      refine ⟨_, rfl, ?_, HB0'.out.trans (HB3.out.mono HB0'.out.size)⟩
      rw [List.length_append]
      exact own_wide HO3.out HB0'.out.size
  · obtain ⟨a, rfl⟩ : ∃ a : Nat, k = (a : Int) := ⟨k.toNat, by omega⟩
    rw [Int.toNat_natCast] at hl hk64 ⊢
    by_cases h2 : n < 0
    · rw [show n.toNat = 0 by omega] at hl hn64 ⊢
      go_enter Try.func52, Try.ntmps52
      go_wp2_with fail
      refine wp_world fun W hW => ?_
      have c0 : W.cell? ⟨w.heap.size, 0, none⟩ = some (.int .i64 (a : Int)) := by rw [hW]; simp [go_sem]
      have c1 : W.cell? ⟨w.heap.size, 1, none⟩ = some (.int .i64 n) := by rw [hW]; simp [go_sem]
      have HB0 : Hid (Below w.heap.size w W) := by
        show Below w.heap.size w W
        rw [hW]
        exact (Below.refl _ _).alloc (Nat.le_refl _) _
      clear hW
      go_quiet (fail)
      generalize hW1 : World.drewN W _ = W1
      have HB0' : Hid (Below w.heap.size w W1) := by
        show Below w.heap.size w W1
        rw [← hW1]
        exact ⟨HB0.out.os, HB0.out.tape, HB0.out.output, HB0.out.size, HB0.out.block⟩
      clear hW1 c0 c1 HB0
      go_wp2_with (first
        | (at_builtin
           refine walk_append _ rfl (.tmp 15) (.tmp 18) rfl W1.heap.size u1 (vb a).length (vb a) rfl HO1.out A2 (vb 0).length c2 (vb 0) rfl rfl _ HY2.out hl HS2.out ?_
           intro v3 w3 hown3 hg3 _
           have HO3 := Lib.hid hown3
           have HB3 := Lib.hid (HB2.out.grown hg3 HS2.out (fun i hi => (HO1.out.lt i hi).1))
           clear hown3 hg3)
        | (go_at_call 49
           have hp := HP1.out
           clear hp
           refine (refVar_any 0 _ (by decide)).mono ?_
           rintro e w2 ⟨u2, rfl, hown2, hb2⟩
           obtain ⟨A2, c2, rfl, -, -, -, hY2⟩ := own_slice hown2
           have HY2 := Lib.hid hY2
           have HB2 := Lib.hid (HB1.out.trans (hb2.mono HB1.out.size))
           have HO1 := Lib.hid (own_below HP1.out hb2 (Nat.le_refl _))
           have HS2 := Lib.hid HB2.out.size
           clear hown2 hY2 hb2)
        | (go_at_call 49
           refine (refVar_any a _ hk64).mono ?_
           rintro e w1 ⟨u1, rfl, hown1, hb1⟩
           have HP1 := Lib.hid hown1
           have HB1 := Lib.hid (hb1.mono (Nat.le_refl W1.heap.size))
           clear hown1 hb1))
      go_ret
      refine ⟨_, rfl, ?_, HB0'.out.trans (HB3.out.mono HB0'.out.size)⟩
      rw [List.length_append]
      exact own_wide HO3.out HB0'.out.size
    · obtain ⟨b, rfl⟩ : ∃ b : Nat, n = (b : Int) := ⟨n.toNat, by omega⟩
      rw [Int.toNat_natCast] at hl hn64 ⊢
      go_enter Try.func52, Try.ntmps52
      go_wp2_with fail
      refine wp_world fun W hW => ?_
      have c0 : W.cell? ⟨w.heap.size, 0, none⟩ = some (.int .i64 (a : Int)) := by rw [hW]; simp [go_sem]
      have c1 : W.cell? ⟨w.heap.size, 1, none⟩ = some (.int .i64 (b : Int)) := by rw [hW]; simp [go_sem]
      have HB0 : Hid (Below w.heap.size w W) := by
        show Below w.heap.size w W
        rw [hW]
        exact (Below.refl _ _).alloc (Nat.le_refl _) _
      clear hW
      go_quiet (fail)
      generalize hW1 : World.drewN W _ = W1
      have HB0' : Hid (Below w.heap.size w W1) := by
        show Below w.heap.size w W1
        rw [← hW1]
        exact ⟨HB0.out.os, HB0.out.tape, HB0.out.output, HB0.out.size, HB0.out.block⟩
      clear hW1 c0 c1 HB0
      go_wp2_with (first
        | (at_builtin
           refine walk_append _ rfl (.tmp 15) (.tmp 18) rfl W1.heap.size u1 (vb a).length (vb a) rfl HO1.out A2 (vb b).length c2 (vb b) rfl rfl _ HY2.out hl HS2.out ?_
           intro v3 w3 hown3 hg3 _
           have HO3 := Lib.hid hown3
           have HB3 := Lib.hid (HB2.out.grown hg3 HS2.out (fun i hi => (HO1.out.lt i hi).1))
           clear hown3 hg3)
        | (go_at_call 49
           have hp := HP1.out
           clear hp
           refine (refVar_any b _ hn64).mono ?_
           rintro e w2 ⟨u2, rfl, hown2, hb2⟩
           obtain ⟨A2, c2, rfl, -, -, -, hY2⟩ := own_slice hown2
           have HY2 := Lib.hid hY2
           have HB2 := Lib.hid (HB1.out.trans (hb2.mono HB1.out.size))
           have HO1 := Lib.hid (own_below HP1.out hb2 (Nat.le_refl _))
           have HS2 := Lib.hid HB2.out.size
           clear hown2 hY2 hb2)
        | (go_at_call 49
           refine (refVar_any a _ hk64).mono ?_
           rintro e w1 ⟨u1, rfl, hown1, hb1⟩
           have HP1 := Lib.hid hown1
           have HB1 := Lib.hid (hb1.mono (Nat.le_refl W1.heap.size))
           clear hown1 hb1))
      go_ret
      refine ⟨_, rfl, ?_, HB0'.out.trans (HB3.out.mono HB0'.out.size)⟩
      rw [List.length_append]
      exact own_wide HO3.out HB0'.out.size
end Go.Proofs.Ytlfcglolehmmiaa
namespace Go.Proofs.Ytlfcglolehmmiaa
open Go.RowKit
set_option linter.unusedSimpArgs false
set_option linter.unusedVariables false

/-- What it answers. -/
def Typs (ts : List Typ) (r mo : Int) (w : World) (e : Ending) (w' : World) : Prop :=
  Below w.heap.size w w' ∧ ((ts.all (goodT r) = true ∧ ∃ u, e = .returned (.tuple #[u, .bool (decide ((ts.length : Int) ≤ mo))]) ∧ w'.ownsRow w.heap.size 5 1 u (lB tB ts).length (Bs (lB tB ts))) ∨
    (ts.all (goodT r) = false ∧ e = .returned (.tuple #[.slice none 0 0, .bool false])))

set_option maxRecDepth 100000 in
set_option maxHeartbeats 1000000 in
theorem rtypes_any (A : Option Addr) (n c : Nat) (xs : List Typ) (r mo : Int) (w : World) (hl : xs.length = n) (h : Sq typL (· < w.heap.size) w A xs) (hn2 : n ≤ 3000) (hr : r ≤ 8) :
    Calls Try.prog 50 #[.slice A n c, .int .i64 r, .int .i64 mo] w (Typs xs r mo w) := by
  have HL := Lib.hid hl
  have HS := Lib.hid h
  have HR8 := Lib.hid hr
  clear hl h hr
  have hn3 : n < B64 := by unfold B64; omega
  have hvn : (vb n).length ≤ 10 := vb_len 9 n (by simp; omega)
  have HW : Hid (IntKind.u64.wrap (n : Int) = (n : Int)) := by show IntKind.u64.wrap (n : Int) = _; rw [IntKind.wrap_u64]; omega
  have hw := HW.out
  go_enter Try.func50, Try.ntmps50
  go_wp2_with fail
  refine (refVar_any n w hn3).mono ?_
  rintro e w1 ⟨u1, rfl, hown1, hb1⟩
  have HO1 := Lib.hid hown1
  have HB1 := Lib.hid hb1
  clear hown1 hb1 hw
  go_wp2_with fail
  go_loopw [8, 9] (fun s i wr => ∃ k : Nat, k ≤ n ∧ i = .int .i64 (k : Nat) ∧ (xs.take k).all (goodT r) = true ∧ (∃ q, q = vb n ++ ((xs.take k).map tB).flatten ∧ q.length ≤ 10 + k * 4 ∧ wr.ownsRow w.heap.size 5 1 s q.length (Bs q)) ∧ Below w.heap.size w wr) (fun _ i _ => n - (intOf i).toNat)
  case atStart =>
    exact ⟨0, Nat.zero_le _, rfl, by simp, ⟨_, rfl, by simpa using hvn, by simpa using HO1.out⟩, HB1.out⟩
  case round =>
    obtain ⟨k, hk, rfl, hall, ⟨q, hq, hq2, hown⟩, hbel⟩ := hrel
    have HA := Lib.hid hall
    have HO := Lib.hid hown
    have HB := Lib.hid hbel
    have HQ := Lib.hid hq
    have hs := hbel.size
    clear hown hbel hq hall
    by_cases hlt : k < n
    · obtain ⟨x, hx⟩ : ∃ x, xs[k]? = some x := ⟨xs[k]'(by rw [HL.out]; exact hlt), List.getElem?_eq_getElem _⟩
      have HX := Lib.hid hx
      obtain ⟨a, cs, rfl, hab, hc, hr⟩ := HS.out.at hx
      have HF := Lib.hid (cut_flat tB xs k x hx)
      obtain ⟨rfl, i1, i2⟩ := hr
      have c0 := (HB.out.cell (p := a.add (k * 2)) (by rw [addBlock]; exact hab)).trans (hc 0 _ rfl)
      have c1 := (HB.out.cell (p := a.add (k * 2 + 1)) (by rw [addBlock]; exact hab)).trans (hc 1 _ rfl)
      have HC0 : Hid (∀ w1, Below w.heap.size w w1 → w1.cell? (a.add (k * 2)) = some (.int .i64 x.1) ∧ w1.cell? ⟨(a.add (k * 2)).block, (a.add (k * 2)).off + 1, none⟩ = some (.int .i64 x.2)) := fun w1 hb =>
        ⟨(hb.cell (p := a.add (k * 2)) (by rw [addBlock]; exact hab)).trans (hc 0 _ rfl), by rw [← next_cell a (k * 2) 1 (by omega)]; exact (hb.cell (p := a.add (k * 2 + 1)) (by rw [addBlock]; exact hab)).trans (hc 1 _ rfl)⟩
      rw [next_cell a (k * 2) 1 (by omega)] at c1
      clear hc hx
      go_wp2_with fail
      refine calls_world fun W hW => ?_
      have HBW : Hid (Below w.heap.size w W) := by show Below _ _ _; rw [hW]; first | exact HB.out | exact HB.out.alloc hs _
      have HOW : Hid (W.ownsRow w.heap.size 5 1 u8 q.length (Bs q)) := by show World.ownsRow _ _ _ _ _ _ _; rw [hW]; first | exact HO.out | exact HO.out.alloc _
      have hsW := HBW.out.size
      clear hW
      refine (rgood x.1 x.2 r W).mono ?_
      rintro e w2 ⟨rfl, hb2⟩
      have HB2 := Lib.hid (HBW.out.trans (hb2.mono hsW))
      have HO2 := Lib.hid (own_below HOW.out hb2 (Nat.le_refl _))
      have hs2 := HB2.out.size
      have hg : goodT r x = goodB x.1 x.2 r := rfl
      clear hb2 c0 c1
      cases hgd : goodB x.1 x.2 r
      · have HG : Hid (goodT r x = false) := hgd
        clear hg
        go_wp2_with fail
        go_ret2
        refine ⟨HB2.out, .inr ⟨?_, rfl⟩⟩
        rw [List.all_eq_false]
        exact ⟨x, List.mem_of_getElem? HX.out, by rw [HG.out]; simp⟩
      · have HG : Hid (goodT r x = true) := hgd
        have ht4 := tB_len HR8.out HG.out
        obtain ⟨c0, c1⟩ := HC0.out w2 HB2.out
        clear hg hgd
        go_wp2_with fail
        refine calls_world fun W3 hW3 => ?_
        have HB3 : Hid (Below w.heap.size w W3) := by show Below _ _ _; rw [hW3]; first | exact HB2.out | exact HB2.out.alloc hs2 _
        have HO3 : Hid (W3.ownsRow w.heap.size 5 1 u8 q.length (Bs q)) := by show World.ownsRow _ _ _ _ _ _ _; rw [hW3]; first | exact HO2.out | exact HO2.out.alloc _
        have hs3 := HB3.out.size
        clear hW3 c0 c1
        refine (rtype x.1 x.2 W3 i1 i2).mono ?_
        rintro e w4 ⟨u4, rfl, hown4, hb4⟩
        obtain ⟨A4, c4, rfl, -, -, -, hB4⟩ := own_slice hown4
        have HY4 := Lib.hid hB4
        have HB4 := Lib.hid (HB3.out.trans (hb4.mono hs3))
        have HO4 := Lib.hid (own_below HO3.out hb4 (Nat.le_refl _))
        have hs4 := HB4.out.size
        have ht5 : (typB x.1 x.2).length ≤ 4 := ht4
        clear hown4 hB4 hb4
        obtain ⟨y, hy⟩ : ∃ y, typB x.1 x.2 = y := ⟨_, rfl⟩
        have HYE : Hid (tB x = y) := hy
        rw [hy] at ht5 HY4 ⊢
        clear hy ht4
        go_wp2_with (at_builtin
                     refine walk_append _ rfl (.tmp 27) (.tmp 32) rfl w.heap.size u8 q.length q rfl HO4.out A4 y.length c4 y rfl rfl _ HY4.out (by omega) (by omega) ?_
                     intro v5 w5 hown5 hg5 _
                     have HO5 := Lib.hid hown5
                     have HB5 := Lib.hid (HB4.out.grown hg5 (by omega) (fun i hi => (HO4.out.lt i hi).1))
                     clear hown5 hg5)
        refine ⟨⟨k + 1, by omega, by simp, all_take HA.out HX.out HG.out, ⟨q ++ y, ?_, ?_, ?_⟩, HB5.out⟩, by simp [intOf]; omega⟩
        · rw [HF.out, HQ.out, HYE.out]
          simp [List.append_assoc]
        · simp [List.length_append]
          omega
        · rw [List.length_append]
          exact HO5.out
    · obtain rfl : k = n := by omega
      have e : lB tB xs = q := by
        rw [HQ.out, List.take_of_length_le (by rw [HL.out]; exact Nat.le_refl _), lB, HL.out]
      have ea := HA.out
      rw [List.take_of_length_le (by rw [HL.out]; exact Nat.le_refl _)] at ea
      have HE := Lib.hid e
      have HEA := Lib.hid ea
      clear e ea
      go_wp2_with fail
      go_ret2
      refine ⟨HB.out, .inl ⟨HEA.out, u8, ?_, ?_⟩⟩
      · rw [HL.out]
        rfl
      · rw [HE.out]
        exact HO.out
end Go.Proofs.Ytlfcglolehmmiaa
namespace Go.Proofs.Ytlfcglolehmmiaa
open Go.RowKit
set_option linter.unusedSimpArgs false

/-- The ones that have one number. -/
def ones : List Int := [0, 1, 3, 4, 23, 24, 25, 27, 28]
theorem argN_one (op : Int) (k : Nat) (hk : k < 9) (h : ones[k]?.getD 0 = op) : argN op = 1 := by
  subst h
  unfold argN ones
  have : k = 0 ∨ k = 1 ∨ k = 2 ∨ k = 3 ∨ k = 4 ∨ k = 5 ∨ k = 6 ∨ k = 7 ∨ k = 8 := by omega
  rcases this with rfl | rfl | rfl | rfl | rfl | rfl | rfl | rfl | rfl <;> rfl
theorem argN_zero (op : Int) (h0 : ¬ op < 0) (h1 : op < 42) (h2 : op ≠ 29) (h3 : op ≠ 30) (h : ∀ j, j < 9 → ones[j]?.getD 0 ≠ op) : argN op = 0 := by
  have a0 := h 0 (by omega)
  have a1 := h 1 (by omega)
  have a2 := h 2 (by omega)
  have a3 := h 3 (by omega)
  have a4 := h 4 (by omega)
  have a5 := h 5 (by omega)
  have a6 := h 6 (by omega)
  have a7 := h 7 (by omega)
  have a8 := h 8 (by omega)
  simp [ones] at a0 a1 a2 a3 a4 a5 a6 a7 a8
  unfold argN
  rw [if_neg (by omega), if_neg (by omega), if_neg (by omega)]

set_option maxRecDepth 100000 in
set_option maxHeartbeats 1000000 in
theorem refArgs_any (op : Int) (w : World) : Calls Try.prog 77 #[.int .i64 op] w fun e w' => e = .returned (.int .i64 (argN op)) ∧ Below w.heap.size w w' := by
  by_cases hlo : op < 0
  · have e : argN op = -1 := by unfold argN; rw [if_neg (by omega), if_neg (by omega), if_pos (by omega)]
    rw [e]
    clear e
    go_enter Try.func77, Try.ntmps77
    go_wp2
    go_ret
    exact ⟨rfl, Below.refl _ _⟩
  by_cases hhi : 42 ≤ op
  · have e : argN op = -1 := by unfold argN; rw [if_neg (by omega), if_neg (by omega), if_pos (by omega)]
    rw [e]
    clear e
    go_enter Try.func77, Try.ntmps77
    go_wp2
    go_ret
    exact ⟨rfl, Below.refl _ _⟩
  by_cases h29 : op = 29
  · subst h29
    go_enter Try.func77, Try.ntmps77
    go_wp2
    go_ret
    exact ⟨rfl, Below.refl _ _⟩
  by_cases h30 : op = 30
  · subst h30
    go_enter Try.func77, Try.ntmps77
    go_wp2
    go_ret
    exact ⟨rfl, Below.refl _ _⟩
  have e29 : (op == 29) = false := by simp [h29]
  have e30 : (op == 30) = false := by simp [h30]
  go_enter Try.func77, Try.ntmps77
  go_wp2_with fail
  refine wp_world fun W hW => ?_
  have hcell : Hid (∀ k, k < 9 → W.cell? ⟨w.heap.size, k, none⟩ = some (.int .i64 (ones[k]?.getD 0))) := by
    intro k hk
    rw [hW]
    have : k = 0 ∨ k = 1 ∨ k = 2 ∨ k = 3 ∨ k = 4 ∨ k = 5 ∨ k = 6 ∨ k = 7 ∨ k = 8 := by omega
    rcases this with rfl | rfl | rfl | rfl | rfl | rfl | rfl | rfl | rfl <;> simp [go_sem, ones]
  have HB : Hid (Below w.heap.size w W) := by
    show Below w.heap.size w W
    rw [hW]
    exact (Below.refl _ _).alloc (Nat.le_refl _) _
  clear hW
  go_loop [4] (fun i => ∃ k : Nat, k ≤ 9 ∧ i = .int .i64 (k : Nat) ∧ ∀ j, j < k → ones[j]?.getD 0 ≠ op) (fun i => 9 - (intOf i).toNat)
  case atStart => exact ⟨0, by omega, rfl, fun j hj => absurd hj (by omega)⟩
  case round =>
    obtain ⟨k, hk, rfl, hall⟩ := hrel
    have HA := Lib.hid hall
    clear hall
    by_cases hlt : k < 9
    · have hc := hcell.out k hlt
      obtain ⟨z, hz⟩ : ∃ z, ones[k]?.getD 0 = z := ⟨_, rfl⟩
      rw [hz] at hc
      have HZ := Lib.hid hz
      clear hz
      by_cases he : z = op
      · subst he
        go_wp2_with fail
        go_ret
        exact ⟨ret_int (argN_one z k hlt HZ.out).symm, HB.out⟩
      · have he2 : (z == op) = false := by simp [he]
        go_wp2_with fail
        refine ⟨⟨k + 1, by omega, by simp, fun j hj => ?_⟩, by simp [intOf]; omega⟩
        rcases Nat.lt_or_ge j k with h | h
        · exact HA.out j h
        · obtain rfl : j = k := by omega
          rw [HZ.out]
          exact he
    · obtain rfl : k = 9 := by omega
      go_wp2_with fail
      go_ret
      exact ⟨ret_int (argN_zero op (by omega) (by omega) h29 h30 HA.out).symm, HB.out⟩
end Go.Proofs.Ytlfcglolehmmiaa
namespace Go.Proofs.Ytlfcglolehmmiaa
open Go.RowKit
set_option linter.unusedSimpArgs false

set_option maxRecDepth 100000 in
set_option maxHeartbeats 4000000 in
theorem rins_none (op a b : Int) (w : World) (h : goodI op a b = false) :
    Calls Try.prog 53 #[.agg #[.int .i64 op, .int .i64 a, .int .i64 b]] w fun e w' => e = .returned (.slice none 0 0) ∧ Below w.heap.size w w' := by
  have h' : ¬ (0 ≤ argN op ∧ 0 ≤ a ∧ a ≤ (if 0 < argN op then 255 else 0) ∧ 0 ≤ b ∧ b ≤ (if 1 < argN op then 255 else 0)) := by
    intro hh
    unfold goodI fitN at h
    simp only [Bool.and_eq_false_iff, decide_eq_false_iff_not] at h
    rcases h with h | h
    · exact h hh.1
    · exact h hh.2
  have AR := Lib.hid (fun w => refArgs_any op w)
  obtain ⟨n, hn⟩ : ∃ n, argN op = n := ⟨_, rfl⟩
  rw [hn] at h' AR
  clear hn h
  by_cases n0 : n < 0
  · clear h'
    go_enter Try.func53, Try.ntmps53
    go_wp2_with (first
        | (go_at_call 77
           refine (AR.out _).mono ?_
           rintro e w1 ⟨rfl, hb1⟩
           have HB1 : Hid (Below w.heap.size w w1) := ((Below.refl _ _).alloc (Nat.le_refl _) _).trans (hb1.mono (by simp))
           have hk := (hb1.block w.heap.size (by simp)).trans (blk_new w 50 #[.int .i64 op, .int .i64 a, .int .i64 b])
           have HK := Lib.hid hk
           have k0 := Blk.cell hk 0
           have k1 := Blk.cell hk 1
           have k2 := Blk.cell hk 2
           have hs1 : w.heap.size < w1.heap.size := (by have := hb1.size; simp at this; omega)
           simp at k0 k1 k2
           clear hb1 hk))
    go_ret
    exact ⟨rfl, HB1.out⟩
  by_cases a0 : a < 0
  · clear h'
    go_enter Try.func53, Try.ntmps53
    go_wp2_with (first
        | (go_at_call 77
           refine (AR.out _).mono ?_
           rintro e w1 ⟨rfl, hb1⟩
           have HB1 : Hid (Below w.heap.size w w1) := ((Below.refl _ _).alloc (Nat.le_refl _) _).trans (hb1.mono (by simp))
           have hk := (hb1.block w.heap.size (by simp)).trans (blk_new w 50 #[.int .i64 op, .int .i64 a, .int .i64 b])
           have HK := Lib.hid hk
           have k0 := Blk.cell hk 0
           have k1 := Blk.cell hk 1
           have k2 := Blk.cell hk 2
           have hs1 : w.heap.size < w1.heap.size := (by have := hb1.size; simp at this; omega)
           simp at k0 k1 k2
           clear hb1 hk))
    go_ret
    exact ⟨rfl, HB1.out⟩
  by_cases a1 : 255 < a
  · clear h'
    go_enter Try.func53, Try.ntmps53
    go_wp2_with (first
        | (go_at_call 77
           refine (AR.out _).mono ?_
           rintro e w1 ⟨rfl, hb1⟩
           have HB1 : Hid (Below w.heap.size w w1) := ((Below.refl _ _).alloc (Nat.le_refl _) _).trans (hb1.mono (by simp))
           have hk := (hb1.block w.heap.size (by simp)).trans (blk_new w 50 #[.int .i64 op, .int .i64 a, .int .i64 b])
           have HK := Lib.hid hk
           have k0 := Blk.cell hk 0
           have k1 := Blk.cell hk 1
           have k2 := Blk.cell hk 2
           have hs1 : w.heap.size < w1.heap.size := (by have := hb1.size; simp at this; omega)
           simp at k0 k1 k2
           clear hb1 hk))
    go_ret
    exact ⟨rfl, HB1.out⟩
  by_cases b0 : b < 0
  · clear h'
    go_enter Try.func53, Try.ntmps53
    go_wp2_with (first
        | (go_at_call 77
           refine (AR.out _).mono ?_
           rintro e w1 ⟨rfl, hb1⟩
           have HB1 : Hid (Below w.heap.size w w1) := ((Below.refl _ _).alloc (Nat.le_refl _) _).trans (hb1.mono (by simp))
           have hk := (hb1.block w.heap.size (by simp)).trans (blk_new w 50 #[.int .i64 op, .int .i64 a, .int .i64 b])
           have HK := Lib.hid hk
           have k0 := Blk.cell hk 0
           have k1 := Blk.cell hk 1
           have k2 := Blk.cell hk 2
           have hs1 : w.heap.size < w1.heap.size := (by have := hb1.size; simp at this; omega)
           simp at k0 k1 k2
           clear hb1 hk))
    go_ret
    exact ⟨rfl, HB1.out⟩
  by_cases b1 : 255 < b
  · clear h'
    go_enter Try.func53, Try.ntmps53
    go_wp2_with (first
        | (go_at_call 77
           refine (AR.out _).mono ?_
           rintro e w1 ⟨rfl, hb1⟩
           have HB1 : Hid (Below w.heap.size w w1) := ((Below.refl _ _).alloc (Nat.le_refl _) _).trans (hb1.mono (by simp))
           have hk := (hb1.block w.heap.size (by simp)).trans (blk_new w 50 #[.int .i64 op, .int .i64 a, .int .i64 b])
           have HK := Lib.hid hk
           have k0 := Blk.cell hk 0
           have k1 := Blk.cell hk 1
           have k2 := Blk.cell hk 2
           have hs1 : w.heap.size < w1.heap.size := (by have := hb1.size; simp at this; omega)
           simp at k0 k1 k2
           clear hb1 hk))
    go_ret
    exact ⟨rfl, HB1.out⟩
  by_cases m1 : n < 1
  · by_cases az : a = 0
    · subst az
      by_cases bz : b = 0
      · exact absurd ⟨by omega, by omega, by rw [if_neg (by omega)]; omega, by omega, by rw [if_neg (by omega)]; omega⟩ h'
      · have m2 : n < 2 := by omega
        have bz' : (b == 0) = false := by simp [bz]
        have bz2 : (b != 0) = true := by simp [bz]
        clear h'
        go_enter Try.func53, Try.ntmps53
        go_wp2_with (first
            | (go_at_call 77
               refine (AR.out _).mono ?_
               rintro e w1 ⟨rfl, hb1⟩
               have HB1 : Hid (Below w.heap.size w w1) := ((Below.refl _ _).alloc (Nat.le_refl _) _).trans (hb1.mono (by simp))
               have hk := (hb1.block w.heap.size (by simp)).trans (blk_new w 50 #[.int .i64 op, .int .i64 0, .int .i64 b])
               have HK := Lib.hid hk
               have k0 := Blk.cell hk 0
               have k1 := Blk.cell hk 1
               have k2 := Blk.cell hk 2
               have hs1 : w.heap.size < w1.heap.size := (by have := hb1.size; simp at this; omega)
               simp at k0 k1 k2
               clear hb1 hk))
        go_ret
        exact ⟨rfl, HB1.out⟩
    · have az' : (a == 0) = false := by simp [az]
      have az2 : (a != 0) = true := by simp [az]
      clear h'
      go_enter Try.func53, Try.ntmps53
      go_wp2_with (first
          | (go_at_call 77
             refine (AR.out _).mono ?_
             rintro e w1 ⟨rfl, hb1⟩
             have HB1 : Hid (Below w.heap.size w w1) := ((Below.refl _ _).alloc (Nat.le_refl _) _).trans (hb1.mono (by simp))
             have hk := (hb1.block w.heap.size (by simp)).trans (blk_new w 50 #[.int .i64 op, .int .i64 a, .int .i64 b])
             have HK := Lib.hid hk
             have k0 := Blk.cell hk 0
             have k1 := Blk.cell hk 1
             have k2 := Blk.cell hk 2
             have hs1 : w.heap.size < w1.heap.size := (by have := hb1.size; simp at this; omega)
             simp at k0 k1 k2
             clear hb1 hk))
      go_ret
      exact ⟨rfl, HB1.out⟩
  · by_cases m2 : n < 2
    · by_cases bz : b = 0
      · exact absurd ⟨by omega, by omega, by rw [if_pos (by omega)]; omega, by omega, by rw [if_neg (by omega)]; omega⟩ h'
      · have bz' : (b == 0) = false := by simp [bz]
        have bz2 : (b != 0) = true := by simp [bz]
        clear h'
        go_enter Try.func53, Try.ntmps53
        go_wp2_with (first
            | (go_at_call 77
               refine (AR.out _).mono ?_
               rintro e w1 ⟨rfl, hb1⟩
               have HB1 : Hid (Below w.heap.size w w1) := ((Below.refl _ _).alloc (Nat.le_refl _) _).trans (hb1.mono (by simp))
               have hk := (hb1.block w.heap.size (by simp)).trans (blk_new w 50 #[.int .i64 op, .int .i64 a, .int .i64 b])
               have HK := Lib.hid hk
               have k0 := Blk.cell hk 0
               have k1 := Blk.cell hk 1
               have k2 := Blk.cell hk 2
               have hs1 : w.heap.size < w1.heap.size := (by have := hb1.size; simp at this; omega)
               simp at k0 k1 k2
               clear hb1 hk))
        go_ret
        exact ⟨rfl, HB1.out⟩
    · exact absurd ⟨by omega, by omega, by rw [if_pos (by omega)]; omega, by omega, by rw [if_pos (by omega)]; omega⟩ h'

set_option maxRecDepth 100000 in
set_option maxHeartbeats 4000000 in
theorem rins_0 (o x y : Nat) (w : World) (h : goodI o x y = true) (hn : argN o = 0) :
    Calls Try.prog 53 #[.agg #[.int .i64 (o : Nat), .int .i64 (x : Nat), .int .i64 (y : Nat)]] w fun e w' => ∃ u, e = .returned u ∧ w'.ownsRow w.heap.size 5 1 u (insB o x y).length (Bs (insB o x y)) ∧ Below w.heap.size w w' := by
  have AR := Lib.hid (fun w => refArgs_any o w)
  rw [hn] at AR
  obtain ⟨o', x', y', eo, ex, ey, ho, hx, hy, -, hx1, hy1⟩ := goodI_parts h
  obtain rfl : o = o' := by omega
  obtain rfl : x = x' := by omega
  obtain rfl : y = y' := by omega
  have HE : Hid (insB o x y = [o] ++ bodyB 0 x y) := by
    show insB o x y = [o] ++ bodyB 0 x y
    rw [insB_good h, hn]
    rfl
  have HO : Hid (o < 256) := by show o < 256; omega
  have HX64 : Hid (x < B64) := by show x < B64; unfold B64; omega
  have HY64 : Hid (y < B64) := by show y < B64; unfold B64; omega
  have HL1 : Hid (1 + (vb x).length ≤ 140737488355328) := by show 1 + (vb x).length ≤ 140737488355328; have := vb255 x hx; omega
  have HL2 : Hid (1 + (vb x).length + (vb y).length ≤ 140737488355328) := by show 1 + (vb x).length + (vb y).length ≤ 140737488355328; have := vb255 x hx; have := vb255 y hy; omega
  clear eo ex ey
  have hx0 : x = 0 := hx1 (by rw [hn]; decide)
  have hy0 : y = 0 := hy1 (by rw [hn]; decide)
  subst hx0 hy0
  clear hn h hx1 hy1
  go_enter Try.func53, Try.ntmps53
  go_wp2_with (first
    | (go_at_call 77
       refine (AR.out _).mono ?_
       rintro e w1 ⟨rfl, hb1⟩
       have HB1 : Hid (Below w.heap.size w w1) := ((Below.refl _ _).alloc (Nat.le_refl _) _).trans (hb1.mono (by simp))
       have hk := (hb1.block w.heap.size (by simp)).trans (blk_new w 50 #[.int .i64 (o : Nat), .int .i64 0, .int .i64 0])
       have HK := Lib.hid hk
       have k0 := Blk.cell hk 0
       have k1 := Blk.cell hk 1
       have k2 := Blk.cell hk 2
       have hs1 : w.heap.size < w1.heap.size := (by have := hb1.size; simp at this; omega)
       simp at k0 k1 k2
       clear hb1 hk))
  go_ret
  have e : insB o 0 0 = [o] := by have := HE.out; simp [bodyB] at this ⊢; exact this
  have el : (insB o 0 0).length = 1 := by rw [e]; simp; try omega
  refine ⟨_, rfl, ?_, HB1.out.alloc HB1.out.size _⟩
  have := own_wide (own_one w1 _ o rfl) HB1.out.size
  simp at el e ⊢
  rw [el, e]
  exact this

set_option maxRecDepth 100000 in
set_option maxHeartbeats 4000000 in
theorem rins_1 (o x y : Nat) (w : World) (h : goodI o x y = true) (hn : argN o = 1) :
    Calls Try.prog 53 #[.agg #[.int .i64 (o : Nat), .int .i64 (x : Nat), .int .i64 (y : Nat)]] w fun e w' => ∃ u, e = .returned u ∧ w'.ownsRow w.heap.size 5 1 u (insB o x y).length (Bs (insB o x y)) ∧ Below w.heap.size w w' := by
  have AR := Lib.hid (fun w => refArgs_any o w)
  rw [hn] at AR
  obtain ⟨o', x', y', eo, ex, ey, ho, hx, hy, -, hx1, hy1⟩ := goodI_parts h
  obtain rfl : o = o' := by omega
  obtain rfl : x = x' := by omega
  obtain rfl : y = y' := by omega
  have HE : Hid (insB o x y = [o] ++ bodyB 1 x y) := by
    show insB o x y = [o] ++ bodyB 1 x y
    rw [insB_good h, hn]
    rfl
  have HO : Hid (o < 256) := by show o < 256; omega
  have HX64 : Hid (x < B64) := by show x < B64; unfold B64; omega
  have HY64 : Hid (y < B64) := by show y < B64; unfold B64; omega
  have HL1 : Hid (1 + (vb x).length ≤ 140737488355328) := by show 1 + (vb x).length ≤ 140737488355328; have := vb255 x hx; omega
  have HL2 : Hid (1 + (vb x).length + (vb y).length ≤ 140737488355328) := by show 1 + (vb x).length + (vb y).length ≤ 140737488355328; have := vb255 x hx; have := vb255 y hy; omega
  clear eo ex ey
  have hy0 : y = 0 := hy1 (by rw [hn]; decide)
  subst hy0
  clear hn h hx1 hy1
  go_enter Try.func53, Try.ntmps53
  go_wp2_with (first
    | (go_at_call 77
       refine (AR.out _).mono ?_
       rintro e w1 ⟨rfl, hb1⟩
       have HB1 : Hid (Below w.heap.size w w1) := ((Below.refl _ _).alloc (Nat.le_refl _) _).trans (hb1.mono (by simp))
       have hk := (hb1.block w.heap.size (by simp)).trans (blk_new w 50 #[.int .i64 (o : Nat), .int .i64 (x : Nat), .int .i64 0])
       have HK := Lib.hid hk
       have k0 := Blk.cell hk 0
       have k1 := Blk.cell hk 1
       have k2 := Blk.cell hk 2
       have hs1 : w.heap.size < w1.heap.size := (by have := hb1.size; simp at this; omega)
       simp at k0 k1 k2
       clear hb1 hk)
    | (go_at_call 49
       refine (refVar_any x _ HX64.out).mono ?_
       rintro e w4 ⟨u4, rfl, hown4, hb4⟩
       obtain ⟨A4, c4, rfl, -, -, -, hY4⟩ := own_slice hown4
       have HY4 := Lib.hid hY4
       have HO4 := Lib.hid (own_below (own_one w1 _ o rfl) hb4 (Nat.le_refl _))
       have HB4 : Hid (Below w1.heap.size w1 w4) := ((Below.refl _ _).alloc (Nat.le_refl _) _).trans (hb4.mono (by simp))
       have HS4 := Lib.hid HB4.out.size
       clear hown4 hY4 hb4)
    | (at_builtin
       refine walk_append _ rfl (.tmp 54) (.tmp 58) rfl w1.heap.size (.slice (some ⟨w1.heap.size, 0, none⟩) 1 1) 1 [o] rfl HO4.out A4 (vb x).length c4 (vb x) rfl rfl _ HY4.out HL1.out HS4.out ?_
       intro v5 w5 hown5 hg5 _
       have HO5 := Lib.hid hown5
       have HB5 := Lib.hid (HB4.out.grown hg5 HS4.out (fun i hi => (HO4.out.lt i hi).1))
       have hk5 := (HB5.out.block w.heap.size hs1).trans HK.out
       have k52 := Blk.cell hk5 2
       simp at k52
       clear hown5 hg5 hk5))
  go_ret
  have e : insB o x 0 = [o] ++ vb x := by have := HE.out; simp [bodyB] at this ⊢; exact this
  have el : (insB o x 0).length = 1 + (vb x).length := by rw [e]; simp; try omega
  refine ⟨_, rfl, ?_, HB1.out.trans (HB5.out.mono HB1.out.size)⟩
  simp only [Int.ofNat_zero, Int.natCast_zero] at el e ⊢
  rw [el, e]
  exact own_wide HO5.out HB1.out.size

set_option maxRecDepth 100000 in
set_option maxHeartbeats 4000000 in
theorem rins_2 (o x y : Nat) (w : World) (h : goodI o x y = true) (hn : argN o = 2) :
    Calls Try.prog 53 #[.agg #[.int .i64 (o : Nat), .int .i64 (x : Nat), .int .i64 (y : Nat)]] w fun e w' => ∃ u, e = .returned u ∧ w'.ownsRow w.heap.size 5 1 u (insB o x y).length (Bs (insB o x y)) ∧ Below w.heap.size w w' := by
  have AR := Lib.hid (fun w => refArgs_any o w)
  rw [hn] at AR
  obtain ⟨o', x', y', eo, ex, ey, ho, hx, hy, -, hx1, hy1⟩ := goodI_parts h
  obtain rfl : o = o' := by omega
  obtain rfl : x = x' := by omega
  obtain rfl : y = y' := by omega
  have HE : Hid (insB o x y = [o] ++ bodyB 2 x y) := by
    show insB o x y = [o] ++ bodyB 2 x y
    rw [insB_good h, hn]
    rfl
  have HO : Hid (o < 256) := by show o < 256; omega
  have HX64 : Hid (x < B64) := by show x < B64; unfold B64; omega
  have HY64 : Hid (y < B64) := by show y < B64; unfold B64; omega
  have HL1 : Hid (1 + (vb x).length ≤ 140737488355328) := by show 1 + (vb x).length ≤ 140737488355328; have := vb255 x hx; omega
  have HL2 : Hid (1 + (vb x).length + (vb y).length ≤ 140737488355328) := by show 1 + (vb x).length + (vb y).length ≤ 140737488355328; have := vb255 x hx; have := vb255 y hy; omega
  clear eo ex ey
  clear hn h hx1 hy1
  go_enter Try.func53, Try.ntmps53
  go_wp2_with (first
    | (go_at_call 77
       refine (AR.out _).mono ?_
       rintro e w1 ⟨rfl, hb1⟩
       have HB1 : Hid (Below w.heap.size w w1) := ((Below.refl _ _).alloc (Nat.le_refl _) _).trans (hb1.mono (by simp))
       have hk := (hb1.block w.heap.size (by simp)).trans (blk_new w 50 #[.int .i64 (o : Nat), .int .i64 (x : Nat), .int .i64 (y : Nat)])
       have HK := Lib.hid hk
       have k0 := Blk.cell hk 0
       have k1 := Blk.cell hk 1
       have k2 := Blk.cell hk 2
       have hs1 : w.heap.size < w1.heap.size := (by have := hb1.size; simp at this; omega)
       simp at k0 k1 k2
       clear hb1 hk)
    | (go_at_call 49
       have hp := HO5.out
       clear hp
       refine (refVar_any y w5 HY64.out).mono ?_
       rintro e w6 ⟨u6, rfl, hown6, hb6⟩
       obtain ⟨A6, c6, rfl, -, -, -, hY6⟩ := own_slice hown6
       have HY6 := Lib.hid hY6
       have HO6 := Lib.hid (own_below HO5.out hb6 (Nat.le_refl _))
       have HB6 := Lib.hid (HB5.out.trans (hb6.mono HB5.out.size))
       have HS6 := Lib.hid HB6.out.size
       clear hown6 hY6 hb6)
    | (at_builtin
       have hp := HO6.out
       clear hp
       refine walk_append _ rfl (.tmp 62) (.tmp 66) rfl w1.heap.size v5 (1 + (vb x).length) ([o] ++ vb x) rfl HO6.out A6 (vb y).length c6 (vb y) rfl rfl _ HY6.out HL2.out HS6.out ?_
       intro v7 w7 hown7 hg7 _
       have HO7 := Lib.hid hown7
       have HB7 := Lib.hid (HB6.out.grown hg7 HS6.out (fun i hi => (HO6.out.lt i hi).1))
       clear hown7 hg7)
    | (go_at_call 49
       refine (refVar_any x _ HX64.out).mono ?_
       rintro e w4 ⟨u4, rfl, hown4, hb4⟩
       obtain ⟨A4, c4, rfl, -, -, -, hY4⟩ := own_slice hown4
       have HY4 := Lib.hid hY4
       have HO4 := Lib.hid (own_below (own_one w1 _ o rfl) hb4 (Nat.le_refl _))
       have HB4 : Hid (Below w1.heap.size w1 w4) := ((Below.refl _ _).alloc (Nat.le_refl _) _).trans (hb4.mono (by simp))
       have HS4 := Lib.hid HB4.out.size
       clear hown4 hY4 hb4)
    | (at_builtin
       refine walk_append _ rfl (.tmp 54) (.tmp 58) rfl w1.heap.size (.slice (some ⟨w1.heap.size, 0, none⟩) 1 1) 1 [o] rfl HO4.out A4 (vb x).length c4 (vb x) rfl rfl _ HY4.out HL1.out HS4.out ?_
       intro v5 w5 hown5 hg5 _
       have HO5 := Lib.hid hown5
       have HB5 := Lib.hid (HB4.out.grown hg5 HS4.out (fun i hi => (HO4.out.lt i hi).1))
       have hk5 := (HB5.out.block w.heap.size hs1).trans HK.out
       have k52 := Blk.cell hk5 2
       simp at k52
       clear hown5 hg5 hk5))
  go_ret
  have e : insB o x y = [o] ++ vb x ++ vb y := by have := HE.out; simp [bodyB] at this ⊢; exact this
  have el : (insB o x y).length = 1 + (vb x).length + (vb y).length := by rw [e]; simp; try omega
  refine ⟨_, rfl, ?_, HB1.out.trans (HB7.out.mono HB1.out.size)⟩
  rw [el, e]
  exact own_wide HO7.out HB1.out.size

theorem rins_any (op a b : Int) (w : World) :
    Calls Try.prog 53 #[.agg #[.int .i64 op, .int .i64 a, .int .i64 b]] w fun e w' => ∃ u, e = .returned u ∧ w'.ownsRow w.heap.size 5 1 u (insB op a b).length (Bs (insB op a b)) ∧ Below w.heap.size w w' := by
  by_cases h : goodI op a b = true
  · obtain ⟨o, x, y, rfl, rfl, rfl, -, -, -, h0, -⟩ := goodI_parts h
    rcases argN_cases o with hn | hn | hn | hn
    · omega
    · exact rins_0 o x y w h hn
    · exact rins_1 o x y w h hn
    · exact rins_2 o x y w h hn
  · rw [insB_none h]
    refine (rins_none op a b w (by simpa using h)).mono ?_
    rintro e w' ⟨rfl, hb⟩
    exact ⟨_, rfl, own_nil _ _, hb⟩
end Go.Proofs.Ytlfcglolehmmiaa
