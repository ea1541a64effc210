/-
  What the document's Words and Objs do.
  Conditions: as each theorem says.
-/
import Derived.Test.YtdadaklkaehmjaaHo
import Derived.Test.YtdadaklkaehmjaaSme
import Derived.Deep.QuietTactic
import Derived.BigQuiet
import Derived.Lib.QuietBelow
import Derived.Deep.DeepCutAuto
namespace Go.Proofs.Ytdadaklkaehmjaa
open Go.RowKit
set_option linter.unusedSimpArgs false
set_option linter.unusedVariables false

set_option maxHeartbeats 1000000 in
theorem rwords_yes (A B : Option Addr) (n c d : Nat) (xs : List Nat) (w : World) (S T : Nat → Prop) (hn : xs.length = n) (hA : Sq numL S w A xs) (hB : Sq numL T w B xs) (hx : n ≤ 140737488355328) :
    Calls Try.prog 28 #[.slice A n c, .slice B n d] w fun e w' => e = .returned (.bool true) ∧ Below w.heap.size w w' := by
  have HN := Lib.hid hn
  have HA := Lib.hid hA
  have HB := Lib.hid hB
  clear hA hB hn
  go_enter Try.func28, Try.ntmps28
  go_wp2_with fail
  go_loopw [5] (fun i wr => ∃ k q : Nat, k ≤ n ∧ i = .int .i64 (k : Nat) ∧ wr = w.drewN q) (fun i _ => n - (intOf i).toNat)
  case atStart => exact ⟨0, 0, Nat.zero_le _, rfl, rfl⟩
  case round =>
    obtain ⟨k, q, hk, rfl, rfl⟩ := hrel
    by_cases hlt : k < n
    · obtain ⟨x, hx⟩ : ∃ x, xs[k]? = some x := ⟨xs[k]'(by rw [HN.out]; exact hlt), List.getElem?_eq_getElem _⟩
      obtain ⟨a, ea, -, ha, -⟩ := num_at HA.out hx
      obtain ⟨b, eb, -, hb, -⟩ := num_at HB.out hx
      subst ea eb
      have k0 : 0 ≤ (k : Int) := by omega
      have k1 : (k : Int) < (n : Int) := by omega
      have t1 : ((x : Int) != (x : Int)) = false := by simp
      clear hx
      go_wp2
      go_quiet (fail)
      go_wp2
      exact ⟨⟨k + 1, _, by omega, by simp, rfl⟩, by simp [intOf]; omega⟩
    · go_wp2
      go_ret
      exact ⟨rfl, below_drewN w q⟩

set_option maxRecDepth 100000 in
set_option maxHeartbeats 4000000 in
theorem robjs_yes (A B : Option Addr) (n c d : Nat) (O : List Ob) (w : World) (S T : Nat → Prop) (hl : O.length = n) (hS : ∀ b, S b → b < w.heap.size) (hT : ∀ b, T b → b < w.heap.size) (hA : Sq obL S w A O) (hB : Sq obL T w B O) (hz : ∀ o ∈ O, o.small) (hn : n ≤ 1000000) :
    Calls Try.prog 21 #[.slice A n c, .slice B n d] w fun e w' => e = .returned (.bool true) ∧ Below w.heap.size w w' := by
  have HL := Lib.hid hl
  have HA := Lib.hid (hA.wide hS)
  have HB := Lib.hid (hB.wide hT)
  have HZ := Lib.hid hz
  clear hA hB hl hS hT hz
  go_enter Try.func21, Try.ntmps21
  go_wp2_with fail
  go_loopw [5] (fun i wr => ∃ k : Nat, k ≤ n ∧ i = .int .i64 (k : Nat) ∧ Below w.heap.size w wr) (fun i _ => n - (intOf i).toNat)
  case atStart => exact ⟨0, Nat.zero_le _, rfl, Below.refl _ _⟩
  case round =>
    obtain ⟨k, hk, rfl, hbel⟩ := hrel
    have HBr := Lib.hid hbel
    have hsr := hbel.size
    clear hbel
    by_cases hlt : k < n
    · obtain ⟨o, ho⟩ : ∃ o, O[k]? = some o := ⟨O[k]'(by rw [HL.out]; exact hlt), List.getElem?_eq_getElem _⟩
      have hsm := HZ.out o (List.mem_of_getElem? ho)
      obtain ⟨a, csa, ea, hab, hca, hRa⟩ := HA.out.at ho
      obtain ⟨b, csb, eb, hbb, hcb, hRb⟩ := HB.out.at ho
      subst ea eb
      obtain ⟨A0, c0, B0, d0, rfl, -, -, -, -, sA, yA, -, -, -⟩ := ob_parts hRa
      obtain ⟨A1, c1, B1, d1, rfl, -, -, -, -, sB, yB, -, -, -⟩ := ob_parts hRb
      have ca0 := cell_regrown ((HBr.out.cell (p := a.add (k * 4)) (by rw [addBlock]; exact hab)).trans (hca 0 _ rfl))
      have ca1 := (HBr.out.cell (p := a.add (k * 4 + 1)) (by rw [addBlock]; exact hab)).trans (hca 1 _ rfl)
      rw [next_cell a (k * 4) 1 (by omega)] at ca1
      have ca2 := (HBr.out.cell (p := a.add (k * 4 + 2)) (by rw [addBlock]; exact hab)).trans (hca 2 _ rfl)
      rw [next_cell a (k * 4) 2 (by omega)] at ca2
      have ca3 := (HBr.out.cell (p := a.add (k * 4 + 3)) (by rw [addBlock]; exact hab)).trans (hca 3 _ rfl)
      rw [next_cell a (k * 4) 3 (by omega)] at ca3
      have cb0 := cell_regrown ((HBr.out.cell (p := b.add (k * 4)) (by rw [addBlock]; exact hbb)).trans (hcb 0 _ rfl))
      have cb1 := (HBr.out.cell (p := b.add (k * 4 + 1)) (by rw [addBlock]; exact hbb)).trans (hcb 1 _ rfl)
      rw [next_cell b (k * 4) 1 (by omega)] at cb1
      have cb2 := (HBr.out.cell (p := b.add (k * 4 + 2)) (by rw [addBlock]; exact hbb)).trans (hcb 2 _ rfl)
      rw [next_cell b (k * 4) 2 (by omega)] at cb2
      have cb3 := (HBr.out.cell (p := b.add (k * 4 + 3)) (by rw [addBlock]; exact hbb)).trans (hcb 3 _ rfl)
      rw [next_cell b (k * 4) 3 (by omega)] at cb3
      have ca1r := cell_regrown ca1
      have ca2r := cell_regrown ca2
      have ca3r := cell_regrown ca3
      have cb1r := cell_regrown cb1
      have cb2r := cell_regrown cb2
      have cb3r := cell_regrown cb3
      have HW : Hid (∀ V, Below w.heap.size w V → Calls Try.prog 28 #[.slice A0 o.words.length c0, .slice A1 o.words.length c1] V fun e w' => e = .returned (.bool true) ∧ Below V.heap.size V w') := fun V hV =>
        rwords_yes A0 A1 _ c0 c1 o.words V _ _ rfl (sA.keep fun b hb => hV.block b hb) (sB.keep fun b hb => hV.block b hb) (by have := hsm.1; omega)
      have HY : Hid (∀ V, Below w.heap.size w V → Calls Try.prog 29 #[.slice B0 o.bytes.length d0, .slice B1 o.bytes.length d1] V fun e w' => e = .returned (.bool true) ∧ Below V.heap.size V w') := fun V hV =>
        (same_yes B0 B1 _ _ d0 d1 o.bytes o.bytes V _ _ rfl rfl rfl (yA.keep fun b hb => hV.block b hb) (yB.keep fun b hb => hV.block b hb) (by have := hsm.2; omega)).mono fun e w' q => ⟨q.1, by obtain ⟨-, m, rfl⟩ := q; exact below_drewN V m⟩
      have HR : Hid (∀ dq osq, Below w.heap.size w (Go.Sort.grow (redrawn wr dq) osq)) := fun dq osq => HBr.out.trans ((below_regrown wr dq osq).mono hsr)
      have k0 : 0 ≤ (k : Int) := by omega
      have k1 : (k : Int) < (n : Int) := by omega
      clear ca1 ca2 ca3 cb1 cb2 cb3 hca hcb hRa hRb sA yA sB yB ho hsm
      generalize o.kind = kk at *
      generalize o.n = nn at *
      generalize o.words.length = pp at *
      generalize o.bytes.length = qq at *
      have t0 : (kk != kk) = false := by simp
      have t1 : (nn != nn) = false := by simp
      go_wp2_with fail
      refine wp_region_quiet_below (by kernel_rfl) (by kernel_rfl) ?_
      repeat (quiet_step (first | with_reducible exact Calls.regrown_of (HW.out _ (HR.out _ _)) | with_reducible exact Calls.regrown_of (HY.out _ (HR.out _ _))))
      refine wpQuiet_nil ?_
      intro _ hw'
      obtain ⟨⟨dq, osq⟩, hw''⟩ := hw'
      subst hw''
      have HX2 := Lib.hid (HR.out dq osq)
      go_wp2_with fail
      exact ⟨⟨k + 1, by omega, by simp, HX2.out⟩, by simp [intOf]; omega⟩
    · go_wp2
      go_ret
      exact ⟨rfl, HBr.out⟩
end Go.Proofs.Ytdadaklkaehmjaa
