/-
  What module's reader does with one text. Conditions: as the theorem says.
-/
import Derived.Test.YtngjnkkdhjholaaGreatQ12
namespace Go.Proofs.YtngjnkkdhjholaaGreat
open Go.RowKit
set_option linter.unusedSimpArgs false
set_option linter.unusedVariables false

set_option maxRecDepth 100000 in
set_option maxHeartbeats 2000000 in
theorem text_any (rb g : Nat) (v0 v1 v2 v3 v4 : Value) (r : Int) (s : Option (List Nat)) (w : World) (h : Mrd w rb g v0 v1 v2 v3 v4 r) (hs : St w g s) :
    Calls Tryz.prog 89 #[.pointer (some ⟨rb, 0, none⟩)] w (Reads strL vOne pt (fun s => s.length ≤ 32) g s w) := by
  have HM := Lib.hid h
  have HS := Lib.hid hs
  have hp := h.ptr
  have hrb := h.2.lt
  by_cases hyes : ∃ v ys, v ≤ 32 ∧ s = some (vb v ++ ys)
  · obtain ⟨v, ys, hv, rfl⟩ := hyes
    have HC : Hid (∀ w1, Only g w w1 → St w1 g (some (vb v ++ ys)) → Calls Tryz.prog 79 #[.pointer (some ⟨rb, 0, none⟩), .int .i64 0, .int .i64 32] w1 fun e w' => e = .returned (.int .i64 (v : Int)) ∧ St w' g (some ys) ∧ Only g w1 w') := fun w1 ho h1 => count_yes rb g v0 v1 v2 v3 v4 r 0 32 v ys w1 (HM.out.only ho) h1 (by omega) (by omega) (by omega) hv
    by_cases hlen : v ≤ ys.length
    · have HT : Hid (∀ w1, St w1 g (some ys) → Calls Tryz.prog 101 #[.pointer (some ⟨g, 0, none⟩), .int .i64 (v : Int)] w1 fun e w' => ∃ u, e = .returned u ∧ w'.ownsRow w1.heap.size 5 1 u v (Bs (ys.take v)) ∧ Good w' g (ys.drop v) ∧ Only g w1 w') := fun w1 h1 => take_ok g v ys w1 h1.1 hlen (by omega)
      have HL : Hid ((ys.take v).length = v) := by show (ys.take v).length = v; simp; omega
      have HBy : Hid (∀ x ∈ ys.take v, x < 256) := fun x hx => hs.2.1 x (by simp [List.mem_of_mem_take hx])
      clear h hs hlen
      go_enter Tryz.func89, Tryz.ntmps89
      go_wp2_with fail
      go_region_with (first
          | (go_at_call 79
             refine (HC.out w.drew (only_below ((Below.refl _ w).drew)) (HS.out.below ((Below.refl _ w).drew))).mono ?_
             rintro e w1 ⟨rfl, hs1, ho1⟩
             have HS1 := Lib.hid hs1
             have HO1 := Lib.hid (only_trans (only_below ((Below.refl _ w).drew)) ho1)
             have hk1 := (HM.out.only HO1.out).ptr
             clear hs1 ho1)
          | (go_at_call 101
             refine (HT.out _ HS1.out).mono ?_
             rintro e w2 ⟨u, rfl, hown, hg2, ho2⟩
             obtain ⟨A2, c2, rfl, -, -, -, hY⟩ := own_slice hown
             obtain ⟨str, hz, hcv⟩ := conv_any (c := c2) HL.out hY HBy.out
             have HZ := Lib.hid hz
             have HG2 := Lib.hid hg2
             have HO2 := Lib.hid ho2
             have hk2 := ((HM.out.only HO1.out).only ho2).ptr
             clear hown hg2 ho2 hY hz))
      all_goals
        go_wp2_with fail
        go_ret
        refine ⟨only_trans HO1.out HO2.out, [.string str], ys.take v, rfl, ⟨str, rfl, HZ.out.symm⟩, .inl ⟨by show (ys.take v).length ≤ 32; rw [HL.out]; exact hv, _, ys.drop v, rfl, ?_, ?_⟩⟩
        · rw [pt, HL.out, List.append_assoc, List.take_append_drop]
        · refine HS.out.rest (ys := vb v ++ ys.take v) ?_ HG2.out
          rw [List.append_assoc, List.take_append_drop]
    · have HT : Hid (∀ w1, St w1 g (some ys) → Calls Tryz.prog 101 #[.pointer (some ⟨g, 0, none⟩), .int .i64 (v : Int)] w1 fun e w' => e = .returned (.slice none 0 0) ∧ Bad w' g ∧ Only g w1 w') := fun w1 h1 => take_short g v ys w1 h1.1 (.inr (by omega))
      have HNO : Hid (∀ xs, some (vb v ++ ys) = some xs → ¬ Has pt (fun s => s.length ≤ 32) xs) := by
        rintro xs e ⟨z, rest, hz, rfl⟩
        injection e with e
        rw [pt, List.append_assoc] at e
        obtain ⟨e1, e2⟩ := vb_unique (by unfold B64; omega) (by unfold B64; omega) e
        rw [e2] at hlen
        simp at hlen
        omega
      clear h hs hlen
      go_enter Tryz.func89, Tryz.ntmps89
      go_wp2_with fail
      go_region_with (first
          | (go_at_call 79
             refine (HC.out w.drew (only_below ((Below.refl _ w).drew)) (HS.out.below ((Below.refl _ w).drew))).mono ?_
             rintro e w1 ⟨rfl, hs1, ho1⟩
             have HS1 := Lib.hid hs1
             have HO1 := Lib.hid (only_trans (only_below ((Below.refl _ w).drew)) ho1)
             have hk1 := (HM.out.only HO1.out).ptr
             clear hs1 ho1)
          | (go_at_call 101
             refine (HT.out _ HS1.out).mono ?_
             rintro e w2 ⟨rfl, hg2, ho2⟩
             obtain ⟨str, hz, hcv⟩ := conv_any (w := w2) (c := 0) (n := 0) (xs := []) rfl (Byt.nil (fun _ => True) w2 none) (by simp)
             have HZ := Lib.hid hz
             have HG2 := Lib.hid hg2
             have HO2 := Lib.hid ho2
             have hk2 := ((HM.out.only HO1.out).only ho2).ptr
             clear hg2 ho2 hz))
      all_goals
        go_wp2_with fail
        go_ret
        exact ⟨only_trans HO1.out HO2.out, [.string str], [], rfl, ⟨str, rfl, HZ.out.symm⟩, .inr ⟨HG2.out, HNO.out⟩⟩
  · have HN0 : ∀ xs, s = some xs → ¬ ∃ v rest, 0 ≤ v ∧ v ≤ 32 ∧ xs = vb v ++ rest := by
      rintro xs rfl ⟨v, rest, _, h2, rfl⟩
      exact hyes ⟨v, rest, h2, rfl⟩
    have HC : Hid (∀ w1, Only g w w1 → St w1 g s → Calls Tryz.prog 79 #[.pointer (some ⟨rb, 0, none⟩), .int .i64 0, .int .i64 32] w1 fun e w' => e = .returned (.int .i64 0) ∧ Bad w' g ∧ Only g w1 w') := fun w1 ho h1 => count_not rb g v0 v1 v2 v3 v4 r 0 32 s w1 (HM.out.only ho) h1 (by omega) (by omega) HN0
    have HT : Hid (∀ w1, Bad w1 g → Calls Tryz.prog 101 #[.pointer (some ⟨g, 0, none⟩), .int .i64 0] w1 fun e w' => e = .returned (.slice none 0 0) ∧ Bad w' g ∧ Only g w1 w') := fun w1 h1 => (take_bad g 0 w1 h1).mono fun e w' ⟨a, b⟩ => by subst b; exact ⟨a, h1, only_refl _ _⟩
    have HNO : Hid (∀ xs, s = some xs → ¬ Has pt (fun s => s.length ≤ 32) xs) := by
      rintro xs rfl ⟨z, rest, hz, rfl⟩
      exact hyes ⟨z.length, z ++ rest, hz, by simp [pt]⟩
    clear h hs hyes HN0
    go_enter Tryz.func89, Tryz.ntmps89
    go_wp2_with fail
    go_region_with (first
        | (go_at_call 79
           refine (HC.out w.drew (only_below ((Below.refl _ w).drew)) (HS.out.below ((Below.refl _ w).drew))).mono ?_
           rintro e w1 ⟨rfl, hs1, ho1⟩
           have HS1 := Lib.hid hs1
           have HO1 := Lib.hid (only_trans (only_below ((Below.refl _ w).drew)) ho1)
           have hk1 := (HM.out.only HO1.out).ptr
           clear hs1 ho1)
        | (go_at_call 101
           refine (HT.out _ HS1.out).mono ?_
           rintro e w2 ⟨rfl, hg2, ho2⟩
           obtain ⟨str, hz, hcv⟩ := conv_any (w := w2) (c := 0) (n := 0) (xs := []) rfl (Byt.nil (fun _ => True) w2 none) (by simp)
           have HZ := Lib.hid hz
           have HG2 := Lib.hid hg2
           have HO2 := Lib.hid ho2
           have hk2 := ((HM.out.only HO1.out).only ho2).ptr
           clear hg2 ho2 hz))
    all_goals
      go_wp2_with fail
      go_ret
      exact ⟨only_trans HO1.out HO2.out, [.string str], [], rfl, ⟨str, rfl, HZ.out.symm⟩, .inr ⟨HG2.out, HNO.out⟩⟩
end Go.Proofs.YtngjnkkdhjholaaGreat
