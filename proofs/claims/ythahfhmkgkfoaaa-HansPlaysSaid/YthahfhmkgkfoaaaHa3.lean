/-
  The law's own answers: a table that one handle is opened in, used and closed; the document's Hans.
  Conditions: as each theorem says.
-/
import Derived.Test.YthahfhmkgkfoaaaHu
namespace Go.Proofs.Ythahfhmkgkfoaaa
open Go.RowKit
set_option linter.unusedSimpArgs false
set_option linter.unusedVariables false

set_option maxRecDepth 100000 in
set_option maxHeartbeats 2000000 in
theorem answers13 (w : World) : Calls Try.prog 7 #[] w fun e w' => e = .returned (.bool true) ∧ Below w.heap.size w w' := by
  have HN := Lib.hid (tnew_any none 0 0 [] w rfl (Sq.nil _ _ _ _) (by omega))
  go_enter Try.func7, Try.ntmps7
  go_wp2_with (first
    | (go_at_call 8
       refine HN.out.mono ?_
       rintro e w1 ⟨g, rfl, hg, hp, hb⟩
       have HP : Hid (IsTb (fun b => w.heap.size ≤ b ∧ b < w1.heap.size) w1 g []) := hp
       have HB := Lib.hid hb
       have hs1 := hb.size
       clear hp hb HN)
    | (go_at_call 9
       refine (open_fits g 1 77 w1 HP.out (by decide) ⟨by omega, by omega⟩ (by decide) fun b hb => hb.2).mono ?_
       rintro e w2 ⟨rfl, hp2, ht2⟩
       have HP2 : Hid (IsTb (fun b => w.heap.size ≤ b ∧ b < w2.heap.size) w2 g [⟨1, 77, true⟩]) := hp2.wide fun b _ hb => by omega
       have HB2 : Hid (Below w.heap.size w w2) := HB.out.trans (ht2.below hs1 fun b hb => hb.1)
       have hs2 := ht2.size
       clear hp2 ht2)
    | (go_at_call 10
       refine (use_any g 0 w2 HP2.out (by simp) (by decide)).mono ?_
       rintro e w3 ⟨he, rfl⟩
       rw [show useA [⟨1, 77, true⟩] 0 = (77, 0) from rfl] at he
       subst he)
    | (go_at_call 11
       have hz := HP4.out
       clear hz
       refine (close_no g 0 w4 HP4.out (by simp) (by decide) rfl).mono ?_
       rintro e w5 ⟨rfl, rfl⟩)
    | (go_at_call 11
       refine (close_yes g 0 w2 HP2.out (by simp) (by decide) rfl).mono ?_
       rintro e w4 ⟨rfl, hp4, ht4, hs4⟩
       have HP4 : Hid (IsTb (fun b => w.heap.size ≤ b ∧ b < w2.heap.size) w4 g [⟨1, 77, false⟩]) := hp4
       have HB4 : Hid (Below w.heap.size w w4) := HB2.out.trans (ht4.below (by omega) fun b hb => hb.1)
       clear hp4 ht4))
  go_ret
  exact ⟨rfl, HB4.out⟩
end Go.Proofs.Ythahfhmkgkfoaaa
