/-
  The law's own answers: a heap that one object is added to.
  Conditions: none.
-/
import Derived.Test.YtdadaklkaehmjaaHk
namespace Go.Proofs.Ytdadaklkaehmjaa
open Go.RowKit
set_option linter.unusedSimpArgs false
set_option linter.unusedVariables false

def ob5 : Ob := ⟨3, 0, [5], []⟩
theorem ob5_small : ob5.small := ⟨by decide, by decide⟩
/-- An object of words alone, just made. -/
theorem ob_words {S : Nat → Prop} {w : World} {g k : Nat} {xs : List Nat} (hb : Blk w g 31 (Ns xs).toArray) (hg : S g) (hx : ∀ x ∈ xs, x < B64) (hl : xs.length = k) (hk : k ≤ 1000000) : obL.R S w [.int .i64 3, .int .i64 0, .slice (some ⟨g, 0, none⟩) k k, .slice none 0 0] ⟨3, 0, xs, []⟩ := by
  subst hl
  refine ob_make (o := ⟨3, 0, xs, []⟩) (Nat.le_refl _) (by simp only [maxLen]; omega) (Nat.le_refl _) (by simp [maxLen]) (fun h => ⟨_, rfl, hg, fun j x hj => ⟨[.int .u64 (x : Int)], fun i u hu => ?_, rfl, hx x (List.mem_of_getElem? hj)⟩⟩) (Byt.nil _ _ _) (by simp) ⟨by show (-9223372036854775808 : Int) ≤ 3; omega, by show (3 : Int) ≤ 9223372036854775807; omega⟩ ⟨by show (-9223372036854775808 : Int) ≤ 0; omega, by show (0 : Int) ≤ 9223372036854775807; omega⟩
  match i, hu with
  | 0, hu =>
    simp at hu
    subst hu
    rw [add_zero, show j * numL.k + 0 = j by show j * 1 + 0 = j; omega, hb.cell]
    simpa using Ns_at hj
  | i + 1, hu => simp at hu

set_option maxRecDepth 100000 in
set_option maxHeartbeats 2000000 in
theorem answers12 (w : World) : Calls Try.prog 8 #[] w fun e w' => e = .returned (.bool true) ∧ Below w.heap.size w w' := by
  have HN := Lib.hid (new_any none 0 0 [] 100 0 w rfl (Sq.nil _ _ _ _) (by simp) (by omega) ⟨by omega, by omega⟩ ⟨by omega, by omega⟩)
  go_enter Try.func8, Try.ntmps8
  go_wp2_with (first
    | (go_at_call 10
       refine HN.out.mono ?_
       rintro e w1 ⟨g, rfl, hg, hp, hb⟩
       have HP : Hid (IsHp (fun b => w.heap.size ≤ b ∧ b < w1.heap.size) w1 g [] 100 0) := hp
       have HB := Lib.hid hb
       have hs1 := hb.size
       clear hp hb HN)
    | (go_at_call 11
       refine (add_fits [.int .i64 3, .int .i64 0, .slice (some ⟨w1.heap.size, 0, none⟩) 1 1, .slice none 0 0] ob5 g (w1.alloc (.cells #[.int .u64 5] 31)) (HP.out.keep (fun b hb _ => Below.heap_alloc _ _ _ hb) fun b hb => hb.2) (ob_words (xs := [5]) (blk_at rfl) (by simp) (by decide) rfl (by omega)) ob5_small ⟨by omega, by omega⟩ ⟨by omega, by omega⟩ (fun b hb => by simp; omega) (fun h => by rcases h with h | h <;> simp [ob5, Ob.cost] at h)).mono ?_
       rintro e w2 ⟨rfl, hp2, ht2⟩
       have HP2 := Lib.hid hp2
       have HB2 : Hid (Below w.heap.size w w2) := (HB.out.alloc hs1 _).trans (ht2.below (by simp; omega) fun b hb => hb.1)
       have hs2 := ht2.size
       clear hp2 ht2)
    | (go_at_call 14
       refine (word_any g 1 0 w2 HP2.out (by decide) (by decide) (by decide) (fun o ho => by simp at ho; subst ho; exact ob5_small)).mono ?_
       rintro e w3 ⟨he, hb3⟩
       rw [show wordA ([] ++ [ob5]) 1 0 = (5, 0) from by decide] at he
       subst he
       have HP3 := Lib.hid (HP2.out.keep (fun b hb _ => hb3.block b hb) fun b hb => by simp at hs2; omega)
       have HB3 : Hid (Below w.heap.size w w3) := HB2.out.trans (hb3.mono HB2.out.size)
       clear hb3)
    | (go_at_call 20
       refine (used_any g w3 HP3.out).mono ?_
       rintro e w4 ⟨he, rfl⟩
       rw [show (0 : Int) + ob5.cost = 24 from by decide] at he
       subst he))
  go_ret
  exact ⟨rfl, HB3.out⟩
end Go.Proofs.Ytdadaklkaehmjaa
