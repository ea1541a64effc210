/-
  What module's listOf does over elements of one kind ([]chrysalis/api.Type): as many as are asked for, each read by the reader. Conditions: as the theorem says.
  What module's listOf does over elements of one kind (chrysalis/api.Func): as many as are asked for, each read by the reader. Conditions: as the theorem says.
  What module's listOf does over elements of one kind (chrysalis/api.Import): as many as are asked for, each read by the reader. Conditions: as the theorem says.
  What module's listOf does over elements of one kind (uint64): as many as are asked for, each read by the reader. Conditions: as the theorem says.
  What module's listOf does over elements of one kind (string): as many as are asked for, each read by the reader. Conditions: as the theorem says.
  What module's reader does with each of the five parts: its list is read, and kept. Conditions: as each theorem says.
-/
import Derived.Test.YtngjnkkdhjholaaGreatQ12
import Derived.Test.YtngjnkkdhjholaaGreatQ13
import Derived.Test.YtngjnkkdhjholaaGreatQ14
namespace Go.Proofs.YtngjnkkdhjholaaGreat
open Go.RowKit
set_option linter.unusedSimpArgs false
set_option linter.unusedVariables false

theorem info_rec : (Tryz.prog.info? 47).map (fun i => (i.zero, i.size, i.bytes)) = some (some (.slice none 0 0), tysL.k, 24) := by kernel_rfl

set_option maxRecDepth 100000 in
set_option maxHeartbeats 1000000 in
theorem listOf_rec (rb g n : Nat) (gd : (List Typ) → Prop) (hPF : PF (lB tB) gd) (s : Option (List Nat)) (w : World) (hs : St w g s) (hn : n ≤ 1000000)
    (hE : ∀ (w1 : World) (s1 : Option (List Nat)), Only g w w1 → St w1 g s1 → Calls Tryz.prog 81 #[.pointer (some ⟨rb, 0, none⟩)] w1 (Reads tysL vOne (lB tB) gd g s1 w1)) :
    Calls Tryz.prog 80 #[.int .i64 (n : Int), .func (.func 81) #[.pointer (some ⟨rb, 0, none⟩)] #[]] w (ReadsN tysL 47 (lB tB) gd n g s w) := by
  have hg := hs.lt
  have HS := Lib.hid hs
  have HE := Lib.hid hE
  have HPF := Lib.hid hPF
  clear hs hE hPF
  go_enter Tryz.func80, Tryz.ntmps80
  go_wp2_with fail
  go_loopw [5, 7] (fun v i wr => ∃ k : Nat, k ≤ n ∧ i = .int .i64 (k : Nat) ∧ ∃ xs : List (List Typ), xs.length = k ∧ Owns tysL 47 w.heap.size wr v xs ∧ Only g w wr ∧ ∃ t, St wr g t ∧ Upto (lB tB) gd n s t xs) (fun _ i _ => n - (intOf i).toNat)
  case atStart => exact ⟨0, Nat.zero_le _, rfl, [], rfl, Owns.nil _ _ _ _, only_refl _ _, s, HS.out, Upto.start _ _ _ _⟩
  case round =>
    obtain ⟨k, hk, rfl, xs, hxl, hown, honly, t, ht, hup⟩ := hrel
    have HX := Lib.hid hxl
    have HO := Lib.hid hown
    have HY := Lib.hid honly
    have HT := Lib.hid ht
    have HU := Lib.hid hup
    have hsz := honly.size
    clear hxl hown honly ht hup
    by_cases hlt : k < n
    · have HC := Lib.hid (HE.out wr t HY.out HT.out)
      go_wp2_with (first
        | (go_at_call 81
           refine HC.out.mono ?_
           rintro e w1 ⟨ho1, cs, x, he, hr, hx⟩
           have HR := Lib.hid hr
           have HXX := Lib.hid hx
           have HO1 := Lib.hid ho1
           have HW1 := Lib.hid (HO.out.kept hg ho1)
           have hs1 := ho1.size
           obtain ⟨A2, d2, rfl, -, -, -⟩ := hr
           obtain rfl : e = .returned (.slice A2 x.length d2) := he
           clear hx ho1)
        | (at_builtin
           refine walk_append_el tysL _ rfl (.tmp 9) (.tmp 12) 22 47 rfl (.slice none 0 0) 24 Tryz.underlying22 info_rec rfl (by decide) (by decide) w.heap.size u5 xs rfl (HW1.out.kept hg (only_alloc _)) ⟨w1.heap.size, 0, none⟩ 1 rfl [.slice A2 x.length d2] x (cell_new w1 47 [.slice A2 x.length d2]) ?_ (by rw [HX.out]; omega) (by simp; omega) ?_
           · exact tysL.wide (tysL.keep HR.out fun b hb => Below.heap_alloc _ _ _ hb.2) fun b hb => ⟨by omega, by simp; omega, fun e => by have := HO.out.lt b e; omega⟩
           intro v2 w2 hown2 hg2
           have HO2 := Lib.hid hown2
           have HG2 := Lib.hid hg2
           clear hown2 hg2))
      have hrow : ∀ i, u5.ownBlock = some i → w.heap.size ≤ i := fun i hi => (HO.out.lt i hi).1
      have hO3 : Only g w w2 := only_grown (only_trans HY.out (only_trans HO1.out (only_alloc _))) HG2.out hrow
      have hB3 : Below w.heap.size w1 w2 := ((Below.refl _ _).alloc (by omega) _).trans (below_grown HG2.out (by simp; omega) hrow)
      obtain ⟨t', ht', hu'⟩ := HU.out.step HPF.out (by rw [HX.out]; exact hlt) HXX.out
      exact ⟨⟨k + 1, by omega, by simp, xs ++ [x], by simp [HX.out], HO2.out, hO3, t', ht'.low hB3 hg, hu'⟩, by simp [intOf]; omega⟩
    · obtain rfl : k = n := by omega
      go_wp2_with fail
      go_ret
      refine ⟨HY.out, _, xs, rfl, HO.out, HX.out, ?_⟩
      rcases HU.out with ⟨h1, zs, rest, h2, h3, rfl⟩ | ⟨rfl, h1⟩
      · exact .inl ⟨h1, zs, rest, h2, h3, HT.out⟩
      · exact .inr ⟨HT.out, h1⟩
end Go.Proofs.YtngjnkkdhjholaaGreat
namespace Go.Proofs.YtngjnkkdhjholaaGreat
open Go.RowKit
set_option linter.unusedSimpArgs false
set_option linter.unusedVariables false

theorem info_fn : (Tryz.prog.info? 52).map (fun i => (i.zero, i.size, i.bytes)) = some (some (.agg #[.slice none 0 0, .int .i64 0, .int .i64 0, .slice none 0 0, .slice none 0 0]), fnL.k, 88) := by kernel_rfl

set_option maxRecDepth 100000 in
set_option maxHeartbeats 1000000 in
theorem listOf_fn (rb g n : Nat) (gd : Fn → Prop) (hPF : PF fnB gd) (s : Option (List Nat)) (w : World) (hs : St w g s) (hn : n ≤ 1000000)
    (hE : ∀ (w1 : World) (s1 : Option (List Nat)), Only g w w1 → St w1 g s1 → Calls Tryz.prog 83 #[.pointer (some ⟨rb, 0, none⟩)] w1 (Reads fnL vAgg fnB gd g s1 w1)) :
    Calls Tryz.prog 82 #[.int .i64 (n : Int), .func (.func 83) #[.pointer (some ⟨rb, 0, none⟩)] #[]] w (ReadsN fnL 52 fnB gd n g s w) := by
  have hg := hs.lt
  have HS := Lib.hid hs
  have HE := Lib.hid hE
  have HPF := Lib.hid hPF
  clear hs hE hPF
  go_enter Tryz.func82, Tryz.ntmps82
  go_wp2_with fail
  go_loopw [5, 7] (fun v i wr => ∃ k : Nat, k ≤ n ∧ i = .int .i64 (k : Nat) ∧ ∃ xs : List Fn, xs.length = k ∧ Owns fnL 52 w.heap.size wr v xs ∧ Only g w wr ∧ ∃ t, St wr g t ∧ Upto fnB gd n s t xs) (fun _ i _ => n - (intOf i).toNat)
  case atStart => exact ⟨0, Nat.zero_le _, rfl, [], rfl, Owns.nil _ _ _ _, only_refl _ _, s, HS.out, Upto.start _ _ _ _⟩
  case round =>
    obtain ⟨k, hk, rfl, xs, hxl, hown, honly, t, ht, hup⟩ := hrel
    have HX := Lib.hid hxl
    have HO := Lib.hid hown
    have HY := Lib.hid honly
    have HT := Lib.hid ht
    have HU := Lib.hid hup
    have hsz := honly.size
    clear hxl hown honly ht hup
    by_cases hlt : k < n
    · have HC := Lib.hid (HE.out wr t HY.out HT.out)
      go_wp2_with (first
        | (go_at_call 83
           refine HC.out.mono ?_
           rintro e w1 ⟨ho1, cs, x, he, hr, hx⟩
           have HR := Lib.hid hr
           have HXX := Lib.hid hx
           have HO1 := Lib.hid ho1
           have HW1 := Lib.hid (HO.out.kept hg ho1)
           have hs1 := ho1.size
           obtain ⟨p0, p1, p2, rfl, -, -, ⟨A4, d4, e4, -⟩, ⟨A5, d5, e5, -⟩, ⟨A6, d6, e6, -⟩⟩ := hr
           simp only [List.cons.injEq, and_true] at e4 e5 e6
           subst e4 e5 e6
           obtain rfl : e = .returned (.agg #[.slice A4 x.args.length d4, .int .i64 x.ret.1, .int .i64 x.ret.2, .slice A5 x.locs.length d5, .slice A6 x.code.length d6]) := he
           clear hx ho1)
        | (at_builtin
           refine walk_append_el fnL _ rfl (.tmp 9) (.tmp 12) 23 52 rfl (.agg #[.slice none 0 0, .int .i64 0, .int .i64 0, .slice none 0 0, .slice none 0 0]) 88 Tryz.underlying23 info_fn rfl (by decide) (by decide) w.heap.size u5 xs rfl (HW1.out.kept hg (only_alloc _)) ⟨w1.heap.size, 0, none⟩ 1 rfl [.slice A4 x.args.length d4, .int .i64 x.ret.1, .int .i64 x.ret.2, .slice A5 x.locs.length d5, .slice A6 x.code.length d6] x (cell_new w1 52 [.slice A4 x.args.length d4, .int .i64 x.ret.1, .int .i64 x.ret.2, .slice A5 x.locs.length d5, .slice A6 x.code.length d6]) ?_ (by rw [HX.out]; omega) (by simp; omega) ?_
           · exact fnL.wide (fnL.keep HR.out fun b hb => Below.heap_alloc _ _ _ hb.2) fun b hb => ⟨by omega, by simp; omega, fun e => by have := HO.out.lt b e; omega⟩
           intro v2 w2 hown2 hg2
           have HO2 := Lib.hid hown2
           have HG2 := Lib.hid hg2
           clear hown2 hg2))
      have hrow : ∀ i, u5.ownBlock = some i → w.heap.size ≤ i := fun i hi => (HO.out.lt i hi).1
      have hO3 : Only g w w2 := only_grown (only_trans HY.out (only_trans HO1.out (only_alloc _))) HG2.out hrow
      have hB3 : Below w.heap.size w1 w2 := ((Below.refl _ _).alloc (by omega) _).trans (below_grown HG2.out (by simp; omega) hrow)
      obtain ⟨t', ht', hu'⟩ := HU.out.step HPF.out (by rw [HX.out]; exact hlt) HXX.out
      exact ⟨⟨k + 1, by omega, by simp, xs ++ [x], by simp [HX.out], HO2.out, hO3, t', ht'.low hB3 hg, hu'⟩, by simp [intOf]; omega⟩
    · obtain rfl : k = n := by omega
      go_wp2_with fail
      go_ret
      refine ⟨HY.out, _, xs, rfl, HO.out, HX.out, ?_⟩
      rcases HU.out with ⟨h1, zs, rest, h2, h3, rfl⟩ | ⟨rfl, h1⟩
      · exact .inl ⟨h1, zs, rest, h2, h3, HT.out⟩
      · exact .inr ⟨HT.out, h1⟩
end Go.Proofs.YtngjnkkdhjholaaGreat
namespace Go.Proofs.YtngjnkkdhjholaaGreat
open Go.RowKit
set_option linter.unusedSimpArgs false
set_option linter.unusedVariables false

theorem info_imp : (Tryz.prog.info? 54).map (fun i => (i.zero, i.size, i.bytes)) = some (some (.agg #[.slice none 0 0, .int .i64 0, .int .i64 0]), impL.k, 40) := by kernel_rfl

set_option maxRecDepth 100000 in
set_option maxHeartbeats 1000000 in
theorem listOf_imp (rb g n : Nat) (gd : Imp → Prop) (hPF : PF impB gd) (s : Option (List Nat)) (w : World) (hs : St w g s) (hn : n ≤ 1000000)
    (hE : ∀ (w1 : World) (s1 : Option (List Nat)), Only g w w1 → St w1 g s1 → Calls Tryz.prog 85 #[.pointer (some ⟨rb, 0, none⟩)] w1 (Reads impL vAgg impB gd g s1 w1)) :
    Calls Tryz.prog 84 #[.int .i64 (n : Int), .func (.func 85) #[.pointer (some ⟨rb, 0, none⟩)] #[]] w (ReadsN impL 54 impB gd n g s w) := by
  have hg := hs.lt
  have HS := Lib.hid hs
  have HE := Lib.hid hE
  have HPF := Lib.hid hPF
  clear hs hE hPF
  go_enter Tryz.func84, Tryz.ntmps84
  go_wp2_with fail
  go_loopw [5, 7] (fun v i wr => ∃ k : Nat, k ≤ n ∧ i = .int .i64 (k : Nat) ∧ ∃ xs : List Imp, xs.length = k ∧ Owns impL 54 w.heap.size wr v xs ∧ Only g w wr ∧ ∃ t, St wr g t ∧ Upto impB gd n s t xs) (fun _ i _ => n - (intOf i).toNat)
  case atStart => exact ⟨0, Nat.zero_le _, rfl, [], rfl, Owns.nil _ _ _ _, only_refl _ _, s, HS.out, Upto.start _ _ _ _⟩
  case round =>
    obtain ⟨k, hk, rfl, xs, hxl, hown, honly, t, ht, hup⟩ := hrel
    have HX := Lib.hid hxl
    have HO := Lib.hid hown
    have HY := Lib.hid honly
    have HT := Lib.hid ht
    have HU := Lib.hid hup
    have hsz := honly.size
    clear hxl hown honly ht hup
    by_cases hlt : k < n
    · have HC := Lib.hid (HE.out wr t HY.out HT.out)
      go_wp2_with (first
        | (go_at_call 85
           refine HC.out.mono ?_
           rintro e w1 ⟨ho1, cs, x, he, hr, hx⟩
           have HR := Lib.hid hr
           have HXX := Lib.hid hx
           have HO1 := Lib.hid ho1
           have HW1 := Lib.hid (HO.out.kept hg ho1)
           have hs1 := ho1.size
           obtain ⟨p0, rfl, -, -, ⟨A4, d4, e4, -⟩⟩ := hr
           simp only [List.cons.injEq, and_true] at e4
           subst e4
           obtain rfl : e = .returned (.agg #[.slice A4 x.args.length d4, .int .i64 x.ret.1, .int .i64 x.ret.2]) := he
           clear hx ho1)
        | (at_builtin
           refine walk_append_el impL _ rfl (.tmp 9) (.tmp 12) 24 54 rfl (.agg #[.slice none 0 0, .int .i64 0, .int .i64 0]) 40 Tryz.underlying24 info_imp rfl (by decide) (by decide) w.heap.size u5 xs rfl (HW1.out.kept hg (only_alloc _)) ⟨w1.heap.size, 0, none⟩ 1 rfl [.slice A4 x.args.length d4, .int .i64 x.ret.1, .int .i64 x.ret.2] x (cell_new w1 54 [.slice A4 x.args.length d4, .int .i64 x.ret.1, .int .i64 x.ret.2]) ?_ (by rw [HX.out]; omega) (by simp; omega) ?_
           · exact impL.wide (impL.keep HR.out fun b hb => Below.heap_alloc _ _ _ hb.2) fun b hb => ⟨by omega, by simp; omega, fun e => by have := HO.out.lt b e; omega⟩
           intro v2 w2 hown2 hg2
           have HO2 := Lib.hid hown2
           have HG2 := Lib.hid hg2
           clear hown2 hg2))
      have hrow : ∀ i, u5.ownBlock = some i → w.heap.size ≤ i := fun i hi => (HO.out.lt i hi).1
      have hO3 : Only g w w2 := only_grown (only_trans HY.out (only_trans HO1.out (only_alloc _))) HG2.out hrow
      have hB3 : Below w.heap.size w1 w2 := ((Below.refl _ _).alloc (by omega) _).trans (below_grown HG2.out (by simp; omega) hrow)
      obtain ⟨t', ht', hu'⟩ := HU.out.step HPF.out (by rw [HX.out]; exact hlt) HXX.out
      exact ⟨⟨k + 1, by omega, by simp, xs ++ [x], by simp [HX.out], HO2.out, hO3, t', ht'.low hB3 hg, hu'⟩, by simp [intOf]; omega⟩
    · obtain rfl : k = n := by omega
      go_wp2_with fail
      go_ret
      refine ⟨HY.out, _, xs, rfl, HO.out, HX.out, ?_⟩
      rcases HU.out with ⟨h1, zs, rest, h2, h3, rfl⟩ | ⟨rfl, h1⟩
      · exact .inl ⟨h1, zs, rest, h2, h3, HT.out⟩
      · exact .inr ⟨HT.out, h1⟩
end Go.Proofs.YtngjnkkdhjholaaGreat
namespace Go.Proofs.YtngjnkkdhjholaaGreat
open Go.RowKit
set_option linter.unusedSimpArgs false
set_option linter.unusedVariables false

theorem info_num : (Tryz.prog.info? 65).map (fun i => (i.zero, i.size, i.bytes)) = some (some (.int .u64 0), numL.k, 8) := by kernel_rfl

set_option maxRecDepth 100000 in
set_option maxHeartbeats 1000000 in
theorem listOf_num (rb g n : Nat) (gd : Nat → Prop) (hPF : PF numB gd) (s : Option (List Nat)) (w : World) (hs : St w g s) (hn : n ≤ 1000000)
    (hE : ∀ (w1 : World) (s1 : Option (List Nat)), Only g w w1 → St w1 g s1 → Calls Tryz.prog 87 #[.pointer (some ⟨rb, 0, none⟩)] w1 (Reads numL vOne numB gd g s1 w1)) :
    Calls Tryz.prog 86 #[.int .i64 (n : Int), .func (.func 87) #[.pointer (some ⟨rb, 0, none⟩)] #[]] w (ReadsN numL 65 numB gd n g s w) := by
  have hg := hs.lt
  have HS := Lib.hid hs
  have HE := Lib.hid hE
  have HPF := Lib.hid hPF
  clear hs hE hPF
  go_enter Tryz.func86, Tryz.ntmps86
  go_wp2_with fail
  go_loopw [5, 7] (fun v i wr => ∃ k : Nat, k ≤ n ∧ i = .int .i64 (k : Nat) ∧ ∃ xs : List Nat, xs.length = k ∧ Owns numL 65 w.heap.size wr v xs ∧ Only g w wr ∧ ∃ t, St wr g t ∧ Upto numB gd n s t xs) (fun _ i _ => n - (intOf i).toNat)
  case atStart => exact ⟨0, Nat.zero_le _, rfl, [], rfl, Owns.nil _ _ _ _, only_refl _ _, s, HS.out, Upto.start _ _ _ _⟩
  case round =>
    obtain ⟨k, hk, rfl, xs, hxl, hown, honly, t, ht, hup⟩ := hrel
    have HX := Lib.hid hxl
    have HO := Lib.hid hown
    have HY := Lib.hid honly
    have HT := Lib.hid ht
    have HU := Lib.hid hup
    have hsz := honly.size
    clear hxl hown honly ht hup
    by_cases hlt : k < n
    · have HC := Lib.hid (HE.out wr t HY.out HT.out)
      go_wp2_with (first
        | (go_at_call 87
           refine HC.out.mono ?_
           rintro e w1 ⟨ho1, cs, x, he, hr, hx⟩
           have HR := Lib.hid hr
           have HXX := Lib.hid hx
           have HO1 := Lib.hid ho1
           have HW1 := Lib.hid (HO.out.kept hg ho1)
           have hs1 := ho1.size
           obtain ⟨rfl, -⟩ := hr
           obtain rfl : e = .returned (.int .u64 (x : Int)) := he
           clear hx ho1)
        | (at_builtin
           refine walk_append_el numL _ rfl (.tmp 9) (.tmp 12) 25 65 rfl (.int .u64 0) 8 Tryz.underlying25 info_num rfl (by decide) (by decide) w.heap.size u5 xs rfl (HW1.out.kept hg (only_alloc _)) ⟨w1.heap.size, 0, none⟩ 1 rfl [.int .u64 (x : Int)] x (cell_new w1 65 [.int .u64 (x : Int)]) ?_ (by rw [HX.out]; omega) (by simp; omega) ?_
           · exact numL.wide (numL.keep HR.out fun b hb => Below.heap_alloc _ _ _ hb.2) fun b hb => ⟨by omega, by simp; omega, fun e => by have := HO.out.lt b e; omega⟩
           intro v2 w2 hown2 hg2
           have HO2 := Lib.hid hown2
           have HG2 := Lib.hid hg2
           clear hown2 hg2))
      have hrow : ∀ i, u5.ownBlock = some i → w.heap.size ≤ i := fun i hi => (HO.out.lt i hi).1
      have hO3 : Only g w w2 := only_grown (only_trans HY.out (only_trans HO1.out (only_alloc _))) HG2.out hrow
      have hB3 : Below w.heap.size w1 w2 := ((Below.refl _ _).alloc (by omega) _).trans (below_grown HG2.out (by simp; omega) hrow)
      obtain ⟨t', ht', hu'⟩ := HU.out.step HPF.out (by rw [HX.out]; exact hlt) HXX.out
      exact ⟨⟨k + 1, by omega, by simp, xs ++ [x], by simp [HX.out], HO2.out, hO3, t', ht'.low hB3 hg, hu'⟩, by simp [intOf]; omega⟩
    · obtain rfl : k = n := by omega
      go_wp2_with fail
      go_ret
      refine ⟨HY.out, _, xs, rfl, HO.out, HX.out, ?_⟩
      rcases HU.out with ⟨h1, zs, rest, h2, h3, rfl⟩ | ⟨rfl, h1⟩
      · exact .inl ⟨h1, zs, rest, h2, h3, HT.out⟩
      · exact .inr ⟨HT.out, h1⟩
end Go.Proofs.YtngjnkkdhjholaaGreat
namespace Go.Proofs.YtngjnkkdhjholaaGreat
open Go.RowKit
set_option linter.unusedSimpArgs false
set_option linter.unusedVariables false

theorem info_str : (Tryz.prog.info? 9).map (fun i => (i.zero, i.size, i.bytes)) = some (some (.string ⟨#[]⟩), strL.k, 16) := by kernel_rfl

set_option maxRecDepth 100000 in
set_option maxHeartbeats 1000000 in
theorem listOf_str (rb g n : Nat) (gd : (List Nat) → Prop) (hPF : PF pt gd) (s : Option (List Nat)) (w : World) (hs : St w g s) (hn : n ≤ 1000000)
    (hE : ∀ (w1 : World) (s1 : Option (List Nat)), Only g w w1 → St w1 g s1 → Calls Tryz.prog 89 #[.pointer (some ⟨rb, 0, none⟩)] w1 (Reads strL vOne pt gd g s1 w1)) :
    Calls Tryz.prog 88 #[.int .i64 (n : Int), .func (.func 89) #[.pointer (some ⟨rb, 0, none⟩)] #[]] w (ReadsN strL 9 pt gd n g s w) := by
  have hg := hs.lt
  have HS := Lib.hid hs
  have HE := Lib.hid hE
  have HPF := Lib.hid hPF
  clear hs hE hPF
  go_enter Tryz.func88, Tryz.ntmps88
  go_wp2_with fail
  go_loopw [5, 7] (fun v i wr => ∃ k : Nat, k ≤ n ∧ i = .int .i64 (k : Nat) ∧ ∃ xs : List (List Nat), xs.length = k ∧ Owns strL 9 w.heap.size wr v xs ∧ Only g w wr ∧ ∃ t, St wr g t ∧ Upto pt gd n s t xs) (fun _ i _ => n - (intOf i).toNat)
  case atStart => exact ⟨0, Nat.zero_le _, rfl, [], rfl, Owns.nil _ _ _ _, only_refl _ _, s, HS.out, Upto.start _ _ _ _⟩
  case round =>
    obtain ⟨k, hk, rfl, xs, hxl, hown, honly, t, ht, hup⟩ := hrel
    have HX := Lib.hid hxl
    have HO := Lib.hid hown
    have HY := Lib.hid honly
    have HT := Lib.hid ht
    have HU := Lib.hid hup
    have hsz := honly.size
    clear hxl hown honly ht hup
    by_cases hlt : k < n
    · have HC := Lib.hid (HE.out wr t HY.out HT.out)
      go_wp2_with (first
        | (go_at_call 89
           refine HC.out.mono ?_
           rintro e w1 ⟨ho1, cs, x, he, hr, hx⟩
           have HR := Lib.hid hr
           have HXX := Lib.hid hx
           have HO1 := Lib.hid ho1
           have HW1 := Lib.hid (HO.out.kept hg ho1)
           have hs1 := ho1.size
           obtain ⟨s0, rfl, -⟩ := hr
           obtain rfl : e = .returned (.string s0) := he
           clear hx ho1)
        | (at_builtin
           refine walk_append_el strL _ rfl (.tmp 9) (.tmp 12) 26 9 rfl (.string ⟨#[]⟩) 16 Tryz.underlying26 info_str rfl (by decide) (by decide) w.heap.size u5 xs rfl (HW1.out.kept hg (only_alloc _)) ⟨w1.heap.size, 0, none⟩ 1 rfl [.string s0] x (cell_new w1 9 [.string s0]) ?_ (by rw [HX.out]; omega) (by simp; omega) ?_
           · exact strL.wide (strL.keep HR.out fun b hb => Below.heap_alloc _ _ _ hb.2) fun b hb => ⟨by omega, by simp; omega, fun e => by have := HO.out.lt b e; omega⟩
           intro v2 w2 hown2 hg2
           have HO2 := Lib.hid hown2
           have HG2 := Lib.hid hg2
           clear hown2 hg2))
      have hrow : ∀ i, u5.ownBlock = some i → w.heap.size ≤ i := fun i hi => (HO.out.lt i hi).1
      have hO3 : Only g w w2 := only_grown (only_trans HY.out (only_trans HO1.out (only_alloc _))) HG2.out hrow
      have hB3 : Below w.heap.size w1 w2 := ((Below.refl _ _).alloc (by omega) _).trans (below_grown HG2.out (by simp; omega) hrow)
      obtain ⟨t', ht', hu'⟩ := HU.out.step HPF.out (by rw [HX.out]; exact hlt) HXX.out
      exact ⟨⟨k + 1, by omega, by simp, xs ++ [x], by simp [HX.out], HO2.out, hO3, t', ht'.low hB3 hg, hu'⟩, by simp [intOf]; omega⟩
    · obtain rfl : k = n := by omega
      go_wp2_with fail
      go_ret
      refine ⟨HY.out, _, xs, rfl, HO.out, HX.out, ?_⟩
      rcases HU.out with ⟨h1, zs, rest, h2, h3, rfl⟩ | ⟨rfl, h1⟩
      · exact .inl ⟨h1, zs, rest, h2, h3, HT.out⟩
      · exact .inr ⟨HT.out, h1⟩
end Go.Proofs.YtngjnkkdhjholaaGreat
namespace Go.Proofs.YtngjnkkdhjholaaGreat
open Go.RowKit
set_option linter.unusedSimpArgs false
set_option linter.unusedVariables false

def isSl (v : Value) : Prop := ∃ A n c, v = .slice A n c
/-- The list x, read in the state s, is kept in the reader; the value is v. -/
def Parted {α : Type} (L : Lay α) (f : α → List Nat) (gd : α → Prop) (g rb B : Nat) (s : Option (List Nat)) (w : World) (x : α) (v : Value) (w' : World) : Prop :=
  Below B w w' ∧ L.R (fun b => w.heap.size ≤ b ∧ b < w'.heap.size) w' [v] x ∧ (∀ b, b < w.heap.size → b ≠ g → b ≠ rb → w'.heap[b]? = w.heap[b]?) ∧ ∃ t, St w' g t ∧ Got f gd s t x

theorem not_u8 {w : World} {rb ty : Nat} {cs : Array Value} (h : Blk w rb ty cs) (hn : ∀ v ∈ cs, ∀ n, v ≠ .int .u8 n) {p : Addr} {n : Int} (hc : w.cell? p = some (.int .u8 n)) : p.block ≠ rb := by
  intro e
  unfold World.cell? at hc
  rw [e, h] at hc
  simp only at hc
  split at hc
  · cases hc
  · exact hn _ (Array.mem_of_getElem? hc) n rfl
theorem St.field {w : World} {rb g ty : Nat} {cs : Array Value} {s : Option (List Nat)} (h : St w g s) (hb : Blk w rb ty cs) (hn : ∀ v ∈ cs, ∀ n, v ≠ .int .u8 n) (hne : rb ≠ g) (i : Nat) (u : Value) : St (w.setCell ⟨rb, i, none⟩ u) g s := by
  cases s with
  | none => exact set_blk h _ (Ne.symm hne)
  | some xs =>
    obtain ⟨⟨A, c, h1, h2, h3, h4⟩, h5⟩ := h
    refine ⟨⟨A, c, set_blk h1 _ (Ne.symm hne), h2, h3, fun hpos => ?_⟩, h5⟩
    obtain ⟨a, rfl, ha, hc⟩ := h4 hpos
    have hab : a.block ≠ rb := by have := not_u8 hb hn (hc 0 hpos); rwa [addBlock] at this
    exact ⟨a, rfl, ha, fun j hj => (World.cell?_of_block (Below.heap_setCell _ _ _ _ (by rw [addBlock]; exact hab))).trans (hc j hj)⟩
theorem mrd_u8 {g : Nat} {v0 v1 v2 v3 v4 : Value} {r : Int} (h0 : isSl v0) (h1 : isSl v1) (h2 : isSl v2) (h3 : isSl v3) (h4 : isSl v4) : ∀ v ∈ (#[.pointer (some ⟨g, 0, none⟩), v0, v1, v2, v3, v4, .int .i64 r] : Array Value), ∀ n, v ≠ .int .u8 n := by
  obtain ⟨_, _, _, rfl⟩ := h0
  obtain ⟨_, _, _, rfl⟩ := h1
  obtain ⟨_, _, _, rfl⟩ := h2
  obtain ⟨_, _, _, rfl⟩ := h3
  obtain ⟨_, _, _, rfl⟩ := h4
  intro v hv n
  simp at hv
  rcases hv with rfl | rfl | rfl | rfl | rfl | rfl | rfl <;> simp

theorem pf_short : PF pt (fun s => s.length ≤ 32) := fun x y r s hx hy e => pf_txt x y r s (by unfold B64; omega) (by unfold B64; omega) e
theorem parted_of {α : Type} {L : Lay α} {f : List α → List Nat} {gd : List α → Prop} {g rb B i ty : Nat} {cs : Array Value} {s : Option (List Nat)} {w w1 : World} {x : List α} {u : Value} (hrb : rb < w.heap.size) (hg : g < w.heap.size) (hBg : B ≤ g) (hBr : B ≤ rb)
    (hb : Blk w1 rb ty cs) (hn : ∀ v ∈ cs, ∀ n, v ≠ .int .u8 n) (hne : rb ≠ g) (ho : Only g w w1) (hR : (slL L).R (fun b => w.heap.size ≤ b ∧ b < w1.heap.size) w1 [u] x) (hst : ∃ t, St w1 g t ∧ Got f gd s t x) :
    Parted (slL L) f gd g rb B s w x u (w1.setCell ⟨rb, i, none⟩ u) := by
  have hbl : Below B w w1 := below_only ho hBg (by omega)
  refine ⟨hbl.setCell (p := ⟨rb, i, none⟩) hBr _, (slL L).up hR ((Abv.refl w.heap.size w1).set rb u hrb) (Nat.le_refl _), fun b h1 h2 h3 => ?_, ?_⟩
  · rw [Below.heap_setCell _ _ _ _ (by simpa using h3)]
    exact ho.block b h1 (fun e => h2 (by injection e))
  · obtain ⟨t, h1, h2⟩ := hst
    exact ⟨t, h1.field hb hn hne _ _, h2⟩

set_option maxRecDepth 100000 in
set_option maxHeartbeats 1000000 in
theorem functions_part (rb g B : Nat) (v0 v1 v2 v3 v4 : Value) (r : Int) (hr8 : r ≤ 8) (s : Option (List Nat)) (w : World) (h : Mrd w rb g v0 v1 v2 v3 v4 r) (hs : St w g s) (hBg : B ≤ g) (hBr : B ≤ rb) (h0 : isSl v0) (h1 : isSl v1) (h2 : isSl v2) (h3 : isSl v3) (h4 : isSl v4) :
    Calls Tryz.prog 38 #[.pointer (some ⟨rb, 0, none⟩)] w fun e w' => e = .returned (.tuple #[]) ∧ ∃ x u, isSl u ∧ Mrd w' rb g v0 u v2 v3 v4 r ∧ Parted (slL fnL) (lB fnB) (gL 1 8 (fun x => fnOk r x = true)) g rb B s w x u w' := by
  have HM := Lib.hid h
  have HU := Lib.hid (mrd_u8 (g := g) (r := r) h0 h1 h2 h3 h4)
  have hg := hs.lt
  have hrb := h.2.lt
  have HC : Hid (Calls Tryz.prog 79 #[.pointer (some ⟨rb, 0, none⟩), .int .i64 1, .int .i64 8] w (Counts 1 8 g s w)) := count_any rb g v0 v1 v2 v3 v4 r 1 8 s w h hs (by omega) (by omega)
  have HLi : Hid (∀ (w1 : World) (n : Nat), Ahead 1 8 g s w n w1 → Calls Tryz.prog 82 #[.int .i64 (n : Int), .func (.func 83) #[.pointer (some ⟨rb, 0, none⟩)] #[]] w1 fun e w' => ∃ x, x.length ≤ 8 ∧ ReadsX (slL fnL) vOne (lB fnB) (gL 1 8 (fun x => fnOk r x = true)) g s w x e w') := by
    intro w1 n ha
    obtain ⟨ho, hcase⟩ := ha
    rcases hcase with ⟨a1, a2, ys, rfl, a3⟩ | ⟨rfl, a3, a4⟩
    · exact (listOf_fn rb g n _ (pf_fn hr8) _ w1 a3 (by omega) fun w2 s2 ho2 hs2 => function_read rb g v0 v1 v2 v3 v4 r hr8 s2 w2 ((h.only ho).only ho2) hs2).mono fun e w' hr => listed (by omega) a1 a2 ho hr
    · exact (listOf_fn rb g 0 _ (pf_fn hr8) _ w1 a3 (by omega) fun w2 s2 ho2 hs2 => function_read rb g v0 v1 v2 v3 v4 r hr8 s2 w2 ((h.only ho).only ho2) hs2).mono fun e w' hr => unlisted ho hr a4
  clear h hs
  go_enter Tryz.func38, Tryz.ntmps38
  go_wp2_with fail
  refine HC.out.mono ?_
  intro e wc hc
  obtain ⟨n, rfl, ha⟩ := ahead_of hc
  have HA := Lib.hid ha
  clear hc ha
  go_wp2_with fail
  refine (HLi.out wc n HA.out).mono ?_
  rintro e w1 ⟨x, hxl, hr⟩
  have HR := Lib.hid hr
  obtain ⟨ho, cs, he, hcs, -⟩ := hr
  have HO := Lib.hid ho
  obtain ⟨A2, c2, rfl, -⟩ := hcs
  obtain rfl : e = .returned (.slice A2 x.length c2) := he
  have hb1 := (HM.out.only ho).2
  have HB1 := Lib.hid hb1
  have k1 := hb1.cell 2
  have k2 := hb1.frozen 2
  simp at k1
  clear ho hb1
  go_wp2_with fail
  go_end0
  refine ⟨rfl, x, _, ⟨A2, _, c2, rfl⟩, ⟨HM.out.1, by simpa using HB1.out.set 2 _⟩, ?_⟩
  obtain ⟨_, cs, he, hcs, ht⟩ := HR.out
  obtain rfl : cs = [.slice A2 x.length c2] := by
    obtain ⟨A3, c3, rfl, _⟩ := hcs
    injection he with he
    simp only [vOne] at he
    rw [he]
  exact parted_of hrb hg hBg hBr HB1.out HU.out HM.out.1 HO.out hcs ht

set_option maxRecDepth 100000 in
set_option maxHeartbeats 1000000 in
theorem imports_part (rb g B : Nat) (v0 v1 v2 v3 v4 : Value) (r : Int) (hr8 : r ≤ 8) (s : Option (List Nat)) (w : World) (h : Mrd w rb g v0 v1 v2 v3 v4 r) (hs : St w g s) (hBg : B ≤ g) (hBr : B ≤ rb) (h0 : isSl v0) (h1 : isSl v1) (h2 : isSl v2) (h3 : isSl v3) (h4 : isSl v4) :
    Calls Tryz.prog 39 #[.pointer (some ⟨rb, 0, none⟩)] w fun e w' => e = .returned (.tuple #[]) ∧ ∃ x u, isSl u ∧ Mrd w' rb g v0 v1 u v3 v4 r ∧ Parted (slL impL) (lB impB) (gL 0 8 (fun x => impOk r x = true)) g rb B s w x u w' := by
  have HM := Lib.hid h
  have HU := Lib.hid (mrd_u8 (g := g) (r := r) h0 h1 h2 h3 h4)
  have hg := hs.lt
  have hrb := h.2.lt
  have HC : Hid (Calls Tryz.prog 79 #[.pointer (some ⟨rb, 0, none⟩), .int .i64 0, .int .i64 8] w (Counts 0 8 g s w)) := count_any rb g v0 v1 v2 v3 v4 r 0 8 s w h hs (by omega) (by omega)
  have HLi : Hid (∀ (w1 : World) (n : Nat), Ahead 0 8 g s w n w1 → Calls Tryz.prog 84 #[.int .i64 (n : Int), .func (.func 85) #[.pointer (some ⟨rb, 0, none⟩)] #[]] w1 fun e w' => ∃ x, x.length ≤ 8 ∧ ReadsX (slL impL) vOne (lB impB) (gL 0 8 (fun x => impOk r x = true)) g s w x e w') := by
    intro w1 n ha
    obtain ⟨ho, hcase⟩ := ha
    rcases hcase with ⟨a1, a2, ys, rfl, a3⟩ | ⟨rfl, a3, a4⟩
    · exact (listOf_imp rb g n _ (pf_imp hr8) _ w1 a3 (by omega) fun w2 s2 ho2 hs2 => imported_read rb g v0 v1 v2 v3 v4 r hr8 s2 w2 ((h.only ho).only ho2) hs2).mono fun e w' hr => listed (by omega) a1 a2 ho hr
    · exact (listOf_imp rb g 0 _ (pf_imp hr8) _ w1 a3 (by omega) fun w2 s2 ho2 hs2 => imported_read rb g v0 v1 v2 v3 v4 r hr8 s2 w2 ((h.only ho).only ho2) hs2).mono fun e w' hr => unlisted ho hr a4
  clear h hs
  go_enter Tryz.func39, Tryz.ntmps39
  go_wp2_with fail
  refine HC.out.mono ?_
  intro e wc hc
  obtain ⟨n, rfl, ha⟩ := ahead_of hc
  have HA := Lib.hid ha
  clear hc ha
  go_wp2_with fail
  refine (HLi.out wc n HA.out).mono ?_
  rintro e w1 ⟨x, hxl, hr⟩
  have HR := Lib.hid hr
  obtain ⟨ho, cs, he, hcs, -⟩ := hr
  have HO := Lib.hid ho
  obtain ⟨A2, c2, rfl, -⟩ := hcs
  obtain rfl : e = .returned (.slice A2 x.length c2) := he
  have hb1 := (HM.out.only ho).2
  have HB1 := Lib.hid hb1
  have k1 := hb1.cell 3
  have k2 := hb1.frozen 3
  simp at k1
  clear ho hb1
  go_wp2_with fail
  go_end0
  refine ⟨rfl, x, _, ⟨A2, _, c2, rfl⟩, ⟨HM.out.1, by simpa using HB1.out.set 3 _⟩, ?_⟩
  obtain ⟨_, cs, he, hcs, ht⟩ := HR.out
  obtain rfl : cs = [.slice A2 x.length c2] := by
    obtain ⟨A3, c3, rfl, _⟩ := hcs
    injection he with he
    simp only [vOne] at he
    rw [he]
  exact parted_of hrb hg hBg hBr HB1.out HU.out HM.out.1 HO.out hcs ht

set_option maxRecDepth 100000 in
set_option maxHeartbeats 1000000 in
theorem numbers_part (rb g B : Nat) (v0 v1 v2 v3 v4 : Value) (r : Int) (s : Option (List Nat)) (w : World) (h : Mrd w rb g v0 v1 v2 v3 v4 r) (hs : St w g s) (hBg : B ≤ g) (hBr : B ≤ rb) (h0 : isSl v0) (h1 : isSl v1) (h2 : isSl v2) (h3 : isSl v3) (h4 : isSl v4) :
    Calls Tryz.prog 40 #[.pointer (some ⟨rb, 0, none⟩)] w fun e w' => e = .returned (.tuple #[]) ∧ ∃ x u, isSl u ∧ Mrd w' rb g v0 v1 v2 u v4 r ∧ Parted (slL numL) (lB numB) (gL 0 16 (fun n => n < B64)) g rb B s w x u w' := by
  have HM := Lib.hid h
  have HU := Lib.hid (mrd_u8 (g := g) (r := r) h0 h1 h2 h3 h4)
  have hg := hs.lt
  have hrb := h.2.lt
  have HC : Hid (Calls Tryz.prog 79 #[.pointer (some ⟨rb, 0, none⟩), .int .i64 0, .int .i64 16] w (Counts 0 16 g s w)) := count_any rb g v0 v1 v2 v3 v4 r 0 16 s w h hs (by omega) (by omega)
  have HLi : Hid (∀ (w1 : World) (n : Nat), Ahead 0 16 g s w n w1 → Calls Tryz.prog 86 #[.int .i64 (n : Int), .func (.func 87) #[.pointer (some ⟨rb, 0, none⟩)] #[]] w1 fun e w' => ∃ x, x.length ≤ 16 ∧ ReadsX (slL numL) vOne (lB numB) (gL 0 16 (fun n => n < B64)) g s w x e w') := by
    intro w1 n ha
    obtain ⟨ho, hcase⟩ := ha
    rcases hcase with ⟨a1, a2, ys, rfl, a3⟩ | ⟨rfl, a3, a4⟩
    · exact (listOf_num rb g n _ pf_num _ w1 a3 (by omega) fun w2 s2 ho2 hs2 => number_any rb g v0 v1 v2 v3 v4 r s2 w2 ((h.only ho).only ho2) hs2).mono fun e w' hr => listed (by omega) a1 a2 ho hr
    · exact (listOf_num rb g 0 _ pf_num _ w1 a3 (by omega) fun w2 s2 ho2 hs2 => number_any rb g v0 v1 v2 v3 v4 r s2 w2 ((h.only ho).only ho2) hs2).mono fun e w' hr => unlisted ho hr a4
  clear h hs
  go_enter Tryz.func40, Tryz.ntmps40
  go_wp2_with fail
  refine HC.out.mono ?_
  intro e wc hc
  obtain ⟨n, rfl, ha⟩ := ahead_of hc
  have HA := Lib.hid ha
  clear hc ha
  go_wp2_with fail
  refine (HLi.out wc n HA.out).mono ?_
  rintro e w1 ⟨x, hxl, hr⟩
  have HR := Lib.hid hr
  obtain ⟨ho, cs, he, hcs, -⟩ := hr
  have HO := Lib.hid ho
  obtain ⟨A2, c2, rfl, -⟩ := hcs
  obtain rfl : e = .returned (.slice A2 x.length c2) := he
  have hb1 := (HM.out.only ho).2
  have HB1 := Lib.hid hb1
  have k1 := hb1.cell 4
  have k2 := hb1.frozen 4
  simp at k1
  clear ho hb1
  go_wp2_with fail
  go_end0
  refine ⟨rfl, x, _, ⟨A2, _, c2, rfl⟩, ⟨HM.out.1, by simpa using HB1.out.set 4 _⟩, ?_⟩
  obtain ⟨_, cs, he, hcs, ht⟩ := HR.out
  obtain rfl : cs = [.slice A2 x.length c2] := by
    obtain ⟨A3, c3, rfl, _⟩ := hcs
    injection he with he
    simp only [vOne] at he
    rw [he]
  exact parted_of hrb hg hBg hBr HB1.out HU.out HM.out.1 HO.out hcs ht

set_option maxRecDepth 100000 in
set_option maxHeartbeats 1000000 in
theorem texts_part (rb g B : Nat) (v0 v1 v2 v3 v4 : Value) (r : Int) (s : Option (List Nat)) (w : World) (h : Mrd w rb g v0 v1 v2 v3 v4 r) (hs : St w g s) (hBg : B ≤ g) (hBr : B ≤ rb) (h0 : isSl v0) (h1 : isSl v1) (h2 : isSl v2) (h3 : isSl v3) (h4 : isSl v4) :
    Calls Tryz.prog 41 #[.pointer (some ⟨rb, 0, none⟩)] w fun e w' => e = .returned (.tuple #[]) ∧ ∃ x u, isSl u ∧ Mrd w' rb g v0 v1 v2 v3 u r ∧ Parted (slL strL) (lB pt) (gL 0 16 (fun s => s.length ≤ 32)) g rb B s w x u w' := by
  have HM := Lib.hid h
  have HU := Lib.hid (mrd_u8 (g := g) (r := r) h0 h1 h2 h3 h4)
  have hg := hs.lt
  have hrb := h.2.lt
  have HC : Hid (Calls Tryz.prog 79 #[.pointer (some ⟨rb, 0, none⟩), .int .i64 0, .int .i64 16] w (Counts 0 16 g s w)) := count_any rb g v0 v1 v2 v3 v4 r 0 16 s w h hs (by omega) (by omega)
  have HLi : Hid (∀ (w1 : World) (n : Nat), Ahead 0 16 g s w n w1 → Calls Tryz.prog 88 #[.int .i64 (n : Int), .func (.func 89) #[.pointer (some ⟨rb, 0, none⟩)] #[]] w1 fun e w' => ∃ x, x.length ≤ 16 ∧ ReadsX (slL strL) vOne (lB pt) (gL 0 16 (fun s => s.length ≤ 32)) g s w x e w') := by
    intro w1 n ha
    obtain ⟨ho, hcase⟩ := ha
    rcases hcase with ⟨a1, a2, ys, rfl, a3⟩ | ⟨rfl, a3, a4⟩
    · exact (listOf_str rb g n _ (pf_short) _ w1 a3 (by omega) fun w2 s2 ho2 hs2 => text_any rb g v0 v1 v2 v3 v4 r s2 w2 ((h.only ho).only ho2) hs2).mono fun e w' hr => listed (by omega) a1 a2 ho hr
    · exact (listOf_str rb g 0 _ (pf_short) _ w1 a3 (by omega) fun w2 s2 ho2 hs2 => text_any rb g v0 v1 v2 v3 v4 r s2 w2 ((h.only ho).only ho2) hs2).mono fun e w' hr => unlisted ho hr a4
  clear h hs
  go_enter Tryz.func41, Tryz.ntmps41
  go_wp2_with fail
  refine HC.out.mono ?_
  intro e wc hc
  obtain ⟨n, rfl, ha⟩ := ahead_of hc
  have HA := Lib.hid ha
  clear hc ha
  go_wp2_with fail
  refine (HLi.out wc n HA.out).mono ?_
  rintro e w1 ⟨x, hxl, hr⟩
  have HR := Lib.hid hr
  obtain ⟨ho, cs, he, hcs, -⟩ := hr
  have HO := Lib.hid ho
  obtain ⟨A2, c2, rfl, -⟩ := hcs
  obtain rfl : e = .returned (.slice A2 x.length c2) := he
  have hb1 := (HM.out.only ho).2
  have HB1 := Lib.hid hb1
  have k1 := hb1.cell 5
  have k2 := hb1.frozen 5
  simp at k1
  clear ho hb1
  go_wp2_with fail
  go_end0
  refine ⟨rfl, x, _, ⟨A2, _, c2, rfl⟩, ⟨HM.out.1, by simpa using HB1.out.set 5 _⟩, ?_⟩
  obtain ⟨_, cs, he, hcs, ht⟩ := HR.out
  obtain rfl : cs = [.slice A2 x.length c2] := by
    obtain ⟨A3, c3, rfl, _⟩ := hcs
    injection he with he
    simp only [vOne] at he
    rw [he]
  exact parted_of hrb hg hBg hBr HB1.out HU.out HM.out.1 HO.out hcs ht

/-- Records that may be: as many as may be, each good where there are so many. -/
def gR (x : List (List Typ)) : Prop := x.length ≤ 8 ∧ ∀ t ∈ x, recOk x.length t = true
theorem pf_recs : PF (lB (lB tB)) gR := by
  intro x y r s hx hy e
  have e0 := e
  unfold lB at e
  rw [List.append_assoc, List.append_assoc] at e
  obtain ⟨hl, _⟩ := vb_unique (by have := hx.1; unfold B64; omega) (by have := hy.1; unfold B64; omega) e
  have h8 : (x.length : Int) ≤ 8 := by have := hx.1; omega
  exact (pf_rec h8).list x y r s ⟨by have := hx.1; unfold B64; omega, hx.2⟩ ⟨by have := hy.1; unfold B64; omega, by rw [hl]; exact hy.2⟩ e0

set_option maxRecDepth 100000 in
set_option maxHeartbeats 1000000 in
theorem records_part (rb g B : Nat) (v0 v1 v2 v3 v4 : Value) (r : Int) (s : Option (List Nat)) (w : World) (h : Mrd w rb g v0 v1 v2 v3 v4 r) (hs : St w g s) (hBg : B ≤ g) (hBr : B ≤ rb) (h0 : isSl v0) (h1 : isSl v1) (h2 : isSl v2) (h3 : isSl v3) (h4 : isSl v4) :
    Calls Tryz.prog 37 #[.pointer (some ⟨rb, 0, none⟩)] w fun e w' => e = .returned (.tuple #[]) ∧ ∃ x u, isSl u ∧ x.length ≤ 8 ∧ Mrd w' rb g u v1 v2 v3 v4 x.length ∧ Parted (slL tysL) (lB (lB tB)) gR g rb B s w x u w' := by
  have HM := Lib.hid h
  have HU := Lib.hid (fun r => mrd_u8 (g := g) (r := r) h0 h1 h2 h3 h4)
  have hg := hs.lt
  have hrb := h.2.lt
  have HC : Hid (Calls Tryz.prog 79 #[.pointer (some ⟨rb, 0, none⟩), .int .i64 0, .int .i64 8] w (Counts 0 8 g s w)) := count_any rb g v0 v1 v2 v3 v4 r 0 8 s w h hs (by omega) (by omega)
  clear h hs
  go_enter Tryz.func37, Tryz.ntmps37
  go_wp2_with fail
  refine HC.out.mono ?_
  intro e wc hc
  obtain ⟨n, rfl, ha⟩ := ahead_of hc
  have HA := Lib.hid ha
  have hbc := (HM.out.only ha.1).2
  have HBC := Lib.hid hbc
  have q1 := hbc.cell 6
  have q2 := hbc.frozen 6
  simp at q1
  clear hc ha hbc
  go_wp2_with fail
  refine calls_world fun W hW => ?_
  have HB0 : Hid (Mrd W rb g v0 v1 v2 v3 v4 n) := ⟨HM.out.1, by rw [hW]; simpa using HBC.out.set 6 (.int .i64 (n : Int))⟩
  have HSt : Hid (∀ t, St wc g t → St W g t) := fun t ht => by rw [hW]; exact ht.field HBC.out (HU.out r) HM.out.1 _ _
  have HW : Hid (Below B w W ∧ (∀ b, b < w.heap.size → b ≠ g → b ≠ rb → W.heap[b]? = w.heap[b]?) ∧ w.heap.size ≤ W.heap.size) := by
    have hbl : Below B w wc := below_only HA.out.1 hBg (by omega)
    refine ⟨by rw [hW]; exact hbl.setCell (p := ⟨rb, 6, none⟩) hBr _, fun b h1 h2 h3 => ?_, by rw [hW]; simpa using HA.out.1.size⟩
    rw [hW, Below.heap_setCell _ _ _ _ (by simpa using h3)]
    exact HA.out.1.block b h1 (fun e => h2 (by injection e))
  clear hW
  have hn8 : n ≤ 8 := by
    rcases HA.out.2 with ⟨_, a, _⟩ | ⟨a, _⟩ <;> omega
  obtain ⟨t0, ht0, HT⟩ : ∃ t0, St W g t0 ∧ ∀ x t, x.length = n → Upto (lB tB) (fun ts => recOk n ts = true) n t0 t x → Got (lB (lB tB)) gR s t x := by
    rcases HA.out.2 with ⟨a1, a2, ys, rfl, a3⟩ | ⟨rfl, a3, a4⟩
    · refine ⟨some ys, HSt.out _ a3, fun x t hx hu => ?_⟩
      rcases hu with ⟨hg', zs, rest, e1, e2, rfl⟩ | ⟨rfl, hno⟩
      · injection e1 with e1
        subst e1 e2
        exact .inl ⟨⟨by omega, by rw [hx]; exact hg'⟩, _, rest, rfl, by simp [lB, hx], rfl⟩
      · refine .inr ⟨rfl, fun zs e1 ⟨y, r', hy, e2⟩ => ?_⟩
        injection e1 with e1
        subst e1
        have e3 := e2
        unfold lB at e3
        rw [List.append_assoc] at e3
        obtain ⟨hl, e4⟩ := vb_unique (by unfold B64; omega) (by have := hy.1; unfold B64; omega) e3
        exact hno ys rfl ⟨y, r', hl.symm, by rw [hl]; exact hy.2, e4⟩
    · refine ⟨none, HSt.out _ a3, fun x t hx hu => ?_⟩
      rcases hu with ⟨hg', zs, rest, e1, _⟩ | ⟨rfl, hno⟩
      · cases e1
      · refine .inr ⟨rfl, fun zs e1 ⟨y, r', hy, e2⟩ => a4 zs e1 ⟨y.length, (y.map (lB tB)).flatten ++ r', Nat.zero_le _, hy.1, ?_⟩⟩
        rw [e2]
        unfold lB
        rw [List.append_assoc]
  have HTT := Lib.hid HT
  have HS0 := Lib.hid ht0
  clear HT ht0
  have hn8i : (n : Int) ≤ 8 := by omega
  refine (listOf_rec rb g n _ (pf_rec hn8i) t0 W HS0.out (by omega) fun w2 s2 ho2 hs2 => record_read rb g v0 v1 v2 v3 v4 n hn8i s2 w2 (HB0.out.only ho2) hs2).mono ?_
  rintro e w1 ⟨ho, u, x, rfl, hown, hxl, hh⟩
  have HO := Lib.hid ho
  have hcs := hown.slice
  have HCS := Lib.hid hcs
  have HH := Lib.hid hh
  have HXL := Lib.hid hxl
  obtain ⟨A2, c2, he, -⟩ := hcs
  simp only [List.cons.injEq, and_true] at he
  subst he
  have hb1 := (HB0.out.only ho).2
  have HB1 := Lib.hid hb1
  have k1 := hb1.cell 1
  have k2 := hb1.frozen 1
  simp at k1
  clear ho hb1 hown hh hxl
  go_wp2_with fail
  go_end0
  refine ⟨rfl, x, .slice A2 x.length c2, ⟨A2, _, c2, rfl⟩, by rw [HXL.out]; exact hn8, ⟨HM.out.1, by have h7 := HB1.out.set 1 (.slice A2 x.length c2); rw [← HXL.out] at h7; simpa using h7⟩, ?_⟩
  have hbl : Below B W w1 := below_only HO.out hBg (by have := HW.out.2.2; omega)
  refine ⟨(HW.out.1.trans hbl).setCell (p := ⟨rb, 1, none⟩) hBr _, ?_, fun b h1 h2 h3 => ?_, ?_⟩
  · exact (slL tysL).wide ((slL tysL).up HCS.out ((Abv.refl w.heap.size w1).set rb _ hrb) HW.out.2.2) fun b hb => hb
  · rw [Below.heap_setCell _ _ _ _ (by simpa using h3)]
    exact (HO.out.block b (by have := HW.out.2.2; omega) (fun e => h2 (by injection e))).trans (HW.out.2.1 b h1 h2 h3)
  · rcases HH.out with ⟨a1, zs, rest, a2, a3, a4⟩ | ⟨a1, a2⟩
    · exact ⟨some rest, a4.field HB1.out (HU.out _) HM.out.1 _ _, HTT.out x _ HXL.out (.inl ⟨a1, zs, rest, a2, a3, rfl⟩)⟩
    · exact ⟨none, a1.field HB1.out (HU.out _) HM.out.1 _ _, HTT.out x _ HXL.out (.inr ⟨rfl, a2⟩)⟩
end Go.Proofs.YtngjnkkdhjholaaGreat
