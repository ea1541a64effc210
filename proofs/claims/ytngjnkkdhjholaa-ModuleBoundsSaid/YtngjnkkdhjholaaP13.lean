/-
  What module's reader does with one number and one text. Conditions: as each theorem says.
  What module's listOf does over elements of one kind (chrysalis/api.Type): as many as are asked for, each read by the reader. Conditions: as the theorem says.
  What module's listOf does over elements of one kind (chrysalis/api.Instr): as many as are asked for, each read by the reader. Conditions: as the theorem says.
  What module's reader does with a list of types, and a record; how reads one behind the other come together. Conditions: as each theorem says.
-/
import Derived.Test.YtngjnkkdhjholaaP06
import Derived.Test.YtngjnkkdhjholaaP12
import Derived.Shelf.Bytes.SlEqualAll
import Derived.Laws.Strings
namespace Go.Proofs.Ytngjnkkdhjholaa
open Go.RowKit
set_option linter.unusedSimpArgs false
set_option linter.unusedVariables false

theorem count_yes (rb g : Nat) (v0 v1 v2 v3 v4 : Value) (r : Int) (lo hi v : Nat) (rest : List Nat) (w : World) (h : Mrd w rb g v0 v1 v2 v3 v4 r) (hs : St w g (some (vb v ++ rest))) (hlo : lo ≤ 1) (hhi : hi ≤ 1000) (h1 : lo ≤ v) (h2 : v ≤ hi) :
    Calls Try.prog 68 #[.pointer (some ⟨rb, 0, none⟩), .int .i64 (lo : Int), .int .i64 (hi : Int)] w fun e w' => e = .returned (.int .i64 (v : Int)) ∧ St w' g (some rest) ∧ Only g w w' := by
  refine (count_any rb g v0 v1 v2 v3 v4 r lo hi _ w h hs hlo hhi).mono ?_
  rintro e w' ⟨ho, u, rfl, hu, ⟨_, xs, rest', e1, e2, hs'⟩ | ⟨_, _, hno⟩⟩
  · injection e1 with e1
    subst e1
    obtain ⟨rfl, rfl⟩ := vb_unique (by unfold B64; omega) (by unfold B64; omega) e2
    exact ⟨rfl, hs', ho⟩
  · exact absurd ⟨v, rest, h1, h2, rfl⟩ (hno _ rfl)
theorem count_not (rb g : Nat) (v0 v1 v2 v3 v4 : Value) (r : Int) (lo hi : Nat) (s : Option (List Nat)) (w : World) (h : Mrd w rb g v0 v1 v2 v3 v4 r) (hs : St w g s) (hlo : lo ≤ 1) (hhi : hi ≤ 1000) (hno : ∀ xs, s = some xs → ¬ ∃ v rest, lo ≤ v ∧ v ≤ hi ∧ xs = vb v ++ rest) :
    Calls Try.prog 68 #[.pointer (some ⟨rb, 0, none⟩), .int .i64 (lo : Int), .int .i64 (hi : Int)] w fun e w' => e = .returned (.int .i64 0) ∧ Bad w' g ∧ Only g w w' := by
  refine (count_any rb g v0 v1 v2 v3 v4 r lo hi _ w h hs hlo hhi).mono ?_
  rintro e w' ⟨ho, u, rfl, hu, ⟨h1, xs, rest', e1, e2, hs'⟩ | ⟨rfl, hs', _⟩⟩
  · exact absurd ⟨u, rest', h1, hu, e2⟩ (hno _ e1)
  · exact ⟨rfl, hs', ho⟩

theorem fb_le : ∀ (xs : List Nat), (∀ x ∈ xs, x < 256) → fb (le xs) xs.length = xs := by
  intro xs
  induction xs with
  | nil => intro _; rfl
  | cons x xs ih =>
    intro h
    have hx := h x (by simp)
    have e := ih fun y hy => h y (by simp [hy])
    simp only [fb, le, List.length_cons, List.range_succ_eq_map, List.map_cons, List.map_map] at e ⊢
    refine List.cons_eq_cons.2 ⟨by simp; omega, ?_⟩
    rw [← e]
    simp only [List.length_map, List.length_range]
    refine List.map_congr_left fun j _ => ?_
    simp only [Function.comp_apply, Nat.pow_succ]
    rw [e, Nat.mul_comm (256 ^ j) 256, ← Nat.div_div_eq_div_mul]
    congr 2
    omega

set_option maxHeartbeats 1000000 in
theorem number_any (rb g : Nat) (v0 v1 v2 v3 v4 : Value) (r : Int) (s : Option (List Nat)) (w : World) (h : Mrd w rb g v0 v1 v2 v3 v4 r) (hs : St w g s) :
    Calls Try.prog 76 #[.pointer (some ⟨rb, 0, none⟩)] w (Reads numL vOne numB (fun n => n < B64) g s w) := by
  have hp := h.ptr
  have e8 : wid 8 = 8 := by decide
  by_cases hyes : ∃ xs, s = some xs ∧ 8 ≤ xs.length
  · obtain ⟨xs, rfl, h8⟩ := hyes
    have HC := Lib.hid (rfixed_ok g 8 xs w hs.1 hs.2.1 (by rw [e8]; exact h8))
    rw [e8] at HC
    have hb : ∀ x ∈ xs.take 8, x < 256 := fun x hx => hs.2.1 x (List.mem_of_mem_take hx)
    have hfb := fb_le (xs.take 8) hb
    have hlt := le_lt (xs.take 8) hb
    have hl8 : (xs.take 8).length = 8 := by simp; omega
    rw [hl8] at hfb hlt
    have h64 : (256 : Nat) ^ 8 = B64 := by decide
    have HF : Hid (xs = numB (le (xs.take 8)) ++ xs.drop 8) := by show xs = _; rw [numB, hfb, List.take_append_drop]
    have HL : Hid (le (xs.take 8) < B64) := by show _ < B64; rw [← h64]; exact hlt
    have HS := Lib.hid hs
    clear h e8 hb hfb hlt hl8 h64 hs
    generalize le (xs.take 8) = n at *
    go_enter Try.func76, Try.ntmps76
    go_wp2_with (first | (go_at_call 95; refine HC.out.mono ?_; rintro e w1 ⟨rfl, hg1, ho1⟩))
    go_ret
    exact ⟨ho1, [.int .u64 (n : Int)], n, rfl, ⟨rfl, HL.out⟩, .inl ⟨HL.out, xs, xs.drop 8, rfl, HF.out, HS.out.rest HF.out hg1⟩⟩
  · have HC : Hid (Calls Try.prog 95 #[.pointer (some ⟨g, 0, none⟩), .int .i64 8] w fun e w' => e = .returned (.int .u64 0) ∧ Bad w' g ∧ Only g w w') := by
      cases s with
      | none => exact (rfixed_bad g 8 w hs).mono fun e w' ⟨h1, h2⟩ => ⟨h1, Bad.below hs h2 (Bad.lt hs), only_below h2⟩
      | some xs => exact rfixed_short g 8 xs w hs.1 (by rw [e8]; exact Nat.lt_of_not_le fun h => hyes ⟨xs, rfl, h⟩)
    have HNO : Hid (∀ xs, s = some xs → ¬ Has numB (fun n => n < B64) xs) := by
      rintro xs rfl ⟨y, rest, _, rfl⟩
      exact hyes ⟨_, rfl, by simp [numB, fb_length]⟩
    clear h e8 hyes
    go_enter Try.func76, Try.ntmps76
    go_wp2_with (first | (go_at_call 95; refine HC.out.mono ?_; rintro e w1 ⟨rfl, hg1, ho1⟩))
    go_ret
    exact ⟨ho1, [.int .u64 0], 0, rfl, ⟨rfl, by unfold B64; omega⟩, .inr ⟨hg1, HNO.out⟩⟩

theorem byt_in {S : Nat → Prop} {w : World} {A : Option Addr} {xs : List Nat} (h : Byt S w A xs) : Lib.BytesIn w A xs.length (xs.map fun x : Nat => (x : Int)) := by
  rcases Nat.eq_zero_or_pos xs.length with h0 | h0
  · rw [h0]
    exact Lib.BytesIn.nil _ _ _
  · obtain ⟨a, rfl, _, hc⟩ := h h0
    refine Lib.BytesIn.of_cells fun i hi => ?_
    rw [hc i hi]
    simp [hi, List.getD]
theorem strB_of (xs : List Nat) (h : ∀ x ∈ xs, x < 256) : strB (strOfNums (xs.map fun x : Nat => (x : Int))) = xs := by
  simp only [strB, strOfNums_data, List.map_map]
  conv => rhs; rw [← List.map_id xs]
  refine List.map_congr_left fun z hz => ?_
  have := h z hz
  simp
  omega
theorem conv_any {S : Nat → Prop} {w : World} {A : Option Addr} {n c : Nat} {xs : List Nat} (hn : xs.length = n) (h : Byt S w A xs) (hb : ∀ x ∈ xs, x < 256) :
    ∃ s, strB s = xs ∧ (convert 43 9 (.slice A n c)).run Try.prog w = .ok (.string s) w := by
  subst hn
  exact ⟨_, strB_of xs hb, (byt_in h).convert (P := Try.prog) (by simp) c 43 5 9 Try.underlying43 Try.underlying5 Try.underlying9⟩
end Go.Proofs.Ytngjnkkdhjholaa
namespace Go.Proofs.Ytngjnkkdhjholaa
open Go.RowKit
set_option linter.unusedSimpArgs false
set_option linter.unusedVariables false

theorem info_typ : (Try.prog.info? 33).map (fun i => (i.zero, i.size, i.bytes)) = some (some (.agg #[.int .i64 0, .int .i64 0]), typL.k, 16) := by kernel_rfl

set_option maxRecDepth 100000 in
set_option maxHeartbeats 1000000 in
theorem listOf_typ (rb g n : Nat) (gd : Typ → Prop) (hPF : PF tB gd) (s : Option (List Nat)) (w : World) (hs : St w g s) (hn : n ≤ 1000000)
    (hE : ∀ (w1 : World) (s1 : Option (List Nat)), Only g w w1 → St w1 g s1 → Calls Try.prog 92 #[.pointer (some ⟨rb, 0, none⟩)] w1 (Reads typL vAgg tB gd g s1 w1)) :
    Calls Try.prog 96 #[.int .i64 (n : Int), .func (.func 92) #[.pointer (some ⟨rb, 0, none⟩)] #[]] w (ReadsN typL 33 tB gd n g s w) := by
  have hg := hs.lt
  have HS := Lib.hid hs
  have HE := Lib.hid hE
  have HPF := Lib.hid hPF
  clear hs hE hPF
  go_enter Try.func96, Try.ntmps96
  go_wp2_with fail
  go_loopw [5, 7] (fun v i wr => ∃ k : Nat, k ≤ n ∧ i = .int .i64 (k : Nat) ∧ ∃ xs : List Typ, xs.length = k ∧ Owns typL 33 w.heap.size wr v xs ∧ Only g w wr ∧ ∃ t, St wr g t ∧ Upto tB gd n s t xs) (fun _ i _ => n - (intOf i).toNat)
  case atStart => exact ⟨0, Nat.zero_le _, rfl, [], rfl, Owns.nil _ _ _ _, only_refl _ _, s, HS.out, Upto.start _ _ _ _⟩
  case round =>
    obtain ⟨k, hk, rfl, xs, hxl, hown, honly, t, ht, hup⟩ := hrel
    have HX := Lib.hid hxl
    have HO := Lib.hid hown
    have HY := Lib.hid honly
    have HT := Lib.hid ht
    have HU := Lib.hid hup
    have hsz := honly.size
    clear hxl hown honly ht hup
    by_cases hlt : k < n
    · have HC := Lib.hid (HE.out wr t HY.out HT.out)
      go_wp2_with (first
        | (go_at_call 92
           refine HC.out.mono ?_
           rintro e w1 ⟨ho1, cs, x, he, hr, hx⟩
           have HR := Lib.hid hr
           have HXX := Lib.hid hx
           have HO1 := Lib.hid ho1
           have HW1 := Lib.hid (HO.out.kept hg ho1)
           have hs1 := ho1.size
           obtain ⟨rfl, -, -⟩ := hr
           obtain rfl : e = .returned (.agg #[.int .i64 x.1, .int .i64 x.2]) := he
           clear hx ho1)
        | (at_builtin
           refine walk_append_el typL _ rfl (.tmp 9) (.tmp 12) 37 33 rfl (.agg #[.int .i64 0, .int .i64 0]) 16 Try.underlying37 info_typ rfl (by decide) (by decide) w.heap.size u5 xs rfl (HW1.out.kept hg (only_alloc _)) ⟨w1.heap.size, 0, none⟩ 1 rfl [.int .i64 x.1, .int .i64 x.2] x (cell_new w1 33 [.int .i64 x.1, .int .i64 x.2]) ?_ (by rw [HX.out]; omega) (by simp; omega) ?_
           · exact typL.wide (typL.keep HR.out fun b hb => Below.heap_alloc _ _ _ hb.2) fun b hb => ⟨by omega, by simp; omega, fun e => by have := HO.out.lt b e; omega⟩
           intro v2 w2 hown2 hg2
           have HO2 := Lib.hid hown2
           have HG2 := Lib.hid hg2
           clear hown2 hg2))
      have hrow : ∀ i, u5.ownBlock = some i → w.heap.size ≤ i := fun i hi => (HO.out.lt i hi).1
      have hO3 : Only g w w2 := only_grown (only_trans HY.out (only_trans HO1.out (only_alloc _))) HG2.out hrow
      have hB3 : Below w.heap.size w1 w2 := ((Below.refl _ _).alloc (by omega) _).trans (below_grown HG2.out (by simp; omega) hrow)
      obtain ⟨t', ht', hu'⟩ := HU.out.step HPF.out (by rw [HX.out]; exact hlt) HXX.out
      exact ⟨⟨k + 1, by omega, by simp, xs ++ [x], by simp [HX.out], HO2.out, hO3, t', ht'.low hB3 hg, hu'⟩, by simp [intOf]; omega⟩
    · obtain rfl : k = n := by omega
      go_wp2_with fail
      go_ret
      refine ⟨HY.out, _, xs, rfl, HO.out, HX.out, ?_⟩
      rcases HU.out with ⟨h1, zs, rest, h2, h3, rfl⟩ | ⟨rfl, h1⟩
      · exact .inl ⟨h1, zs, rest, h2, h3, HT.out⟩
      · exact .inr ⟨HT.out, h1⟩
end Go.Proofs.Ytngjnkkdhjholaa
namespace Go.Proofs.Ytngjnkkdhjholaa
open Go.RowKit
set_option linter.unusedSimpArgs false
set_option linter.unusedVariables false

theorem info_ins : (Try.prog.info? 35).map (fun i => (i.zero, i.size, i.bytes)) = some (some (.agg #[.int .i64 0, .int .i64 0, .int .i64 0]), insL.k, 24) := by kernel_rfl

set_option maxRecDepth 100000 in
set_option maxHeartbeats 1000000 in
theorem listOf_ins (rb g n : Nat) (gd : Ins → Prop) (hPF : PF iB gd) (s : Option (List Nat)) (w : World) (hs : St w g s) (hn : n ≤ 1000000)
    (hE : ∀ (w1 : World) (s1 : Option (List Nat)), Only g w w1 → St w1 g s1 → Calls Try.prog 94 #[.pointer (some ⟨rb, 0, none⟩)] w1 (Reads insL vAgg iB gd g s1 w1)) :
    Calls Try.prog 93 #[.int .i64 (n : Int), .func (.func 94) #[.pointer (some ⟨rb, 0, none⟩)] #[]] w (ReadsN insL 35 iB gd n g s w) := by
  have hg := hs.lt
  have HS := Lib.hid hs
  have HE := Lib.hid hE
  have HPF := Lib.hid hPF
  clear hs hE hPF
  go_enter Try.func93, Try.ntmps93
  go_wp2_with fail
  go_loopw [5, 7] (fun v i wr => ∃ k : Nat, k ≤ n ∧ i = .int .i64 (k : Nat) ∧ ∃ xs : List Ins, xs.length = k ∧ Owns insL 35 w.heap.size wr v xs ∧ Only g w wr ∧ ∃ t, St wr g t ∧ Upto iB gd n s t xs) (fun _ i _ => n - (intOf i).toNat)
  case atStart => exact ⟨0, Nat.zero_le _, rfl, [], rfl, Owns.nil _ _ _ _, only_refl _ _, s, HS.out, Upto.start _ _ _ _⟩
  case round =>
    obtain ⟨k, hk, rfl, xs, hxl, hown, honly, t, ht, hup⟩ := hrel
    have HX := Lib.hid hxl
    have HO := Lib.hid hown
    have HY := Lib.hid honly
    have HT := Lib.hid ht
    have HU := Lib.hid hup
    have hsz := honly.size
    clear hxl hown honly ht hup
    by_cases hlt : k < n
    · have HC := Lib.hid (HE.out wr t HY.out HT.out)
      go_wp2_with (first
        | (go_at_call 94
           refine HC.out.mono ?_
           rintro e w1 ⟨ho1, cs, x, he, hr, hx⟩
           have HR := Lib.hid hr
           have HXX := Lib.hid hx
           have HO1 := Lib.hid ho1
           have HW1 := Lib.hid (HO.out.kept hg ho1)
           have hs1 := ho1.size
           obtain ⟨rfl, -, -, -⟩ := hr
           obtain rfl : e = .returned (.agg #[.int .i64 x.1, .int .i64 x.2.1, .int .i64 x.2.2]) := he
           clear hx ho1)
        | (at_builtin
           refine walk_append_el insL _ rfl (.tmp 9) (.tmp 12) 36 35 rfl (.agg #[.int .i64 0, .int .i64 0, .int .i64 0]) 24 Try.underlying36 info_ins rfl (by decide) (by decide) w.heap.size u5 xs rfl (HW1.out.kept hg (only_alloc _)) ⟨w1.heap.size, 0, none⟩ 1 rfl [.int .i64 x.1, .int .i64 x.2.1, .int .i64 x.2.2] x (cell_new w1 35 [.int .i64 x.1, .int .i64 x.2.1, .int .i64 x.2.2]) ?_ (by rw [HX.out]; omega) (by simp; omega) ?_
           · exact insL.wide (insL.keep HR.out fun b hb => Below.heap_alloc _ _ _ hb.2) fun b hb => ⟨by omega, by simp; omega, fun e => by have := HO.out.lt b e; omega⟩
           intro v2 w2 hown2 hg2
           have HO2 := Lib.hid hown2
           have HG2 := Lib.hid hg2
           clear hown2 hg2))
      have hrow : ∀ i, u5.ownBlock = some i → w.heap.size ≤ i := fun i hi => (HO.out.lt i hi).1
      have hO3 : Only g w w2 := only_grown (only_trans HY.out (only_trans HO1.out (only_alloc _))) HG2.out hrow
      have hB3 : Below w.heap.size w1 w2 := ((Below.refl _ _).alloc (by omega) _).trans (below_grown HG2.out (by simp; omega) hrow)
      obtain ⟨t', ht', hu'⟩ := HU.out.step HPF.out (by rw [HX.out]; exact hlt) HXX.out
      exact ⟨⟨k + 1, by omega, by simp, xs ++ [x], by simp [HX.out], HO2.out, hO3, t', ht'.low hB3 hg, hu'⟩, by simp [intOf]; omega⟩
    · obtain rfl : k = n := by omega
      go_wp2_with fail
      go_ret
      refine ⟨HY.out, _, xs, rfl, HO.out, HX.out, ?_⟩
      rcases HU.out with ⟨h1, zs, rest, h2, h3, rfl⟩ | ⟨rfl, h1⟩
      · exact .inl ⟨h1, zs, rest, h2, h3, HT.out⟩
      · exact .inr ⟨HT.out, h1⟩
end Go.Proofs.Ytngjnkkdhjholaa
namespace Go.Proofs.Ytngjnkkdhjholaa
open Go.RowKit
set_option linter.unusedSimpArgs false
set_option linter.unusedVariables false

theorem calls_world {P : Program} {F : Nat} {args : Array Value} {w : World} {Q : Ending → World → Prop} (h : ∀ W, W = w → Calls P F args W Q) : Calls P F args w Q := h w rfl

/-- A list of so many, each good. -/
def gL {α : Type} (lo hi : Nat) (gd : α → Prop) (xs : List α) : Prop := lo ≤ xs.length ∧ xs.length ≤ hi ∧ ∀ x ∈ xs, gd x
theorem PF.gL {α : Type} {f : α → List Nat} {gd : α → Prop} (h : PF f gd) (lo hi : Nat) (hhi : hi ≤ 1000) : PF (lB f) (gL lo hi gd) := fun x y r s hx hy e =>
  h.list x y r s ⟨by have := hx.2.1; unfold B64; omega, hx.2.2⟩ ⟨by have := hy.2.1; unfold B64; omega, hy.2.2⟩ e

/-- x was read in the state s, and t is the state behind it; or it was not. -/
def Got {α : Type} (f : α → List Nat) (gd : α → Prop) (s t : Option (List Nat)) (x : α) : Prop :=
  (gd x ∧ ∃ zs rest, s = some zs ∧ zs = f x ++ rest ∧ t = some rest) ∨ (t = none ∧ ∀ zs, s = some zs → ¬ Has f gd zs)
theorem Got.two {α β : Type} {f : α → List Nat} {gd : α → Prop} {f' : β → List Nat} {gd' : α → β → Prop} (hPF : PF f gd) {s t u : Option (List Nat)} {x : α} {y : β} (h : Got f gd s t x) (h' : Got f' (gd' x) t u y) :
    Got (fun p : α × β => f p.1 ++ f' p.2) (fun p => gd p.1 ∧ gd' p.1 p.2) s u (x, y) := by
  rcases h with ⟨hg, zs, rest, rfl, rfl, rfl⟩ | ⟨rfl, hno⟩
  · rcases h' with ⟨hg', zs', rest', e, rfl, rfl⟩ | ⟨rfl, hno'⟩
    · injection e with e
      subst e
      exact .inl ⟨⟨hg, hg'⟩, _, rest', rfl, by simp, rfl⟩
    · refine .inr ⟨rfl, fun zs e hh => ?_⟩
      injection e with e
      subst e
      obtain ⟨⟨a, b⟩, r, ⟨ha, hb⟩, e⟩ := hh
      rw [List.append_assoc] at e
      obtain ⟨rfl, e2⟩ := hPF x a _ _ hg ha e
      exact hno' _ rfl ⟨b, r, hb, e2⟩
  · rcases h' with ⟨hg', zs', rest', e, _⟩ | ⟨rfl, hno'⟩
    · cases e
    · exact .inr ⟨rfl, fun zs e ⟨⟨a, b⟩, r, ⟨ha, hb⟩, e2⟩ => hno zs e ⟨a, f' b ++ r, ha, by rw [e2, List.append_assoc]⟩⟩
theorem Got.map {α β : Type} {f : α → List Nat} {gd : α → Prop} {f' : β → List Nat} {gd' : β → Prop} {s t : Option (List Nat)} {x : α} (h : Got f gd s t x) (m : α → β) (hf : ∀ x, f x = f' (m x)) (hg : ∀ x, gd x ↔ gd' (m x)) (hm : ∀ y, ∃ x, y = m x) : Got f' gd' s t (m x) := by
  rcases h with ⟨h1, zs, rest, h2, h3, h4⟩ | ⟨h1, h2⟩
  · exact .inl ⟨(hg x).1 h1, zs, rest, h2, by rw [h3, hf], h4⟩
  · refine .inr ⟨h1, fun zs e ⟨y, r, hy, e2⟩ => ?_⟩
    obtain ⟨z, rfl⟩ := hm y
    exact h2 zs e ⟨z, r, (hg z).2 hy, by rw [e2, hf]⟩

/-- What a read of one thing answers, and which. -/
def ReadsX {α : Type} (L : Lay α) (V : List Value → Value) (f : α → List Nat) (gd : α → Prop) (g : Nat) (s : Option (List Nat)) (w : World) (x : α) (e : Ending) (w' : World) : Prop :=
  Only g w w' ∧ ∃ cs, e = .returned (V cs) ∧ L.R (fun b => w.heap.size ≤ b ∧ b < w'.heap.size) w' cs x ∧ ∃ t, St w' g t ∧ Got f gd s t x
theorem ReadsX.reads {α : Type} {L : Lay α} {V : List Value → Value} {f : α → List Nat} {gd : α → Prop} {g : Nat} {s : Option (List Nat)} {w w' : World} {x : α} {e : Ending} (h : ReadsX L V f gd g s w x e w') : Reads L V f gd g s w e w' := by
  obtain ⟨h1, cs, h2, h3, t, h4, h5⟩ := h
  refine ⟨h1, cs, x, h2, h3, ?_⟩
  rcases h5 with ⟨a, zs, rest, b, c, rfl⟩ | ⟨rfl, a⟩
  · exact .inl ⟨a, zs, rest, b, c, h4⟩
  · exact .inr ⟨h4, a⟩
theorem Reads.x {α : Type} {L : Lay α} {V : List Value → Value} {f : α → List Nat} {gd : α → Prop} {g : Nat} {s : Option (List Nat)} {w w' : World} {e : Ending} (h : Reads L V f gd g s w e w') : ∃ x, ReadsX L V f gd g s w x e w' := by
  obtain ⟨h1, cs, x, h2, h3, h5⟩ := h
  refine ⟨x, h1, cs, h2, h3, ?_⟩
  rcases h5 with ⟨a, zs, rest, b, c, d⟩ | ⟨d, a⟩
  · exact ⟨some rest, d, .inl ⟨a, zs, rest, b, c, rfl⟩⟩
  · exact ⟨none, d, .inr ⟨rfl, a⟩⟩

/-- A list behind how many there are: that stands there. -/
theorem listed {α : Type} {L : Lay α} {ty : Nat} {f : α → List Nat} {gd : α → Prop} {lo hi v g : Nat} {ys : List Nat} {w w1 w' : World} {e : Ending} (hhi : hi ≤ 1000) (h1 : lo ≤ v) (h2 : v ≤ hi) (ho : Only g w w1) (h : ReadsN L ty f gd v g (some ys) w1 e w') :
    ∃ x, x.length ≤ hi ∧ ReadsX (slL L) vOne (lB f) (gL lo hi gd) g (some (vb v ++ ys)) w x e w' := by
  obtain ⟨ho', u, xs, rfl, hown, hl, hh⟩ := h
  refine ⟨xs, by omega, only_trans ho ho', [u], rfl, (slL L).wide hown.slice fun b hb => ⟨Nat.le_trans ho.size hb.1, hb.2⟩, ?_⟩
  rcases hh with ⟨hg, zs, rest, e1, e2, hs⟩ | ⟨hs, hno⟩
  · injection e1 with e1
    subst e1 e2
    exact ⟨some rest, hs, .inl ⟨⟨by omega, by omega, hg⟩, _, rest, rfl, by simp [lB, hl], rfl⟩⟩
  · refine ⟨none, hs, .inr ⟨rfl, fun zs e1 ⟨y, r, hy, e2⟩ => ?_⟩⟩
    injection e1 with e1
    subst e1
    exact PF.list_no (f := f) (g := gd) (by unfold B64; omega) rfl (hno ys rfl) ⟨y, r, ⟨by have := hy.2.1; unfold B64; omega, hy.2.2⟩, e2⟩
/-- It does not stand there. -/
theorem unlisted {α : Type} {L : Lay α} {ty : Nat} {f : α → List Nat} {gd : α → Prop} {lo hi g : Nat} {s : Option (List Nat)} {w w1 w' : World} {e : Ending} (ho : Only g w w1) (h : ReadsN L ty f gd 0 g none w1 e w')
    (hno : ∀ xs, s = some xs → ¬ ∃ v rest, lo ≤ v ∧ v ≤ hi ∧ xs = vb v ++ rest) : ∃ x, x.length ≤ hi ∧ ReadsX (slL L) vOne (lB f) (gL lo hi gd) g s w x e w' := by
  obtain ⟨ho', u, xs, rfl, hown, hl, hh⟩ := h
  refine ⟨xs, by omega, only_trans ho ho', [u], rfl, (slL L).wide hown.slice fun b hb => ⟨Nat.le_trans ho.size hb.1, hb.2⟩, ?_⟩
  rcases hh with ⟨hg, zs, rest, e1, _⟩ | ⟨hs, _⟩
  · cases e1
  · refine ⟨none, hs, .inr ⟨rfl, fun zs e1 ⟨y, r, hy, e2⟩ => hno zs e1 ⟨y.length, (y.map f).flatten ++ r, hy.1, hy.2.1, ?_⟩⟩⟩
    rw [e2, lB, List.append_assoc]

set_option maxRecDepth 100000 in
set_option maxHeartbeats 1000000 in
theorem types_read (rb g : Nat) (v0 v1 v2 v3 v4 : Value) (r : Int) (hr8 : r ≤ 8) (most : Nat) (hm : most ≤ 1000) (s : Option (List Nat)) (w : World) (h : Mrd w rb g v0 v1 v2 v3 v4 r) (hs : St w g s) :
    Calls Try.prog 91 #[.pointer (some ⟨rb, 0, none⟩), .int .i64 (most : Int)] w fun e w' => ∃ x, x.length ≤ most ∧ ReadsX tysL vOne (lB tB) (gL 0 most (fun t => goodT r t = true)) g s w x e w' := by
  have HM := Lib.hid h
  have HL : Hid (∀ (w1 : World) (n : Nat) (s1 : Option (List Nat)), Only g w w1 → St w1 g s1 → n ≤ 1000 → Calls Try.prog 96 #[.int .i64 (n : Int), .func (.func 92) #[.pointer (some ⟨rb, 0, none⟩)] #[]] w1 (ReadsN typL 33 tB (fun t => goodT r t = true) n g s1 w1)) := fun w1 n s1 ho h1 hn =>
    listOf_typ rb g n _ (pf_typ hr8) s1 w1 h1 (by omega) fun w2 s2 ho2 h2 => oneType_any rb g v0 v1 v2 v3 v4 r hr8 s2 w2 ((HM.out.only ho).only ho2) h2
  by_cases hyes : ∃ v ys, v ≤ most ∧ s = some (vb v ++ ys)
  · obtain ⟨v, ys, hv, rfl⟩ := hyes
    have HC := Lib.hid (count_yes rb g v0 v1 v2 v3 v4 r 0 most v ys w h hs (by omega) hm (by omega) hv)
    clear h hs
    go_enter Try.func91, Try.ntmps91
    go_wp2_with (first
      | (go_at_call 68
         refine HC.out.mono ?_
         rintro e w1 ⟨rfl, hs1, ho1⟩
         have HS1 := Lib.hid hs1
         have HO1 := Lib.hid ho1
         clear hs1 ho1)
      | (go_at_call 96
         refine (HL.out w1 v _ HO1.out HS1.out (by omega)).mono ?_
         rintro e w2 hr2
         obtain ⟨x, hx, hr3⟩ := listed hm (Nat.zero_le v) hv HO1.out hr2
         have HX := Lib.hid hr3
         obtain ⟨-, cs, he, hcs, -⟩ := hr3
         obtain ⟨A2, c2, rfl, -⟩ := hcs
         obtain rfl : e = .returned (.slice A2 x.length c2) := he
         clear hr2))
    go_ret
    exact ⟨x, hx, HX.out⟩
  · have HN0 : Hid (∀ xs, s = some xs → ¬ ∃ v rest, 0 ≤ v ∧ v ≤ most ∧ xs = vb v ++ rest) := by
      rintro xs rfl ⟨v, rest, _, h2, rfl⟩
      exact hyes ⟨v, rest, h2, rfl⟩
    have HC := Lib.hid (count_not rb g v0 v1 v2 v3 v4 r 0 most s w h hs (by omega) hm HN0.out)
    clear h hs hyes
    go_enter Try.func91, Try.ntmps91
    go_wp2_with (first
      | (go_at_call 68
         refine HC.out.mono ?_
         rintro e w1 ⟨rfl, hs1, ho1⟩
         have HS1 : Hid (St w1 g none) := hs1
         have HO1 := Lib.hid ho1
         clear hs1 ho1)
      | (go_at_call 96
         refine (HL.out w1 0 _ HO1.out HS1.out (by omega)).mono ?_
         rintro e w2 hr2
         obtain ⟨x, hx, hr3⟩ := unlisted HO1.out hr2 HN0.out
         have HX := Lib.hid hr3
         obtain ⟨-, cs, he, hcs, -⟩ := hr3
         obtain ⟨A2, c2, rfl, -⟩ := hcs
         obtain rfl : e = .returned (.slice A2 x.length c2) := he
         clear hr2))
    go_ret
    exact ⟨x, hx, HX.out⟩

theorem recOk_iff {r : Int} {ts : List Typ} : recOk r ts = true ↔ gL 0 6 (fun t => goodT r t = true) ts := by
  simp only [recOk, witB_iff, gL]
  constructor
  · rintro ⟨h1, h2⟩
    exact ⟨by omega, by omega, h2⟩
  · rintro ⟨h1, h2, h3⟩
    exact ⟨by omega, h3⟩

theorem record_read (rb g : Nat) (v0 v1 v2 v3 v4 : Value) (r : Int) (hr8 : r ≤ 8) (s : Option (List Nat)) (w : World) (h : Mrd w rb g v0 v1 v2 v3 v4 r) (hs : St w g s) :
    Calls Try.prog 70 #[.pointer (some ⟨rb, 0, none⟩)] w (Reads tysL vOne (lB tB) (fun ts => recOk r ts = true) g s w) := by
  have HC := Lib.hid (types_read rb g v0 v1 v2 v3 v4 r hr8 6 (by omega) s w h hs)
  clear h hs
  go_enter Try.func70, Try.ntmps70
  go_wp2_with (first
    | (go_at_call 91
       refine HC.out.mono ?_
       rintro e w1 ⟨x, -, hr⟩
       have HR := Lib.hid hr
       obtain ⟨-, cs, he, hcs, -⟩ := hr
       obtain ⟨A2, c2, rfl, -⟩ := hcs
       obtain rfl : e = .returned (.slice A2 x.length c2) := he))
  go_ret
  obtain ⟨h1, cs, h2, h3, t, h4, h5⟩ := HR.out
  exact ReadsX.reads (x := x) ⟨h1, cs, h2, h3, t, h4, h5.map id (fun _ => rfl) (fun _ => recOk_iff.symm) (fun y => ⟨y, rfl⟩)⟩
end Go.Proofs.Ytngjnkkdhjholaa
