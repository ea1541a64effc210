/-
  What the document's Split does.
  Conditions: as the theorem says (at most a million bytes).
-/
import Derived.Test.YtjjfifgkklpkkaaRwo
import Derived.Test.YtjjfifgkklpkkaaRrv
import Derived.Test.YtjjfifgkklpkkaaPkm
namespace Go.Proofs.Ytjjfifgkklpkkaa
open Go.RowKit

def RSplits (xs : List Nat) (most : Int) (w : World) (e : Ending) (w' : World) : Prop :=
  Below w.heap.size w w' ∧ ((∃ xss A c, IsJoin xs most xss ∧ e = .returned (.tuple #[.slice A xss.length c, .bool true]) ∧ xss.length ≤ c ∧ Rws (· < w'.heap.size) w' A xss) ∨
    ((¬ ∃ xss, IsJoin xs most xss) ∧ ∃ A n c, e = .returned (.tuple #[.slice A n c, .bool false])))

/-- How far the document's Split has come. -/
def Ril (bs : List Nat) (w0 : World) (v : Value) (pre : List (List Nat)) (rest : List Nat) (wr : World) : Prop :=
  bs = pts pre ++ rest ∧ (∃ cs, wr.ownsRow w0.heap.size 24 1 v pre.length cs ∧ Cel (· < w0.heap.size) wr cs pre) ∧ Below w0.heap.size w0 wr

/-- A part is taken. -/
theorem Ril.took {bs : List Nat} {w0 wr w3 : World} {v : Value} {pre : List (List Nat)} {rest rest' x : List Nat} {A : Option Addr} {m c : Nat} (h : Ril bs w0 v pre rest wr) (hb3 : Below wr.heap.size wr w3) (hm : x.length = m) (hc : m ≤ c) (hB : Byt (· < w0.heap.size) w0 A x) :
    ∃ cs, (w3.alloc (.cells #[.slice A m c] 24)).ownsRow w0.heap.size 24 1 v pre.length cs ∧
      ∀ v' w5, w5.ownsRow w0.heap.size 24 1 v' (pre.length + 1) (cs ++ [.slice A m c]) → (w3.alloc (.cells #[.slice A m c] 24)).grownBy w5 v.ownBlock →
        bs = pts pre ++ (pt x ++ rest') → Ril bs w0 v' (pre ++ [x]) rest' w5 := by
  obtain ⟨-, ⟨cs, hown, hcel⟩, hbel⟩ := h
  have hs := hbel.size
  have hs3 := hb3.size
  have hown3 : w3.ownsRow w0.heap.size 24 1 v pre.length cs := hown.kept (row := none) ⟨hb3.os, hb3.tape, hb3.output, hb3.size, fun k hk _ => hb3.block k hk⟩ (by cases v.ownBlock <;> simp)
  refine ⟨cs, hown3.alloc _, fun v' w5 hown5 hg5 hbs => ?_⟩
  have hb5 : Below w0.heap.size w0 w5 := ((hbel.trans (hb3.mono hs)).alloc (by omega) _).grown hg5 (by simp; omega) (fun k hk => (hown.lt k hk).1)
  have hb5r : Below w0.heap.size wr w5 := ((hb3.mono hs).alloc (by omega) _).grown hg5 (by simp; omega) (fun k hk => (hown.lt k hk).1)
  refine ⟨by rw [pts_snoc, List.append_assoc]; exact hbs, ⟨_, by simpa using hown5, Cel.snoc (hcel.keep fun b hb => hb5r.block b hb) hm hc (hB.below hb5 (Nat.le_refl _))⟩, hb5⟩

/-- The slice with the address A, l long, with room for c, holds the bytes xs, in memory that was there in w. -/
def Sl (w : World) (A : Option Addr) (l c : Nat) (xs : List Nat) : Prop := xs.length = l ∧ l ≤ c ∧ c ≤ maxLen ∧ Byt (· < w.heap.size) w A xs
theorem sl_from {w : World} {a : Addr} {c k : Nat} {xs : List Nat} (hB : Byt (· < w.heap.size) w (some a) xs) (hk : k ≤ xs.length) (hc : xs.length ≤ c) (hm : c ≤ maxLen) :
    (c = k → Sl w (some a) (xs.length - k) 0 (xs.drop k)) ∧ (¬ c = k → Sl w (some (a.add k)) (xs.length - k) (c - k) (xs.drop k)) := by
  refine ⟨fun h => ⟨List.length_drop, by omega, by simp [maxLen], ?_⟩, fun _ => ⟨List.length_drop, by omega, by unfold maxLen at *; omega, hB.drop k⟩⟩
  have : xs.drop k = [] := List.eq_nil_of_length_eq_zero (by rw [List.length_drop]; omega)
  rw [this]
  exact Byt.nil _ _ _

set_option maxRecDepth 100000 in
set_option maxHeartbeats 1000000 in
theorem refSplit_any (A : Option Addr) (n0 c : Nat) (xs : List Nat) (most : Int) (w : World) (hx : xs.length = n0) (hb : ∀ x ∈ xs, x < 256) (hB : Byt (· < w.heap.size) w A xs) (hl : n0 ≤ 1000000) (hlc : n0 ≤ c) (hcm : c ≤ maxLen) (hmost : -9223372036854775808 ≤ most ∧ most < 9223372036854775808) :
    Calls Try.prog 14 #[.slice A n0 c, .int .i64 most] w (RSplits xs most w) := by
  subst hx
  have Hb := Lib.hid hb
  have HB := Lib.hid hB
  have H64 : Hid (xs.length < B64) := by show xs.length < B64; unfold B64; omega
  clear hb hB
  unfold maxLen at hcm
  go_enter Try.func14, Try.ntmps14
  go_wp2_with fail
  refine (readVar_any A c xs w HB.out Hb.out (by omega) hlc).mono ?_
  rintro e w1 ⟨hb1, ⟨n, k, hvar, rfl⟩ | ⟨hvar, rfl⟩⟩
  · have HV := Lib.hid hvar
    have HB1 := Lib.hid hb1
    have hn64 := hvar.2.2
    have hk0 := hvar.pos
    have hkl := hvar.1
    unfold B64 at hn64
    clear hvar hb1
    by_cases hm0 : most < 0
    · go_wp2_with fail
      go_ret2
      exact ⟨HB1.out, .inr ⟨no_join_most H64.out HV.out (by omega), _, _, _, rfl⟩⟩
    · obtain ⟨mo, rfl⟩ : ∃ mo : Nat, most = (mo : Int) := ⟨most.toNat, by omega⟩
      clear hm0
      by_cases hmn : mo < n
      · go_wp2_with fail
        go_ret2
        exact ⟨HB1.out, .inr ⟨no_join_most H64.out HV.out (by omega), _, _, _, rfl⟩⟩
      · obtain ⟨a, rfl, -, -⟩ := HB.out.at (k := 0) (by omega)
        have e1 : ((k : Int) == 0) = false := by simp; omega
        have e2 : decide ((mo : Int) < 0) = false := by simp
        have e3 : k ≤ c := by omega
        have e4 : (k : Int) ≤ (c : Int) := by omega
        obtain ⟨bs, hbs⟩ : ∃ bs, xs.drop k = bs := ⟨_, rfl⟩
        have HBS := Lib.hid hbs
        have hbl : bs.length ≤ 1000000 := by rw [← hbs, List.length_drop]; omega
        have Hbb : Hid (∀ x ∈ bs, x < 256) := by show ∀ x ∈ bs, x < 256; rw [← hbs]; exact fun x hx => Hb.out x (List.mem_of_mem_drop hx)
        have hcm2 : c ≤ maxLen := hcm
        obtain ⟨HS1, HS2⟩ := sl_from (w := w) (c := c) (k := k) HB.out hkl hlc hcm2
        have HR0 : Hid (Ril bs w (.slice none 0 0) [] bs w1) := ⟨rfl, ⟨[], World.ownsRow_nil _ _ _ _, Cel.nil _ _⟩, HB1.out⟩
        rw [hbs] at HS1 HS2
        clear hbs hcm2
        by_cases hck : c = k
        all_goals
          first
            | have HS := Lib.hid (HS1 hck)
            | have HS := Lib.hid (HS2 hck)
          clear HS1 HS2
          go_wp2_with fail
          go_loopw [0, 8, 9] (fun b v i wr => ∃ pre rest A' l' c', pre.length ≤ n ∧ pre.length ≤ 1000000 ∧ i = .int .u64 ((pre.length : Nat) : Int) ∧ b = .slice A' l' c' ∧ Sl w A' l' c' rest ∧ Ril bs w v pre rest wr) (fun _ _ i _ => n - (intOf i).toNat)
          case atStart => exact ⟨[], bs, _, _, _, Nat.zero_le _, by simp, rfl, rfl, HS.out, HR0.out⟩
          case round =>
            obtain ⟨pre, rest, A', l', c', hpn, hpm, rfl, rfl, ⟨hll, hlc', hcm', hBr⟩, hril⟩ := hrel
            subst hll
            have HR := Lib.hid hril
            have HBr := Lib.hid hBr
            have HBw := Lib.hid hril.2.2
            have hszw := hril.2.2.size
            have hrl : pre.length + rest.length ≤ bs.length := by
              rw [hril.1, List.length_append]
              have := pts_many pre
              omega
            have Hrb : Hid (∀ x ∈ rest, x < 256) := fun x hx => Hbb.out x (by rw [hril.1]; exact List.mem_append_right _ hx)
            unfold maxLen at hcm'
            clear hril hBr
            obtain ⟨p, hp⟩ : ∃ p, pre.length = p := ⟨_, rfl⟩
            rw [hp] at hpn hpm hrl ⊢
            have HPL := Lib.hid hp
            clear hp
            by_cases hlt : p < n
            · go_wp2_with fail
              refine (readVar_any A' c' rest wr ((HBr.out.below HBw.out (Nat.le_refl _)).wide fun b hb => by omega) Hrb.out (by omega) hlc').mono ?_
              rintro e w3 ⟨hb3, ⟨m, j, hvar, rfl⟩ | ⟨hvar, rfl⟩⟩
              · have hm64 := hvar.2.2
                have hj0 := hvar.pos
                have hjl := hvar.1
                unfold B64 at hm64
                have HVr := Lib.hid hvar
                have HB3 := Lib.hid hb3
                have hs3 := hb3.size
                clear hvar hb3
                have f1 : ((j : Int) == 0) = false := by simp; omega
                obtain ⟨ra, rfl, -, -⟩ := HBr.out.at (k := 0) (by omega)
                by_cases hmj : j + m ≤ rest.length
                · have HH : Hid (HasPart rest m j) := ⟨HVr.out, hmj⟩
                  obtain ⟨hs1, hs2⟩ := hasPart_split HH.out
                  have f2 : decide ((rest.length : Int) - (j : Int) < (m : Int)) = false := by simp; omega
                  have f4 : j ≤ c' := by omega
                  have f5 : j + m ≤ c' := by omega
                  have f6 : (j : Int) ≤ (c' : Int) := by omega
                  have f7 : (j : Int) + (m : Int) ≤ (c' : Int) := by omega
                  have f8 : IntKind.i64.wrap ((j : Int) + (m : Int)) = (j : Int) + (m : Int) := by rw [IntKind.wrap_i64]; omega
                  have f9 : ((j : Int) + (m : Int)).toNat = j + m := by omega
                  have f10 : j + m - j = m := by omega
                  obtain ⟨e1', e2'⟩ := sl_from (w := w) (c := c') (k := j) HBr.out hjl hlc' hcm'
                  obtain ⟨e3', e4'⟩ := sl_from (w := w) (c := c') (k := j + m) HBr.out hmj hlc' hcm'
                  have hsz : Hid (∀ o : Obj, w.heap.size ≤ (w3.alloc o).heap.size) := fun o => by simp; omega
                  obtain ⟨x, hx⟩ : ∃ x, (rest.drop j).take m = x := ⟨_, rfl⟩
                  rw [hx] at hs1 hs2
                  have HX := Lib.hid hx
                  have HS1 := Lib.hid hs1
                  have HS2 := Lib.hid hs2
                  have HM1 : Hid (Sl w (some ra) rest.length c' rest) := ⟨rfl, hlc', hcm', HBr.out⟩
                  clear hs1 hs2 hx
                  by_cases g1 : c' = j
                  · obtain rfl : m = 0 := by omega
                    · have HE := Lib.hid (e1' g1)
                      have HF := Lib.hid (e3' g1)
                      clear e1' e2' e3' e4'
                      obtain ⟨cs, hown4, hnext⟩ := HR.out.took (rest' := rest.drop (j + 0)) (c := 0) (A := some ra) HB3.out HS1.out (by omega) (by rw [← HX.out]; exact HE.out.2.2.2.take 0)
                      rw [HPL.out] at hown4 hnext
                      have HO4 := Lib.hid hown4
                      have HN := Lib.hid fun v5 w5 h5 h6 => hnext v5 w5 h5 h6 (HR.out.1.trans (congrArg (pts pre ++ ·) HS2.out))
                      clear hown4 hnext
                      go_wp2_with (at_builtin
                                   refine walk_append_sl _ rfl (.tmp 53) (.tmp 61) rfl w.heap.size u8 p cs rfl HO4.out ⟨w3.heap.size, 0, none⟩ (some ra) 0 (0) 1 rfl (cell_one_new _ _ _ 0 _ rfl) hpm (hsz.out _) ?_
                                   intro v5 w5 hown5 hg5 _
                                   have HP5 := Lib.hid (HN.out v5 w5 hown5 hg5)
                                   clear hown5 hg5)
                      refine ⟨⟨pre ++ [x], rest.drop (j + 0), some ra, rest.length - (j + 0), 0, by simp [HPL.out]; omega, by simp [HPL.out]; omega, by simp [HPL.out], rfl, HF.out, HP5.out⟩, by simp [intOf]; omega⟩
                  · by_cases g2 : c' = j + m
                    · have HE := Lib.hid (e2' g1)
                      have HF := Lib.hid (e3' g2)
                      clear e1' e2' e3' e4'
                      obtain ⟨cs, hown4, hnext⟩ := HR.out.took (rest' := rest.drop (j + m)) (c := m) (A := some (ra.add j)) HB3.out HS1.out (by omega) (by rw [← HX.out]; exact HE.out.2.2.2.take m)
                      rw [HPL.out] at hown4 hnext
                      have HO4 := Lib.hid hown4
                      have HN := Lib.hid fun v5 w5 h5 h6 => hnext v5 w5 h5 h6 (HR.out.1.trans (congrArg (pts pre ++ ·) HS2.out))
                      clear hown4 hnext
                      go_wp2_with (at_builtin
                                   refine walk_append_sl _ rfl (.tmp 53) (.tmp 61) rfl w.heap.size u8 p cs rfl HO4.out ⟨w3.heap.size, 0, none⟩ (some (ra.add j)) m m 1 rfl (cell_one_new _ _ _ 0 _ rfl) hpm (hsz.out _) ?_
                                   intro v5 w5 hown5 hg5 _
                                   have HP5 := Lib.hid (HN.out v5 w5 hown5 hg5)
                                   clear hown5 hg5)
                      refine ⟨⟨pre ++ [x], rest.drop (j + m), some ra, rest.length - (j + m), 0, by simp [HPL.out]; omega, by simp [HPL.out]; omega, by simp [HPL.out], rfl, HF.out, HP5.out⟩, by simp [intOf]; omega⟩
                    · have HE := Lib.hid (e2' g1)
                      have HF := Lib.hid (e4' g2)
                      clear e1' e2' e3' e4'
                      obtain ⟨cs, hown4, hnext⟩ := HR.out.took (rest' := rest.drop (j + m)) (c := c' - j) (A := some (ra.add j)) HB3.out HS1.out (by omega) (by rw [← HX.out]; exact HE.out.2.2.2.take m)
                      rw [HPL.out] at hown4 hnext
                      have HO4 := Lib.hid hown4
                      have HN := Lib.hid fun v5 w5 h5 h6 => hnext v5 w5 h5 h6 (HR.out.1.trans (congrArg (pts pre ++ ·) HS2.out))
                      clear hown4 hnext
                      go_wp2_with (at_builtin
                                   refine walk_append_sl _ rfl (.tmp 53) (.tmp 61) rfl w.heap.size u8 p cs rfl HO4.out ⟨w3.heap.size, 0, none⟩ (some (ra.add j)) m (c' - j) 1 rfl (cell_one_new _ _ _ 0 _ rfl) hpm (hsz.out _) ?_
                                   intro v5 w5 hown5 hg5 _
                                   have HP5 := Lib.hid (HN.out v5 w5 hown5 hg5)
                                   clear hown5 hg5)
                      refine ⟨⟨pre ++ [x], rest.drop (j + m), some (ra.add (j + m)), rest.length - (j + m), c' - (j + m), by simp [HPL.out]; omega, by simp [HPL.out]; omega, by simp [HPL.out], rfl, HF.out, HP5.out⟩, by simp [intOf]; omega⟩
                · have HH : Hid (¬ ∃ m j, HasPart rest m j) := by
                    rintro ⟨m', j', h1, h2⟩
                    obtain ⟨rfl, rfl⟩ := isVar_unique HVr.out h1
                    exact hmj h2
                  have f2 : decide ((rest.length : Int) - (j : Int) < (m : Int)) = true := by simp; omega
                  go_wp2_with fail
                  go_ret2
                  refine ⟨HBw.out.trans (HB3.out.mono hszw), .inr ⟨no_join_body H64.out HV.out ?_, _, _, _, rfl⟩⟩
                  rw [HBS.out]
                  exact body_no (by unfold B64; omega) HR.out.1 (by rw [HPL.out]; exact hlt) HH.out
              · have HH : Hid (¬ ∃ m j, HasPart rest m j) := by
                  rintro ⟨m', j', h1, h2⟩
                  exact hvar ⟨_, _, h1⟩
                have HB3 := Lib.hid hb3
                clear hvar hb3
                go_wp2_with fail
                go_ret2
                refine ⟨HBw.out.trans (HB3.out.mono hszw), .inr ⟨no_join_body H64.out HV.out ?_, _, _, _, rfl⟩⟩
                rw [HBS.out]
                exact body_no (by unfold B64; omega) HR.out.1 (by rw [HPL.out]; exact hlt) HH.out
            · obtain rfl : p = n := by omega
              by_cases hr0 : rest = []
              · subst hr0
                go_wp2_with fail
                go_ret2
                obtain ⟨h1, ⟨cs, hown, hcel⟩, -⟩ := HR.out
                obtain ⟨A5, c5, rfl, h5, -, h6⟩ := own_rows (T := (· < wr.heap.size)) hown rfl hcel (fun b hb => by omega) (fun b hb1 hb2 => hb2)
                refine ⟨HBw.out, .inl ⟨pre, A5, c5, isJoin_body HV.out (by omega) ⟨HPL.out, ?_⟩, rfl, h5, h6⟩⟩
                rw [HBS.out, h1, List.append_nil]
              · have hr1 : 0 < rest.length := List.length_pos_iff.2 hr0
                have HR0 := Lib.hid hr0
                have hr2 : ((rest.length : Int) == 0) = false := by simp; omega
                clear hr0
                go_wp2_with fail
                go_ret2
                refine ⟨HBw.out, .inr ⟨no_join_body H64.out HV.out ?_, ?_⟩⟩
                · rw [HBS.out]
                  exact body_rest (by unfold B64; omega) HR.out.1 HPL.out HR0.out
                · obtain ⟨-, ⟨cs, hown, hcel⟩, -⟩ := HR.out
                  obtain ⟨A5, c5, rfl, -⟩ := own_rows (T := (· < wr.heap.size)) hown rfl hcel (fun b hb => by omega) (fun b hb1 hb2 => hb2)
                  exact ⟨_, _, _, rfl⟩
  · have HV := Lib.hid hvar
    have HB1 := Lib.hid hb1
    clear hvar hb1
    go_wp2_with fail
    go_ret2
    exact ⟨HB1.out, .inr ⟨no_join_var H64.out HV.out, _, _, _, rfl⟩⟩
end Go.Proofs.Ytjjfifgkklpkkaa
