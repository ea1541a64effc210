/-
  What pack.takePart and pack.Split do.
  Conditions: as each theorem says (at most a million bytes).
-/
import Derived.Test.YtjjfifgkklpkkaaRwo
import Derived.Test.YtjjfifgkklpkkaaRdv
import Derived.Test.YtjjfifgkklpkkaaPkm
namespace Go.Proofs.Ytjjfifgkklpkkaa
open Go.RowKit

set_option maxRecDepth 100000 in
set_option maxHeartbeats 400000 in
theorem part_ok (g : Nat) (xs : List Nat) (m j : Nat) (w : World) (h : Good w g xs) (hb : ∀ x ∈ xs, x < 256) (hp : HasPart xs m j) (hl : xs.length ≤ 1000000) :
    Calls Try.prog 19 #[.pointer (some ⟨g, 0, none⟩)] w fun e w' => ∃ A c, e = .returned (.tuple #[.slice A m c, .bool true]) ∧ m ≤ c ∧ Byt (fun b => w.heap.size ≤ b ∧ b < w'.heap.size) w' A ((xs.drop j).take m) ∧ Good w' g (xs.drop (j + m)) ∧ Only g w w' := by
  have hv := Lib.hid (rvar_ok g xs m j w h hb hp.1 (by omega))
  have hj := hp.2
  have hj1 := hp.1.1
  have hl2 : (xs.drop j).length = xs.length - j := by simp
  obtain ⟨q, hq⟩ : ∃ q, xs.drop j = q := ⟨_, rfl⟩
  have hqm : m ≤ q.length := by rw [← hq, hl2]; omega
  have hql : q.length ≤ 1000000 := by rw [← hq, hl2]; omega
  have HQ := Lib.hid hq
  have Hq2 : Hid (xs.drop (j + m) = q.drop m) := by show xs.drop (j + m) = q.drop m; rw [← hq, List.drop_drop]
  have t1 : decide ((q.length : Int) < (m : Int)) = false := by simp; omega
  clear h hb hp hq hl2
  go_enter Try.func19, Try.ntmps19
  go_wp2_with (go_at_call 17
               refine hv.out.mono ?_
               rintro e w1 ⟨rfl, hG1, hO1⟩
               rw [HQ.out] at hG1
               have HG1 := Lib.hid hG1
               have HO1 := Lib.hid hO1
               clear hG1 hO1)
  obtain ⟨A1, c1, hk1, -, -, -⟩ := HG1.out
  have HK1 := Lib.hid hk1
  clear hk1
  refine (bad_at g _ _ w1 HK1.out).mono ?_
  rintro e w' ⟨rfl, rfl⟩
  go_wp2_with fail
  refine (left_good g q w1 HG1.out).mono ?_
  rintro e w' ⟨rfl, rfl⟩
  go_wp2_with fail
  refine (take_ok g m q w1 HG1.out hqm (by omega)).mono ?_
  rintro e w2 ⟨v2, rfl, hown2, hG2, hO2⟩
  obtain ⟨A2, c2, rfl, -, hc2, -, hB2⟩ := own_slice hown2
  have HB2 := Lib.hid hB2
  have HG2 := Lib.hid hG2
  have HO2 := Lib.hid hO2
  clear hown2 hB2 hG2 hO2
  go_wp2_with fail
  go_ret2
  refine ⟨A2, c2, rfl, hc2, ?_, ?_, only_trans HO1.out HO2.out⟩
  · rw [HQ.out]
    exact HB2.out.wide fun b hb => ⟨Nat.le_trans HO1.out.size hb.1, hb.2⟩
  · rw [Hq2.out]
    exact HG2.out

set_option maxRecDepth 100000 in
set_option maxHeartbeats 400000 in
theorem part_no (g : Nat) (xs : List Nat) (w : World) (h : Good w g xs) (hb : ∀ x ∈ xs, x < 256) (hp : ¬ ∃ m j, HasPart xs m j) (hl : xs.length ≤ 1000000) :
    Calls Try.prog 19 #[.pointer (some ⟨g, 0, none⟩)] w fun e w' => e = .returned (.tuple #[.slice none 0 0, .bool false]) ∧ Only g w w' := by
  by_cases hvar : ∃ v n, IsVar xs v n
  · obtain ⟨m, j, hvar⟩ := hvar
    have hv := Lib.hid (rvar_ok g xs m j w h hb hvar (by omega))
    have hm64 : m < B64 := hvar.2.2
    unfold B64 at hm64
    have hj : ¬ j + m ≤ xs.length := fun e => hp ⟨m, j, hvar, e⟩
    have hj1 := hvar.1
    have hl2 : (xs.drop j).length = xs.length - j := by simp
    obtain ⟨q, hq⟩ : ∃ q, xs.drop j = q := ⟨_, rfl⟩
    have hqm : q.length < m := by rw [← hq, hl2]; omega
    have hql : q.length ≤ 1000000 := by rw [← hq, hl2]; omega
    have HQ := Lib.hid hq
    clear h hb hp hq hl2 hvar hj
    go_enter Try.func19, Try.ntmps19
    go_wp2_with (go_at_call 17
                 refine hv.out.mono ?_
                 rintro e w1 ⟨rfl, hG1, hO1⟩
                 rw [HQ.out] at hG1
                 have HG1 := Lib.hid hG1
                 have HO1 := Lib.hid hO1
                 clear hG1 hO1)
    obtain ⟨A1, c1, hk1, -, -, -⟩ := HG1.out
    have HK1 := Lib.hid hk1
    clear hk1
    refine (bad_at g _ _ w1 HK1.out).mono ?_
    rintro e w' ⟨rfl, rfl⟩
    go_wp2_with fail
    refine (left_good g q w1 HG1.out).mono ?_
    rintro e w' ⟨rfl, rfl⟩
    go_wp2_with fail
    go_ret2
    exact ⟨rfl, HO1.out⟩
  · have hv := Lib.hid (rvar_no g xs w h hb hvar (by omega))
    clear h hb hp hvar
    go_enter Try.func19, Try.ntmps19
    go_wp2_with (go_at_call 17
                 refine hv.out.mono ?_
                 rintro e w1 ⟨rfl, hG1, hO1⟩
                 have HG1 := Lib.hid hG1
                 have HO1 := Lib.hid hO1
                 clear hG1 hO1)
    refine (bad_at g _ _ w1 HG1.out).mono ?_
    rintro e w' ⟨rfl, rfl⟩
    go_wp2_with fail
    go_ret2
    exact ⟨rfl, HO1.out⟩

/-- How far Split has come: the parts pre are taken and kept in v, the Reader in g holds rest; nothing that was there in w0 has turned but the Reader. -/
def Pil (g : Nat) (bs : List Nat) (w0 : World) (v : Value) (pre : List (List Nat)) (rest : List Nat) (wr : World) : Prop :=
  bs = pts pre ++ rest ∧ Good wr g rest ∧ (∃ cs, wr.ownsRow w0.heap.size 24 1 v pre.length cs ∧ Cel (fun b => w0.heap.size ≤ b ∧ b < wr.heap.size ∧ v.ownBlock ≠ some b) wr cs pre) ∧ Only g w0 wr ∧ g < w0.heap.size
theorem Pil.start {g : Nat} {bs : List Nat} {w0 : World} (h : Good w0 g bs) : Pil g bs w0 (.slice none 0 0) [] bs w0 :=
  ⟨rfl, h, ⟨[], World.ownsRow_nil _ _ _ _, Cel.nil _ _⟩, only_refl _ _, h.lt⟩
/-- A part is taken. -/
theorem Pil.took {g : Nat} {bs : List Nat} {w0 wr w3 : World} {v : Value} {pre : List (List Nat)} {rest rest' x : List Nat} {A : Option Addr} {m c : Nat} (h : Pil g bs w0 v pre rest wr) (hO : Only g wr w3) (hm : x.length = m) (hc : m ≤ c) (hB : Byt (fun b => wr.heap.size ≤ b ∧ b < w3.heap.size) w3 A x) :
    ∃ cs, (w3.alloc (.cells #[.slice A m c] 24)).ownsRow w0.heap.size 24 1 v pre.length cs ∧
      ∀ v' w5, w5.ownsRow w0.heap.size 24 1 v' (pre.length + 1) (cs ++ [.slice A m c]) → (w3.alloc (.cells #[.slice A m c] 24)).grownBy w5 v.ownBlock → (v'.ownBlock = v.ownBlock ∨ v'.ownBlock = some (w3.alloc (.cells #[.slice A m c] 24)).heap.size) →
        Good w3 g rest' → bs = pts pre ++ (pt x ++ rest') → Pil g bs w0 v' (pre ++ [x]) rest' w5 := by
  obtain ⟨-, hG, ⟨cs, hown, hcel⟩, hOn, hg⟩ := h
  have hsn := hOn.size
  have hs := hO.size
  have hvg : v.ownBlock = none ∨ v.ownBlock ≠ some g := .inr fun e => by have := (hown.lt g e).1; omega
  refine ⟨cs, (hown.kept hO hvg).alloc _, fun v' w5 hown5 hg5 hv' hG3 hbs => ?_⟩
  have hs5 := hg5.size
  simp at hs5
  have hsa : (w3.alloc (.cells #[.slice A m c] 24)).heap.size = w3.heap.size + 1 := by simp
  have hkeep : ∀ b, b < w3.heap.size → v.ownBlock ≠ some b → w5.heap[b]? = w3.heap[b]? := fun b hb hne =>
    (hg5.block b (by omega) (fun e => hne e.symm)).trans (Below.heap_alloc w3 _ b hb)
  have hkeep2 : ∀ b, b < wr.heap.size → b ≠ g → v.ownBlock ≠ some b → w5.heap[b]? = wr.heap[b]? := fun b hb hne1 hne2 =>
    (hkeep b (by omega) hne2).trans (hO.block b hb (fun e => hne1 (by injection e)))
  have hvlt : ∀ b, v.ownBlock = some b → w0.heap.size ≤ b ∧ b < wr.heap.size := fun b e => hown.lt b e
  have hne' : ∀ b, b < w3.heap.size → v.ownBlock ≠ some b → v'.ownBlock ≠ some b := fun b hb hne e => by
    rcases hv' with hv' | hv'
    · exact hne (hv' ▸ e)
    · rw [hv', hsa] at e
      injection e with e
      omega
  refine ⟨by rw [pts_snoc, List.append_assoc]; exact hbs, ?_, ⟨_, by simpa using hown5, ?_⟩, ?_⟩
  · exact hG3.keep fun b hb => hkeep b (by omega) (fun e => by have := hvlt b e; omega)
  · refine Cel.snoc ?_ hm hc ?_
    · exact (hcel.keep fun b hb => hkeep2 b hb.2.1 (by omega) hb.2.2).wide fun b hb => ⟨hb.1, by omega, hne' b (by omega) hb.2.2⟩
    · refine (hB.keep fun b hb => hkeep b hb.2 (fun e => by have := hvlt b e; omega)).wide fun b hb => ⟨by omega, by omega, hne' b hb.2 (fun e => by have := hvlt b e; omega)⟩
  · refine ⟨⟨hg5.os.trans (hO.os.trans hOn.os), hg5.tape.trans (hO.tape.trans hOn.tape), hg5.output.trans (hO.output.trans hOn.output), by omega, fun b hb hne => ?_⟩, hg⟩
    exact (hkeep2 b (by omega) (fun e => hne (by rw [e])) (fun e => by have := hvlt b e; omega)).trans (hOn.block b hb hne)

def Splits (xs : List Nat) (most : Int) (w : World) (e : Ending) (w' : World) : Prop :=
  Below w.heap.size w w' ∧ ((∃ xss A c, IsJoin xs most xss ∧ e = .returned (.tuple #[.slice A xss.length c, .int .i64 0]) ∧ xss.length ≤ c ∧ Rws (fun b => w.heap.size ≤ b ∧ b < w'.heap.size) w' A xss) ∨
    ((¬ ∃ xss, IsJoin xs most xss) ∧ e = .returned (.tuple #[.slice none 0 0, .int .i64 2])))

set_option maxRecDepth 100000 in
set_option maxHeartbeats 1000000 in
theorem split_any (A : Option Addr) (n0 c : Nat) (xs : List Nat) (most : Int) (w : World) (hx : xs.length = n0) (hb : ∀ x ∈ xs, x < 256) (hB : Byt (· < w.heap.size) w A xs) (hl : n0 ≤ 1000000) (hmost : -9223372036854775808 ≤ most ∧ most < 9223372036854775808) :
    Calls Try.prog 10 #[.slice A n0 c, .int .i64 most] w (Splits xs most w) := by
  have HX := Lib.hid hx
  have Hb := Lib.hid hb
  have HB := Lib.hid hB
  have H64 : Hid (xs.length < B64) := by show xs.length < B64; unfold B64; omega
  clear hx hb hB
  go_enter Try.func10, Try.ntmps10
  go_wp2_with fail
  refine (newReader_any A n0 c xs w HX.out HB.out (by omega)).mono ?_
  rintro e w1 ⟨g, rfl, hG1, hg, hb1⟩
  have HG1 := Lib.hid hG1
  have HB1 := Lib.hid hb1
  clear hG1 hb1
  by_cases hvar : ∃ v n, IsVar xs v n
  · obtain ⟨n, k, hvar⟩ := hvar
    have HV := Lib.hid hvar
    have hn64 := hvar.2.2
    unfold B64 at hn64
    clear hvar
    go_wp2_with fail
    refine (rvar_ok g xs n k w1 HG1.out Hb.out HV.out (by have := HX.out; omega)).mono ?_
    rintro e w2 ⟨rfl, hG2, hO2⟩
    obtain ⟨bs, hbs⟩ : ∃ bs, xs.drop k = bs := ⟨_, rfl⟩
    rw [hbs] at hG2
    have HBS := Lib.hid hbs
    have hbl : bs.length ≤ 1000000 := by rw [← hbs, List.length_drop, HX.out]; omega
    have Hbb : Hid (∀ x ∈ bs, x < 256) := by show ∀ x ∈ bs, x < 256; rw [← hbs]; exact fun x hx => Hb.out x (List.mem_of_mem_drop hx)
    have HG2 := Lib.hid hG2
    have HO2 := Lib.hid hO2
    have HB2 : Hid (Below w.heap.size w w2) := HB1.out.trans (below_only hO2 hg HB1.out.size)
    clear hG2 hO2 hbs
    obtain ⟨A1, c1, hk1, -, -, -⟩ := HG2.out
    have HK1 := Lib.hid hk1
    clear hk1
    go_wp2_with fail
    refine (bad_at g _ _ w2 HK1.out).mono ?_
    rintro e w' ⟨rfl, rfl⟩
    by_cases hm0 : most < 0
    · go_wp2_with fail
      go_ret2
      exact ⟨HB2.out, .inr ⟨no_join_most H64.out HV.out (by omega), rfl⟩⟩
    · obtain ⟨mo, rfl⟩ : ∃ mo : Nat, most = (mo : Int) := ⟨most.toNat, by omega⟩
      clear hm0
      by_cases hmn : mo < n
      · go_wp2_with fail
        go_ret2
        exact ⟨HB2.out, .inr ⟨no_join_most H64.out HV.out (by omega), rfl⟩⟩
      · go_wp2_with fail
        go_loopw [8, 28] (fun v i wr => ∃ pre rest, pre.length ≤ n ∧ pre.length ≤ 1000000 ∧ i = .int .u64 ((pre.length : Nat) : Int) ∧ Pil g bs w2 v pre rest wr) (fun _ i _ => n - (intOf i).toNat)
        case atStart => exact ⟨[], bs, Nat.zero_le _, by simp, rfl, Pil.start HG2.out⟩
        case round =>
          obtain ⟨pre, rest, hpn, hpm, rfl, hpil⟩ := hrel
          have HP := Lib.hid hpil
          have HGr := Lib.hid hpil.2.1
          have HBr : Hid (Below w.heap.size w wr) := HB2.out.trans (below_only hpil.2.2.2.1 hg HB2.out.size)
          have hrl : pre.length + rest.length ≤ bs.length := by
            rw [hpil.1, List.length_append]
            have := pts_many pre
            omega
          have Hrb : Hid (∀ x ∈ rest, x < 256) := fun x hx => Hbb.out x (by rw [hpil.1]; exact List.mem_append_right _ hx)
          clear hpil
          obtain ⟨p, hp⟩ : ∃ p, pre.length = p := ⟨_, rfl⟩
          rw [hp] at hpn hpm hrl ⊢
          have HPL := Lib.hid hp
          clear hp
          by_cases hlt : p < n
          · by_cases hpart : ∃ m j, HasPart rest m j
            · obtain ⟨m, j, hpart⟩ := hpart
              have HH := Lib.hid hpart
              obtain ⟨hs1, hs2⟩ := hasPart_split hpart
              have HS1 := Lib.hid hs1
              have HS2 := Lib.hid hs2
              have hjm := hpart.2
              have hj0 := hpart.1.pos
              clear hpart hs1 hs2
              go_wp2_with fail
              refine (part_ok g rest m j wr HGr.out Hrb.out HH.out (by omega)).mono ?_
              rintro e w3 ⟨A3, c3, rfl, hc3, hB3, hG3, hO3⟩
              have HO3 := Lib.hid hO3
              have HG3 := Lib.hid hG3
              obtain ⟨cs, hown4, hnext⟩ := HP.out.took (rest' := rest.drop (j + m)) hO3 HS1.out hc3 hB3
              rw [HPL.out] at hown4 hnext
              have HO4 := Lib.hid hown4
              have HN := Lib.hid hnext
              have hsz : Hid (w2.heap.size ≤ (w3.alloc (.cells #[.slice A3 m c3] 24)).heap.size) := by
                have h1 := HP.out.2.2.2.1.size
                have h2 := hO3.size
                show w2.heap.size ≤ (w3.alloc (.cells #[.slice A3 m c3] 24)).heap.size
                simp
                omega
              clear hO3 hG3 hB3 hown4 hnext
              go_wp2_with (at_builtin
                           refine walk_append_sl _ rfl (.tmp 37) (.tmp 39) rfl w2.heap.size u8 p cs rfl HO4.out ⟨w3.heap.size, 0, none⟩ A3 m c3 1 rfl (cell_one_new _ _ _ 0 _ rfl) hpm hsz.out ?_
                           intro v5 w5 hown5 hg5 hv5
                           have HP5 := Lib.hid (HN.out v5 w5 hown5 hg5 hv5 HG3.out (by rw [← HS2.out]; exact HP.out.1))
                           clear hown5 hg5 hv5)
              refine ⟨⟨pre ++ [(rest.drop j).take m], rest.drop (j + m), by simp [HPL.out]; omega, by simp [HPL.out]; omega, by simp [HPL.out], HP5.out⟩, by simp [intOf]; omega⟩
            · have HH := Lib.hid hpart
              clear hpart
              go_wp2_with fail
              refine (part_no g rest wr HGr.out Hrb.out HH.out (by omega)).mono ?_
              rintro e w3 ⟨rfl, hO3⟩
              have HO3 := Lib.hid hO3
              clear hO3
              go_wp2_with fail
              go_ret2
              refine ⟨HBr.out.trans (below_only HO3.out hg HBr.out.size), .inr ⟨no_join_body H64.out HV.out ?_, rfl⟩⟩
              rw [HBS.out]
              exact body_no (by unfold B64; omega) HP.out.1 (by rw [HPL.out]; exact hlt) HH.out
          · obtain rfl : p = n := by omega
            go_wp2_with fail
            refine (left_good g rest wr HGr.out).mono ?_
            rintro e w' ⟨rfl, rfl⟩
            by_cases hr0 : rest = []
            · subst hr0
              go_wp2_with fail
              go_ret2
              obtain ⟨h1, -, ⟨cs, hown, hcel⟩, h3, h4⟩ := HP.out
              obtain ⟨A5, c5, rfl, h5, -, h6⟩ := own_rows (T := fun b => w.heap.size ≤ b ∧ b < wr.heap.size) hown rfl hcel (fun b hb => ⟨by have := HB2.out.size; omega, hb.2.1⟩) (fun b hb1 hb2 => ⟨by have := HB2.out.size; omega, hb2⟩)
              refine ⟨HBr.out, .inl ⟨pre, A5, c5, isJoin_body HV.out (by omega) ⟨HPL.out, ?_⟩, rfl, h5, h6⟩⟩
              rw [HBS.out, h1, List.append_nil]
            · have hr1 : 0 < rest.length := List.length_pos_iff.2 hr0
              have HR0 := Lib.hid hr0
              clear hr0
              go_wp2_with fail
              go_ret2
              refine ⟨HBr.out, .inr ⟨no_join_body H64.out HV.out ?_, rfl⟩⟩
              rw [HBS.out]
              exact body_rest (by unfold B64; omega) HP.out.1 HPL.out HR0.out
  · have HV := Lib.hid hvar
    clear hvar
    go_wp2_with fail
    refine (rvar_no g xs w1 HG1.out Hb.out HV.out (by have := HX.out; omega)).mono ?_
    rintro e w2 ⟨rfl, hG2, hO2⟩
    have HG2 := Lib.hid hG2
    have HB2 : Hid (Below w.heap.size w w2) := HB1.out.trans (below_only hO2 hg HB1.out.size)
    clear hG2 hO2
    go_wp2_with fail
    refine (bad_at g _ _ w2 HG2.out).mono ?_
    rintro e w' ⟨rfl, rfl⟩
    go_wp2_with fail
    go_ret2
    exact ⟨HB2.out, .inr ⟨no_join_var H64.out HV.out, rfl⟩⟩
end Go.Proofs.Ytjjfifgkklpkkaa
