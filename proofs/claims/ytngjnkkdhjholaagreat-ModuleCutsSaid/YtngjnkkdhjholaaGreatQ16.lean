/-
  Words on a slice of slices of bytes that the call owns, and what appending one slice to it does. Conditions: as each theorem says.
  What pack.takePart and pack.Split do. Conditions: as each theorem says (at most a million bytes).
  What module's Decode answers, and the plain facts that it rests on. Conditions: as each theorem says.
-/
import Derived.Test.YtngjnkkdhjholaaGreatQ02
import Derived.Test.YtngjnkkdhjholaaGreatQ07
import Derived.Test.YtngjnkkdhjholaaGreatQ09
import Derived.Test.YtngjnkkdhjholaaGreatQ11
import Derived.Test.YtngjnkkdhjholaaGreatQ15
namespace Go.Proofs.YtngjnkkdhjholaaGreat
open Go.RowKit

theorem sl_info : (Tryz.prog.info? 31).map (fun i => (i.zero, i.size, i.bytes)) = some (some (.slice none 0 0), 1, 24) := by kernel_rfl

/-- What appending one slice of bytes does, at the builtin. -/
theorem run_append_sl (w : World) (base ty : Nat) (v : Value) (n : Nat) (cs : List Value) (hown : w.ownsRow base 31 1 v n cs) (ad : Addr) (B : Option Addr) (m c d : Nat) (hcell : w.cell? ad = some (.slice B m c)) (hbig : n ≤ 1000000) (hbase : base ≤ w.heap.size) :
    ∃ v' w', (Builtin.append_ #[69, 69] ty #[v, .slice (some ad) 1 d]).run Tryz.prog w = .ok v' w' ∧ w'.ownsRow base 31 1 v' (n + 1) (cs ++ [.slice B m c]) ∧ w.grownBy w' v.ownBlock ∧
      (v'.ownBlock = v.ownBlock ∨ v'.ownBlock = some w.heap.size) := by
  obtain ⟨i0, hi0, hz0, hz1, hz2⟩ := info_parts sl_info
  obtain ⟨v', w', hrun, h2, h3, _, h5⟩ := run_append_own_at (P := Tryz.prog) w base 69 ty 31 i0 (.slice none 0 0) 1 24 Tryz.underlying69 hi0 hz0 hz1 hz2 rfl (by omega) v n cs hown ad 1 d [.slice B m c] rfl
    (fun j u hu => by
      cases j with
      | zero => simp at hu; subst hu; simpa [Addr.add] using hcell
      | succ j => simp at hu)
    (fun u hu => by simp at hu; subst hu; rfl) (by simp only [maxLen]; omega) (by omega) hbase
  exact ⟨v', w', hrun, h2, h3, h5⟩

theorem walk_append_sl (w : World) {ops : Array Oper} {rest : List Oper} {o : Oper} {a : Act} {Q : Exit → Act → World → Prop} (hgd : o.guard = none) (s x : Operand)
    (ho : o.op = .call { callee := .builtin .append, args := #[s, x], argTypes := #[69, 69] })
    (base : Nat) (v : Value) (n : Nat) (cs : List Value) (hs : a.eval s = v) (hown : w.ownsRow base 31 1 v n cs) (ad : Addr) (B : Option Addr) (m c d : Nat) (hx : a.eval x = .slice (some ad) 1 d) (hcell : w.cell? ad = some (.slice B m c)) (hbig : n ≤ 1000000) (hbase : base ≤ w.heap.size)
    (h : ∀ v' w', w'.ownsRow base 31 1 v' (n + 1) (cs ++ [.slice B m c]) → w.grownBy w' v.ownBlock → (v'.ownBlock = v.ownBlock ∨ v'.ownBlock = some w.heap.size) → wpList Tryz.prog ops Q rest (a.put o.dst v') w') :
    wpList Tryz.prog ops Q (o :: rest) a w := by
  refine wpList_plain hgd fun _ hK => ?_
  obtain ⟨v', w', hrun, h2, h3, h4⟩ := run_append_sl w base o.type v n cs hown ad B m c d hcell hbig hbase
  unfold Oper.wp execOp
  simp only [ho, resolve, invoke, builtin, Sem.run_bind, Sem.run_pure, Result.andThen_ok, List.map_toArray, List.map_cons, List.map_nil, hs, hx, hrun]
  exact hK _ _ (h v' w' h2 h3 h4)

theorem step_append_sl (w : World) {ops : Array Oper} {o : Oper} {a : Act} {K : Act → World → Prop} {Q : Exit → Act → World → Prop} {E : Prop} (hgd : o.guard = none) (s x : Operand)
    (ho : o.op = .call { callee := .builtin .append, args := #[s, x], argTypes := #[69, 69] })
    (base : Nat) (v : Value) (n : Nat) (cs : List Value) (hs : a.eval s = v) (hown : w.ownsRow base 31 1 v n cs) (ad : Addr) (B : Option Addr) (m c d : Nat) (hx : a.eval x = .slice (some ad) 1 d) (hcell : w.cell? ad = some (.slice B m c)) (hbig : n ≤ 1000000) (hbase : base ≤ w.heap.size)
    (h : ∀ v' w', w'.ownsRow base 31 1 v' (n + 1) (cs ++ [.slice B m c]) → w.grownBy w' v.ownBlock → (v'.ownBlock = v.ownBlock ∨ v'.ownBlock = some w.heap.size) → K (a.put o.dst v') w') :
    if Region.wanted o (yielded ops a.tmps) = true then Oper.wp Tryz.prog o a w K Q else E := by
  have hw : Region.wanted o (yielded ops a.tmps) = true := by simp [Region.wanted, hgd]
  rw [if_pos hw]
  obtain ⟨v', w', hrun, h2, h3, h4⟩ := run_append_sl w base o.type v n cs hown ad B m c d hcell hbig hbase
  unfold Oper.wp execOp
  simp only [ho, resolve, invoke, builtin, Sem.run_bind, Sem.run_pure, Result.andThen_ok, List.map_toArray, List.map_cons, List.map_nil, hs, hx, hrun]
  exact h v' w' h2 h3 h4

/-- The cells cs are slices that hold the rows xss, in blocks of which S says yes. -/
def Cel (S : Nat → Prop) (w : World) (cs : List Value) (xss : List (List Nat)) : Prop :=
  cs.length = xss.length ∧ ∀ j, j < xss.length → ∃ B c, cs[j]? = some (.slice B (xss[j]?.getD []).length c) ∧ (xss[j]?.getD []).length ≤ c ∧ Byt S w B (xss[j]?.getD [])
theorem Cel.nil (S : Nat → Prop) (w : World) : Cel S w [] [] := ⟨rfl, fun j hj => absurd hj (by simp)⟩
theorem Cel.keep {S : Nat → Prop} {w w' : World} {cs : List Value} {xss : List (List Nat)} (h : Cel S w cs xss) (hk : ∀ b, S b → w'.heap[b]? = w.heap[b]?) : Cel S w' cs xss := ⟨h.1, fun j hj => by
  obtain ⟨B, c, h1, h2, h3⟩ := h.2 j hj
  exact ⟨B, c, h1, h2, h3.keep hk⟩⟩
theorem Cel.wide {S T : Nat → Prop} {w : World} {cs : List Value} {xss : List (List Nat)} (h : Cel S w cs xss) (hk : ∀ b, S b → T b) : Cel T w cs xss := ⟨h.1, fun j hj => by
  obtain ⟨B, c, h1, h2, h3⟩ := h.2 j hj
  exact ⟨B, c, h1, h2, h3.wide hk⟩⟩
theorem Cel.snoc {S : Nat → Prop} {w : World} {cs : List Value} {xss : List (List Nat)} (h : Cel S w cs xss) {x : List Nat} {B : Option Addr} {m c : Nat} (hm : x.length = m) (hc : m ≤ c) (hB : Byt S w B x) : Cel S w (cs ++ [.slice B m c]) (xss ++ [x]) := by
  subst hm
  refine ⟨by simp [h.1], fun j hj => ?_⟩
  rcases Nat.lt_or_ge j xss.length with hlt | hge
  · rw [List.getElem?_append_left (by rw [h.1]; exact hlt), List.getElem?_append_left hlt]
    exact h.2 j hlt
  · obtain rfl : j = xss.length := by simp at hj; omega
    refine ⟨B, c, ?_, ?_, ?_⟩
    · rw [List.getElem?_append_right (by rw [h.1]; exact Nat.le_refl _), h.1]
      simp
    · simpa using hc
    · simpa using hB
/-- What is owned is a slice of slices. -/
theorem own_rows {w : World} {base n : Nat} {v : Value} {cs : List Value} {xss : List (List Nat)} {S T : Nat → Prop} (h : w.ownsRow base 31 1 v n cs) (hn : xss.length = n) (hc : Cel S w cs xss) (hS : ∀ b, S b → T b) (hT : ∀ b, base ≤ b → b < w.heap.size → T b) :
    ∃ A c, v = .slice A n c ∧ n ≤ c ∧ c ≤ maxLen ∧ Rws T w A xss := by
  rcases h.2 with ⟨rfl, h0⟩ | ⟨g, cap, cur, rfl, hb, hg, hnc, hcm, _, _⟩
  · exact ⟨none, 0, by rw [h0], by omega, by simp [maxLen], fun hpos => absurd hpos (by omega)⟩
  · refine ⟨some ⟨g, 0, none⟩, cap, rfl, hnc, hcm, fun _ => ⟨⟨g, 0, none⟩, rfl, hT g hb (Array.getElem?_eq_some_iff.1 hg).1, fun j hj => ?_⟩⟩
    obtain ⟨B, c, h1, h2, h3⟩ := hc.2 j hj
    exact ⟨B, c, h.cells rfl j _ h1, h2, h3.wide hS⟩
end Go.Proofs.YtngjnkkdhjholaaGreat
namespace Go.Proofs.YtngjnkkdhjholaaGreat
open Go.RowKit

set_option maxRecDepth 100000 in
set_option maxHeartbeats 400000 in
theorem part_ok (g : Nat) (xs : List Nat) (m j : Nat) (w : World) (h : Good w g xs) (hb : ∀ x ∈ xs, x < 256) (hp : HasPart xs m j) (hl : xs.length ≤ 1000000) :
    Calls Tryz.prog 78 #[.pointer (some ⟨g, 0, none⟩)] w fun e w' => ∃ A c, e = .returned (.tuple #[.slice A m c, .bool true]) ∧ m ≤ c ∧ Byt (fun b => w.heap.size ≤ b ∧ b < w'.heap.size) w' A ((xs.drop j).take m) ∧ Good w' g (xs.drop (j + m)) ∧ Only g w w' := by
  have hv := Lib.hid (rvar_ok g xs m j w h hb hp.1 (by omega))
  have hj := hp.2
  have hj1 := hp.1.1
  have hl2 : (xs.drop j).length = xs.length - j := by simp
  obtain ⟨q, hq⟩ : ∃ q, xs.drop j = q := ⟨_, rfl⟩
  have hqm : m ≤ q.length := by rw [← hq, hl2]; omega
  have hql : q.length ≤ 1000000 := by rw [← hq, hl2]; omega
  have HQ := Lib.hid hq
  have Hq2 : Hid (xs.drop (j + m) = q.drop m) := by show xs.drop (j + m) = q.drop m; rw [← hq, List.drop_drop]
  have t1 : decide ((q.length : Int) < (m : Int)) = false := by simp; omega
  clear h hb hp hq hl2
  go_enter Tryz.func78, Tryz.ntmps78
  go_wp2_with (go_at_call 77
               refine hv.out.mono ?_
               rintro e w1 ⟨rfl, hG1, hO1⟩
               rw [HQ.out] at hG1
               have HG1 := Lib.hid hG1
               have HO1 := Lib.hid hO1
               clear hG1 hO1)
  obtain ⟨A1, c1, hk1, -, -, -⟩ := HG1.out
  have HK1 := Lib.hid hk1
  clear hk1
  refine (bad_at g _ _ w1 HK1.out).mono ?_
  rintro e w' ⟨rfl, rfl⟩
  go_wp2_with fail
  refine (left_good g q w1 HG1.out).mono ?_
  rintro e w' ⟨rfl, rfl⟩
  go_wp2_with fail
  refine (take_ok g m q w1 HG1.out hqm (by omega)).mono ?_
  rintro e w2 ⟨v2, rfl, hown2, hG2, hO2⟩
  obtain ⟨A2, c2, rfl, -, hc2, -, hB2⟩ := own_slice hown2
  have HB2 := Lib.hid hB2
  have HG2 := Lib.hid hG2
  have HO2 := Lib.hid hO2
  clear hown2 hB2 hG2 hO2
  go_wp2_with fail
  go_ret2
  refine ⟨A2, c2, rfl, hc2, ?_, ?_, only_trans HO1.out HO2.out⟩
  · rw [HQ.out]
    exact HB2.out.wide fun b hb => ⟨Nat.le_trans HO1.out.size hb.1, hb.2⟩
  · rw [Hq2.out]
    exact HG2.out

set_option maxRecDepth 100000 in
set_option maxHeartbeats 400000 in
theorem part_no (g : Nat) (xs : List Nat) (w : World) (h : Good w g xs) (hb : ∀ x ∈ xs, x < 256) (hp : ¬ ∃ m j, HasPart xs m j) (hl : xs.length ≤ 1000000) :
    Calls Tryz.prog 78 #[.pointer (some ⟨g, 0, none⟩)] w fun e w' => e = .returned (.tuple #[.slice none 0 0, .bool false]) ∧ Only g w w' := by
  by_cases hvar : ∃ v n, IsVar xs v n
  · obtain ⟨m, j, hvar⟩ := hvar
    have hv := Lib.hid (rvar_ok g xs m j w h hb hvar (by omega))
    have hm64 : m < B64 := hvar.2.2
    unfold B64 at hm64
    have hj : ¬ j + m ≤ xs.length := fun e => hp ⟨m, j, hvar, e⟩
    have hj1 := hvar.1
    have hl2 : (xs.drop j).length = xs.length - j := by simp
    obtain ⟨q, hq⟩ : ∃ q, xs.drop j = q := ⟨_, rfl⟩
    have hqm : q.length < m := by rw [← hq, hl2]; omega
    have hql : q.length ≤ 1000000 := by rw [← hq, hl2]; omega
    have HQ := Lib.hid hq
    clear h hb hp hq hl2 hvar hj
    go_enter Tryz.func78, Tryz.ntmps78
    go_wp2_with (go_at_call 77
                 refine hv.out.mono ?_
                 rintro e w1 ⟨rfl, hG1, hO1⟩
                 rw [HQ.out] at hG1
                 have HG1 := Lib.hid hG1
                 have HO1 := Lib.hid hO1
                 clear hG1 hO1)
    obtain ⟨A1, c1, hk1, -, -, -⟩ := HG1.out
    have HK1 := Lib.hid hk1
    clear hk1
    refine (bad_at g _ _ w1 HK1.out).mono ?_
    rintro e w' ⟨rfl, rfl⟩
    go_wp2_with fail
    refine (left_good g q w1 HG1.out).mono ?_
    rintro e w' ⟨rfl, rfl⟩
    go_wp2_with fail
    go_ret2
    exact ⟨rfl, HO1.out⟩
  · have hv := Lib.hid (rvar_no g xs w h hb hvar (by omega))
    clear h hb hp hvar
    go_enter Tryz.func78, Tryz.ntmps78
    go_wp2_with (go_at_call 77
                 refine hv.out.mono ?_
                 rintro e w1 ⟨rfl, hG1, hO1⟩
                 have HG1 := Lib.hid hG1
                 have HO1 := Lib.hid hO1
                 clear hG1 hO1)
    refine (bad_at g _ _ w1 HG1.out).mono ?_
    rintro e w' ⟨rfl, rfl⟩
    go_wp2_with fail
    go_ret2
    exact ⟨rfl, HO1.out⟩

/-- How far Split has come: the parts pre are taken and kept in v, the Reader in g holds rest; nothing that was there in w0 has turned but the Reader. -/
def Pil (g : Nat) (bs : List Nat) (w0 : World) (v : Value) (pre : List (List Nat)) (rest : List Nat) (wr : World) : Prop :=
  bs = pts pre ++ rest ∧ Good wr g rest ∧ (∃ cs, wr.ownsRow w0.heap.size 31 1 v pre.length cs ∧ Cel (fun b => w0.heap.size ≤ b ∧ b < wr.heap.size ∧ v.ownBlock ≠ some b) wr cs pre) ∧ Only g w0 wr ∧ g < w0.heap.size
theorem Pil.start {g : Nat} {bs : List Nat} {w0 : World} (h : Good w0 g bs) : Pil g bs w0 (.slice none 0 0) [] bs w0 :=
  ⟨rfl, h, ⟨[], World.ownsRow_nil _ _ _ _, Cel.nil _ _⟩, only_refl _ _, h.lt⟩
/-- A part is taken. -/
theorem Pil.took {g : Nat} {bs : List Nat} {w0 wr w3 : World} {v : Value} {pre : List (List Nat)} {rest rest' x : List Nat} {A : Option Addr} {m c : Nat} (h : Pil g bs w0 v pre rest wr) (hO : Only g wr w3) (hm : x.length = m) (hc : m ≤ c) (hB : Byt (fun b => wr.heap.size ≤ b ∧ b < w3.heap.size) w3 A x) :
    ∃ cs, (w3.alloc (.cells #[.slice A m c] 31)).ownsRow w0.heap.size 31 1 v pre.length cs ∧
      ∀ v' w5, w5.ownsRow w0.heap.size 31 1 v' (pre.length + 1) (cs ++ [.slice A m c]) → (w3.alloc (.cells #[.slice A m c] 31)).grownBy w5 v.ownBlock → (v'.ownBlock = v.ownBlock ∨ v'.ownBlock = some (w3.alloc (.cells #[.slice A m c] 31)).heap.size) →
        Good w3 g rest' → bs = pts pre ++ (pt x ++ rest') → Pil g bs w0 v' (pre ++ [x]) rest' w5 := by
  obtain ⟨-, hG, ⟨cs, hown, hcel⟩, hOn, hg⟩ := h
  have hsn := hOn.size
  have hs := hO.size
  have hvg : v.ownBlock = none ∨ v.ownBlock ≠ some g := .inr fun e => by have := (hown.lt g e).1; omega
  refine ⟨cs, (hown.kept hO hvg).alloc _, fun v' w5 hown5 hg5 hv' hG3 hbs => ?_⟩
  have hs5 := hg5.size
  simp at hs5
  have hsa : (w3.alloc (.cells #[.slice A m c] 31)).heap.size = w3.heap.size + 1 := by simp
  have hkeep : ∀ b, b < w3.heap.size → v.ownBlock ≠ some b → w5.heap[b]? = w3.heap[b]? := fun b hb hne =>
    (hg5.block b (by omega) (fun e => hne e.symm)).trans (Below.heap_alloc w3 _ b hb)
  have hkeep2 : ∀ b, b < wr.heap.size → b ≠ g → v.ownBlock ≠ some b → w5.heap[b]? = wr.heap[b]? := fun b hb hne1 hne2 =>
    (hkeep b (by omega) hne2).trans (hO.block b hb (fun e => hne1 (by injection e)))
  have hvlt : ∀ b, v.ownBlock = some b → w0.heap.size ≤ b ∧ b < wr.heap.size := fun b e => hown.lt b e
  have hne' : ∀ b, b < w3.heap.size → v.ownBlock ≠ some b → v'.ownBlock ≠ some b := fun b hb hne e => by
    rcases hv' with hv' | hv'
    · exact hne (hv' ▸ e)
    · rw [hv', hsa] at e
      injection e with e
      omega
  refine ⟨by rw [pts_snoc, List.append_assoc]; exact hbs, ?_, ⟨_, by simpa using hown5, ?_⟩, ?_⟩
  · exact hG3.keep fun b hb => hkeep b (by omega) (fun e => by have := hvlt b e; omega)
  · refine Cel.snoc ?_ hm hc ?_
    · exact (hcel.keep fun b hb => hkeep2 b hb.2.1 (by omega) hb.2.2).wide fun b hb => ⟨hb.1, by omega, hne' b (by omega) hb.2.2⟩
    · refine (hB.keep fun b hb => hkeep b hb.2 (fun e => by have := hvlt b e; omega)).wide fun b hb => ⟨by omega, by omega, hne' b hb.2 (fun e => by have := hvlt b e; omega)⟩
  · refine ⟨⟨hg5.os.trans (hO.os.trans hOn.os), hg5.tape.trans (hO.tape.trans hOn.tape), hg5.output.trans (hO.output.trans hOn.output), by omega, fun b hb hne => ?_⟩, hg⟩
    exact (hkeep2 b (by omega) (fun e => hne (by rw [e])) (fun e => by have := hvlt b e; omega)).trans (hOn.block b hb hne)

def Splits (xs : List Nat) (most : Int) (w : World) (e : Ending) (w' : World) : Prop :=
  Below w.heap.size w w' ∧ ((∃ xss A c, IsJoin xs most xss ∧ e = .returned (.tuple #[.slice A xss.length c, .int .i64 0]) ∧ xss.length ≤ c ∧ Rws (fun b => w.heap.size ≤ b ∧ b < w'.heap.size) w' A xss) ∨
    ((¬ ∃ xss, IsJoin xs most xss) ∧ e = .returned (.tuple #[.slice none 0 0, .int .i64 2])))

set_option maxRecDepth 100000 in
set_option maxHeartbeats 1000000 in
theorem split_any (A : Option Addr) (n0 c : Nat) (xs : List Nat) (most : Int) (w : World) (hx : xs.length = n0) (hb : ∀ x ∈ xs, x < 256) (hB : Byt (· < w.heap.size) w A xs) (hl : n0 ≤ 1000000) (hmost : -9223372036854775808 ≤ most ∧ most < 9223372036854775808) :
    Calls Tryz.prog 36 #[.slice A n0 c, .int .i64 most] w (Splits xs most w) := by
  have HX := Lib.hid hx
  have Hb := Lib.hid hb
  have HB := Lib.hid hB
  have H64 : Hid (xs.length < B64) := by show xs.length < B64; unfold B64; omega
  clear hx hb hB
  go_enter Tryz.func36, Tryz.ntmps36
  go_wp2_with fail
  refine (newReader_any A n0 c xs w HX.out HB.out (by omega)).mono ?_
  rintro e w1 ⟨g, rfl, hG1, hg, hb1⟩
  have HG1 := Lib.hid hG1
  have HB1 := Lib.hid hb1
  clear hG1 hb1
  by_cases hvar : ∃ v n, IsVar xs v n
  · obtain ⟨n, k, hvar⟩ := hvar
    have HV := Lib.hid hvar
    have hn64 := hvar.2.2
    unfold B64 at hn64
    clear hvar
    go_wp2_with fail
    refine (rvar_ok g xs n k w1 HG1.out Hb.out HV.out (by have := HX.out; omega)).mono ?_
    rintro e w2 ⟨rfl, hG2, hO2⟩
    obtain ⟨bs, hbs⟩ : ∃ bs, xs.drop k = bs := ⟨_, rfl⟩
    rw [hbs] at hG2
    have HBS := Lib.hid hbs
    have hbl : bs.length ≤ 1000000 := by rw [← hbs, List.length_drop, HX.out]; omega
    have Hbb : Hid (∀ x ∈ bs, x < 256) := by show ∀ x ∈ bs, x < 256; rw [← hbs]; exact fun x hx => Hb.out x (List.mem_of_mem_drop hx)
    have HG2 := Lib.hid hG2
    have HO2 := Lib.hid hO2
    have HB2 : Hid (Below w.heap.size w w2) := HB1.out.trans (below_only hO2 hg HB1.out.size)
    clear hG2 hO2 hbs
    obtain ⟨A1, c1, hk1, -, -, -⟩ := HG2.out
    have HK1 := Lib.hid hk1
    clear hk1
    go_wp2_with fail
    refine (bad_at g _ _ w2 HK1.out).mono ?_
    rintro e w' ⟨rfl, rfl⟩
    by_cases hm0 : most < 0
    · go_wp2_with fail
      go_ret2
      exact ⟨HB2.out, .inr ⟨no_join_most H64.out HV.out (by omega), rfl⟩⟩
    · obtain ⟨mo, rfl⟩ : ∃ mo : Nat, most = (mo : Int) := ⟨most.toNat, by omega⟩
      clear hm0
      by_cases hmn : mo < n
      · go_wp2_with fail
        go_ret2
        exact ⟨HB2.out, .inr ⟨no_join_most H64.out HV.out (by omega), rfl⟩⟩
      · go_wp2_with fail
        go_loopw [8, 28] (fun v i wr => ∃ pre rest, pre.length ≤ n ∧ pre.length ≤ 1000000 ∧ i = .int .u64 ((pre.length : Nat) : Int) ∧ Pil g bs w2 v pre rest wr) (fun _ i _ => n - (intOf i).toNat)
        case atStart => exact ⟨[], bs, Nat.zero_le _, by simp, rfl, Pil.start HG2.out⟩
        case round =>
          obtain ⟨pre, rest, hpn, hpm, rfl, hpil⟩ := hrel
          have HP := Lib.hid hpil
          have HGr := Lib.hid hpil.2.1
          have HBr : Hid (Below w.heap.size w wr) := HB2.out.trans (below_only hpil.2.2.2.1 hg HB2.out.size)
          have hrl : pre.length + rest.length ≤ bs.length := by
            rw [hpil.1, List.length_append]
            have := pts_many pre
            omega
          have Hrb : Hid (∀ x ∈ rest, x < 256) := fun x hx => Hbb.out x (by rw [hpil.1]; exact List.mem_append_right _ hx)
          clear hpil
          obtain ⟨p, hp⟩ : ∃ p, pre.length = p := ⟨_, rfl⟩
          rw [hp] at hpn hpm hrl ⊢
          have HPL := Lib.hid hp
          clear hp
          by_cases hlt : p < n
          · by_cases hpart : ∃ m j, HasPart rest m j
            · obtain ⟨m, j, hpart⟩ := hpart
              have HH := Lib.hid hpart
              obtain ⟨hs1, hs2⟩ := hasPart_split hpart
              have HS1 := Lib.hid hs1
              have HS2 := Lib.hid hs2
              have hjm := hpart.2
              have hj0 := hpart.1.pos
              clear hpart hs1 hs2
              go_wp2_with fail
              refine (part_ok g rest m j wr HGr.out Hrb.out HH.out (by omega)).mono ?_
              rintro e w3 ⟨A3, c3, rfl, hc3, hB3, hG3, hO3⟩
              have HO3 := Lib.hid hO3
              have HG3 := Lib.hid hG3
              obtain ⟨cs, hown4, hnext⟩ := HP.out.took (rest' := rest.drop (j + m)) hO3 HS1.out hc3 hB3
              rw [HPL.out] at hown4 hnext
              have HO4 := Lib.hid hown4
              have HN := Lib.hid hnext
              have hsz : Hid (w2.heap.size ≤ (w3.alloc (.cells #[.slice A3 m c3] 31)).heap.size) := by
                have h1 := HP.out.2.2.2.1.size
                have h2 := hO3.size
                show w2.heap.size ≤ (w3.alloc (.cells #[.slice A3 m c3] 31)).heap.size
                simp
                omega
              clear hO3 hG3 hB3 hown4 hnext
              go_wp2_with (at_builtin
                           refine walk_append_sl _ rfl (.tmp 37) (.tmp 39) rfl w2.heap.size u8 p cs rfl HO4.out ⟨w3.heap.size, 0, none⟩ A3 m c3 1 rfl (cell_one_new _ _ _ 0 _ rfl) hpm hsz.out ?_
                           intro v5 w5 hown5 hg5 hv5
                           have HP5 := Lib.hid (HN.out v5 w5 hown5 hg5 hv5 HG3.out (by rw [← HS2.out]; exact HP.out.1))
                           clear hown5 hg5 hv5)
              refine ⟨⟨pre ++ [(rest.drop j).take m], rest.drop (j + m), by simp [HPL.out]; omega, by simp [HPL.out]; omega, by simp [HPL.out], HP5.out⟩, by simp [intOf]; omega⟩
            · have HH := Lib.hid hpart
              clear hpart
              go_wp2_with fail
              refine (part_no g rest wr HGr.out Hrb.out HH.out (by omega)).mono ?_
              rintro e w3 ⟨rfl, hO3⟩
              have HO3 := Lib.hid hO3
              clear hO3
              go_wp2_with fail
              go_ret2
              refine ⟨HBr.out.trans (below_only HO3.out hg HBr.out.size), .inr ⟨no_join_body H64.out HV.out ?_, rfl⟩⟩
              rw [HBS.out]
              exact body_no (by unfold B64; omega) HP.out.1 (by rw [HPL.out]; exact hlt) HH.out
          · obtain rfl : p = n := by omega
            go_wp2_with fail
            refine (left_good g rest wr HGr.out).mono ?_
            rintro e w' ⟨rfl, rfl⟩
            by_cases hr0 : rest = []
            · subst hr0
              go_wp2_with fail
              go_ret2
              obtain ⟨h1, -, ⟨cs, hown, hcel⟩, h3, h4⟩ := HP.out
              obtain ⟨A5, c5, rfl, h5, -, h6⟩ := own_rows (T := fun b => w.heap.size ≤ b ∧ b < wr.heap.size) hown rfl hcel (fun b hb => ⟨by have := HB2.out.size; omega, hb.2.1⟩) (fun b hb1 hb2 => ⟨by have := HB2.out.size; omega, hb2⟩)
              refine ⟨HBr.out, .inl ⟨pre, A5, c5, isJoin_body HV.out (by omega) ⟨HPL.out, ?_⟩, rfl, h5, h6⟩⟩
              rw [HBS.out, h1, List.append_nil]
            · have hr1 : 0 < rest.length := List.length_pos_iff.2 hr0
              have HR0 := Lib.hid hr0
              clear hr0
              go_wp2_with fail
              go_ret2
              refine ⟨HBr.out, .inr ⟨no_join_body H64.out HV.out ?_, rfl⟩⟩
              rw [HBS.out]
              exact body_rest (by unfold B64; omega) HP.out.1 HPL.out HR0.out
  · have HV := Lib.hid hvar
    clear hvar
    go_wp2_with fail
    refine (rvar_no g xs w1 HG1.out Hb.out HV.out (by have := HX.out; omega)).mono ?_
    rintro e w2 ⟨rfl, hG2, hO2⟩
    have HG2 := Lib.hid hG2
    have HB2 : Hid (Below w.heap.size w w2) := HB1.out.trans (below_only hO2 hg HB1.out.size)
    clear hG2 hO2
    go_wp2_with fail
    refine (bad_at g _ _ w2 HG2.out).mono ?_
    rintro e w' ⟨rfl, rfl⟩
    go_wp2_with fail
    go_ret2
    exact ⟨HB2.out, .inr ⟨no_join_var H64.out HV.out, rfl⟩⟩
end Go.Proofs.YtngjnkkdhjholaaGreat
namespace Go.Proofs.YtngjnkkdhjholaaGreat
open Go.RowKit

/-- The bytes of a module that fits. -/
def IsMod (xs : List Nat) (m : Mod) : Prop := Fit m ∧ (∀ n ∈ m.ints, n < B64) ∧ xs = modB m
/-- What Decode answers. -/
def Decodes (xs : List Nat) (w : World) (e : Ending) (w' : World) : Prop :=
  Below w.heap.size w w' ∧ ((∃ m cs, IsMod xs m ∧ e = .returned (.tuple #[.agg cs.toArray, .int .i64 0]) ∧ modL.R (fun b => w.heap.size ≤ b ∧ b < w'.heap.size) w' cs m) ∨
    ((¬ ∃ m, IsMod xs m) ∧ e = .returned (.tuple #[.agg #[.slice none 0 0, .slice none 0 0, .slice none 0 0, .slice none 0 0, .slice none 0 0], .int .i64 2])))

theorem got_end {α : Type} {f : α → List Nat} {gd : α → Prop} {p : List Nat} {t : Option (List Nat)} {x : α} (h : Got f gd (some p) t x) (hPF : PF f gd) (ht : t = none ∨ ∃ rest, t = some rest ∧ rest ≠ []) : ∀ y, gd y → p ≠ f y := by
  rintro y hy rfl
  rcases h with ⟨hg, zs, rest, e1, e2, rfl⟩ | ⟨rfl, hno⟩
  · injection e1 with e1
    subst e1
    obtain ⟨_, e3⟩ := hPF y x [] rest hy hg (by rw [List.append_nil]; exact e2)
    rcases ht with h | ⟨r, h, hr⟩
    · cases h
    · injection h with h
      subst h
      exact hr e3.symm
  · exact hno _ rfl ⟨y, [], hy, by simp⟩
theorem got_all {α : Type} {f : α → List Nat} {gd : α → Prop} {p : List Nat} {x : α} (h : Got f gd (some p) (some []) x) : gd x ∧ p = f x := by
  rcases h with ⟨hg, zs, rest, e1, e2, e3⟩ | ⟨e, _⟩
  · injection e1 with e1
    injection e3 with e3
    subst e1 e3
    exact ⟨hg, by simpa using e2⟩
  · cases e

theorem fit_parts {m : Mod} (h : Fit m) (hi : ∀ n ∈ m.ints, n < B64) : gR m.recs ∧ gL 1 8 (fun x => fnOk m.recs.length x = true) m.funcs ∧ gL 0 8 (fun x => impOk m.recs.length x = true) m.imps ∧ gL 0 16 (fun n => n < B64) m.ints ∧ gL 0 16 (fun s => s.length ≤ 32) m.texts :=
  ⟨⟨by have := h.r8; omega, h.recs⟩, ⟨h.f1, h.f8, h.funcs⟩, ⟨Nat.zero_le _, h.i8, h.imps⟩, ⟨Nat.zero_le _, h.n16, hi⟩, ⟨Nat.zero_le _, h.t16, h.texts⟩⟩
theorem parts_fit {m : Mod} (h0 : gR m.recs) (h1 : gL 1 8 (fun x => fnOk m.recs.length x = true) m.funcs) (h2 : gL 0 8 (fun x => impOk m.recs.length x = true) m.imps) (h3 : gL 0 16 (fun n => n < B64) m.ints) (h4 : gL 0 16 (fun s => s.length ≤ 32) m.texts) : Fit m ∧ ∀ n ∈ m.ints, n < B64 :=
  ⟨⟨by have := h0.1; omega, h0.2, h1.1, h1.2.1, h1.2.2, h2.2.1, h2.2.2, h3.2.1, h4.2.1, h4.2.2⟩, h3.2.2⟩

theorem mod_parts {xs p0 p1 p2 p3 p4 : List Nat} {m : Mod} (hl : xs.length < B64) (hx : xs = joinB [p0, p1, p2, p3, p4]) (h : IsMod xs m) : p0 = lB (lB tB) m.recs ∧ p1 = lB fnB m.funcs ∧ p2 = lB impB m.imps ∧ p3 = lB numB m.ints ∧ p4 = lB pt m.texts := by
  have := join_unique hl hx h.2.2
  simpa [partsB] using this
theorem no_five {xs : List Nat} {xss : List (List Nat)} (hl : xs.length < B64) (hx : xs = joinB xss) (h5 : xss.length ≠ 5) : ¬ ∃ m, IsMod xs m := by
  rintro ⟨m, h⟩
  have := join_unique hl hx h.2.2
  rw [this] at h5
  exact h5 rfl
theorem no_split {xs : List Nat} (h : ¬ ∃ xss, IsJoin xs 5 xss) : ¬ ∃ m, IsMod xs m := by
  rintro ⟨m, hm⟩
  exact h ⟨partsB m, hm.2.2, by simp [partsB]⟩
theorem recs_same {xs p0 p1 p2 p3 p4 : List Nat} {m : Mod} {x0 : List (List Typ)} (hl : xs.length < B64) (hx : xs = joinB [p0, p1, p2, p3, p4]) (h : IsMod xs m) (g0 : gR x0) (e0 : p0 = lB (lB tB) x0) : m.recs = x0 :=
  (pf_recs m.recs x0 [] [] (fit_parts h.1 h.2.1).1 g0 (by rw [← e0, ← (mod_parts hl hx h).1])).1

/-- From block to block the same, but for rb. -/
def Keep (rb : Nat) (w w' : World) : Prop := w.heap.size ≤ w'.heap.size ∧ ∀ b, b < w.heap.size → b ≠ rb → w'.heap[b]? = w.heap[b]?
theorem Keep.refl (rb : Nat) (w : World) : Keep rb w w := ⟨Nat.le_refl _, fun _ _ _ => rfl⟩
theorem Keep.trans {rb : Nat} {a b c : World} (h : Keep rb a b) (k : Keep rb b c) : Keep rb a c := ⟨Nat.le_trans h.1 k.1, fun i h1 h2 => (k.2 i (Nat.lt_of_lt_of_le h1 h.1) h2).trans (h.2 i h1 h2)⟩
theorem Keep.below {rb : Nat} {a b : World} (h : Below a.heap.size a b) : Keep rb a b := ⟨h.size, fun i h1 _ => h.block i h1⟩
theorem Keep.set {rb i : Nat} {a : World} (u : Value) : Keep rb a (a.setCell ⟨rb, i, none⟩ u) := ⟨by simp, fun j h1 h2 => Below.heap_setCell _ _ _ _ (by simpa using h2)⟩
theorem Keep.cell {rb : Nat} {w w' : World} (hk : Keep rb w w') {p : Addr} {o : Option Value} (h : w.cell? p = o) (h1 : p.block < w.heap.size) (h2 : p.block ≠ rb) : w'.cell? p = o := (World.cell?_of_block (hk.2 _ h1 h2)).trans h
theorem Keep.blk {rb b ty : Nat} {w w' : World} {cs : Array Value} (h : Keep rb w w') (hb : Blk w b ty cs) (hne : b ≠ rb) : Blk w' b ty cs := (h.2 b hb.lt hne).trans hb
theorem Keep.lay {α : Type} (L : Lay α) {rb : Nat} {w w' : World} {cs : List Value} {x : α} (h : L.R (fun b => rb < b ∧ b < w.heap.size) w cs x) (hk : Keep rb w w') : L.R (fun b => rb < b ∧ b < w'.heap.size) w' cs x :=
  L.wide (L.keep h fun b hb => hk.2 b hb.2 (by omega)) fun b hb => ⟨hb.1, Nat.lt_of_lt_of_le hb.2 hk.1⟩
theorem Keep.byt {rb : Nat} {w w' : World} {A : Option Addr} {xs : List Nat} (h : Byt (· < rb) w A xs) (hk : Keep rb w w') (hrb : rb ≤ w.heap.size) : Byt (· < rb) w' A xs := h.keep fun b hb => hk.2 b (by omega) (by omega)
end Go.Proofs.YtngjnkkdhjholaaGreat
