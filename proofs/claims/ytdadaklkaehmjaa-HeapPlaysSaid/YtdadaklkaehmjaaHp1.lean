/-
  What the document's Copy does with a state that has objects alone.
  Conditions: as each theorem says.
-/
import Derived.Test.YtdadaklkaehmjaaHr
import Derived.Test.YtdadaklkaehmjaaHc
import Derived.Test.YtdadaklkaehmjaaHp0
import Derived.Test.YtdadaklkaehmjaaHd
import Derived.Test.YtdadaklkaehmjaaLst
import Derived.Test.YtdadaklkaehmjaaStp
import Derived.Deep.RegionHeld3
import Derived.Deep.DeepCutAuto
namespace Go.Proofs.Ytdadaklkaehmjaa
open Go.RowKit
set_option linter.unusedSimpArgs false
set_option linter.unusedVariables false

theorem own_blk0 {w : World} {base g ty k : Nat} (h : Blk w g ty #[]) (hb : base ≤ g) : w.ownsRow base ty k (.slice (some ⟨g, 0, none⟩) 0 0) 0 [] := ⟨by simp, .inr ⟨g, 0, #[], rfl, hb, h, Nat.le_refl _, by simp [maxLen], by simp, by simp⟩⟩
/-- append of numbers to an empty row, as one step of a statement whose order is drawn. -/
theorem step_nums (w : World) {ops : Array Oper} {o : Oper} {a : Go.Act} {K : Go.Act → World → Prop} {Q : Exit → Go.Act → World → Prop} {X : Prop} (hgd : o.guard = none) (s x : Operand)
    (ho : o.op = .call { callee := .builtin .append, args := #[s, x], argTypes := #[25, 25] }) (base gx : Nat) (hs : a.eval s = .slice (some ⟨gx, 0, none⟩) 0 0) (hb : Blk w gx 31 #[]) (hbase : base ≤ gx)
    (A : Option Addr) (m c : Nat) (xs : List Nat) (hx : a.eval x = .slice A m c) (hl : xs.length = m) (S : Nat → Prop) (hS : Sq numL S w A xs) (hm : m ≤ 1000000)
    (h : ∀ A' c' w', w'.ownsRow base 31 1 (.slice A' m c') m (Ns xs) → w.grownBy w' (some gx) → (∀ b, (Value.slice A' m c').ownBlock = some b → b = gx ∨ w.heap.size ≤ b) → K (a.put o.dst (.slice A' m c')) w') :
    if Region.wanted o (yielded ops a.tmps) = true then Oper.wp Try.prog o a w K Q else X := by
  have hw : Region.wanted o (yielded ops a.tmps) = true := by simp [Region.wanted, hgd]
  rw [if_pos hw]
  have hown : w.ownsRow base 31 1 (.slice (some ⟨gx, 0, none⟩) 0 0) 0 [] := own_blk0 hb hbase
  obtain ⟨i0, hi0, hz0, hz1, hz2⟩ := info_parts num_info
  have key : ∃ v' w', (Builtin.append_ #[25, 25] o.type #[.slice (some ⟨gx, 0, none⟩) 0 0, .slice A m c]).run Try.prog w = .ok v' w' ∧ w'.ownsRow base 31 1 v' m (Ns xs) ∧ w.grownBy w' (some gx) ∧ (∀ b, v'.ownBlock = some b → b = gx ∨ w.heap.size ≤ b) ∧ ∃ A' c', v' = .slice A' m c' := by
    rcases A with _ | ad
    · obtain rfl : xs = [] := by
        cases xs with
        | nil => rfl
        | cons t ts => obtain ⟨_, e, -⟩ := hS (by simp); cases e
      obtain rfl : m = 0 := by simpa using hl.symm
      have hc : c = c := rfl
      refine ⟨.slice (some ⟨gx, 0, none⟩) 0 0, w, ?_, hown, ⟨rfl, rfl, rfl, Nat.le_refl _, fun _ _ _ => rfl⟩, fun b hb => .inl (by simp [Value.ownBlock] at hb; exact hb.symm), _, _, rfl⟩
      have ht := run_underlying (P := Try.prog) (w := w) Try.underlying25
      simp [Builtin.append_, ht, sizeOf, typeInfo, hi0, Builtin.lenOf, Builtin.firstCells, storeCells]
    · obtain ⟨css, hcl, hR, hcc, hone, hfl⟩ := sq_css (by decide) hS
      have e : css.flatten = Ns xs := nums_flat hcl hR
      rw [e] at hcc hone
      obtain ⟨v', w', hrun, h2, h3, _, h5⟩ := run_append_own_at (P := Try.prog) w base 25 o.type 31 i0 (.int .u64 0) 1 8 Try.underlying25 hi0 hz0 hz1 hz2 rfl (by omega) _ 0 [] hown ad m c (Ns xs) (by rw [Ns_length, hl]; omega) hcc hone
        (by simp only [maxLen]; omega) (by omega) (by have := hb.lt; omega)
      rw [Nat.zero_add, List.nil_append] at h2
      refine ⟨v', w', hrun, h2, h3, fun b hb => ?_, ?_⟩
      · rcases h5 with e | e
        · rw [e] at hb; simp [Value.ownBlock] at hb; exact .inl hb.symm
        · rw [e] at hb; injection hb with hb; exact .inr (by omega)
      rcases h2.2 with ⟨rfl, h0⟩ | ⟨g, cap, cur, rfl, _⟩
      · exact ⟨none, 0, by rw [h0]⟩
      · exact ⟨_, _, rfl⟩
  obtain ⟨v', w', hrun, h2, h3, h6, A', c', rfl⟩ := key
  unfold Oper.wp execOp
  simp only [ho, resolve, invoke, builtin, Sem.run_bind, Sem.run_pure, Result.andThen_ok, List.map_toArray, List.map_cons, List.map_nil, hs, hx, hrun]
  exact h _ _ w' h2 h3 h6
/-- The same of bytes. -/
theorem step_byts (w : World) {ops : Array Oper} {o : Oper} {a : Go.Act} {K : Go.Act → World → Prop} {Q : Exit → Go.Act → World → Prop} {X : Prop} (hgd : o.guard = none) (s x : Operand)
    (ho : o.op = .call { callee := .builtin .append, args := #[s, x], argTypes := #[26, 26] }) (base gx : Nat) (hs : a.eval s = .slice (some ⟨gx, 0, none⟩) 0 0) (hb : Blk w gx 5 #[]) (hbase : base ≤ gx)
    (A : Option Addr) (m c : Nat) (xs : List Nat) (hx : a.eval x = .slice A m c) (hl : xs.length = m) (S : Nat → Prop) (hS : Byt S w A xs) (hm : m ≤ 1000000)
    (h : ∀ A' c' w', w'.ownsRow base 5 1 (.slice A' m c') m (Bs xs) → w.grownBy w' (some gx) → (∀ b, (Value.slice A' m c').ownBlock = some b → b = gx ∨ w.heap.size ≤ b) → K (a.put o.dst (.slice A' m c')) w') :
    if Region.wanted o (yielded ops a.tmps) = true then Oper.wp Try.prog o a w K Q else X := by
  have hown : w.ownsRow base 5 1 (.slice (some ⟨gx, 0, none⟩) 0 0) 0 (Bs []) := own_blk0 hb hbase
  refine step_append w hgd s x ho base _ 0 [] hs hown A m c xs hx hl S hS (by omega) (by have := hb.lt; omega) ?_
  intro v' w' h2 h3 h5
  rw [Nat.zero_add, List.nil_append] at h2
  have h6 : ∀ b, v'.ownBlock = some b → b = gx ∨ w.heap.size ≤ b := fun b hb => by
    rcases h5 with e | e
    · rw [e] at hb; simp [Value.ownBlock] at hb; exact .inl hb.symm
    · rw [e] at hb; injection hb with hb; exact .inr (by omega)
  have hv : ∃ A' c', v' = .slice A' m c' := by
    rcases h2.2 with ⟨rfl, h0⟩ | ⟨g, cap, cur, rfl, _⟩
    · exact ⟨none, 0, by rw [h0]⟩
    · exact ⟨_, _, rfl⟩
  obtain ⟨A', c', rfl⟩ := hv
  exact h _ _ w' h2 h3 h6

set_option maxRecDepth 100000 in
set_option maxHeartbeats 8000000 in
theorem rcopy_any (A : Option Addr) (n c : Nat) (O : List Ob) (w : World) (hl : O.length = n) (h : Sq obL (· < w.heap.size) w A O) (hz : ∀ o ∈ O, o.small) (hn : n ≤ 1000) :
    Calls Try.prog 9 #[.agg #[.slice none 0 0, .slice A n c, .slice none 0 0, .int .i64 0, .int .i64 0, .int .i64 0, .int .u64 0]] w fun e w' =>
    ∃ v u css tag, e = .returned (.agg #[.slice none 0 0, v, u, .int .i64 0, .int .i64 0, .int .i64 0, .int .u64 0]) ∧ Row (fun b => w.heap.size ≤ b ∧ b < w'.heap.size) tag w' v css O ∧ Below w.heap.size w w' := by
  have HL := Lib.hid hl
  have HS := Lib.hid h
  have HZ := Lib.hid hz
  clear hl h hz
  go_enter Try.func9, Try.ntmps9
  go_upto_region 3 with (fail)
  refine wp_world fun W hW => ?_
  have HC0 : Hid (Cp w.heap.size (w.heap.size + 4) A n c (.slice (some ⟨w.heap.size + 1 + 1 + 1, 0, none⟩) 0 0) W (.slice none 0 0)) := by
    show Cp _ _ _ _ _ _ _ _
    rw [hW]
    exact ⟨blk_keep (blk_keep (blk_keep (blk_at rfl))), blk_keep (blk_keep (blk_at (by simp))), blk_keep (blk_at (by simp)), by omega, by simp⟩
  have HB0 : Hid (Below w.heap.size w W) := by show Below _ _ _; rw [hW]; exact ((((Below.refl _ _).alloc (Nat.le_refl _) _).alloc (by simp) _).alloc (by simp; omega) _).alloc (by simp; omega) _
  obtain ⟨uh, eu⟩ : ∃ u, Value.slice (some ⟨w.heap.size + 1 + 1 + 1, 0, none⟩) 0 0 = u := ⟨_, rfl⟩
  rw [eu] at HC0
  have hs0 : w.heap.size + 4 ≤ W.heap.size := by have := HC0.out.2.2.2.2; omega
  obtain ⟨Ah, nh, ch, eh⟩ : ∃ A n c, uh = .slice A n c := ⟨_, _, _, eu.symm⟩
  subst eh
  clear hW eu
  have s0 := HC0.out.1.cell 0
  have s1 := HC0.out.1.cell 1
  go_wp2_with fail
  go_loopw [4] (fun i wr => i = .int .i64 0 ∧ wr = W) (fun _ _ => 0)
  case atStart => exact ⟨rfl, rfl⟩
  case round =>
    obtain ⟨rfl, rfl⟩ := hrel
    clear s1
    go_wp2_with fail
    go_loopw [6] (fun i wr => ∃ k : Nat, k ≤ n ∧ i = .int .i64 (k : Nat) ∧ Below w.heap.size w wr ∧ ∃ v css tag, Cp w.heap.size (w.heap.size + 4) A n c (.slice Ah nh ch) wr v ∧ Row (fun b => w.heap.size + 4 ≤ b ∧ b < wr.heap.size) tag wr v css (O.take k)) (fun i _ => n - (intOf i).toNat)
    case atStart => exact ⟨0, Nat.zero_le _, rfl, HB0.out, _, [], fun _ => 0, HC0.out, by simpa using Row.nil _ _ _⟩
    case round =>
      obtain ⟨k, hk, rfl, hbel, v, css, tag, hcp, hrow⟩ := hrel
      obtain ⟨Av, cv, rfl, -, -⟩ := hrow.shape
      have hlk : (O.take k).length = k := by rw [List.length_take, HL.out]; omega
      rw [hlk] at hcp hrow
      have HB := Lib.hid hbel
      have HCp := Lib.hid hcp
      have HR := Lib.hid hrow
      have HLk := Lib.hid hlk
      clear hbel hcp hrow hlk s0 HB0 HC0
      have x1 := HCp.out.1.cell 1
      have hsz := HCp.out.2.2.2.2
      by_cases hlt : k < n
      · obtain ⟨o, ho⟩ : ∃ o, O[k]? = some o := ⟨O[k]'(by rw [HL.out]; exact hlt), List.getElem?_eq_getElem _⟩
        have hsm := HZ.out o (List.mem_of_getElem? ho)
        obtain ⟨a, cs, ea, hab, hc, hR⟩ := HS.out.at ho
        have HO := Lib.hid ho
        clear ho
        subst ea
        obtain ⟨A0, c0, B0, d0, rfl, -, -, -, -, hWo, hBo, hBo2, hkk, hnn⟩ := ob_parts hR
        clear hR
        have ca0 := (HB.out.cell (p := a.add (k * 4)) (by rw [addBlock]; exact hab)).trans (hc 0 _ rfl)
        have ca1 := (HB.out.cell (p := a.add (k * 4 + 1)) (by rw [addBlock]; exact hab)).trans (hc 1 _ rfl)
        rw [next_cell a (k * 4) 1 (by omega)] at ca1
        have ca2 := (HB.out.cell (p := a.add (k * 4 + 2)) (by rw [addBlock]; exact hab)).trans (hc 2 _ rfl)
        rw [next_cell a (k * 4) 2 (by omega)] at ca2
        have ca3 := (HB.out.cell (p := a.add (k * 4 + 3)) (by rw [addBlock]; exact hab)).trans (hc 3 _ rfl)
        rw [next_cell a (k * 4) 3 (by omega)] at ca3
        clear hc
        go_upto_region 12 with (fail)
        refine wp_world fun V hV => ?_
        have b0 : Blk V wr.heap.size 28 #[.int .i64 o.kind, .int .i64 o.n, .slice A0 o.words.length c0, .slice B0 o.bytes.length d0] := by rw [hV]; exact blk_at rfl
        have hBV : Below wr.heap.size wr V := by rw [hV]; exact (Below.refl _ _).alloc (Nat.le_refl _) _
        have hsV : V.heap.size = wr.heap.size + 1 := by rw [hV]; simp
        clear hV ca0 ca1 ca2 ca3
        have HBwV : Hid (Below w.heap.size w V) := HB.out.trans (hBV.mono (by omega))
        have HPV : Hid (Blk V (w.heap.size + 2) 33 #[.slice none 0 0, .slice Av k cv, .slice Ah nh ch, .int .i64 0, .int .i64 0, .int .i64 0, .int .u64 0]) := blk_below HCp.out.2.2.1 hBV (by omega)
        have HSW : Hid (Sq numL (· < w.heap.size) w A0 o.words) := hWo
        have HSB : Hid (Byt (· < w.heap.size) w B0 o.bytes) := hBo
        have HOX : Hid ((∀ x ∈ o.bytes, x < 256) ∧ (∀ x ∈ o.words, x < B64) ∧ I64 o.kind ∧ I64 o.n) := ⟨hBo2, num_lt hWo, hkk, hnn⟩
        have HB0 := Lib.hid b0
        have HBV := Lib.hid hBV
        obtain ⟨pp, ep⟩ : ∃ p, o.words.length = p := ⟨_, rfl⟩
        obtain ⟨qq, eq⟩ : ∃ p, o.bytes.length = p := ⟨_, rfl⟩
        obtain ⟨kk, ek⟩ : ∃ p, o.kind = p := ⟨_, rfl⟩
        obtain ⟨nn, en⟩ : ∃ p, o.n = p := ⟨_, rfl⟩
        have hpp : pp ≤ 100000 := by rw [← ep]; exact hsm.1
        have hqq : qq ≤ 100000 := by rw [← eq]; exact hsm.2
        rw [ep, eq, ek, en] at b0 HB0
        rw [ep, eq, ek, en]
        have EP := Lib.hid ep
        have EQ := Lib.hid eq
        have EK := Lib.hid ek
        have EN := Lib.hid en
        clear hWo hBo hBo2 hkk hnn hBV ep eq ek en hsm
        have HX : Hid (∀ X, Below V.heap.size V X → X.cell? ⟨wr.heap.size, 0, none⟩ = some (.int .i64 kk) ∧ X.cell? ⟨wr.heap.size, 1, none⟩ = some (.int .i64 nn) ∧ X.cell? ⟨wr.heap.size, 2, none⟩ = some (.slice A0 pp c0) ∧ X.cell? ⟨wr.heap.size, 3, none⟩ = some (.slice B0 qq d0)) := fun X hX => by
          have := blk_below HB0.out hX (by omega)
          exact ⟨this.cell 0, this.cell 1, this.cell 2, this.cell 3⟩
        have HH : Hid (∀ X, Below V.heap.size V X → X.cell? ⟨w.heap.size + 1 + 1, 1, none⟩ = some (.slice Av k cv)) := fun X hX => (blk_below HPV.out hX (by omega)).cell 1
        have HS5 : Hid (∀ X, Below V.heap.size V X → X.cell? ⟨wr.heap.size, 0, none⟩ = some (.int .i64 kk) ∧ X.cell? ⟨wr.heap.size, 1, none⟩ = some (.int .i64 nn) ∧ X.cell? ⟨wr.heap.size, 2, none⟩ = some (.slice A0 pp c0) ∧ X.cell? ⟨wr.heap.size, 3, none⟩ = some (.slice B0 qq d0) ∧ X.cell? ⟨w.heap.size + 1 + 1, 1, none⟩ = some (.slice Av k cv)) := fun X hX => by
          obtain ⟨q0, q1, q2, q3⟩ := HX.out X hX
          exact ⟨q0, q1, q2, q3, HH.out X hX⟩
        clear b0
        refine wp_held_last (S := (fun w' => w'.cell? ⟨wr.heap.size, 0, none⟩ = some (.int .i64 kk) ∧ w'.cell? ⟨wr.heap.size, 1, none⟩ = some (.int .i64 nn) ∧ w'.cell? ⟨wr.heap.size, 2, none⟩ = some (.slice A0 pp c0) ∧ w'.cell? ⟨wr.heap.size, 3, none⟩ = some (.slice B0 qq d0) ∧ w'.cell? ⟨w.heap.size + 1 + 1, 1, none⟩ = some (.slice Av k cv))) (by kernel_rfl) (by kernel_rfl) (HS5.out V.drew (Below.refl _ V).drew) (fun hHeld => ?_)
        simp only [initO, lastO]
        refine wpAnyH_take (i := 0) (oi := _) (v := ?_) rfl (by kernel_rfl) (by kernel_rfl) (by kernel_rfl) (fun _ _ _ h => h) (Or.inl ⟨by rfl, ?_⟩) (by assumption) ?_
        rotate_left
        · intro w hSw
          try dsimp only at hSw
          go_simp
          try with_reducible rfl
        try simp only [Go.Act.put, List.setIfInBounds_toArray, List.set_cons_zero, List.set_cons_succ]
        refine wpAnyH_take (i := 1) (oi := _) (v := ?_) rfl (by kernel_rfl) (by kernel_rfl) (by kernel_rfl) (fun _ _ _ h => h) (Or.inl ⟨by rfl, ?_⟩) (by assumption) ?_
        rotate_left
        · intro w hSw
          try dsimp only at hSw
          go_simp
          try with_reducible rfl
        try simp only [Go.Act.put, List.setIfInBounds_toArray, List.set_cons_zero, List.set_cons_succ]
        refine wpAnyH_take (i := 2) (oi := _) (v := ?_) rfl (by kernel_rfl) (by kernel_rfl) (by kernel_rfl) (fun _ _ _ h => h) (Or.inl ⟨by rfl, ?_⟩) (by assumption) ?_
        rotate_left
        · intro w hSw
          try dsimp only at hSw
          go_simp
          try with_reducible rfl
        try simp only [Go.Act.put, List.setIfInBounds_toArray, List.set_cons_zero, List.set_cons_succ]
        refine wpAnyH_take (i := 3) (oi := _) (v := ?_) rfl (by kernel_rfl) (by kernel_rfl) (by kernel_rfl) (fun _ _ _ h => h) (Or.inl ⟨by rfl, ?_⟩) (by assumption) ?_
        rotate_left
        · intro w hSw
          try dsimp only at hSw
          go_simp
          try with_reducible rfl
        try simp only [Go.Act.put, List.setIfInBounds_toArray, List.set_cons_zero, List.set_cons_succ]
        refine wpAnyH_take (i := 4) (oi := _) (v := ?_) rfl (by kernel_rfl) (by kernel_rfl) (by kernel_rfl) (fun _ _ _ h => h) (Or.inl ⟨by rfl, ?_⟩) (by assumption) ?_
        rotate_left
        · intro w hSw
          try dsimp only at hSw
          go_simp
          try with_reducible rfl
        try simp only [Go.Act.put, List.setIfInBounds_toArray, List.set_cons_zero, List.set_cons_succ]
        refine wpAnyH_take (i := 5) (oi := _) (v := ?_) rfl (by kernel_rfl) (by kernel_rfl) (by kernel_rfl) (fun _ _ _ h => h) (Or.inl ⟨by rfl, ?_⟩) (by assumption) ?_
        rotate_left
        · intro w hSw
          try dsimp only at hSw
          go_simp
          try with_reducible rfl
        try simp only [Go.Act.put, List.setIfInBounds_toArray, List.set_cons_zero, List.set_cons_succ]
        refine wpAnyH_take (i := 7) (oi := _) (v := ?_) rfl (by kernel_rfl) (by kernel_rfl) (by kernel_rfl) (fun _ _ _ h => h) (Or.inl ⟨by rfl, ?_⟩) (by assumption) ?_
        rotate_left
        · intro w hSw
          try dsimp only at hSw
          go_simp
          try with_reducible rfl
        try simp only [Go.Act.put, List.setIfInBounds_toArray, List.set_cons_zero, List.set_cons_succ]
        refine wpAnyH_take (i := 8) (oi := _) (v := ?_) rfl (by kernel_rfl) (by kernel_rfl) (by kernel_rfl) (fun _ _ _ h => h) (Or.inl ⟨by rfl, ?_⟩) (by assumption) ?_
        rotate_left
        · intro w hSw
          try dsimp only at hSw
          go_simp
          try with_reducible rfl
        try simp only [Go.Act.put, List.setIfInBounds_toArray, List.set_cons_zero, List.set_cons_succ]
        refine wpAnyH_take (i := 11) (oi := _) (v := ?_) rfl (by kernel_rfl) (by kernel_rfl) (by kernel_rfl) (fun _ _ _ h => h) (Or.inl ⟨by rfl, ?_⟩) (by assumption) ?_
        rotate_left
        · intro w hSw
          try dsimp only at hSw
          go_simp
          try with_reducible rfl
        try simp only [Go.Act.put, List.setIfInBounds_toArray, List.set_cons_zero, List.set_cons_succ]
        refine wpAnyH_take (i := 12) (oi := _) (v := ?_) rfl (by kernel_rfl) (by kernel_rfl) (by kernel_rfl) (fun _ _ _ h => h) (Or.inl ⟨by rfl, ?_⟩) (by assumption) ?_
        rotate_left
        · intro w hSw
          try dsimp only at hSw
          go_simp
          try with_reducible rfl
        try simp only [Go.Act.put, List.setIfInBounds_toArray, List.set_cons_zero, List.set_cons_succ]
        refine anyh_world (fun X0 hX0 => ?_)
        have B0' : Hid (Below V.heap.size V X0) := (by show Below _ _ _; rw [hX0]; exact (Below.refl _ V).drew)
        have Z0' : Hid (X0.heap.size = V.heap.size) := (by show _ = _; rw [hX0]; rfl)
        have hHeld0 := HS5.out X0 B0'.out
        clear hX0
        refine wpAnyH_ready (rs := [6, 10]) (by kernel_rfl) (by simp) ?_
        refine AllReadyH.cons (o := _) rfl (fun K hK => ?_) ?_
        · skip
          go_simp
          refine hK.out _ _ ?_ (fun hHeldXw => ?_)
          · exact HS5.out _ (B0'.out.alloc (by have := Z0'.out; omega) _)
          clear hK K
          try simp only [Go.Act.put, List.setIfInBounds_toArray, List.set_cons_zero, List.set_cons_succ]
          refine anyh_world (fun Xw hXw => ?_)
          have BXw : Hid (Below V.heap.size V Xw) := (by show Below _ _ _; rw [hXw]; exact B0'.out.alloc (by have := Z0'.out; omega) _)
          have KXw : Hid (Blk Xw X0.heap.size 31 #[]) := (by show Blk _ _ _ _; rw [hXw]; exact blk_at rfl)
          have ZXw : Hid (Xw.heap.size = X0.heap.size + 1) := (by show _ = _; rw [hXw]; simp)
          clear hXw
          refine wpAnyH_ready (rs := [9, 10]) (by kernel_rfl) (by simp) ?_
          refine AllReadyH.cons (o := _) rfl (fun K hK => ?_) ?_
          · skip
            refine step_nums _ (by rfl) (.tmp 64) (.tmp 66) (by rfl) V.heap.size X0.heap.size (by rfl) KXw.out (by have := Z0'.out; have := ZXw.out; omega) A0 pp c0 o.words (by rfl) EP.out (· < w.heap.size) (HSW.out.keep fun b hb => (BXw.out.block b (by have := HBwV.out.size; omega)).trans (HBwV.out.block b hb)) (by omega) ?_
            intro A6 c6 w9 hown9 hg9 hbk9
            have B9 : Hid (Below V.heap.size V w9) := BXw.out.grown hg9 (by have := Z0'.out; have := ZXw.out; omega) (fun i hi => (by injection hi with hi; have := Z0'.out; have := ZXw.out; omega))
            have O9 := Lib.hid hown9
            have M9 := Lib.hid hbk9
            have Z9 : Hid (Xw.heap.size ≤ w9.heap.size) := hg9.size
            clear hown9 hg9 hbk9
            refine hK.out _ _ ?_ (fun hHeld9 => ?_)
            · exact HS5.out _ B9.out
            clear hK K
            try simp only [Go.Act.put, List.setIfInBounds_toArray, List.set_cons_zero, List.set_cons_succ]
            refine wpAnyH_ready (rs := [10]) (by kernel_rfl) (by simp) ?_
            refine AllReadyH.cons (o := _) rfl (fun K hK => ?_) ?_
            · skip
              go_simp
              refine hK.out _ _ ?_ (fun hHeldXb => ?_)
              · exact HS5.out _ (B9.out.alloc (by have := Z0'.out; have := ZXw.out; have := Z9.out; omega) _)
              clear hK K
              try simp only [Go.Act.put, List.setIfInBounds_toArray, List.set_cons_zero, List.set_cons_succ]
              refine anyh_world (fun Xb hXb => ?_)
              have BXb : Hid (Below V.heap.size V Xb) := (by show Below _ _ _; rw [hXb]; exact B9.out.alloc (by have := Z0'.out; have := ZXw.out; have := Z9.out; omega) _)
              have KXb : Hid (Blk Xb w9.heap.size 5 #[]) := (by show Blk _ _ _ _; rw [hXb]; exact blk_at rfl)
              have ZXb : Hid (Xb.heap.size = w9.heap.size + 1) := (by show _ = _; rw [hXb]; simp)
              have OXb : Hid (Xb.ownsRow V.heap.size 31 1 (.slice A6 pp c6) pp (Ns o.words)) := ownr_keep O9.out fun b hb => (by rw [hXb]; exact Below.heap_alloc _ _ _ (O9.out.lt b hb).2)
              clear hXb
              refine wpAnyH_ready (rs := [13]) (by kernel_rfl) (by simp) ?_
              refine AllReadyH.cons (o := _) rfl (fun K hK => ?_) ?_
              · skip
                refine step_byts _ (by rfl) (.tmp 68) (.tmp 70) (by rfl) V.heap.size w9.heap.size (by rfl) KXb.out (by have := Z0'.out; have := ZXw.out; have := Z9.out; have := ZXb.out; omega) B0 qq d0 o.bytes (by rfl) EQ.out (· < w.heap.size) (HSB.out.keep fun b hb => (BXb.out.block b (by have := HBwV.out.size; omega)).trans (HBwV.out.block b hb)) (by omega) ?_
                intro B6 d6 w13 hown13 hg13 hbk13
                have B13 : Hid (Below V.heap.size V w13) := BXb.out.grown hg13 (by have := Z0'.out; have := ZXw.out; have := Z9.out; have := ZXb.out; omega) (fun i hi => (by injection hi with hi; have := Z0'.out; have := ZXw.out; have := Z9.out; have := ZXb.out; omega))
                have P13 := Lib.hid hown13
                have Z13 : Hid (Xb.heap.size ≤ w13.heap.size) := hg13.size
                have O13 : Hid (w13.ownsRow V.heap.size 31 1 (.slice A6 pp c6) pp (Ns o.words)) := ownr_keep OXb.out fun b hb => hg13.block b (OXb.out.lt b hb).2 (fun e => (by injection e with e; have := M9.out b hb; have := (O9.out.lt b hb).2; have := Z0'.out; have := ZXw.out; have := Z9.out; have := ZXb.out; omega))
                have D13 : Hid (∀ b, (Value.slice A6 pp c6).ownBlock = some b → (Value.slice B6 qq d6).ownBlock ≠ some b) := fun b hb hb2 => (by have := M9.out b hb; have := (O9.out.lt b hb).2; have := hbk13 b hb2; have := Z0'.out; have := ZXw.out; have := Z9.out; have := ZXb.out; omega)
                clear hown13 hg13 hbk13
                refine hK.out _ _ ?_ (fun hHeld13 => ?_)
                · exact HS5.out _ B13.out
                clear hK K
                try simp only [Go.Act.put, List.setIfInBounds_toArray, List.set_cons_zero, List.set_cons_succ]
                refine wpAnyH_take (i := 14) (oi := _) (v := ?_) rfl (by kernel_rfl) (by kernel_rfl) (by kernel_rfl) (fun _ _ _ h => h) (Or.inl ⟨by rfl, ?_⟩) (by assumption) ?_
                rotate_left
                · intro w hSw
                  try dsimp only at hSw
                  go_simp
                  try with_reducible rfl
                try simp only [Go.Act.put, List.setIfInBounds_toArray, List.set_cons_zero, List.set_cons_succ]
                refine wpAnyH_ready (rs := [15]) (by kernel_rfl) (by simp) ?_
                refine AllReadyH.cons (o := _) rfl (fun K hK => ?_) ?_
                · skip
                  go_simp
                  refine hK.out _ _ ?_ (fun hHeld15 => ?_)
                  · exact HS5.out _ (B13.out.alloc B13.out.size _)
                  clear hK K
                  try simp only [Go.Act.put, List.setIfInBounds_toArray, List.set_cons_zero, List.set_cons_succ]
                  refine wpAnyH_ready (rs := [16]) (by kernel_rfl) (by simp) ?_
                  refine AllReadyH.cons (o := _) rfl (fun K hK => ?_) ?_
                  · skip
                    have R16 : Hid (Row (fun b => w.heap.size + 4 ≤ b ∧ b < wr.heap.size) tag (w13.alloc (.cells #[.int .i64 kk, .int .i64 nn, .slice A6 pp c6, .slice B6 qq d6] 28)) (.slice Av k cv) css (O.take k)) := HR.out.keep fun b hb _ => ((B13.out.alloc B13.out.size _).block b (by omega)).trans (HBV.out.block b hb.2)
                    refine step_append_raw 4 _ (by rfl) (.tmp 59) (.tmp 73) 22 28 (by rfl) (.agg #[.int .i64 0, .int .i64 0, .slice none 0 0, .slice none 0 0]) 64 Try.underlying22 ob_info rfl (by decide) (by decide) 0 (.slice Av k cv) k css.flatten (by rfl) (by have := R16.out.2.1; rw [HLk.out] at this; exact this) ⟨w13.heap.size, 0, none⟩ 1 (by rfl) [.int .i64 kk, .int .i64 nn, .slice A6 pp c6, .slice B6 qq d6] rfl (cell_new w13 28 [.int .i64 kk, .int .i64 nn, .slice A6 pp c6, .slice B6 qq d6]) (fun u hu => (by simp at hu; rcases hu with rfl | rfl | rfl | rfl <;> rfl)) (by omega) (Nat.zero_le _) ?_
                    intro v16 w16 hown16 hg16 hv16
                    have E16 := Lib.hid (cp_end rfl HB.out HCp.out HBV.out B13.out hsV O13.out P13.out D13.out HOX.out EK.out EN.out HR.out HLk.out HO.out hown16 hg16 hv16)
                    have Q16 : Hid (∀ b, b < w.heap.size + 4 ∨ b = wr.heap.size → w16.heap[b]? = (w13.alloc (.cells #[.int .i64 kk, .int .i64 nn, .slice A6 pp c6, .slice B6 qq d6] 28)).heap[b]?) := fun b hb => hg16.block b (by have := B13.out.size; simp; omega) fun e => (by have := (R16.out.2.2.1 b e.symm).1; omega)
                    have J16 := HS5.out _ (B13.out.alloc B13.out.size (.cells #[.int .i64 kk, .int .i64 nn, .slice A6 pp c6, .slice B6 qq d6] 28))
                    have T16 : w16.cell? ⟨wr.heap.size, 0, none⟩ = some (.int .i64 kk) ∧ w16.cell? ⟨wr.heap.size, 1, none⟩ = some (.int .i64 nn) ∧ w16.cell? ⟨wr.heap.size, 2, none⟩ = some (.slice A0 pp c0) ∧ w16.cell? ⟨wr.heap.size, 3, none⟩ = some (.slice B0 qq d0) ∧ w16.cell? ⟨w.heap.size + 1 + 1, 1, none⟩ = some (.slice Av k cv) := ⟨(World.cell?_of_block (a := ⟨wr.heap.size, 0, none⟩) (Q16.out _ (.inr rfl))).trans J16.1, (World.cell?_of_block (a := ⟨wr.heap.size, 1, none⟩) (Q16.out _ (.inr rfl))).trans J16.2.1, (World.cell?_of_block (a := ⟨wr.heap.size, 2, none⟩) (Q16.out _ (.inr rfl))).trans J16.2.2.1, (World.cell?_of_block (a := ⟨wr.heap.size, 3, none⟩) (Q16.out _ (.inr rfl))).trans J16.2.2.2.1, (World.cell?_of_block (a := ⟨w.heap.size + 1 + 1, 1, none⟩) (Q16.out _ (.inl (by show w.heap.size + 1 + 1 < _; omega)))).trans J16.2.2.2.2⟩
                    have F16 : w16.frozen? ⟨w.heap.size + 1 + 1, 1, none⟩ = false := (World.frozen?_of_block (a := ⟨w.heap.size + 1 + 1, 1, none⟩) (Q16.out _ (.inl (by show w.heap.size + 1 + 1 < _; omega)))).trans ((blk_below HPV.out (B13.out.alloc B13.out.size _) (by omega)).frozen 1)
                    have C16 := T16.2.2.2.2
                    obtain ⟨A16, n16, c16, rfl⟩ := raw_shape hown16
                    clear hown16 hg16 hv16 J16
                    refine hK.out _ _ ?_ (fun hHeld16 => ?_)
                    · exact T16
                    clear hK K
                    try simp only [Go.Act.put, List.setIfInBounds_toArray, List.set_cons_zero, List.set_cons_succ]
                    refine wpAnyH_take (i := 17) (oi := _) (v := ?_) rfl (by kernel_rfl) (by kernel_rfl) (by kernel_rfl) (fun _ _ _ h => h) (Or.inl ⟨by rfl, ?_⟩) (by assumption) ?_
                    rotate_left
                    · intro w hSw
                      try dsimp only at hSw
                      go_simp
                      try with_reducible rfl
                    try simp only [Go.Act.put, List.setIfInBounds_toArray, List.set_cons_zero, List.set_cons_succ]
                    refine wpAnyH_done (by kernel_rfl) ?_ _
                    simp only [lastQ]
                    go_simp
                    go_wp2_with fail
                    exact ⟨⟨k + 1, by omega, by simp, E16.out⟩, by simp [intOf]; omega⟩
                  exact AllReadyH.nil
                exact AllReadyH.nil
              exact AllReadyH.nil
            exact AllReadyH.nil
          refine AllReadyH.cons (o := _) rfl (fun K hK => ?_) ?_
          · skip
            go_simp
            refine hK.out _ _ ?_ (fun hHeldXb => ?_)
            · exact HS5.out _ (BXw.out.alloc (by have := Z0'.out; have := ZXw.out; omega) _)
            clear hK K
            try simp only [Go.Act.put, List.setIfInBounds_toArray, List.set_cons_zero, List.set_cons_succ]
            refine anyh_world (fun Xb hXb => ?_)
            have BXb : Hid (Below V.heap.size V Xb) := (by show Below _ _ _; rw [hXb]; exact BXw.out.alloc (by have := Z0'.out; have := ZXw.out; omega) _)
            have KXb : Hid (Blk Xb Xw.heap.size 5 #[]) := (by show Blk _ _ _ _; rw [hXb]; exact blk_at rfl)
            have ZXb : Hid (Xb.heap.size = Xw.heap.size + 1) := (by show _ = _; rw [hXb]; simp)
            have KwXb : Hid (Blk Xb X0.heap.size 31 #[]) := (by show Blk _ _ _ _; rw [hXb]; exact blk_keep KXw.out)
            clear hXb
            refine wpAnyH_ready (rs := [9]) (by kernel_rfl) (by simp) ?_
            refine AllReadyH.cons (o := _) rfl (fun K hK => ?_) ?_
            · skip
              refine step_nums _ (by rfl) (.tmp 64) (.tmp 66) (by rfl) V.heap.size X0.heap.size (by rfl) KwXb.out (by have := Z0'.out; have := ZXw.out; have := ZXb.out; omega) A0 pp c0 o.words (by rfl) EP.out (· < w.heap.size) (HSW.out.keep fun b hb => (BXb.out.block b (by have := HBwV.out.size; omega)).trans (HBwV.out.block b hb)) (by omega) ?_
              intro A6 c6 w9 hown9 hg9 hbk9
              have B9 : Hid (Below V.heap.size V w9) := BXb.out.grown hg9 (by have := Z0'.out; have := ZXw.out; have := ZXb.out; omega) (fun i hi => (by injection hi with hi; have := Z0'.out; have := ZXw.out; have := ZXb.out; omega))
              have O9 := Lib.hid hown9
              have M9 := Lib.hid hbk9
              have Z9 : Hid (Xb.heap.size ≤ w9.heap.size) := hg9.size
              have Kb9 : Hid (Blk w9 Xw.heap.size 5 #[]) := (hg9.block _ KXb.out.lt (fun e => (by injection e with e; have := Z0'.out; have := ZXw.out; have := ZXb.out; omega))).trans KXb.out
              clear hown9 hg9 hbk9
              refine hK.out _ _ ?_ (fun hHeld9 => ?_)
              · exact HS5.out _ B9.out
              clear hK K
              try simp only [Go.Act.put, List.setIfInBounds_toArray, List.set_cons_zero, List.set_cons_succ]
              refine wpAnyH_ready (rs := [13]) (by kernel_rfl) (by simp) ?_
              refine AllReadyH.cons (o := _) rfl (fun K hK => ?_) ?_
              · skip
                refine step_byts _ (by rfl) (.tmp 68) (.tmp 70) (by rfl) V.heap.size Xw.heap.size (by rfl) Kb9.out (by have := Z0'.out; have := ZXw.out; have := ZXb.out; have := Z9.out; omega) B0 qq d0 o.bytes (by rfl) EQ.out (· < w.heap.size) (HSB.out.keep fun b hb => (B9.out.block b (by have := HBwV.out.size; omega)).trans (HBwV.out.block b hb)) (by omega) ?_
                intro B6 d6 w13 hown13 hg13 hbk13
                have B13 : Hid (Below V.heap.size V w13) := B9.out.grown hg13 (by have := Z0'.out; have := ZXw.out; have := ZXb.out; have := Z9.out; omega) (fun i hi => (by injection hi with hi; have := Z0'.out; have := ZXw.out; have := ZXb.out; have := Z9.out; omega))
                have P13 := Lib.hid hown13
                have Z13 : Hid (w9.heap.size ≤ w13.heap.size) := hg13.size
                have O13 : Hid (w13.ownsRow V.heap.size 31 1 (.slice A6 pp c6) pp (Ns o.words)) := ownr_keep O9.out fun b hb => hg13.block b (O9.out.lt b hb).2 (fun e => (by injection e with e; have := M9.out b hb; have := (O9.out.lt b hb).2; have := Z0'.out; have := ZXw.out; have := ZXb.out; have := Z9.out; omega))
                have D13 : Hid (∀ b, (Value.slice A6 pp c6).ownBlock = some b → (Value.slice B6 qq d6).ownBlock ≠ some b) := fun b hb hb2 => (by have := M9.out b hb; have := (O9.out.lt b hb).2; have := hbk13 b hb2; have := Z0'.out; have := ZXw.out; have := ZXb.out; have := Z9.out; omega)
                clear hown13 hg13 hbk13
                refine hK.out _ _ ?_ (fun hHeld13 => ?_)
                · exact HS5.out _ B13.out
                clear hK K
                try simp only [Go.Act.put, List.setIfInBounds_toArray, List.set_cons_zero, List.set_cons_succ]
                refine wpAnyH_take (i := 14) (oi := _) (v := ?_) rfl (by kernel_rfl) (by kernel_rfl) (by kernel_rfl) (fun _ _ _ h => h) (Or.inl ⟨by rfl, ?_⟩) (by assumption) ?_
                rotate_left
                · intro w hSw
                  try dsimp only at hSw
                  go_simp
                  try with_reducible rfl
                try simp only [Go.Act.put, List.setIfInBounds_toArray, List.set_cons_zero, List.set_cons_succ]
                refine wpAnyH_ready (rs := [15]) (by kernel_rfl) (by simp) ?_
                refine AllReadyH.cons (o := _) rfl (fun K hK => ?_) ?_
                · skip
                  go_simp
                  refine hK.out _ _ ?_ (fun hHeld15 => ?_)
                  · exact HS5.out _ (B13.out.alloc B13.out.size _)
                  clear hK K
                  try simp only [Go.Act.put, List.setIfInBounds_toArray, List.set_cons_zero, List.set_cons_succ]
                  refine wpAnyH_ready (rs := [16]) (by kernel_rfl) (by simp) ?_
                  refine AllReadyH.cons (o := _) rfl (fun K hK => ?_) ?_
                  · skip
                    have R16 : Hid (Row (fun b => w.heap.size + 4 ≤ b ∧ b < wr.heap.size) tag (w13.alloc (.cells #[.int .i64 kk, .int .i64 nn, .slice A6 pp c6, .slice B6 qq d6] 28)) (.slice Av k cv) css (O.take k)) := HR.out.keep fun b hb _ => ((B13.out.alloc B13.out.size _).block b (by omega)).trans (HBV.out.block b hb.2)
                    refine step_append_raw 4 _ (by rfl) (.tmp 59) (.tmp 73) 22 28 (by rfl) (.agg #[.int .i64 0, .int .i64 0, .slice none 0 0, .slice none 0 0]) 64 Try.underlying22 ob_info rfl (by decide) (by decide) 0 (.slice Av k cv) k css.flatten (by rfl) (by have := R16.out.2.1; rw [HLk.out] at this; exact this) ⟨w13.heap.size, 0, none⟩ 1 (by rfl) [.int .i64 kk, .int .i64 nn, .slice A6 pp c6, .slice B6 qq d6] rfl (cell_new w13 28 [.int .i64 kk, .int .i64 nn, .slice A6 pp c6, .slice B6 qq d6]) (fun u hu => (by simp at hu; rcases hu with rfl | rfl | rfl | rfl <;> rfl)) (by omega) (Nat.zero_le _) ?_
                    intro v16 w16 hown16 hg16 hv16
                    have E16 := Lib.hid (cp_end rfl HB.out HCp.out HBV.out B13.out hsV O13.out P13.out D13.out HOX.out EK.out EN.out HR.out HLk.out HO.out hown16 hg16 hv16)
                    have Q16 : Hid (∀ b, b < w.heap.size + 4 ∨ b = wr.heap.size → w16.heap[b]? = (w13.alloc (.cells #[.int .i64 kk, .int .i64 nn, .slice A6 pp c6, .slice B6 qq d6] 28)).heap[b]?) := fun b hb => hg16.block b (by have := B13.out.size; simp; omega) fun e => (by have := (R16.out.2.2.1 b e.symm).1; omega)
                    have J16 := HS5.out _ (B13.out.alloc B13.out.size (.cells #[.int .i64 kk, .int .i64 nn, .slice A6 pp c6, .slice B6 qq d6] 28))
                    have T16 : w16.cell? ⟨wr.heap.size, 0, none⟩ = some (.int .i64 kk) ∧ w16.cell? ⟨wr.heap.size, 1, none⟩ = some (.int .i64 nn) ∧ w16.cell? ⟨wr.heap.size, 2, none⟩ = some (.slice A0 pp c0) ∧ w16.cell? ⟨wr.heap.size, 3, none⟩ = some (.slice B0 qq d0) ∧ w16.cell? ⟨w.heap.size + 1 + 1, 1, none⟩ = some (.slice Av k cv) := ⟨(World.cell?_of_block (a := ⟨wr.heap.size, 0, none⟩) (Q16.out _ (.inr rfl))).trans J16.1, (World.cell?_of_block (a := ⟨wr.heap.size, 1, none⟩) (Q16.out _ (.inr rfl))).trans J16.2.1, (World.cell?_of_block (a := ⟨wr.heap.size, 2, none⟩) (Q16.out _ (.inr rfl))).trans J16.2.2.1, (World.cell?_of_block (a := ⟨wr.heap.size, 3, none⟩) (Q16.out _ (.inr rfl))).trans J16.2.2.2.1, (World.cell?_of_block (a := ⟨w.heap.size + 1 + 1, 1, none⟩) (Q16.out _ (.inl (by show w.heap.size + 1 + 1 < _; omega)))).trans J16.2.2.2.2⟩
                    have F16 : w16.frozen? ⟨w.heap.size + 1 + 1, 1, none⟩ = false := (World.frozen?_of_block (a := ⟨w.heap.size + 1 + 1, 1, none⟩) (Q16.out _ (.inl (by show w.heap.size + 1 + 1 < _; omega)))).trans ((blk_below HPV.out (B13.out.alloc B13.out.size _) (by omega)).frozen 1)
                    have C16 := T16.2.2.2.2
                    obtain ⟨A16, n16, c16, rfl⟩ := raw_shape hown16
                    clear hown16 hg16 hv16 J16
                    refine hK.out _ _ ?_ (fun hHeld16 => ?_)
                    · exact T16
                    clear hK K
                    try simp only [Go.Act.put, List.setIfInBounds_toArray, List.set_cons_zero, List.set_cons_succ]
                    refine wpAnyH_take (i := 17) (oi := _) (v := ?_) rfl (by kernel_rfl) (by kernel_rfl) (by kernel_rfl) (fun _ _ _ h => h) (Or.inl ⟨by rfl, ?_⟩) (by assumption) ?_
                    rotate_left
                    · intro w hSw
                      try dsimp only at hSw
                      go_simp
                      try with_reducible rfl
                    try simp only [Go.Act.put, List.setIfInBounds_toArray, List.set_cons_zero, List.set_cons_succ]
                    refine wpAnyH_done (by kernel_rfl) ?_ _
                    simp only [lastQ]
                    go_simp
                    go_wp2_with fail
                    exact ⟨⟨k + 1, by omega, by simp, E16.out⟩, by simp [intOf]; omega⟩
                  exact AllReadyH.nil
                exact AllReadyH.nil
              exact AllReadyH.nil
            exact AllReadyH.nil
          exact AllReadyH.nil
        refine AllReadyH.cons (o := _) rfl (fun K hK => ?_) ?_
        · skip
          go_simp
          refine hK.out _ _ ?_ (fun hHeldXb => ?_)
          · exact HS5.out _ (B0'.out.alloc (by have := Z0'.out; omega) _)
          clear hK K
          try simp only [Go.Act.put, List.setIfInBounds_toArray, List.set_cons_zero, List.set_cons_succ]
          refine anyh_world (fun Xb hXb => ?_)
          have BXb : Hid (Below V.heap.size V Xb) := (by show Below _ _ _; rw [hXb]; exact B0'.out.alloc (by have := Z0'.out; omega) _)
          have KXb : Hid (Blk Xb X0.heap.size 5 #[]) := (by show Blk _ _ _ _; rw [hXb]; exact blk_at rfl)
          have ZXb : Hid (Xb.heap.size = X0.heap.size + 1) := (by show _ = _; rw [hXb]; simp)
          clear hXb
          refine wpAnyH_ready (rs := [6]) (by kernel_rfl) (by simp) ?_
          refine AllReadyH.cons (o := _) rfl (fun K hK => ?_) ?_
          · skip
            go_simp
            refine hK.out _ _ ?_ (fun hHeldXw => ?_)
            · exact HS5.out _ (BXb.out.alloc (by have := Z0'.out; have := ZXb.out; omega) _)
            clear hK K
            try simp only [Go.Act.put, List.setIfInBounds_toArray, List.set_cons_zero, List.set_cons_succ]
            refine anyh_world (fun Xw hXw => ?_)
            have BXw : Hid (Below V.heap.size V Xw) := (by show Below _ _ _; rw [hXw]; exact BXb.out.alloc (by have := Z0'.out; have := ZXb.out; omega) _)
            have KXw : Hid (Blk Xw Xb.heap.size 31 #[]) := (by show Blk _ _ _ _; rw [hXw]; exact blk_at rfl)
            have ZXw : Hid (Xw.heap.size = Xb.heap.size + 1) := (by show _ = _; rw [hXw]; simp)
            have KbXw : Hid (Blk Xw X0.heap.size 5 #[]) := (by show Blk _ _ _ _; rw [hXw]; exact blk_keep KXb.out)
            clear hXw
            refine wpAnyH_ready (rs := [9]) (by kernel_rfl) (by simp) ?_
            refine AllReadyH.cons (o := _) rfl (fun K hK => ?_) ?_
            · skip
              refine step_nums _ (by rfl) (.tmp 64) (.tmp 66) (by rfl) V.heap.size Xb.heap.size (by rfl) KXw.out (by have := Z0'.out; have := ZXb.out; have := ZXw.out; omega) A0 pp c0 o.words (by rfl) EP.out (· < w.heap.size) (HSW.out.keep fun b hb => (BXw.out.block b (by have := HBwV.out.size; omega)).trans (HBwV.out.block b hb)) (by omega) ?_
              intro A6 c6 w9 hown9 hg9 hbk9
              have B9 : Hid (Below V.heap.size V w9) := BXw.out.grown hg9 (by have := Z0'.out; have := ZXb.out; have := ZXw.out; omega) (fun i hi => (by injection hi with hi; have := Z0'.out; have := ZXb.out; have := ZXw.out; omega))
              have O9 := Lib.hid hown9
              have M9 := Lib.hid hbk9
              have Z9 : Hid (Xw.heap.size ≤ w9.heap.size) := hg9.size
              have Kb9 : Hid (Blk w9 X0.heap.size 5 #[]) := (hg9.block _ KbXw.out.lt (fun e => (by injection e with e; have := Z0'.out; have := ZXb.out; have := ZXw.out; omega))).trans KbXw.out
              clear hown9 hg9 hbk9
              refine hK.out _ _ ?_ (fun hHeld9 => ?_)
              · exact HS5.out _ B9.out
              clear hK K
              try simp only [Go.Act.put, List.setIfInBounds_toArray, List.set_cons_zero, List.set_cons_succ]
              refine wpAnyH_ready (rs := [13]) (by kernel_rfl) (by simp) ?_
              refine AllReadyH.cons (o := _) rfl (fun K hK => ?_) ?_
              · skip
                refine step_byts _ (by rfl) (.tmp 68) (.tmp 70) (by rfl) V.heap.size X0.heap.size (by rfl) Kb9.out (by have := Z0'.out; have := ZXb.out; have := ZXw.out; have := Z9.out; omega) B0 qq d0 o.bytes (by rfl) EQ.out (· < w.heap.size) (HSB.out.keep fun b hb => (B9.out.block b (by have := HBwV.out.size; omega)).trans (HBwV.out.block b hb)) (by omega) ?_
                intro B6 d6 w13 hown13 hg13 hbk13
                have B13 : Hid (Below V.heap.size V w13) := B9.out.grown hg13 (by have := Z0'.out; have := ZXb.out; have := ZXw.out; have := Z9.out; omega) (fun i hi => (by injection hi with hi; have := Z0'.out; have := ZXb.out; have := ZXw.out; have := Z9.out; omega))
                have P13 := Lib.hid hown13
                have Z13 : Hid (w9.heap.size ≤ w13.heap.size) := hg13.size
                have O13 : Hid (w13.ownsRow V.heap.size 31 1 (.slice A6 pp c6) pp (Ns o.words)) := ownr_keep O9.out fun b hb => hg13.block b (O9.out.lt b hb).2 (fun e => (by injection e with e; have := M9.out b hb; have := (O9.out.lt b hb).2; have := Z0'.out; have := ZXb.out; have := ZXw.out; have := Z9.out; omega))
                have D13 : Hid (∀ b, (Value.slice A6 pp c6).ownBlock = some b → (Value.slice B6 qq d6).ownBlock ≠ some b) := fun b hb hb2 => (by have := M9.out b hb; have := (O9.out.lt b hb).2; have := hbk13 b hb2; have := Z0'.out; have := ZXb.out; have := ZXw.out; have := Z9.out; omega)
                clear hown13 hg13 hbk13
                refine hK.out _ _ ?_ (fun hHeld13 => ?_)
                · exact HS5.out _ B13.out
                clear hK K
                try simp only [Go.Act.put, List.setIfInBounds_toArray, List.set_cons_zero, List.set_cons_succ]
                refine wpAnyH_take (i := 14) (oi := _) (v := ?_) rfl (by kernel_rfl) (by kernel_rfl) (by kernel_rfl) (fun _ _ _ h => h) (Or.inl ⟨by rfl, ?_⟩) (by assumption) ?_
                rotate_left
                · intro w hSw
                  try dsimp only at hSw
                  go_simp
                  try with_reducible rfl
                try simp only [Go.Act.put, List.setIfInBounds_toArray, List.set_cons_zero, List.set_cons_succ]
                refine wpAnyH_ready (rs := [15]) (by kernel_rfl) (by simp) ?_
                refine AllReadyH.cons (o := _) rfl (fun K hK => ?_) ?_
                · skip
                  go_simp
                  refine hK.out _ _ ?_ (fun hHeld15 => ?_)
                  · exact HS5.out _ (B13.out.alloc B13.out.size _)
                  clear hK K
                  try simp only [Go.Act.put, List.setIfInBounds_toArray, List.set_cons_zero, List.set_cons_succ]
                  refine wpAnyH_ready (rs := [16]) (by kernel_rfl) (by simp) ?_
                  refine AllReadyH.cons (o := _) rfl (fun K hK => ?_) ?_
                  · skip
                    have R16 : Hid (Row (fun b => w.heap.size + 4 ≤ b ∧ b < wr.heap.size) tag (w13.alloc (.cells #[.int .i64 kk, .int .i64 nn, .slice A6 pp c6, .slice B6 qq d6] 28)) (.slice Av k cv) css (O.take k)) := HR.out.keep fun b hb _ => ((B13.out.alloc B13.out.size _).block b (by omega)).trans (HBV.out.block b hb.2)
                    refine step_append_raw 4 _ (by rfl) (.tmp 59) (.tmp 73) 22 28 (by rfl) (.agg #[.int .i64 0, .int .i64 0, .slice none 0 0, .slice none 0 0]) 64 Try.underlying22 ob_info rfl (by decide) (by decide) 0 (.slice Av k cv) k css.flatten (by rfl) (by have := R16.out.2.1; rw [HLk.out] at this; exact this) ⟨w13.heap.size, 0, none⟩ 1 (by rfl) [.int .i64 kk, .int .i64 nn, .slice A6 pp c6, .slice B6 qq d6] rfl (cell_new w13 28 [.int .i64 kk, .int .i64 nn, .slice A6 pp c6, .slice B6 qq d6]) (fun u hu => (by simp at hu; rcases hu with rfl | rfl | rfl | rfl <;> rfl)) (by omega) (Nat.zero_le _) ?_
                    intro v16 w16 hown16 hg16 hv16
                    have E16 := Lib.hid (cp_end rfl HB.out HCp.out HBV.out B13.out hsV O13.out P13.out D13.out HOX.out EK.out EN.out HR.out HLk.out HO.out hown16 hg16 hv16)
                    have Q16 : Hid (∀ b, b < w.heap.size + 4 ∨ b = wr.heap.size → w16.heap[b]? = (w13.alloc (.cells #[.int .i64 kk, .int .i64 nn, .slice A6 pp c6, .slice B6 qq d6] 28)).heap[b]?) := fun b hb => hg16.block b (by have := B13.out.size; simp; omega) fun e => (by have := (R16.out.2.2.1 b e.symm).1; omega)
                    have J16 := HS5.out _ (B13.out.alloc B13.out.size (.cells #[.int .i64 kk, .int .i64 nn, .slice A6 pp c6, .slice B6 qq d6] 28))
                    have T16 : w16.cell? ⟨wr.heap.size, 0, none⟩ = some (.int .i64 kk) ∧ w16.cell? ⟨wr.heap.size, 1, none⟩ = some (.int .i64 nn) ∧ w16.cell? ⟨wr.heap.size, 2, none⟩ = some (.slice A0 pp c0) ∧ w16.cell? ⟨wr.heap.size, 3, none⟩ = some (.slice B0 qq d0) ∧ w16.cell? ⟨w.heap.size + 1 + 1, 1, none⟩ = some (.slice Av k cv) := ⟨(World.cell?_of_block (a := ⟨wr.heap.size, 0, none⟩) (Q16.out _ (.inr rfl))).trans J16.1, (World.cell?_of_block (a := ⟨wr.heap.size, 1, none⟩) (Q16.out _ (.inr rfl))).trans J16.2.1, (World.cell?_of_block (a := ⟨wr.heap.size, 2, none⟩) (Q16.out _ (.inr rfl))).trans J16.2.2.1, (World.cell?_of_block (a := ⟨wr.heap.size, 3, none⟩) (Q16.out _ (.inr rfl))).trans J16.2.2.2.1, (World.cell?_of_block (a := ⟨w.heap.size + 1 + 1, 1, none⟩) (Q16.out _ (.inl (by show w.heap.size + 1 + 1 < _; omega)))).trans J16.2.2.2.2⟩
                    have F16 : w16.frozen? ⟨w.heap.size + 1 + 1, 1, none⟩ = false := (World.frozen?_of_block (a := ⟨w.heap.size + 1 + 1, 1, none⟩) (Q16.out _ (.inl (by show w.heap.size + 1 + 1 < _; omega)))).trans ((blk_below HPV.out (B13.out.alloc B13.out.size _) (by omega)).frozen 1)
                    have C16 := T16.2.2.2.2
                    obtain ⟨A16, n16, c16, rfl⟩ := raw_shape hown16
                    clear hown16 hg16 hv16 J16
                    refine hK.out _ _ ?_ (fun hHeld16 => ?_)
                    · exact T16
                    clear hK K
                    try simp only [Go.Act.put, List.setIfInBounds_toArray, List.set_cons_zero, List.set_cons_succ]
                    refine wpAnyH_take (i := 17) (oi := _) (v := ?_) rfl (by kernel_rfl) (by kernel_rfl) (by kernel_rfl) (fun _ _ _ h => h) (Or.inl ⟨by rfl, ?_⟩) (by assumption) ?_
                    rotate_left
                    · intro w hSw
                      try dsimp only at hSw
                      go_simp
                      try with_reducible rfl
                    try simp only [Go.Act.put, List.setIfInBounds_toArray, List.set_cons_zero, List.set_cons_succ]
                    refine wpAnyH_done (by kernel_rfl) ?_ _
                    simp only [lastQ]
                    go_simp
                    go_wp2_with fail
                    exact ⟨⟨k + 1, by omega, by simp, E16.out⟩, by simp [intOf]; omega⟩
                  exact AllReadyH.nil
                exact AllReadyH.nil
              exact AllReadyH.nil
            exact AllReadyH.nil
          exact AllReadyH.nil
        exact AllReadyH.nil
      · obtain rfl : k = n := by omega
        have HB1 := Lib.hid HCp.out.2.1
        have c3 := HCp.out.2.2.1
        have o0 := c3.cell 0
        have o1 := c3.cell 1
        have o2 := c3.cell 2
        have o3 := c3.cell 3
        have o4 := c3.cell 4
        have o5 := c3.cell 5
        have o6 := c3.cell 6
        have c2 := HCp.out.2.1
        have r0 := c2.cell 0
        have r1 := c2.cell 1
        have r2 := c2.cell 2
        have r3 := c2.cell 3
        have r4 := c2.cell 4
        have r5 := c2.cell 5
        have r6 := c2.cell 6
        have f0 := c2.frozen 0
        have f1 := c2.frozen 1
        have f2 := c2.frozen 2
        have f3 := c2.frozen 3
        have f4 := c2.frozen 4
        have f5 := c2.frozen 5
        have f6 := c2.frozen 6
        clear c2 c3
        go_wp2_with fail
        refine bodyPost_ret (v := .agg #[.slice none 0 0, .slice Av k cv, .slice Ah nh ch, .int .i64 0, .int .i64 0, .int .i64 0, .int .u64 0]) (by simp [results, Try.results9, go_sem, o0, o1, o2, o3, o4, o5, o6, r0, r1, r2, r3, r4, r5, r6]) rfl ⟨_, _, css, tag, rfl, ?_, ?_⟩
        · have h1 := HR.out
          rw [List.take_of_length_le (by rw [HL.out]; exact Nat.le_refl _)] at h1
          refine (h1.keep fun b hb _ => ?_).wide fun b hb => ⟨by omega, by simp [World.setCell]; omega⟩
          repeat (first | with_reducible exact rfl | (with_reducible refine (Below.heap_setCell _ _ _ _ ?_).trans ?_; (show b ≠ w.heap.size + 1; omega)))
        · refine HB.out.trans (Tch.below (hi := w.heap.size + 2) ?_)
          repeat (with_reducible refine Tch.set ?_ (by omega) (by omega))
          exact Tch.refl _ _ _
end Go.Proofs.Ytdadaklkaehmjaa
