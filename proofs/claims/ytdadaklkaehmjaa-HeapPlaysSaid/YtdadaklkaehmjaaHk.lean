/-
  What a heap's Add does where there is room.
  Conditions: as each theorem says.
-/
import Derived.Test.YtdadaklkaehmjaaHj
namespace Go.Proofs.Ytdadaklkaehmjaa
open Go.RowKit
set_option linter.unusedSimpArgs false
set_option linter.unusedVariables false

set_option maxRecDepth 100000 in
theorem cost_shape (o : Ob) (A B : Option Addr) (c d : Nat) (w : World) (hz : o.small) : Calls Try.prog 13 #[.agg #[.int .i64 o.kind, .int .i64 o.n, .slice A o.words.length c, .slice B o.bytes.length d]] w fun e w' => e = .returned (.int .i64 o.cost) ∧ Below w.heap.size w w' := by
  obtain ⟨z0, z1⟩ := hz
  unfold Ob.cost
  generalize o.words.length = p at *
  generalize o.bytes.length = q at *
  generalize o.kind = kk at *
  generalize o.n = nn at *
  go_enter Try.func13, Try.ntmps13
  go_wp2
  go_ret
  exact ⟨ret_int (k := .i64) (by omega), (Below.refl _ _).alloc (Nat.le_refl _) _⟩

theorem add_blk {S : Nat → Prop} {tag : Nat → Nat} {w w' : World} {g ty : Nat} {cs : Array Value} {v : Value} {css : List (List Value)} {O : List Ob} (h : Blk w g ty cs) (hr : Row S tag w v css O) (ht : tag g = 0) (hg : w.grownBy w' v.ownBlock) : Blk w' g ty cs :=
  (hg.block g h.lt fun e => by have := (hr.2.2.1 g e.symm).2; omega).trans h

/-- Behind the row's growth and the store of the row. -/
theorem add_end {S : Nat → Prop} {tag : Nat → Nat} {w W w1 w2 : World} {g m n : Nat} {v v2 : Value} {css : List (List Value)} {cs : List Value} {O : List Ob} {o : Ob} {q u : Int} {bc : Array Value} {ob : Obj} (hS : ∀ b, S b → b < w.heap.size) (hs : w.heap.size < W.heap.size) (hW : Below w.heap.size w W) (hg : S g ∧ tag g = 0)
    (h1 : Below W.heap.size W w1) (ho : Obj1 (fun b => W.heap.size ≤ b ∧ b < m) (fun b => m ≤ b ∧ b < w1.heap.size) w1 cs o) (hm1 : W.heap.size ≤ m) (hm2 : m ≤ w1.heap.size) (hr : Row S tag (w1.alloc ob) v css O) (hn : O.length = n) (hown : w2.ownsRow 0 28 4 v2 (n + 1) (css.flatten ++ cs))
    (hgr : (w1.alloc ob).grownBy w2 v.ownBlock) (hv : v2.ownBlock = v.ownBlock ∨ v2.ownBlock = some (w1.alloc ob).heap.size) (hb : Blk w2 g 62 #[v, .int .i64 q, .int .i64 u]) (hbox : Blk W w.heap.size 28 bc) :
    w.heap.size < (w2.setCell ⟨g, 0, none⟩ v2).heap.size ∧ Blk (w2.setCell ⟨g, 0, none⟩ v2) w.heap.size 28 bc ∧ IsHp (fun b => S b ∨ (w.heap.size ≤ b ∧ b < (w2.setCell ⟨g, 0, none⟩ v2).heap.size)) (w2.setCell ⟨g, 0, none⟩ v2) g (O ++ [o]) q u ∧ Trn S w (w2.setCell ⟨g, 0, none⟩ v2) := by
  subst hn
  have s1 := h1.size
  have sz : (w2.setCell ⟨g, 0, none⟩ v2).heap.size = w2.heap.size := by simp [World.setCell]
  have sa : (w1.alloc ob).heap.size = w1.heap.size + 1 := by simp
  have s2 : w1.heap.size + 1 ≤ w2.heap.size := by have := hgr.size; omega
  have hgl := hS g hg.1
  have ho' : Obj1 (fun b => W.heap.size ≤ b ∧ b < m) (fun b => m ≤ b ∧ b < w1.heap.size) (w1.alloc ob) cs o := ho.keep (fun b hb => Below.heap_alloc _ _ _ (by omega)) fun b hb => Below.heap_alloc _ _ _ (by omega)
  obtain ⟨tag', hrow, ht⟩ := hr.push (fun b hb => by have := hS b hb; omega) ho' (fun b (hb : W.heap.size ≤ b ∧ b < m) => ⟨by omega, fun q => by have := hS b q; omega⟩) (fun b (hb : m ≤ b ∧ b < w1.heap.size) => ⟨by omega, fun q => by have := hS b q; omega⟩) (fun b (hb : W.heap.size ≤ b ∧ b < m) (hb2 : m ≤ b ∧ b < w1.heap.size) => by omega) hown hgr hv
  have hBa : Below w.heap.size w (w1.alloc ob) := (hW.trans (h1.mono (Nat.le_of_lt hs))).alloc (by omega) _
  have hTr : Trn S w w2 := (Trn.of_below hBa).trans (T := S) ⟨hgr.os, hgr.tape, hgr.output, hgr.size, fun b hb hn => hgr.block b hb fun e => hn (hr.2.2.1 b e.symm).1⟩ fun _ _ q => q
  refine ⟨by omega, ?_, ⟨v2, css ++ [cs], tag', ?_, .inl hg.1, by rw [ht g hg.1]; exact hg.2, ?_⟩, hTr.set hg.1 _⟩
  · refine blk_other ?_ (by omega)
    have hb1 : Blk (w1.alloc ob) w.heap.size 28 bc := blk_keep (blk_below hbox h1 hs)
    exact (hgr.block _ hb1.lt fun e => by have := hS _ (hr.2.2.1 _ e.symm).1; omega).trans hb1
  · exact hb.set 0 v2
  · refine (hrow.keep (w' := w2.setCell ⟨g, 0, none⟩ v2) fun b hb1 hb2 => Below.heap_setCell _ _ _ _ fun (e : b = g) => ?_).wide fun b hb1 => ?_
    · subst e
      rw [ht b hg.1, hg.2] at hb2
      omega
    · rw [sz]
      rcases hb1 with h | (h : W.heap.size ≤ b ∧ b < m) | (h : m ≤ b ∧ b < w1.heap.size) | h
      · exact .inl h
      · exact .inr ⟨by omega, by omega⟩
      · exact .inr ⟨by omega, by omega⟩
      · exact .inr ⟨by omega, by omega⟩

/-- Behind what was used, too. -/
theorem add_done {S : Nat → Prop} {tag : Nat → Nat} {w wc w4 : World} {g : Nat} {v : Value} {css : List (List Value)} {O : List Ob} {q u u' : Int} (hS : ∀ b, S b → b < w.heap.size) (hsc : w.heap.size < wc.heap.size) (hg : S g ∨ (w.heap.size ≤ g ∧ g < wc.heap.size)) (hgS : S g) (ht : tag g = 0) (hb : Blk wc g 62 #[v, .int .i64 q, .int .i64 u])
    (hr : Row (fun b => S b ∨ (w.heap.size ≤ b ∧ b < wc.heap.size)) tag wc v css O) (h4 : Below wc.heap.size wc w4) (htr : Trn S w wc) :
    IsHp (fun b => S b ∨ (w.heap.size ≤ b ∧ b < (w4.setCell ⟨g, 2, none⟩ (.int .i64 u')).heap.size)) (w4.setCell ⟨g, 2, none⟩ (.int .i64 u')) g O q u' ∧ Trn S w (w4.setCell ⟨g, 2, none⟩ (.int .i64 u')) := by
  have sz : (w4.setCell ⟨g, 2, none⟩ (.int .i64 u')).heap.size = w4.heap.size := by simp [World.setCell]
  have s4 := h4.size
  refine ⟨⟨v, css, tag, (blk_below hb h4 hb.lt).set 2 _, .inl hgS, ht, ?_⟩, (htr.then h4).set hgS _⟩
  refine (hr.keep (w' := w4.setCell ⟨g, 2, none⟩ (.int .i64 u')) fun b hb1 hb2 => (Below.heap_setCell _ _ _ _ fun (e : b = g) => ?_).trans (h4.block b ?_)).wide fun b hb1 => ?_
  · subst e
    omega
  · rcases hb1 with h | h
    · have := hS b h; omega
    · omega
  · rw [sz]
    rcases hb1 with h | h
    · exact .inl h
    · exact .inr ⟨h.1, by omega⟩

set_option maxRecDepth 100000 in
set_option maxHeartbeats 8000000 in
theorem add_fits {S : Nat → Prop} {O : List Ob} {q u : Int} (cs : List Value) (o : Ob) (g : Nat) (w : World) (h : IsHp S w g O q u) (ho : obL.R (· < w.heap.size) w cs o) (hz : o.small) (hq : -4000000000000 ≤ q ∧ q ≤ 4000000000000) (hu : -4000000000000 ≤ u ∧ u ≤ 4000000000000) (hS : ∀ b, S b → b < w.heap.size) (hf : ¬ Full O q u o.cost) :
    Calls Try.prog 11 #[.pointer (some ⟨g, 0, none⟩), vAgg cs] w fun e w' => e = .returned (.tuple #[.int .u64 ((O.length : Int) + 1), .bool true]) ∧ IsHp (fun b => S b ∨ (w.heap.size ≤ b ∧ b < w'.heap.size)) w' g (O ++ [o]) q (u + o.cost) ∧ Trn S w w' := by
  obtain ⟨A, c, B, d, rfl, -⟩ := ob_parts ho
  have hk : 16 ≤ o.cost ∧ o.cost ≤ 1000000 := by obtain ⟨z0, z1⟩ := hz; unfold Ob.cost; omega
  have HCo : Hid (∀ V, Calls Try.prog 13 #[.agg #[.int .i64 o.kind, .int .i64 o.n, .slice A o.words.length c, .slice B o.bytes.length d]] V fun e w' => e = .returned (.int .i64 o.cost) ∧ Below V.heap.size V w') := fun V => cost_shape o A B c d V hz
  have HCp : Hid (∀ V, Below w.heap.size w V → Calls Try.prog 25 #[.agg #[.int .i64 o.kind, .int .i64 o.n, .slice A o.words.length c, .slice B o.bytes.length d]] V fun e w' =>
      ∃ A c B d m, e = .returned (.agg #[.int .i64 o.kind, .int .i64 o.n, .slice A o.words.length c, .slice B o.bytes.length d]) ∧ (V.heap.size ≤ m ∧ m ≤ w'.heap.size) ∧ Obj1 (fun b => V.heap.size ≤ b ∧ b < m) (fun b => m ≤ b ∧ b < w'.heap.size) w' [.int .i64 o.kind, .int .i64 o.n, .slice A o.words.length c, .slice B o.bytes.length d] o ∧ Below V.heap.size V w') :=
    fun V hV => copied_flat _ o V (obL.wide (obL.keep ho fun b hb => hV.block b hb) fun b hb => Nat.lt_of_lt_of_le hb hV.size) hz
  obtain ⟨v, css, tag, hb, hg, htg, hr⟩ := h
  obtain ⟨A1, c1, rfl, hc1, hc2⟩ := hr.shape
  have hgl := hb.lt
  have HG := Lib.hid (show S g ∧ tag g = 0 from ⟨hg, htg⟩)
  have HGT : Hid (tag g = 0) := htg
  have HR := Lib.hid hr
  have HSS := Lib.hid hS
  show Calls Try.prog 11 #[.pointer (some ⟨g, 0, none⟩), .agg #[.int .i64 o.kind, .int .i64 o.n, .slice A o.words.length c, .slice B o.bytes.length d]] w _
  have hf1 : ¬ (q - o.cost < u) := fun h => hf (.inl h)
  have hf2 : ¬ (4096 ≤ O.length) := fun h => hf (.inr h)
  clear hr hg htg ho hz hf hS
  obtain ⟨n, en⟩ : ∃ n, O.length = n := ⟨_, rfl⟩
  have EN := Lib.hid en
  rw [en] at hc1 hf2 hb ⊢
  have HR2 : Hid (Row S tag w (.slice A1 n c1) css O) := by rw [← en]; exact HR.out
  clear en HR
  generalize o.cost = k at *
  generalize o.kind = kk at *
  generalize o.n = nn at *
  generalize o.words.length = pp at *
  generalize o.bytes.length = qq at *
  have wk := wrap_in (x := q - k) ⟨by omega, by omega⟩
  have wu := wrap_in (x := u + k) ⟨by omega, by omega⟩
  go_enter Try.func11, Try.ntmps11
  go_upto_region 1 with (fail)
  refine wp_world fun W0 hW => ?_
  have HBW0 : Hid (Below w.heap.size w W0) := by show Below _ _ _; rw [hW]; exact (Below.refl _ _).alloc (Nat.le_refl _) _
  have b0 : Blk W0 w.heap.size 28 #[.int .i64 kk, .int .i64 nn, .slice A pp c, .slice B qq d] := by rw [hW]; exact blk_at rfl
  have bg := blk_below hb HBW0.out hgl
  have HB0 := Lib.hid b0
  have HG0 := Lib.hid bg
  have hs0 : w.heap.size < W0.heap.size := b0.lt
  have e0 := cell_regrown (b0.cell 0)
  have e1 := cell_regrown (b0.cell 1)
  have e2 := cell_regrown (b0.cell 2)
  have e3 := cell_regrown (b0.cell 3)
  have g0 := cell_regrown (bg.cell 0)
  have g1 := cell_regrown (bg.cell 1)
  have g2 := cell_regrown (bg.cell 2)
  have HCr : Hid (∀ dq osq, Below w.heap.size w (Go.Sort.grow (redrawn W0 dq) osq)) := fun dq osq => HBW0.out.trans ((below_regrown W0 dq osq).mono HBW0.out.size)
  clear hW b0 bg hb
  have d1 : decide (q - k < u) = false := by simpa using hf1
  have d2 : decide ((4096 : Int) ≤ (n : Int)) = false := by simp; omega
  refine wp_region_quiet_below (by kernel_rfl) (by kernel_rfl) ?_
  repeat (quiet_step (first | with_reducible exact Calls.regrown_of (HCo.out _)))
  refine wpQuiet_nil ?_
  intro _ hw'
  obtain ⟨⟨dq, osq⟩, hw''⟩ := hw'
  subst hw''
  go_upto_region 3 with (fail)
  refine wp_world fun W hW => ?_
  have hBW : Below W0.heap.size W0 W := by rw [hW]; exact below_regrown W0 dq osq
  have HBW : Hid (Below w.heap.size w W) := HBW0.out.trans (hBW.mono HBW0.out.size)
  have b0 : Blk W w.heap.size 28 #[.int .i64 kk, .int .i64 nn, .slice A pp c, .slice B qq d] := blk_below HB0.out hBW hs0
  have bg : Blk W g 62 #[.slice A1 n c1, .int .i64 q, .int .i64 u] := blk_below HG0.out hBW (by omega)
  have hs : w.heap.size < W.heap.size := b0.lt
  have HRW : Hid (Row S tag W (.slice A1 n c1) css O) := HR2.out.keep fun b h1 _ => HBW.out.block b (HSS.out b h1)
  have HB1 := Lib.hid b0
  have HG1 := Lib.hid bg
  clear hW hBW HB0 HG0 HBW0 hs0 e0 e1 e2 e3 g0 g1 g2 HCr HR2
  have a0 := b0.cell 0
  have a1 := b0.cell 1
  have a2 := b0.cell 2
  have a3 := b0.cell 3
  have h0 := bg.cell 0
  clear b0 bg
  have HKW : Hid (∀ V, Below W.heap.size W V → Blk V g 62 #[.slice A1 n c1, .int .i64 q, .int .i64 u] ∧ Blk V w.heap.size 28 #[.int .i64 kk, .int .i64 nn, .slice A pp c, .slice B qq d] ∧ Row S tag V (.slice A1 n c1) css O) := fun V hV => ⟨blk_below HG1.out hV (by omega), blk_below HB1.out hV (by omega), HRW.out.keep fun b h1 _ => hV.block b (Nat.lt_trans (HSS.out b h1) hs)⟩
  go_cut [4] (fun s4 wx => s4 = .int .u64 0 ∧ w.heap.size < wx.heap.size ∧ Blk wx w.heap.size 28 #[.int .i64 kk, .int .i64 nn, .slice A pp c, .slice B qq d] ∧ IsHp (fun b => S b ∨ (w.heap.size ≤ b ∧ b < wx.heap.size)) wx g (O ++ [o]) q u ∧ Trn S w wx)
  case first =>
    go_region_law (first
      | (with_reducible refine step_is (.tmp 34) (.tmp 37) 22 ?_
         refine step_append_raw 4 _ (by rfl) (.tmp 34) (.tmp 37) 22 28 (by rfl) (.agg #[.int .i64 0, .int .i64 0, .slice none 0 0, .slice none 0 0]) 64 Try.underlying22 ob_info rfl (by decide) (by decide) 0 (.slice A1 n c1) n css.flatten (by rfl)
           (by have := HRA.out.2.1; rw [EN.out] at this; exact this) ⟨w1.heap.size, 0, none⟩ 1 (by rfl) [.int .i64 kk, .int .i64 nn, .slice A2 pp c2, .slice B2 qq d2] rfl (cell_new w1 28 [.int .i64 kk, .int .i64 nn, .slice A2 pp c2, .slice B2 qq d2]) HO1.out.one (by omega) (Nat.zero_le _) ?_
         intro v2 w2 hown2 hg2 hv2
         obtain ⟨A3, n3, c3, rfl⟩ := raw_shape hown2
         have HO2 := Lib.hid hown2
         have HG2 := Lib.hid hg2
         have HV2 := Lib.hid hv2
         have bg2 := add_blk (HKW.out _ (HB2.out.alloc HB2.out.size _)).1 HRA.out HGT.out hg2
         have z0 := bg2.cell 0
         have zf := bg2.frozen 0
         have HBG := Lib.hid bg2
         clear hown2 hg2 hv2 bg2)
      | (go_simp
         go_at_call 25
         refine (HCp.out W.drew HBW.out.drew).mono ?_
         rintro e w1 ⟨A2, c2, B2, d2, m, rfl, ⟨hm1, hm2⟩, hob, hb1'⟩
         have HB2 : Hid (Below W.heap.size W w1) := (Below.refl _ W).drew.trans hb1'
         have HO1 := Lib.hid hob
         have HRA : Hid (Row S tag (w1.alloc (.cells #[.int .i64 kk, .int .i64 nn, .slice A2 pp c2, .slice B2 qq d2] 28)) (.slice A1 n c1) css O) := (HKW.out _ (HB2.out.alloc HB2.out.size _)).2.2
         have h0' := (HKW.out _ HB2.out).1.cell 0
         have h0'' := fun ob => (HKW.out _ (HB2.out.alloc HB2.out.size ob)).1.cell 0
         clear hob hb1'))
    all_goals
      go_wp2_with fail
      go_meet
      exact ⟨rfl, add_end HSS.out hs HBW.out HG.out HB2.out HO1.out hm1 hm2 HRA.out EN.out HO2.out HG2.out HV2.out HBG.out HB1.out⟩
  case rest =>
    obtain ⟨rfl, hsc, hbox, hhp, htr⟩ := hcut
    have HTR := Lib.hid htr
    clear htr HKW HB1 HG1 HRW HBW hs a0 a1 a2 a3 h0 HCp hf1 wk d1 d2
    obtain ⟨v3, css3, tag3, hb3, hg3, ht3, hr3⟩ := hhp
    obtain ⟨A3, c3, rfl, hc31, hc32⟩ := hr3.shape
    have el : (O ++ [o]).length = n + 1 := by rw [List.length_append, EN.out]; rfl
    rw [el] at hb3 hr3
    clear el hc31 hc32
    have hne : g ≠ w.heap.size := by omega
    have x0 := hbox.cell 0
    have x1 := hbox.cell 1
    have x2 := hbox.cell 2
    have x3 := hbox.cell 3
    have y2 := hb3.cell 2
    have HB3 := Lib.hid hb3
    have HR3 := Lib.hid hr3
    have HX := Lib.hid hg3
    have HT3 := Lib.hid ht3
    have hgl3 := hb3.lt
    clear hb3 hr3 hg3 ht3 hbox
    go_wp2_with fail
    go_region_with (first
      | (go_at_call 13
         refine (HCo.out wc.drew).mono ?_
         rintro e w4 ⟨rfl, hb4⟩
         have HB4 : Hid (Below wc.heap.size wc w4) := (Below.refl _ wc).drew.trans hb4
         have bg4 := blk_below HB3.out HB4.out hgl3
         have z0 := bg4.cell 0
         have z2 := bg4.cell 2
         have zf := bg4.frozen 2
         clear hb4 bg4))
    all_goals (go_wp2_with fail)
    all_goals go_ret2
    all_goals exact ⟨rfl, add_done HSS.out hsc HX.out HG.out.1 HT3.out HB3.out HR3.out HB4.out HTR.out⟩
end Go.Proofs.Ytdadaklkaehmjaa
