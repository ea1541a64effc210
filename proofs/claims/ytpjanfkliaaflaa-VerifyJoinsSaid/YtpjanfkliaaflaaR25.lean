/-
  Vsh Sc5 Loe Vck Van
-/
import Derived.Test.YtpjanfkliaaflaaR02
import Derived.Test.YtpjanfkliaaflaaR08
import Derived.Test.YtpjanfkliaaflaaR11
import Derived.Test.YtpjanfkliaaflaaR13
import Derived.Test.YtpjanfkliaaflaaR15
import Derived.Test.YtpjanfkliaaflaaR24
import Derived.Maps.AppendAt
set_option linter.unusedSimpArgs false
set_option linter.unusedVariables false
namespace Go.Proofs.Ytpjanfkliaaflaa
open Go.RowKit

def Shaped (x : Mod) (fn : Fn) (w : World) (e : Ending) (w' : World) : Prop :=
  Below w.heap.size w w' ∧ ((∃ U l v, e = .returned (.tuple #[v, .int .i64 0, .bool true]) ∧ Least x fn l ∧ (∀ b, U b → w.heap.size ≤ b ∧ b < w'.heap.size) ∧ (rowU U).R (fun b => w.heap.size ≤ b ∧ b < w'.heap.size) w' [v] l) ∨
    (∃ pc : Nat, pc < fn.code.length ∧ e = .returned (.tuple #[.slice none 0 0, .int .i64 (pc : Int), .bool false]) ∧ Never x fn))
def AtLabel (x : Mod) (fn : Fn) (W : World) (A0 A1 A2 A3 A4 : Option Addr) (n0 n1 n2 n3 n4 d0 d1 d2 d3 d4 j B : Nat) (n : Nat) (a' : Act) (w' : World) : Prop :=
  Below W.heap.size W w' ∧ ∃ g p q Z r l ws, Wk W.heap.size g p q Z w' l ws r ∧ RunF x fn l ∧ Inv x fn l ws ∧ n = todo l ws ∧
    ∃ u3 u4 u5 u6 u8 u9 u10 u11 u12 u13 u14 u15 u16 u17 u18 u19 u20 u21 u22 u23 u24 u25 u26 u27 u28 u29 u30 u31 u32 u33 u34 u35 u36 u37 u38 u39 u40 u41 : Value, a' = { tmps := #[.agg #[.slice A0 n0 d0, .slice A1 n1 d1, .slice A2 n2 d2, .slice A3 n3 d3, .slice A4 n4 d4], .int .i64 (j : Int), .pointer (some ⟨B, 0, none⟩), u3, u4, u5, u6, .pointer (some ⟨g, 0, none⟩), u8, u9, u10, u11, u12, u13, u14, u15, u16, u17, u18, u19, u20, u21, u22, u23, u24, u25, u26, u27, u28, u29, u30, u31, u32, u33, u34, u35, u36, u37, u38, u39, u40, u41], defers := [] }

set_option maxRecDepth 100000 in
set_option maxHeartbeats 4000000 in
theorem shapes_any (cs : List Value) (x : Mod) (j : Nat) (fn : Fn) (w : World) (hm : modL.R (· < w.heap.size) w cs x) (hc : checkN x = 0) (hfn : x.funcs[j]? = some fn) :
    Calls Try.prog 14 #[vAgg cs, .int .i64 (j : Nat)] w (Shaped x fn w) := by
  have HM := Lib.hid hm
  have hmem := List.mem_of_getElem? hfn
  obtain ⟨-, -, hcode, -⟩ := sane_fn hc hmem
  have hcode0 : 0 < fn.code.length := by
    have := (fitB_iff.1 (checkN_fit hc)).funcs fn hmem
    simp only [fnOk, Bool.and_eq_true, witB_iff] at this
    omega
  obtain ⟨_, _, _, _, _, rfl, ⟨A0, d0, e0, -⟩, ⟨A1, d1, e1, l1, m1, s1⟩, ⟨A2, d2, e2, -⟩, ⟨A3, d3, e3, -⟩, ⟨A4, d4, e4, -⟩⟩ := hm
  simp only [List.cons.injEq, and_true] at e0 e1 e2 e3 e4
  subst e0 e1 e2 e3 e4
  have hj8 : j < x.funcs.length := (List.getElem?_eq_some_iff.1 hfn).1
  obtain ⟨n0, h0⟩ : ∃ n, x.recs.length = n := ⟨_, rfl⟩
  obtain ⟨n1, h1⟩ : ∃ n, x.funcs.length = n := ⟨_, rfl⟩
  obtain ⟨n2, h2⟩ : ∃ n, x.imps.length = n := ⟨_, rfl⟩
  obtain ⟨n3, h3⟩ : ∃ n, x.ints.length = n := ⟨_, rfl⟩
  obtain ⟨n4, h4⟩ : ∃ n, x.texts.length = n := ⟨_, rfl⟩
  rw [h0, h1, h2, h3, h4] at HM ⊢
  rw [h1] at hj8
  obtain ⟨a, ccs, ea, hab, hcl, hR⟩ := s1.at hfn
  subst ea
  obtain ⟨p0, p1, p2, rfl, -, -, ⟨P0, c0, e4, -⟩, ⟨P1, c1, e5, -⟩, ⟨P2, c2, e6, -⟩⟩ := hR
  simp only [List.cons.injEq, and_true] at e4 e5 e6
  subst e4 e5 e6
  obtain ⟨uc, g2⟩ : ∃ n, fn.code.length = n := ⟨_, rfl⟩
  rw [g2] at hcl hcode hcode0
  have HCL : Hid (∀ v, Below w.heap.size w v → v.cell? ⟨(a.add (j * 5)).block, (a.add (j * 5)).off + 4, none⟩ = some (.slice P2 uc c2)) := fun v hb => by
    have k4 := (hb.cell (p := a.add (j * 5 + 4)) (by rw [addBlock]; exact hab)).trans (hcl 4 _ rfl)
    rw [next_cell a (j * 5) 4 (by omega)] at k4
    exact k4
  have BE := Lib.hid (begin_any uc hcode0 hcode)
  have HG2 := Lib.hid g2
  have HC := Lib.hid hc
  have HF := Lib.hid hfn
  have hj0 : (0 : Int) ≤ (j : Int) := by omega
  have hj1 : (j : Int) < (n1 : Int) := by omega
  clear hmem s1 hcl h0 h1 h2 h3 h4 g2 hc hfn l1 m1
  show Calls Try.prog 14 #[.agg #[.slice A0 n0 d0, .slice (some a) n1 d1, .slice A2 n2 d2, .slice A3 n3 d3, .slice A4 n4 d4], .int .i64 (j : Int)] w (Shaped x fn w)
  go_enter Try.func14, Try.ntmps14
  go_wp2_with fail
  refine wp_world fun W hW => ?_
  have HBW : Hid (Below w.heap.size w W) := by show Below _ _ _; rw [hW]; exact below_new w _
  have HBx : Hid (Blk W w.heap.size 37 #[.slice A0 n0 d0, .slice (some a) n1 d1, .slice A2 n2 d2, .slice A3 n3 d3, .slice A4 n4 d4]) := by show Blk _ _ _ _; rw [hW]; exact blk_at rfl
  have hsW : w.heap.size < W.heap.size := by rw [hW]; simp
  clear hW
  have HBV : Hid (∀ v, Below W.heap.size W v → v.cell? ⟨w.heap.size, 0, none⟩ = some (.slice A0 n0 d0) ∧ v.cell? ⟨w.heap.size, 1, none⟩ = some (.slice (some a) n1 d1) ∧ v.cell? ⟨w.heap.size, 2, none⟩ = some (.slice A2 n2 d2) ∧ v.cell? ⟨w.heap.size, 3, none⟩ = some (.slice A3 n3 d3) ∧ v.cell? ⟨w.heap.size, 4, none⟩ = some (.slice A4 n4 d4)) := fun v hb => by
    have hf := blk_below HBx.out hb hsW
    exact ⟨hf.cell 0, hf.cell 1, hf.cell 2, hf.cell 3, hf.cell 4⟩
  have HMV : Hid (∀ v, Below W.heap.size W v → modL.R (· < W.heap.size) v [.slice A0 n0 d0, .slice (some a) n1 d1, .slice A2 n2 d2, .slice A3 n3 d3, .slice A4 n4 d4] x) := fun v hb => modL.wide (modL.keep HM.out fun b h1 => (HBW.out.trans (hb.mono HBW.out.size)).block b h1) fun b h1 => Nat.lt_trans h1 hsW
  refine wp_scope_label (AtLabel x fn W A0 (some a) A2 A3 A4 n0 n1 n2 n3 n4 d0 d1 d2 d3 d4 j w.heap.size) rfl ?_ ?_
  · obtain ⟨-, z1, -, -, -⟩ := HBV.out W (Below.refl _ _)
    have z2 := HCL.out W HBW.out
    go_wp2_with fail
    refine (BE.out W).mono ?_
    rintro e V ⟨hbV, g, p, q, Z, r, rfl, hWk⟩
    have HBV2 := Lib.hid hbV
    have HWk := Lib.hid hWk
    clear hbV hWk
    go_wp2_with fail
    refine ⟨todo _ _, HBV2.out, g, p, q, Z, r, _, _, HWk.out, ?_, ⟨fun k hk => ?_, fun k s hk => ?_, fun k hk => ?_⟩, rfl, _, _, _, _, _, _, _, _, _, _, _, _, _, _, _, _, _, _, _, _, _, _, _, _, _, _, _, _, _, _, _, _, _, _, _, _, _, _, rfl⟩
    · have := beginF_run (m := x) (fn := fn) (by rw [HG2.out]; exact hcode0)
      rwa [HG2.out] at this
    · intro s hs
      have hs := toS_some hs
      by_cases e : 0 = k
      · subst e
        rw [List.getElem?_set_self (by simpa using hcode0)] at hk
        cases hk
      · unfold beginF at hs
        rw [List.getElem?_set_ne e, List.getElem?_replicate] at hs
        split at hs <;> cases hs
    · by_cases e : 0 = k
      · subst e
        unfold beginF at hk
        rw [List.getElem?_set_self (by simpa using hcode0)] at hk
        cases hk
      · unfold beginF at hk
        rw [List.getElem?_set_ne e, List.getElem?_replicate] at hk
        split at hk
        · injection hk with hk; injection hk with _ hk; exact hk.symm
        · cases hk
    · by_cases e : 0 = k
      · subst e
        exact ⟨[], by unfold beginF; rw [List.getElem?_set_self (by simpa using hcode0)]⟩
      · rw [List.getElem?_set_ne e, List.getElem?_replicate] at hk
        split at hk <;> cases hk
  · rintro n a' V ⟨hbV, g, p, q, Z, r, l, ws, hWk, hRun, hInv, rfl, u3, u4, u5, u6, u8, u9, u10, u11, u12, u13, u14, u15, u16, u17, u18, u19, u20, u21, u22, u23, u24, u25, u26, u27, u28, u29, u30, u31, u32, u33, u34, u35, u36, u37, u38, u39, u40, u41, rfl⟩
    obtain ⟨nl, hnl⟩ : ∃ nl, l.length = nl := ⟨_, rfl⟩
    have g0 := hWk.box.cell 0
    have g1 := hWk.box.cell 1
    rw [hnl] at g0 g1
    have g0 : V.cell? ⟨g, 0, none⟩ = some (.slice (some ⟨p, 0, none⟩) nl nl) := g0
    have g1 : V.cell? ⟨g, 1, none⟩ = some (.slice (some ⟨q, 0, none⟩) nl nl) := g1
    have HBV3 := Lib.hid hbV
    have HW := Lib.hid hWk
    have HR := Lib.hid hRun
    have HI := Lib.hid hInv
    have HNL := Lib.hid hnl
    have hl64 : nl ≤ 64 := by rw [← hnl, hRun.len, HG2.out]; exact hcode
    have HWL : Hid (ws.length = nl) := by show _ = _; rw [hWk.lenw]; exact hnl
    clear hWk hRun hInv hnl hbV
    go_wp2_with fail
    go_loopw [23] (fun i wr => ∃ k : Nat, k ≤ nl ∧ i = .int .i64 (k : Nat) ∧ (∀ m, m < k → ws[m]? = some false) ∧ wr = V) (fun i _ => nl - (intOf i).toNat)
    case atStart => exact ⟨0, Nat.zero_le _, rfl, fun m hm => absurd hm (by omega), rfl⟩
    case round =>
      obtain ⟨k, hk, rfl, hall, rfl⟩ := hrel
      have HA := Lib.hid hall
      clear hall
      by_cases hlt : k < nl
      · obtain ⟨b, hb⟩ : ∃ b, ws[k]? = some b := ⟨ws[k]'(by rw [HWL.out]; exact hlt), List.getElem?_eq_getElem _⟩
        have hcell := (HW.out.wai.cellAt k (by rw [HNL.out]; omega)).trans (Bl_get hb)
        have HB := Lib.hid hb
        have k0 : (0 : Int) ≤ (k : Int) := by omega
        have k1 : (k : Int) < (nl : Int) := by omega
        clear hb
        cases b
        · go_wp2_with fail
          refine ⟨⟨k + 1, by omega, by simp, fun m hm => ?_, trivial⟩, by simp [intOf]; omega⟩
          by_cases e : m = k
          · rw [e]; exact HB.out
          · exact HA.out m (by omega)
        · obtain ⟨s, hs⟩ := HI.out.2.2 k HB.out
          obtain ⟨y0, y1, y2, y3, y4⟩ := HBV.out _ HBV3.out
          have GO := Lib.hid (goon_any W.heap.size g p q Z _ l ws r _ x j k fn s HW.out HBV3.out.size (HMV.out _ HBV3.out) HC.out HF.out HR.out hs HB.out HI.out)
          have hlow := Lib.hid HW.out.low0
          clear hs
          simp only [vAgg] at GO
          go_wp2_with fail
          refine GO.out.mono ?_
          rintro e w6 ⟨hT6, ⟨rfl, hne⟩ | ⟨rfl, Z6, r6, l6, ws6, hW6, hz6, hR6, hI6, hless⟩⟩
          · have HT6 := Lib.hid (hT6.below HBV3.out.size hlow.out)
            have HNe := Lib.hid hne
            clear hT6 hne
            go_wp2_with fail
            simp only [Exit.jump]
            go_ret3
            exact ⟨HBW.out.trans ((HBV3.out.trans HT6.out).mono HBW.out.size), .inr ⟨k, by rw [← HR.out.len, HNL.out]; exact hlt, rfl, HNe.out⟩⟩
          · have HT6 := Lib.hid (hT6.below HBV3.out.size hlow.out)
            have HW6 := Lib.hid hW6
            have HR6 := Lib.hid hR6
            have HI6 := Lib.hid hI6
            have HL6 := Lib.hid hless
            clear hT6 hW6 hz6 hR6 hI6 hless
            go_wp2_with fail
            go_step3
            exact ⟨rfl, todo l6 ws6, HL6.out, HBV3.out.trans HT6.out, g, p, q, Z6, r6, l6, ws6, HW6.out, HR6.out, HI6.out, rfl, _, _, _, _, _, _, _, _, _, _, _, _, _, _, _, _, _, _, _, _, _, _, _, _, _, _, _, _, _, _, _, _, _, _, _, _, _, _, rfl⟩
      · obtain rfl : k = nl := by omega
        go_wp2_with fail
        simp only [Exit.jump]
        go_ret3
        have hle : Least x fn l := ⟨HR.out.len, HI.out.2.1, HR.out.run, fun p hp => HI.out.1 p (HA.out p (by rw [← HR.out.len, HNL.out] at hp; exact hp))⟩
        refine ⟨HBW.out.trans (HBV3.out.mono HBW.out.size), .inl ⟨fun b => ∃ k, Z b = some (k + 3), l, _, rfl, hle, fun b hb => ?_, ?_⟩⟩
        · obtain ⟨i, hi⟩ := hb
          have := HW.out.low b (by rw [hi]; simp)
          omega
        · have := HW.out.done
          rw [HNL.out] at this
          exact (rowU _).wide this fun b hb => by omega
end Go.Proofs.Ytpjanfkliaaflaa
namespace Go.Proofs.Ytpjanfkliaaflaa
open Go.RowKit

set_option maxRecDepth 100000 in
set_option maxHeartbeats 4000000 in
theorem main_any (cs : List Value) (x : Mod) (w : World) (h : modL.R (· < w.heap.size) w cs x) : Calls Try.prog 13 #[vAgg cs] w (Tells (mainB x) w) := by
  have TE : Hid (∀ w1, Below w.heap.size w w1 → Calls Try.prog 12 #[vAgg cs] w1 (Errs (checkN x) w1)) := fun w1 hb => check_any cs x w1 (mod_at h hb)
  obtain ⟨_, _, _, _, _, rfl, ⟨A0, d0, e0, -⟩, ⟨A1, d1, e1, l1, m1, s1⟩, ⟨A2, d2, e2, -⟩, ⟨A3, d3, e3, -⟩, ⟨A4, d4, e4, -⟩⟩ := h
  simp only [List.cons.injEq, and_true] at e0 e1 e2 e3 e4
  subst e0 e1 e2 e3 e4
  obtain ⟨n1, h1⟩ : ∃ n, x.funcs.length = n := ⟨_, rfl⟩
  rw [h1] at TE ⊢
  generalize x.recs.length = n0 at *
  generalize x.imps.length = n2 at *
  generalize x.ints.length = n3 at *
  generalize x.texts.length = n4 at *
  have TE2 : Hid (∀ w1, Below w.heap.size w w1 → Calls Try.prog 12 #[.agg #[.slice A0 n0 d0, .slice A1 n1 d1, .slice A2 n2 d2, .slice A3 n3 d3, .slice A4 n4 d4]] w1 (Errs (checkN x) w1)) := TE.out
  clear TE
  show Calls Try.prog 13 #[.agg #[.slice A0 n0 d0, .slice A1 n1 d1, .slice A2 n2 d2, .slice A3 n3 d3, .slice A4 n4 d4]] w (Tells (mainB x) w)
  have HB0 : Hid (∀ o : Obj, Below w.heap.size w (w.alloc o)) := fun o => (Below.refl _ _).alloc (Nat.le_refl _) _
  have HC0 : Hid (C5 w.heap.size (.slice A0 n0 d0) (.slice A1 n1 d1) (.slice A2 n2 d2) (.slice A3 n3 d3) (.slice A4 n4 d4) (w.alloc (.cells #[.slice A0 n0 d0, .slice A1 n1 d1, .slice A2 n2 d2, .slice A3 n3 d3, .slice A4 n4 d4] 37))) := by show C5 _ _ _ _ _ _ _; simp [C5, go_sem]
  by_cases hc : checkN x = 0
  rotate_left
  · have HN := Lib.hid (mainB_not hc)
    have b : (checkN x != 0) = true := by simpa using hc
    generalize mainB x = mb at *
    generalize checkN x = cn at *
    clear hc s1 h1
    go_enter Try.func13, Try.ntmps13
    go_wp2_with (first
      | (go_at_call 12
         refine (TE2.out _ (HB0.out _)).mono ?_
         rintro e w1 ⟨rfl, hb1⟩
         have HB1 := Lib.hid ((HB0.out _).trans (hb1.mono (by simp)))
         clear hb1))
    go_ret
    exact ⟨by rw [HN.out]; rfl, HB1.out⟩
  · have hF := fitB_iff.1 (checkN_fit hc)
    have hf1 := hF.f1
    have hf8 := hF.f8
    obtain ⟨f, fs, hfs⟩ : ∃ f fs, x.funcs = f :: fs := by
      cases hx : x.funcs with
      | nil => rw [hx] at hf1; simp at hf1
      | cons f fs => exact ⟨f, fs, rfl⟩
    have HN := Lib.hid (mainB_yes hc hfs)
    rw [hc] at TE2
    obtain ⟨a, cs, ea, hab, hcl, hR⟩ := s1.at (k := 0) (x := f) (by rw [hfs]; rfl)
    subst ea
    obtain ⟨p0, p1, p2, rfl, -, -, ⟨P0, c0, e4, -⟩, ⟨P1, c1, e5, -⟩, ⟨P2, c2, e6, -⟩⟩ := hR
    simp only [List.cons.injEq, and_true] at e4 e5 e6
    subst e4 e5 e6
    have HCL : Hid (∀ w1, Below w.heap.size w w1 → w1.cell? a = some (.slice P0 f.args.length c0) ∧ w1.cell? ⟨a.block, a.off + 1, none⟩ = some (.int .i64 f.ret.1) ∧ w1.cell? ⟨a.block, a.off + 2, none⟩ = some (.int .i64 f.ret.2) ∧ w1.cell? ⟨a.block, a.off + 3, none⟩ = some (.slice P1 f.locs.length c1) ∧ w1.cell? ⟨a.block, a.off + 4, none⟩ = some (.slice P2 f.code.length c2)) := fun w1 hb => by
      have k0 := hcl 0 _ rfl
      have k1 := hcl 1 _ rfl
      have k2 := hcl 2 _ rfl
      have k3 := hcl 3 _ rfl
      have k4 := hcl 4 _ rfl
      simp only [Nat.zero_mul, Nat.zero_add] at k0 k1 k2 k3 k4
      have e0 : a.add 0 = a := by simp [Addr.add]
      have en : ∀ i, 0 < i → a.add i = ⟨a.block, a.off + i, none⟩ := fun i hi => by
        have h : i ≠ 0 := by omega
        simp [Addr.add, h]
      rw [e0] at k0
      rw [en _ (by omega)] at k1 k2 k3 k4
      exact ⟨(hb.cell (p := a) hab).trans k0, (hb.cell (p := ⟨a.block, a.off + 1, none⟩) hab).trans k1, (hb.cell (p := ⟨a.block, a.off + 2, none⟩) hab).trans k2, (hb.cell (p := ⟨a.block, a.off + 3, none⟩) hab).trans k3, (hb.cell (p := ⟨a.block, a.off + 4, none⟩) hab).trans k4⟩
    have hn1 : 0 < n1 := by rw [← h1]; exact hf1
    have hn1' : (0 : Int) < (n1 : Int) := by omega
    clear hc hF hf1 hf8 hfs h1 s1 hcl l1 m1
    generalize mainB x = mb at *
    generalize f.args.length = u0 at *
    generalize f.locs.length = u1 at *
    generalize f.code.length = u2 at *
    generalize f.ret.1 = k1 at *
    generalize f.ret.2 = k2 at *
    rcases Nat.eq_zero_or_pos u0 with hu | hu
    · subst hu
      go_enter Try.func13, Try.ntmps13
      go_wp2_with (first
        | (go_at_call 12
           refine (TE2.out _ (HB0.out _)).mono ?_
           rintro e w1 ⟨rfl, hb1⟩
           have HB1 := Lib.hid ((HB0.out _).trans (hb1.mono (by simp)))
           obtain ⟨x0, x1, x2, x3, x4⟩ := HC0.out.below hb1 (by simp)
           obtain ⟨y0, y1, y2, y3, y4⟩ := HCL.out _ HB1.out
           clear hb1))
      go_ret
      exact ⟨by rw [HN.out]; simp; rfl, HB1.out.alloc HB1.out.size _⟩
    · have hd : ((u0 : Int) == 0) = false := by simp; omega
      have hd2 : (u0 == 0) = false := by simp; omega
      go_enter Try.func13, Try.ntmps13
      go_wp2_with (first
        | (go_at_call 12
           refine (TE2.out _ (HB0.out _)).mono ?_
           rintro e w1 ⟨rfl, hb1⟩
           have HB1 := Lib.hid ((HB0.out _).trans (hb1.mono (by simp)))
           obtain ⟨x0, x1, x2, x3, x4⟩ := HC0.out.below hb1 (by simp)
           obtain ⟨y0, y1, y2, y3, y4⟩ := HCL.out _ HB1.out
           clear hb1))
      go_ret
      exact ⟨by rw [HN.out, decide_eq_false (show ¬ u0 = 0 by omega)]; rfl, HB1.out.alloc HB1.out.size _⟩
end Go.Proofs.Ytpjanfkliaaflaa
namespace Go.Proofs.Ytpjanfkliaaflaa
open Go.RowKit

theorem Owns.push {α : Type} {L : Lay α} {ty base : Nat} {w w' : World} {v v' : Value} {xs : List α} {css : List (List Value)} {cs : List Value} {x : α} (hl : css.length = xs.length)
    (hR : ∀ (j : Nat) (x : α) (cs : List Value), xs[j]? = some x → css[j]? = some cs → L.R (fun b => base ≤ b ∧ b < w.heap.size ∧ v.ownBlock ≠ some b) w cs x)
    (hx : L.R (fun b => base ≤ b ∧ b < w.heap.size ∧ v.ownBlock ≠ some b) w cs x) (hown : w'.ownsRow base ty L.k v' (xs.length + 1) (css.flatten ++ cs)) (hg : w.grownBy w' v.ownBlock)
    (hv : v'.ownBlock = v.ownBlock ∨ v'.ownBlock = some w.heap.size) : Owns L ty base w' v' (xs ++ [x]) := by
  have hk : ∀ {cs : List Value} {x : α}, L.R (fun b => base ≤ b ∧ b < w.heap.size ∧ v.ownBlock ≠ some b) w cs x → L.R (fun b => base ≤ b ∧ b < w'.heap.size ∧ v'.ownBlock ≠ some b) w' cs x := fun h =>
    L.wide (L.keep h fun b hb => hg.block b hb.2.1 (fun e => hb.2.2 e.symm)) fun b hb => ⟨hb.1, Nat.lt_of_lt_of_le hb.2.1 hg.size, by
      rcases hv with e | e
      · rw [e]; exact hb.2.2
      · rw [e]; intro e2; injection e2 with e2; omega⟩
  refine ⟨css ++ [cs], by simp [hl], by simpa using hown, fun j y ds h1 h2 => ?_⟩
  rcases Nat.lt_or_ge j xs.length with hj | hj
  · rw [List.getElem?_append_left hj] at h1
    rw [List.getElem?_append_left (by omega)] at h2
    exact hk (hR j y ds h1 h2)
  · rw [List.getElem?_append_right hj] at h1
    rw [List.getElem?_append_right (by omega), hl] at h2
    have e0 : j - xs.length = 0 := by
      rcases Nat.eq_zero_or_pos (j - xs.length) with h | h
      · exact h
      · rw [List.getElem?_eq_none (by simp; omega)] at h1
        cases h1
    rw [e0] at h1 h2
    simp at h1 h2
    subst h1 h2
    exact hk hx

set_option maxRecDepth 100000 in
theorem walk_append_el2 {α : Type} (L : Lay α) (w : World) {ops : Array Oper} {rest : List Oper} {o : Oper} {a : Act} {Q : Exit → Act → World → Prop} (hgd : o.guard = none) (s x : Operand) (T E : TypeId)
    (ho : o.op = .call { callee := .builtin .append, args := #[s, x], argTypes := #[T, T] })
    (z : Value) (B : Nat) (hT : Try.prog.underlying T = some (.slice E)) (hI : (Try.prog.info? E).map (fun i => (i.zero, i.size, i.bytes)) = some (some z, L.k, B)) (hz : z.cells.size = L.k) (hk : 0 < L.k) (hB : B ≤ 100)
    (base : Nat) (v : Value) (xs : List α) (hs : a.eval s = v) (hO : Owns L E base w v xs) (ad : Addr) (d : Nat) (hx : a.eval x = .slice (some ad) 1 d) (cs : List Value) (y : α)
    (hc : ∀ j u, cs[j]? = some u → w.cell? (ad.add j) = some u) (hR : L.R (fun b => base ≤ b ∧ b < w.heap.size ∧ v.ownBlock ≠ some b) w cs y) (hbig : xs.length ≤ 1000000) (hbase : base ≤ w.heap.size)
    (h : ∀ v' w', Owns L E base w' v' (xs ++ [y]) → w.grownBy w' v.ownBlock → (v'.ownBlock = v.ownBlock ∨ v'.ownBlock = some w.heap.size) → wpList Try.prog ops Q rest (a.put o.dst v') w') : wpList Try.prog ops Q (o :: rest) a w := by
  refine wpList_plain hgd fun _ hK => ?_
  obtain ⟨i0, hi0, hz0, hz1, hz2⟩ := info_parts hI
  obtain ⟨css, hl, hown, hRs⟩ := hO
  have hBx : (xs.length + 1) * B ≤ 140737488355328 := by
    have := Nat.mul_le_mul (show xs.length + 1 ≤ 1000001 by omega) hB
    omega
  obtain ⟨v', w', hrun, h2, h3, _, h5⟩ := run_append_own_at (P := Try.prog) w base T o.type E i0 z L.k B hT hi0 hz0 hz1 hz2 hz hk v xs.length css.flatten hown ad 1 d cs (by rw [L.len hR, Nat.one_mul]) hc (L.one hR)
    (by simp only [maxLen]; omega) hBx hbase
  unfold Oper.wp execOp
  simp only [ho, resolve, invoke, builtin, Sem.run_bind, Sem.run_pure, Result.andThen_ok, List.map_toArray, List.map_cons, List.map_nil, hs, hx, hrun]
  exact hK _ _ (h v' w' (Owns.push hl hRs hR h2 h3 h5) h3 h5)
theorem Owns.turn {α : Type} {L L' : Lay α} {ty base : Nat} {w : World} {v : Value} {xs : List α} (h : Owns L ty base w v xs) (hk : L'.k = L.k) (hR : ∀ cs x, x ∈ xs → L.R (fun b => base ≤ b ∧ b < w.heap.size ∧ v.ownBlock ≠ some b) w cs x → L'.R (fun b => base ≤ b ∧ b < w.heap.size ∧ v.ownBlock ≠ some b) w cs x) : Owns L' ty base w v xs := by
  obtain ⟨css, hl, hown, hr⟩ := h
  exact ⟨css, hl, by rw [hk]; exact hown, fun j x cs h1 h2 => hR cs x (List.mem_of_getElem? h1) (hr j x cs h1 h2)⟩
theorem Owns.below {α : Type} {L : Lay α} {ty base : Nat} {w w' : World} {v : Value} {xs : List α} (h : Owns L ty base w v xs) (hb : Below w.heap.size w w') : Owns L ty base w' v xs := by
  obtain ⟨css, hl, hown, hR⟩ := h
  exact ⟨css, hl, raw_below hown hb (Nat.le_refl _), fun j x cs h1 h2 => L.wide (L.keep (hR j x cs h1 h2) fun b hb2 => hb.block b hb2.2.1) fun b hb2 => ⟨hb2.1, Nat.lt_of_lt_of_le hb2.2.1 hb.size, hb2.2.2⟩⟩
end Go.Proofs.Ytpjanfkliaaflaa
namespace Go.Proofs.Ytpjanfkliaaflaa
open Go.RowKit

def Checked (x : Mod) (w : World) (e : Ending) (w' : World) : Prop :=
  Below w.heap.size w w' ∧ ((checkN x ≠ 0 ∧ e = .returned (.tuple #[.slice none 0 0, .int .i64 0, .int .i64 0, .int .i64 (checkN x)])) ∨
    (checkN x = 0 ∧ mainB x = false ∧ e = .returned (.tuple #[.slice none 0 0, .int .i64 0, .int .i64 0, .int .i64 1])) ∨
    (checkN x = 0 ∧ mainB x = true ∧ NeverM x ∧ ∃ (f pc : Nat) (fn : Fn), x.funcs[f]? = some fn ∧ pc < fn.code.length ∧ e = .returned (.tuple #[.slice none 0 0, .int .i64 (f : Int), .int .i64 (pc : Int), .int .i64 4])) ∨
    (checkN x = 0 ∧ mainB x = true ∧ ∃ U L A c, LeastM x L ∧ e = .returned (.tuple #[.slice A L.length c, .int .i64 0, .int .i64 0, .int .i64 0]) ∧ (slL (rowU U)).R (fun b => w.heap.size ≤ b ∧ b < w'.heap.size) w' [.slice A L.length c] L ∧ (∀ a, A = some a → ¬ U a.block) ∧ ∀ b, U b → w.heap.size ≤ b))
def UptoF (x : Mod) (W : World) (k : Nat) (v : Value) (wr : World) : Prop :=
  Below W.heap.size W wr ∧ ∃ U L, Owns (rowU U) 45 W.heap.size wr v L ∧ L.length = k ∧ (∀ (j : Nat) (fn : Fn) (l : List Shape), x.funcs[j]? = some fn → L[j]? = some l → Least x fn l) ∧ (∀ b, U b → W.heap.size ≤ b ∧ b < wr.heap.size) ∧ ∀ b, v.ownBlock = some b → ¬ U b
theorem UptoF.zero (x : Mod) (W : World) : UptoF x W 0 (.slice none 0 0) W := ⟨Below.refl _ _, fun _ => False, [], Owns.nil _ _ _ _, rfl, fun j fn l _ h => by simp at h, fun b h => h.elim, fun b h => by cases h⟩
theorem row_info : (Try.prog.info? 45).map (fun i => (i.zero, i.size, i.bytes)) = some (some (.slice none 0 0), 1, 24) := by kernel_rfl
theorem results_tmp4 {fn : Func} {t u v s : Tmp} (h : fn.results = #[.tmp t, .tmp u, .tmp v, .tmp s]) (tmps : Array Value) (P : Program) (w : World) :
    (results fn tmps).run P w = .ok (.tuple #[tmps.getD t undef, tmps.getD u undef, tmps.getD v undef, tmps.getD s undef]) w := by
  simp [results, h]
theorem shapes_row {x : Mod} {fn : Fn} {w w' : World} {e : Ending} (h : Shaped x fn w e w') : Below w.heap.size w w' ∧ ((∃ U l A c, e = .returned (.tuple #[.slice A l.length c, .int .i64 0, .bool true]) ∧ Least x fn l ∧ (∀ b, U b → w.heap.size ≤ b ∧ b < w'.heap.size) ∧ (rowU U).R (fun b => w.heap.size ≤ b ∧ b < w'.heap.size) w' [.slice A l.length c] l) ∨
    (∃ pc : Nat, pc < fn.code.length ∧ e = .returned (.tuple #[.slice none 0 0, .int .i64 (pc : Int), .bool false]) ∧ Never x fn)) := by
  obtain ⟨hb, ⟨U, l, v, rfl, hl, hu, hr⟩ | h⟩ := h
  · have hr2 := hr
    obtain ⟨A, c, e, -⟩ := hr2
    simp only [List.cons.injEq, and_true] at e
    subst e
    exact ⟨hb, .inl ⟨U, l, A, c, rfl, hl, hu, hr⟩⟩
  · exact ⟨hb, .inr h⟩
theorem UptoF.step {x : Mod} {W wr w6 : World} {k : Nat} {v : Value} {fn : Fn} {U U6 : Nat → Prop} {l : List Shape} {L : List (List Shape)} {A : Option Addr} {c : Nat} (hO : Owns (rowU U) 45 W.heap.size wr v L) (hb : Below W.heap.size W wr) (hlen : L.length = k) (hle : ∀ (j : Nat) (fn : Fn) (l : List Shape), x.funcs[j]? = some fn → L[j]? = some l → Least x fn l) (hU : ∀ b, U b → W.heap.size ≤ b ∧ b < wr.heap.size) (hv : ∀ b, v.ownBlock = some b → ¬ U b) (hc : checkN x = 0)
    (hf : x.funcs[k]? = some fn) (hl : Least x fn l) (h6 : Below wr.heap.size wr w6) (hU6 : ∀ b, U6 b → wr.heap.size ≤ b ∧ b < w6.heap.size) (hR : (rowU U6).R (fun b => wr.heap.size ≤ b ∧ b < w6.heap.size) w6 [.slice A l.length c] l) :
    Owns (rowU fun b => U b ∨ U6 b) 45 W.heap.size (w6.alloc (.cells #[.slice A l.length c] 45)) v L ∧ (rowU fun b => U b ∨ U6 b).R (fun b => W.heap.size ≤ b ∧ b < (w6.alloc (.cells #[.slice A l.length c] 45)).heap.size ∧ v.ownBlock ≠ some b) (w6.alloc (.cells #[.slice A l.length c] 45)) [.slice A l.length c] l ∧
      ∀ v' w7, Owns (rowU fun b => U b ∨ U6 b) 45 W.heap.size w7 v' (L ++ [l]) → (w6.alloc (.cells #[.slice A l.length c] 45)).grownBy w7 v.ownBlock → (v'.ownBlock = v.ownBlock ∨ v'.ownBlock = some (w6.heap.size + 1)) → UptoF x W (k + 1) v' w7 := by
  have hs := hb.size
  have hs6 := h6.size
  have hpos : ∀ {fn : Fn} {l : List Shape}, fn ∈ x.funcs → Least x fn l → 0 < l.length := fun hm hl => by
    have := (fitB_iff.1 (checkN_fit hc)).funcs _ hm
    simp only [fnOk, Bool.and_eq_true, witB_iff] at this
    rw [hl.len]
    omega
  have hpL : ∀ y ∈ L, 0 < y.length := fun y hy => by
    obtain ⟨j, hj⟩ := List.mem_iff_getElem?.1 hy
    have hjl := (List.getElem?_eq_some_iff.1 hj).1
    have hkl := (List.getElem?_eq_some_iff.1 hf).1
    have hfj : x.funcs[j]? = some (x.funcs[j]'(by omega)) := List.getElem?_eq_getElem _
    exact hpos (List.getElem_mem _) (hle j _ y hfj hj)
  have hal : Below w6.heap.size w6 (w6.alloc (.cells #[.slice A l.length c] 45)) := below_new _ _
  refine ⟨?_, ?_, fun v' w7 hO7 hg hv' => ⟨?_, _, _, hO7, by simp [hlen], fun j fn' l' hf' hl' => ?_, fun b hu => ?_, fun b hb7 hu => ?_⟩⟩
  · refine ((Owns.turn (L' := rowU fun b => U b ∨ U6 b) hO rfl fun cs y hy hr => rowU_iff (U' := fun b => U b ∨ U6 b) hr (fun b hb2 => ⟨fun h => .inl h, fun h => ?_⟩) (hpL y hy)).below h6).below hal
    rcases h with h | h
    · exact h
    · have := hU6 b h; omega
  · refine (rowU _).wide ((rowU _).keep (rowU_iff (U' := fun b => U b ∨ U6 b) hR (fun b hb2 => ⟨fun h => .inr h, fun h => ?_⟩) (hpos (List.mem_of_getElem? hf) hl)) fun b hb2 => hal.block b hb2.2) fun b hb2 => ⟨by omega, by simp; omega, fun e => by have := hO.lt b e; omega⟩
    rcases h with h | h
    · have := hU b h; omega
    · exact h
  · refine hb.trans ((h6.trans (hal.mono hs6)).mono hs |>.trans ?_)
    exact below_grown (by exact hg) (by simp; omega) fun i hi => (hO.lt i hi).1
  · rcases Nat.lt_or_ge j L.length with hj | hj
    · rw [List.getElem?_append_left hj] at hl'
      exact hle j fn' l' hf' hl'
    · rw [List.getElem?_append_right hj] at hl'
      have e0 : j - L.length = 0 := by
        rcases Nat.eq_zero_or_pos (j - L.length) with h | h
        · exact h
        · rw [List.getElem?_eq_none (by simp; omega)] at hl'
          cases hl'
      rw [e0] at hl'
      simp at hl'
      subst hl'
      obtain rfl : j = k := by omega
      rw [hf] at hf'
      injection hf' with hf'
      subst hf'
      exact hl
  · have := hg.size
    simp at this
    rcases hu with h | h
    · have := hU b h; omega
    · have := hU6 b h; omega
  · rcases hv' with e | e
    · rw [e] at hb7
      rcases hu with h | h
      · exact hv b hb7 h
      · have := hU6 b h
        have := hO.lt b hb7
        omega
    · rw [e] at hb7
      injection hb7 with hb7
      rcases hu with h | h
      · have := hU b h; omega
      · have := hU6 b h; omega

set_option maxRecDepth 100000 in
set_option maxHeartbeats 4000000 in
theorem vcheck_any (cs : List Value) (x : Mod) (w : World) (h : modL.R (· < w.heap.size) w cs x) : Calls Try.prog 6 #[vAgg cs] w (Checked x w) := by
  have TE : Hid (∀ w1, Below w.heap.size w w1 → Calls Try.prog 12 #[vAgg cs] w1 (Errs (checkN x) w1)) := fun w1 hb => check_any cs x w1 (mod_at h hb)
  have TM : Hid (∀ w1, Below w.heap.size w w1 → Calls Try.prog 13 #[vAgg cs] w1 (Tells (mainB x) w1)) := fun w1 hb => main_any cs x w1 (mod_at h hb)
  have TS : Hid (∀ (w1 : World) (j : Nat) (fn : Fn), Below w.heap.size w w1 → checkN x = 0 → x.funcs[j]? = some fn → Calls Try.prog 14 #[vAgg cs, .int .i64 (j : Nat)] w1 (Shaped x fn w1)) := fun w1 j fn hb hc hf => shapes_any cs x j fn w1 (mod_at h hb) hc hf
  obtain ⟨n1, h1⟩ : ∃ n, x.funcs.length = n := ⟨_, rfl⟩
  have HN1 := Lib.hid h1
  obtain ⟨_, _, _, _, _, rfl, ⟨A0, d0, e0, -⟩, ⟨A1, d1, e1, -⟩, ⟨A2, d2, e2, -⟩, ⟨A3, d3, e3, -⟩, ⟨A4, d4, e4, -⟩⟩ := h
  simp only [List.cons.injEq, and_true] at e0 e1 e2 e3 e4
  subst e0 e1 e2 e3 e4
  rw [h1] at TE TM TS ⊢
  generalize x.recs.length = n0 at *
  generalize x.imps.length = n2 at *
  generalize x.ints.length = n3 at *
  generalize x.texts.length = n4 at *
  simp only [vAgg] at TE TM TS ⊢
  clear h1
  go_enter Try.func6, Try.ntmps6
  go_upto_region 1 with (fail)
  refine wp_world fun W hW => ?_
  have HBW : Hid (Below w.heap.size w W) := by show Below _ _ _; rw [hW]; exact below_new w _
  have HBx : Hid (Blk W w.heap.size 37 #[.slice A0 n0 d0, .slice A1 n1 d1, .slice A2 n2 d2, .slice A3 n3 d3, .slice A4 n4 d4]) := by show Blk _ _ _ _; rw [hW]; exact blk_at rfl
  have hsW : w.heap.size < W.heap.size := by rw [hW]; simp
  clear hW
  have HBV : Hid (∀ v, Below W.heap.size W v → C5 w.heap.size (.slice A0 n0 d0) (.slice A1 n1 d1) (.slice A2 n2 d2) (.slice A3 n3 d3) (.slice A4 n4 d4) v) := fun v hb => by
    have hf := blk_below HBx.out hb hsW
    exact ⟨hf.cell 0, hf.cell 1, hf.cell 2, hf.cell 3, hf.cell 4⟩
  obtain ⟨z0, z1, z2, z3, z4⟩ := HBV.out W (Below.refl _ _)
  by_cases hc : checkN x = 0
  rotate_left
  · have hne : (checkN x != 0) = true := by simpa using hc
    have HC := Lib.hid hc
    obtain ⟨cn, hcn⟩ : ∃ cn, checkN x = cn := ⟨_, rfl⟩
    rw [hcn] at TE hne
    have HCN := Lib.hid hcn
    clear hc hcn
    go_wp2_with (first
      | (go_at_call 12
         refine (TE.out _ HBW.out).mono ?_
         rintro e w1 ⟨rfl, hb1⟩
         have HB1 := Lib.hid hb1
         clear hb1))
    (try simp only [Exit.inBlock, Exit.then]); refine bodyPost_ret (results_tmp4 rfl _ _ _) rfl ?_
    exact ⟨HBW.out.trans (HB1.out.mono HBW.out.size), .inl ⟨HC.out, by rw [HCN.out]; rfl⟩⟩
  have HC := Lib.hid hc
  rw [hc] at TE
  have hn8 : n1 ≤ 8 := by have := (fitB_iff.1 (checkN_fit hc)).f8; rw [HN1.out] at this; omega
  clear hc
  cases hmn : mainB x
  · have HMn := Lib.hid hmn
    rw [hmn] at TM
    clear hmn
    go_wp2_with (first
      | (go_at_call 12
         refine (TE.out _ HBW.out).mono ?_
         rintro e w1 ⟨rfl, hb1⟩
         have HB1 := Lib.hid hb1
         obtain ⟨y0, y1, y2, y3, y4⟩ := HBV.out w1 hb1
         clear hb1 z0 z1 z2 z3 z4)
      | (go_at_call 13
         refine (TM.out _ (HBW.out.trans (HB1.out.mono HBW.out.size))).mono ?_
         rintro e w2 ⟨rfl, hb2⟩
         have HB2 := Lib.hid (HB1.out.trans (hb2.mono HB1.out.size))
         clear hb2))
    (try simp only [Exit.inBlock, Exit.then]); refine bodyPost_ret (results_tmp4 rfl _ _ _) rfl ?_
    exact ⟨HBW.out.trans (HB2.out.mono HBW.out.size), .inr (.inl ⟨HC.out, HMn.out, rfl⟩)⟩
  have HMn := Lib.hid hmn
  rw [hmn] at TM
  clear hmn
  go_wp2_with (first
    | (go_at_call 12
       refine (TE.out _ HBW.out).mono ?_
       rintro e w1 ⟨rfl, hb1⟩
       have HB1 := Lib.hid hb1
       obtain ⟨y0, y1, y2, y3, y4⟩ := HBV.out w1 hb1
       clear hb1 z0 z1 z2 z3 z4)
    | (go_at_call 13
       refine (TM.out _ (HBW.out.trans (HB1.out.mono HBW.out.size))).mono ?_
       rintro e w2 ⟨rfl, hb2⟩
       have HB2 := Lib.hid (HB1.out.trans (hb2.mono HB1.out.size))
       obtain ⟨z0, z1, z2, z3, z4⟩ := HBV.out w2 HB2.out
       clear hb2 y0 y1 y2 y3 y4))
  have HU0 : Hid (UptoF x W 0 (.slice none 0 0) w2) := ⟨HB2.out, fun _ => False, [], Owns.nil _ _ _ _, rfl, fun j fn l _ h => (by simp at h), fun b h => h.elim, fun b h => (by cases h)⟩
  clear TE TM HB1 HB2 z0 z1 z2 z3 z4
  go_loopw [2, 21] (fun v i wr => ∃ k : Nat, k ≤ n1 ∧ i = .int .i64 (k : Nat) ∧ UptoF x W k v wr) (fun _ i _ => n1 - (intOf i).toNat)
  case atStart => exact ⟨0, Nat.zero_le _, rfl, HU0.out⟩
  case round =>
    obtain ⟨k, hk, rfl, hbW, U, L, hO, hLk, hle, hU, hv⟩ := hrel
    clear HU0
    have HBk := Lib.hid hbW
    have HO := Lib.hid hO
    have HLk := Lib.hid hLk
    have HLe := Lib.hid hle
    have HU := Lib.hid hU
    have HV := Lib.hid hv
    clear hbW hO hLk hle hU hv
    by_cases hlt : k < n1
    · obtain ⟨fn, hf⟩ : ∃ fn, x.funcs[k]? = some fn := ⟨x.funcs[k]'(by rw [HN1.out]; exact hlt), List.getElem?_eq_getElem _⟩
      have HF := Lib.hid hf
      have hsk := HBk.out.size
      have SH := Lib.hid (TS.out _ k fn (HBW.out.trans (HBk.out.mono HBW.out.size)) HC.out hf)
      obtain ⟨z0, z1, z2, z3, z4⟩ := HBV.out _ HBk.out
      clear hf
      go_wp2_with fail
      refine SH.out.mono ?_
      intro e w6 hsh
      obtain ⟨hb6, ⟨U6, l, A6, c6, rfl, hl, hU6, hR6⟩ | ⟨pc, hpc, rfl, hne⟩⟩ := shapes_row hsh
      · have HB6 := Lib.hid hb6
        have ST := Lib.hid (UptoF.step HO.out HBk.out HLk.out HLe.out HU.out HV.out HC.out HF.out hl hb6 hU6 hR6)
        have hs6 := hb6.size
        clear hsh hb6 hl hU6 hR6
        go_wp2_with (first
          | (at_builtin
             refine walk_append_el2 (rowU fun b => U b ∨ U6 b) _ rfl (.tmp 35) (.tmp 37) 38 45 rfl (.slice none 0 0) 24 Try.underlying38 row_info rfl Nat.one_pos (by decide) W.heap.size u2 L rfl ST.out.1 ⟨w6.heap.size, 0, none⟩ 1 rfl [.slice A6 l.length c6] l (cell_new w6 45 [.slice A6 l.length c6]) ST.out.2.1 (by rw [HLk.out]; omega) (by simp; omega) ?_
             intro v2 w7 hown2 hg2 hv2
             have HO2 := Lib.hid (ST.out.2.2 v2 w7 hown2 hg2 (by simpa using hv2))
             clear hown2 hg2 hv2))
        exact ⟨⟨k + 1, by omega, by simp, HO2.out⟩, by simp [intOf]; omega⟩
      · have HB6 := Lib.hid hb6
        have HP6 := Lib.hid hpc
        have HNe := Lib.hid hne
        clear hsh hb6 hpc hne
        go_wp2_with fail
        (try simp only [Exit.inBlock, Exit.then]); refine bodyPost_ret (results_tmp4 rfl _ _ _) rfl ?_
        exact ⟨HBW.out.trans ((HBk.out.trans (HB6.out.mono hsk)).mono HBW.out.size), .inr (.inr (.inl ⟨HC.out, HMn.out, ⟨fn, List.mem_of_getElem? HF.out, HNe.out⟩, k, pc, fn, HF.out, HP6.out, rfl⟩))⟩
    · obtain rfl : k = n1 := by omega
      have hsl := HO.out.slice
      have hsl2 := hsl
      obtain ⟨A, c, e, -⟩ := hsl2
      simp only [List.cons.injEq, and_true] at e
      subst e
      have HSl := Lib.hid hsl
      clear hsl
      go_wp2_with fail
      (try simp only [Exit.inBlock, Exit.then]); refine bodyPost_ret (results_tmp4 rfl _ _ _) rfl ?_
      refine ⟨HBW.out.trans (HBk.out.mono HBW.out.size), .inr (.inr (.inr ⟨HC.out, HMn.out, U, L, A, c, ⟨by rw [HLk.out, HN1.out], HLe.out⟩, rfl, (slL (rowU U)).wide HSl.out fun b hb => by omega, fun a ha => HV.out a.block (by rw [ha]; rfl), fun b hb => by have := HU.out b hb; omega⟩))⟩
end Go.Proofs.Ytpjanfkliaaflaa
namespace Go.Proofs.Ytpjanfkliaaflaa
open Go.RowKit

theorem LeastM.never {m : Mod} {L : List (List Shape)} (h : LeastM m L) : ¬ NeverM m := h.right.never
theorem checked_least {x : Mod} {w w' : World} {e : Ending} {L : List (List Shape)} (h : Checked x w e w') (hc : checkN x = 0) (hm : mainB x = true) (hL : LeastM x L) : Below w.heap.size w w' ∧ ∃ U A c, e = .returned (.tuple #[.slice A L.length c, .int .i64 0, .int .i64 0, .int .i64 0]) ∧ (slL (rowU U)).R (fun b => w.heap.size ≤ b ∧ b < w'.heap.size) w' [.slice A L.length c] L ∧ (∀ a, A = some a → ¬ U a.block) ∧ ∀ b, U b → w.heap.size ≤ b := by
  obtain ⟨hb, ⟨h1, -⟩ | ⟨-, h1, -⟩ | ⟨-, -, h1, -⟩ | ⟨-, -, U, L2, A, c, hL2, rfl, h3, h4, h5⟩⟩ := h
  · exact absurd hc h1
  · rw [hm] at h1; cases h1
  · exact absurd h1 hL.never
  · obtain rfl := hL.same hL2
    exact ⟨hb, U, A, c, rfl, h3, h4, h5⟩
theorem checked_never {x : Mod} {w w' : World} {e : Ending} (h : Checked x w e w') (hc : checkN x = 0) (hm : mainB x = true) (hN : NeverM x) : Below w.heap.size w w' ∧ ∃ (f pc : Nat) (fn : Fn), x.funcs[f]? = some fn ∧ pc < fn.code.length ∧ e = .returned (.tuple #[.slice none 0 0, .int .i64 (f : Int), .int .i64 (pc : Int), .int .i64 4]) := by
  obtain ⟨hb, ⟨h1, -⟩ | ⟨-, h1, -⟩ | ⟨-, -, -, f, pc, fn, h1⟩ | ⟨-, -, U, L2, A, c, hL2, -⟩⟩ := h
  · exact absurd hc h1
  · rw [hm] at h1; cases h1
  · exact ⟨hb, f, pc, fn, h1⟩
  · exact absurd hN hL2.never
theorem leastM_one {m : Mod} {fn : Fn} {l : List Shape} (hf : m.funcs = [fn]) (h : Least m fn l) : LeastM m [l] := by
  refine ⟨by rw [hf]; rfl, fun j f2 l2 h1 h2 => ?_⟩
  rw [hf] at h1
  match j, h1, h2 with
  | 0, h1, h2 => simp at h1 h2; subst h1 h2; exact h
  | j + 1, h1, h2 => simp at h1
def m9 : Mod := ⟨[], [⟨[], (1, 0), [], [(0, 0, 0), (26, 0, 0)]⟩], [], [7], []⟩
def l9 : List Shape := [(true, []), (true, [(1, 0)])]
theorem m9_check : checkN m9 = 0 := by decide
theorem m9_main : mainB m9 = true := by decide
theorem m9_least : LeastM m9 [l9] := leastM_one (fn := ⟨[], (1, 0), [], [(0, 0, 0), (26, 0, 0)]⟩) rfl (reckon_least m9_check (by simp [m9]) (by decide) [0, 1] l9 (by decide) (by decide) (by decide))

set_option maxRecDepth 100000 in
set_option maxHeartbeats 4000000 in
theorem answers9 (w : World) : Calls Try.prog 7 #[] w fun e w' => e = .returned (.bool true) ∧ Below w.heap.size w w' := by
  go_enter Try.func7, Try.ntmps7
  go_wp2_with fail
  refine calls_world fun W hW => ?_
  have b1 : Blk W (w.heap.size + 1) 27 #[.int .u64 7] := by rw [hW]; repeat (first | (refine blk_at ?_; simp; done) | refine blk_keep ?_)
  have b2 : Blk W (w.heap.size + 1 + 1) 25 #[.int .i64 0, .int .i64 0, .int .i64 0, .int .i64 26, .int .i64 0, .int .i64 0] := by rw [hW]; repeat (first | (refine blk_at ?_; simp; done) | refine blk_keep ?_)
  have b3 : Blk W (w.heap.size + 1 + 1 + 1) 31 #[.slice none 0 0, .int .i64 1, .int .i64 0, .slice none 0 0, .slice (some ⟨w.heap.size + 1 + 1, 0, none⟩) 2 2] := by rw [hW]; repeat (first | (refine blk_at ?_; simp; done) | refine blk_keep ?_)
  have i64 : ∀ k : Int, 0 ≤ k → k ≤ 1000 → I64 k := fun k h1 h2 => ⟨by omega, by omega⟩
  have HL : Hid (modL.R (· < W.heap.size) W [.slice none 0 0, .slice (some ⟨w.heap.size + 1 + 1 + 1, 0, none⟩) 1 1, .slice none 0 0, .slice (some ⟨w.heap.size + 1, 0, none⟩) 1 1, .slice none 0 0] m9) :=
    ⟨_, _, _, _, _, rfl, nil_sl _ _ _, one_sl b3 b3.lt ⟨_, _, _, rfl, i64 _ (by decide) (by decide), i64 _ (by decide) (by decide), nil_sl _ _ _, nil_sl _ _ _, two_sl (L := insL) (x := (0, 0, 0)) (y := (26, 0, 0)) (c0 := [.int .i64 0, .int .i64 0, .int .i64 0]) (c1 := [.int .i64 26, .int .i64 0, .int .i64 0]) b2 b2.lt rfl ⟨rfl, i64 _ (by decide) (by decide), i64 _ (by decide) (by decide), i64 _ (by decide) (by decide)⟩ ⟨rfl, i64 _ (by decide) (by decide), i64 _ (by decide) (by decide), i64 _ (by decide) (by decide)⟩⟩, nil_sl _ _ _, one_sl (L := numL) (x := 7) b1 b1.lt ⟨rfl, by decide⟩, nil_sl _ _ _⟩
  have HB0 : Hid (Below w.heap.size w W) := by show Below _ _ _; rw [hW]; exact ((((below_new w _).alloc (by simp) _).alloc (by simp <;> omega) _).alloc (by simp <;> omega) _).alloc (by simp <;> omega) _
  clear hW b1 b2 b3
  refine (vcheck_any _ m9 W HL.out).mono ?_
  intro e w1 hch
  obtain ⟨hb1, U, A, c, rfl, hsl, -, -⟩ := checked_least hch m9_check m9_main m9_least
  have HB1 := Lib.hid (HB0.out.trans (hb1.mono HB0.out.size))
  obtain ⟨A', c', e1, -, -, hsq⟩ := hsl
  simp only [List.cons.injEq, Value.slice.injEq, and_true, true_and] at e1
  obtain ⟨rfl, rfl⟩ := e1
  obtain ⟨a, D, d, rfl, -, hc0, hle, hcm, hsq2⟩ := row_at (hsq.turn (L' := rowL) rfl (fun _ _ h => h) fun cs x _ h => rowU_plain h) (k := 0) (l := l9) rfl
  obtain ⟨a2, G, g, rfl, -, x0, x1, -, -, -, -⟩ := shp_at hsq2 (k := 1) (x := (true, [(1, 0)])) rfl
  clear hch hb1 hsq hsq2
  simp only [l9, List.length_cons, List.length_nil, Nat.zero_add, Nat.one_mul] at hc0 hle x0 x1 ⊢
  rw [show a.add 0 = a by simp [Addr.add]] at hc0
  rw [show a2.add 2 = ⟨a2.block, a2.off + 2, none⟩ by simp [Addr.add]] at x0 x1
  simp only [Nat.add_assoc] at hc0 x0 x1 ⊢
  go_wp2_with fail
  go_ret
  exact ⟨rfl, HB1.out⟩
end Go.Proofs.Ytpjanfkliaaflaa
