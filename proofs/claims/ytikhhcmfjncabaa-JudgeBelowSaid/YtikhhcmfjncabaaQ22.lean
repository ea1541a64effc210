/-
  Jr Jm Jan
-/
import Derived.Test.YtikhhcmfjncabaaQ08
import Derived.Test.YtikhhcmfjncabaaQ09
import Derived.Test.YtikhhcmfjncabaaQ21
set_option linter.unusedSimpArgs false
set_option linter.unusedVariables false
namespace Go.Proofs.Ytikhhcmfjncabaa
open Go.RowKit

set_option maxRecDepth 100000 in
set_option maxHeartbeats 8000000 in
theorem jright_any (cs : List Value) (x : Mod) (A : Option Addr) (n c : Nat) (L : List (List Shape)) (w : World) (h : modL.R (· < w.heap.size) w cs x) (hl : L.length = n) (hL : Sq rowL (· < w.heap.size) w A L) (hnm : n ≤ 9223372036854775807) : Calls Try.prog 8 #[vAgg cs, .slice A n c] w (RRight x L w) := by
  have TM : Hid (∀ w1, Below w.heap.size w w1 → Calls Try.prog 12 #[vAgg cs] w1 (Tells (mainB x) w1)) := fun w1 hb => main_any cs x w1 (mod_at h hb)
  have MD : Hid (∀ w1, Below w.heap.size w w1 → modL.R (· < w1.heap.size) w1 cs x) := fun w1 hb => mod_at h hb
  obtain ⟨n1, h1⟩ : ∃ n, x.funcs.length = n := ⟨_, rfl⟩
  have HN1 := Lib.hid h1
  have HLl := Lib.hid hl
  have HL : Hid (∀ v, Below w.heap.size w v → Sq rowL (· < v.heap.size) v A L) := fun v hb => sq_low hL hb
  obtain ⟨_, _, _, _, _, rfl, ⟨A0, d0, e0, -⟩, ⟨A1, d1, e1, l1, m1, s1⟩, ⟨A2, d2, e2, -⟩, ⟨A3, d3, e3, -⟩, ⟨A4, d4, e4, -⟩⟩ := h
  simp only [List.cons.injEq, and_true] at e0 e1 e2 e3 e4
  subst e0 e1 e2 e3 e4
  have HFn : Hid (∀ (k : Nat) (fn : Fn), x.funcs[k]? = some fn → ∃ a P2 c2, A1 = some a ∧ ∀ v, Below w.heap.size w v → v.cell? ⟨(a.add (k * 5)).block, (a.add (k * 5)).off + 4, none⟩ = some (.slice P2 fn.code.length c2)) := fun k fn hf => by
    obtain ⟨a, ccs, ea, hab, hcl, hR⟩ := s1.at hf
    obtain ⟨p0, p1, p2, rfl, -, -, ⟨P0, c0, e4, -⟩, ⟨P1, c1, e5, -⟩, ⟨P2, c2, e6, -⟩⟩ := hR
    simp only [List.cons.injEq, and_true] at e4 e5 e6
    subst e4 e5 e6
    refine ⟨a, P2, c2, ea, fun v hb => ?_⟩
    have k4 := (hb.cell (p := a.add (k * 5 + 4)) (by rw [addBlock]; exact hab)).trans (hcl 4 _ rfl)
    rw [next_cell a (k * 5) 4 (by omega)] at k4
    exact k4
  rw [h1] at TM MD ⊢
  generalize x.recs.length = n0 at *
  generalize x.imps.length = n2 at *
  generalize x.ints.length = n3 at *
  generalize x.texts.length = n4 at *
  simp only [vAgg] at TM MD ⊢
  clear h1 hl hL s1 l1 m1
  go_enter Try.func8, Try.ntmps8
  go_upto_region 1 with (fail)
  refine wp_world fun W hW => ?_
  have HBW : Hid (Below w.heap.size w W) := by show Below _ _ _; rw [hW]; exact below_new w _
  have HBx : Hid (Blk W w.heap.size 43 #[.slice A0 n0 d0, .slice A1 n1 d1, .slice A2 n2 d2, .slice A3 n3 d3, .slice A4 n4 d4]) := by show Blk _ _ _ _; rw [hW]; exact blk_at rfl
  have hsW : w.heap.size < W.heap.size := by rw [hW]; simp
  clear hW
  have HBV : Hid (∀ v, Below W.heap.size W v → v.cell? ⟨w.heap.size, 0, none⟩ = some (.slice A0 n0 d0) ∧ v.cell? ⟨w.heap.size, 1, none⟩ = some (.slice A1 n1 d1) ∧ v.cell? ⟨w.heap.size, 2, none⟩ = some (.slice A2 n2 d2) ∧ v.cell? ⟨w.heap.size, 3, none⟩ = some (.slice A3 n3 d3) ∧ v.cell? ⟨w.heap.size, 4, none⟩ = some (.slice A4 n4 d4)) := fun v hb => by
    have hf := blk_below HBx.out hb hsW
    exact ⟨hf.cell 0, hf.cell 1, hf.cell 2, hf.cell 3, hf.cell 4⟩
  have HBB : Hid (∀ v, Below W.heap.size W v → Below w.heap.size w v) := fun v hb => HBW.out.trans (hb.mono HBW.out.size)
  obtain ⟨z0, z1, z2, z3, z4⟩ := HBV.out W (Below.refl _ _)
  cases hmn : mainB x
  · have HMn := Lib.hid hmn
    rw [hmn] at TM
    clear hmn
    go_wp2_with (first
      | (go_at_call 12
         refine (TM.out _ HBW.out).mono ?_
         rintro e w1 ⟨rfl, hb1⟩
         have HB1 := Lib.hid hb1
         clear hb1))
    go_ret
    exact rright_no (HBB.out _ HB1.out) fun h1 _ => by rw [HMn.out] at h1; cases h1
  have HMn := Lib.hid hmn
  rw [hmn] at TM
  have hc : checkN x = 0 := by
    rcases Decidable.em (checkN x = 0) with h | h
    · exact h
    · rw [mainB_not h] at hmn; cases hmn
  have HC := Lib.hid hc
  have hn8 : n1 ≤ 8 := by have := (fitB_iff.1 (checkN_fit hc)).f8; rw [HN1.out] at this; omega
  clear hmn hc
  by_cases hnn : n = n1
  rotate_left
  · have hne : ¬ (n : Int) = (n1 : Int) := by omega
    have HNe := Lib.hid hnn
    clear hnn
    go_wp2_with (first
      | (go_at_call 12
         refine (TM.out _ HBW.out).mono ?_
         rintro e w1 ⟨rfl, hb1⟩
         have HB1 := Lib.hid hb1
         obtain ⟨y0, y1, y2, y3, y4⟩ := HBV.out w1 hb1
         clear hb1 z0 z1 z2 z3 z4))
    go_ret
    exact rright_no (HBB.out _ HB1.out) fun _ h2 => HNe.out (by rw [← HLl.out, h2.len, HN1.out])
  subst hnn
  go_wp2_with (first
    | (go_at_call 12
       refine (TM.out _ HBW.out).mono ?_
       rintro e w1 ⟨rfl, hb1⟩
       have HB1 := Lib.hid hb1
       obtain ⟨y0, y1, y2, y3, y4⟩ := HBV.out w1 hb1
       clear hb1 z0 z1 z2 z3 z4))
  clear y0 y1 y2 y3 y4
  go_loopw [23] (fun i wr => ∃ k : Nat, k ≤ n ∧ i = .int .i64 (k : Nat) ∧ Below W.heap.size W wr ∧ ∀ (j : Nat) (fn : Fn) (l : List Shape), j < k → x.funcs[j]? = some fn → L[j]? = some l → l.length = fn.code.length ∧ (∀ y ∈ l, y.2.length ≤ 8) ∧ RightF x fn (toS l)) (fun i _ => n - (intOf i).toNat)
  case atStart => exact ⟨0, Nat.zero_le _, rfl, HB1.out, fun j fn l h => absurd h (by omega)⟩
  case round =>
    obtain ⟨wf, eW⟩ : ∃ wf, wf = wr := ⟨_, rfl⟩
    subst eW
    obtain ⟨k, hk, rfl, hbf, hall⟩ := hrel
    have HBf := Lib.hid hbf
    have HAll := Lib.hid hall
    clear HB1 hbf hall
    by_cases hlt : k < n
    · obtain ⟨fn, hf⟩ : ∃ fn, x.funcs[k]? = some fn := ⟨x.funcs[k]'(by rw [HN1.out]; exact hlt), List.getElem?_eq_getElem _⟩
      obtain ⟨l, hx⟩ : ∃ l, L[k]? = some l := ⟨L[k]'(by rw [HLl.out]; exact hlt), List.getElem?_eq_getElem _⟩
      have hmem := List.mem_of_getElem? hf
      have hcode0 : 0 < fn.code.length := by
        have := (fitB_iff.1 (checkN_fit HC.out)).funcs fn hmem
        simp only [fnOk, Bool.and_eq_true, witB_iff] at this
        omega
      obtain ⟨-, -, hcode, -⟩ := sane_fn HC.out hmem
      obtain ⟨a, P2, c2, rfl, hcl⟩ := HFn.out k fn hf
      have z5 := hcl _ (HBB.out _ HBf.out)
      obtain ⟨aL, D, dl, rfl, -, hr0, hrle, hrcm, -⟩ := row_at (HL.out _ (HBB.out _ HBf.out)) hx
      have HSl : Hid (∀ v, Below w.heap.size w v → Sq shpL (· < v.heap.size) v D l) := fun v hb => by
        obtain ⟨aL', D', dl', e, -, hr1, -, -, hs⟩ := row_at (HL.out v hb) hx
        injection e with e
        subst e
        obtain ⟨aL2, D2, dl2, e2, hb2, hr2, -, -, hs2⟩ := row_at (HL.out w (Below.refl _ _)) hx
        injection e2 with e2
        subst e2
        have hq := (hb.cell (p := aL.add k) (by rw [addBlock]; exact hb2)).trans hr2
        have hq2 := ((HBB.out _ HBf.out).cell (p := aL.add k) (by rw [addBlock]; exact hb2)).trans hr2
        rw [hr0] at hq2
        rw [hr1] at hq
        simp only [Option.some.injEq, Value.slice.injEq, true_and] at hq hq2
        rw [← hq2.1] at hq
        rw [← hq.1]
        exact hs
      have HF := Lib.hid hf
      have HX := Lib.hid hx
      have HMem := Lib.hid hmem
      obtain ⟨uc, huc⟩ : ∃ uc, fn.code.length = uc := ⟨_, rfl⟩
      obtain ⟨ul, hul⟩ : ∃ ul, l.length = ul := ⟨_, rfl⟩
      have HUC := Lib.hid huc
      have HUL := Lib.hid hul
      rw [huc] at z5 hcode hcode0
      rw [hul] at hr0 hrle
      obtain ⟨y0, y1, y2, y3, y4⟩ := HBV.out _ HBf.out
      have k0 : (0 : Int) ≤ (k : Int) := by omega
      have k1 : (k : Int) < (n : Int) := by omega
      have hrcm' : dl ≤ 9223372036854775807 := by unfold maxLen at hrcm; omega
      have hsf := HBf.out.size
      clear hf hx hmem hcl huc hul hrcm
      by_cases hlu : ul = uc
      rotate_left
      · have hne : ¬ (ul : Int) = (uc : Int) := by omega
        have HNe := Lib.hid hlu
        clear hlu
        go_wp2_with fail
        go_ret
        exact rright_no (HBB.out _ HBf.out) fun _ h2 => HNe.out (by rw [← HUL.out, ← HUC.out]; exact (h2.at_ k fn l HF.out HX.out).1)
      subst hlu
      have CT : Hid (∀ w1, Below w.heap.size w w1 → Calls Try.prog 13 #[.slice D ul dl, .func (.func 14) #[] #[]] w1 (Tells (l.any highB) w1)) := fun w1 hb => contains_hgh D ul dl l highB w1 HUL.out (HSl.out w1 hb) (by omega) fun w2 cs y _ _ hr => high_any y w2 cs hr
      cases hhi : l.any highB
      rotate_left
      · rw [hhi] at CT
        have HHi := Lib.hid hhi
        clear hhi
        go_wp2_with (first
          | (go_at_call 13
             refine (CT.out _ (HBB.out _ HBf.out)).mono ?_
             rintro e w7 ⟨rfl, hb7⟩
             have HB7 := Lib.hid (HBf.out.trans (hb7.mono hsf))
             clear hb7))
        go_ret
        refine rright_no (HBB.out _ HB7.out) fun _ h2 => ?_
        obtain ⟨y, hy, hy2⟩ := List.any_eq_true.1 HHi.out
        have := (h2.at_ k fn l HF.out HX.out).2.1 y hy
        simp only [highB, decide_eq_true_eq] at hy2
        omega
      rw [hhi] at CT
      have H8 : Hid (∀ y ∈ l, y.2.length ≤ 8) := fun y hy => by
        have := List.any_eq_false.1 hhi y hy
        simp only [highB, decide_eq_true_eq] at this
        omega
      obtain ⟨⟨b0, s0⟩, hx0⟩ : ∃ y, l[0]? = some y := ⟨l[0]'(by rw [HUL.out]; exact hcode0), List.getElem?_eq_getElem _⟩
      obtain ⟨m0, hm0⟩ : ∃ m0, s0.length = m0 := ⟨_, rfl⟩
      obtain ⟨aD, G0, g0, rfl, hab0, q0, q1, -, -, -, -⟩ := shp_at (HSl.out w (Below.refl _ _)) hx0
      simp only [Nat.zero_mul, hm0] at q0 q1
      rw [show aD.add 0 = aD by simp [Addr.add]] at q0 q1
      have HQ : Hid (∀ v, Below w.heap.size w v → v.cell? aD = some (.bool b0) ∧ v.cell? ⟨aD.block, aD.off + 1, none⟩ = some (.slice G0 m0 g0)) := fun v hb => ⟨(hb.cell (p := aD) hab0).trans q0, (hb.cell (p := ⟨aD.block, aD.off + 1, none⟩) hab0).trans q1⟩
      clear q0 q1
      have HX0 := Lib.hid hx0
      have HM0 := Lib.hid hm0
      have hrp : (0 : Int) < (ul : Int) := by omega
      clear hx0 hhi hm0
      go_upto_region 8 with (first
        | (go_at_call 13
           refine (CT.out _ (HBB.out _ HBf.out)).mono ?_
           rintro e w7 ⟨rfl, hb7⟩
           have HB7 := Lib.hid (HBf.out.trans (hb7.mono hsf))
           obtain ⟨q0, q1⟩ := HQ.out w7 (HBB.out _ HB7.out)
           clear hb7))
      go_upto_region 9 with (fail)
      refine wp_world fun W8 hW8 => ?_
      have HB8 : Hid (Below W.heap.size W W8) := by show Below _ _ _; rw [hW8]; exact HB7.out.alloc HB7.out.size _
      have hq8 : W8.cell? ⟨w7.heap.size, 0, none⟩ = some (.bool b0) ∧ W8.cell? ⟨w7.heap.size, 1, none⟩ = some (.slice G0 m0 g0) := by rw [hW8]; simp [go_sem]
      have hs8 := HB8.out.size
      clear hW8 q0 q1 z5 hr0 y0 y1 y2 y3 y4
      obtain ⟨q0, q1⟩ := hq8
      cases b0
      · go_wp2_with fail
        go_ret
        refine rright_no (HBB.out _ HB8.out) fun _ h2 => ?_
        have := (h2.at_ k fn l HF.out HX.out).2.2.zero
        rw [toS_no HX0.out] at this
        cases this
      by_cases h00 : m0 = 0
      rotate_left
      · have hgt : (0 : Int) < (m0 : Int) := by omega
        have HNe := Lib.hid h00
        clear h00
        go_wp2_with fail
        go_ret
        refine rright_no (HBB.out _ HB8.out) fun _ h2 => ?_
        have := (h2.at_ k fn l HF.out HX.out).2.2.zero
        rw [toS_yes HX0.out] at this
        injection this with this
        exact HNe.out (by rw [← HM0.out, this]; rfl)
      have HZ0 : Hid (toS l 0 = some []) := by
        show _ = _
        have hs0 : s0 = [] := List.eq_nil_of_length_eq_zero (by rw [HM0.out]; exact h00)
        rw [toS_yes HX0.out, hs0]
      subst h00
      obtain ⟨y0, y1, y2, y3, y4⟩ := HBV.out _ HB8.out
      go_wp2_with (first
        | (go_at_call 15
           refine (wrongIn_any _ _ _ _ _ _ _ _ _ _).mono ?_
           rintro e w9 ⟨rfl, hb9, hs9, hM9, hF9, hS9⟩
           have HB9 := Lib.hid (HB8.out.trans (hb9.mono hs8))
           have HM9 := Lib.hid hM9
           have HF9 := Lib.hid hF9
           have HS9 := Lib.hid hS9
           clear hb9 hM9 hF9 hS9))
      clear q0 q1 y0 y1 y2 y3 y4
      have hs9' := HB9.out.size
      go_loopw [60] (fun i wr => ∃ q : Nat, q ≤ ul ∧ i = .int .i64 (q : Nat) ∧ Below w9.heap.size w9 wr ∧ ∀ p, p < q → okF x fn l p = true) (fun i _ => ul - (intOf i).toNat)
      case atStart => exact ⟨0, Nat.zero_le _, rfl, Below.refl _ _, fun p h => absurd h (by omega)⟩
      case round =>
        obtain ⟨wp, eW⟩ : ∃ wp, wp = wr := ⟨_, rfl⟩
        subst eW
        obtain ⟨q, hq, rfl, hbp, hoka⟩ := hrel
        have HBp := Lib.hid hbp
        have HOka := Lib.hid hoka
        have hsp := hbp.size
        have HBWp := Lib.hid (HB9.out.trans (hbp.mono hs9'))
        clear hbp hoka
        by_cases hltq : q < ul
        · have WR : Hid (Calls Try.prog 20 #[.int .i64 (q : Int), .pointer (some ⟨W8.heap.size + 2, 0, none⟩), .pointer (some ⟨W8.heap.size, 0, none⟩), .pointer (some ⟨W8.heap.size + 1, 0, none⟩)] wp (Tells (!okF x fn l q) wp)) :=
            wrong1_any W8.heap.size (W8.heap.size + 1) (W8.heap.size + 2) A0 (some a) A2 A3 A4 (some aD) n0 n n2 n3 n4 d0 d1 d2 d3 d4 ul dl x k q fn l wp (MD.out _ (HBB.out _ HBWp.out)) HC.out HF.out (HM9.out.below HBp.out (by omega)) ((HBp.out.cell (p := ⟨W8.heap.size + 1, 0, none⟩) (by show W8.heap.size + 1 < _; omega)).trans HF9.out) ((HBp.out.cell (p := ⟨W8.heap.size + 2, 0, none⟩) (by show W8.heap.size + 2 < _; omega)).trans HS9.out) HUL.out (by rw [HUL.out, HUC.out]) H8.out (HSl.out _ (HBB.out _ HBWp.out)) hltq
          have k2 : (0 : Int) ≤ (q : Int) := by omega
          have k3 : (q : Int) < (ul : Int) := by omega
          cases hok : okF x fn l q
          · rw [hok] at WR
            have HOk := Lib.hid hok
            clear hok
            go_wp2_with (first
              | (go_at_call 20
                 refine WR.out.mono ?_
                 rintro e w10 ⟨rfl, hb10⟩
                 have HB10 := Lib.hid (HBWp.out.trans (hb10.mono HBWp.out.size))
                 clear hb10))
            go_ret
            refine rright_no (HBB.out _ HB10.out) fun _ h2 => ?_
            have := okF_of ((h2.at_ k fn l HF.out HX.out).2.2.at_ q (by rw [HUC.out]; exact hltq))
            rw [HOk.out] at this
            cases this
          · rw [hok] at WR
            have HOk := Lib.hid hok
            clear hok
            go_wp2_with (first
              | (go_at_call 20
                 refine WR.out.mono ?_
                 rintro e w10 ⟨rfl, hb10⟩
                 have HB10 := Lib.hid (HBp.out.trans (hb10.mono hsp))
                 clear hb10))
            refine ⟨⟨q + 1, by omega, by simp, HB10.out, fun p hp => ?_⟩, by simp [intOf]; omega⟩
            by_cases e : p = q
            · subst e
              exact HOk.out
            · exact HOka.out p (by omega)
        · obtain rfl : q = ul := by omega
          go_wp2_with fail
          refine ⟨⟨k + 1, by omega, by simp, HBWp.out, fun j fn2 l2 hj h1 h2 => ?_⟩, by simp [intOf]; omega⟩
          by_cases e : j = k
          · subst e
            rw [HF.out] at h1
            rw [HX.out] at h2
            injection h1 with h1
            injection h2 with h2
            subst h1 h2
            exact ⟨by rw [HUL.out, HUC.out], H8.out, HZ0.out, fun p hp => okF_ok (HOka.out p (by rw [← HUC.out]; exact hp))⟩
          · exact HAll.out j fn2 l2 (by omega) h1 h2
    · obtain rfl : k = n := by omega
      go_wp2_with fail
      go_ret
      exact ⟨HBB.out _ HBf.out, true, rfl, ⟨fun _ => ⟨HMn.out, by rw [HLl.out, HN1.out], fun j fn l h1 h2 => HAll.out j fn l (by have := (List.getElem?_eq_some_iff.1 h1).1; rw [HN1.out] at this; exact this) h1 h2⟩, fun _ => rfl⟩⟩
theorem rright_tells {g : Nat} {args : Array Value} {x : Mod} {L : List (List Shape)} {w : World} {b : Bool} (h : Calls Try.prog g args w (RRight x L w)) (hb : b = true ↔ mainB x = true ∧ RightM x L) : Calls Try.prog g args w fun e w' => e = .returned (.bool b) ∧ Below w.heap.size w w' := by
  refine h.mono ?_
  rintro e w' ⟨hb1, b', rfl, hi⟩
  have e : b' = b := by
    have h1 := hi.trans hb.symm
    cases b <;> cases b' <;> simp_all
  rw [e]
  exact ⟨rfl, hb1⟩
end Go.Proofs.Ytikhhcmfjncabaa
namespace Go.Proofs.Ytikhhcmfjncabaa
open Go.RowKit

theorem rightM_one {m : Mod} {fn : Fn} {l : List Shape} (hf : m.funcs = [fn]) (hl : l.length = fn.code.length) (h8 : l.all (fun x => decide (x.2.length ≤ 8)) = true) (h0 : l[0]? = some (true, [])) (hk : (List.range fn.code.length).all (okF m fn l) = true) : RightM m [l] := by
  refine ⟨by rw [hf]; rfl, fun j f2 l2 h1 h2 => ?_⟩
  rw [hf] at h1
  match j, h1, h2 with
  | 0, h1, h2 =>
    simp at h1 h2
    subst h1 h2
    exact ⟨hl, fun x hx => by simpa using List.all_eq_true.1 h8 x hx, toS_yes h0, fun p hp => okF_ok (List.all_eq_true.1 hk p (List.mem_range.2 hp))⟩
  | j + 1, h1, h2 => simp at h1
theorem rightM_not {m : Mod} {fn : Fn} {l : List Shape} (p : Nat) (hf : m.funcs = [fn]) (hp : p < fn.code.length) (hk : okF m fn l p = false) : ¬ RightM m [l] := fun h => by
  have h1 : m.funcs[0]? = some fn := by rw [hf]; rfl
  have := okF_of ((h.at_ 0 fn l h1 rfl).2.2.at_ p hp)
  rw [hk] at this
  cases this
theorem rightM_nil {m : Mod} {fn : Fn} (hf : m.funcs = [fn]) : ¬ RightM m [] := fun h => by
  have := h.len
  rw [hf] at this
  cases this
theorem stk_of {S : Nat → Prop} {w : World} {a : Addr} {n c : Nat} {xs : List Typ} (h : (slL typL).R S w [.slice (some a) n c] xs) : stkL.R S w [.slice (some a) n c] xs := by
  obtain ⟨A, c', e, h1, h2, h3⟩ := h
  simp only [List.cons.injEq, Value.slice.injEq, and_true] at e
  obtain ⟨rfl, rfl, rfl⟩ := e
  exact ⟨_, _, rfl, h1, h2, fun h => (by cases h), h3⟩
theorem shp_none (S : Nat → Prop) (w : World) (b : Bool) : shpL.R S w [.bool b, .slice none 0 0] (b, []) := ⟨_, rfl, stk_nil S w⟩
theorem shp_of {S : Nat → Prop} {w : World} {a : Addr} {n c : Nat} {xs : List Typ} {b : Bool} (h : (slL typL).R S w [.slice (some a) n c] xs) : shpL.R S w [.bool b, .slice (some a) n c] (b, xs) := ⟨_, rfl, stk_of h⟩
theorem sq_of_sl {α : Type} {La : Lay α} {S : Nat → Prop} {w : World} {A : Option Addr} {n c : Nat} {xs : List α} (h : (slL La).R S w [.slice A n c] xs) : Sq La S w A xs := by
  obtain ⟨A', c', e, -, -, h3⟩ := h
  simp only [List.cons.injEq, Value.slice.injEq, and_true] at e
  obtain ⟨rfl, -, -⟩ := e
  exact h3
end Go.Proofs.Ytikhhcmfjncabaa
namespace Go.Proofs.Ytikhhcmfjncabaa
open Go.RowKit

def f10 : Fn := ⟨[], (1, 0), [], [(0, 0, 0), (26, 0, 0)]⟩
def m10 : Mod := ⟨[], [f10], [], [7], []⟩
def l10 : List Shape := [(true, []), (true, [(1, 0)])]
theorem m10_main : mainB m10 = true := by decide
theorem m10_right : RightM m10 [l10] := rightM_one (fn := f10) rfl rfl (by decide) rfl (by decide)
set_option maxRecDepth 100000 in
set_option maxHeartbeats 4000000 in
theorem answers10 (w : World) : Calls Try.prog 5 #[] w fun e w' => e = .returned (.bool true) ∧ Below w.heap.size w w' := by
  go_enter Try.func5, Try.ntmps5
  go_upto_region 3 with (fail)
  go_wp2_with fail
  refine calls_world fun W hW => ?_
  have b1 : Blk W (w.heap.size + 1) 34 #[.int .u64 7] := by rw [hW]; repeat (first | (refine blk_at ?_; simp; done) | refine blk_keep ?_)
  have b2 : Blk W (w.heap.size + 1 + 1) 29 #[.int .i64 0, .int .i64 0, .int .i64 0, .int .i64 26, .int .i64 0, .int .i64 0] := by rw [hW]; repeat (first | (refine blk_at ?_; simp; done) | refine blk_keep ?_)
  have b3 : Blk W (w.heap.size + 1 + 1 + 1) 37 #[.slice none 0 0, .int .i64 1, .int .i64 0, .slice none 0 0, .slice (some ⟨w.heap.size + 1 + 1, 0, none⟩) 2 2] := by rw [hW]; repeat (first | (refine blk_at ?_; simp; done) | refine blk_keep ?_)
  have b4 : Blk W (w.heap.size + 1 + 1 + 1 + 1) 43 #[.slice none 0 0, .slice (some ⟨w.heap.size + 1 + 1 + 1, 0, none⟩) 1 1, .slice none 0 0, .slice (some ⟨w.heap.size + 1, 0, none⟩) 1 1, .slice none 0 0] := by rw [hW]; repeat (first | (refine blk_at ?_; simp; done) | refine blk_keep ?_)
  have b5 : Blk W (w.heap.size + 1 + 1 + 1 + 1 + 1) 27 #[.int .i64 1, .int .i64 0] := by rw [hW]; repeat (first | (refine blk_at ?_; simp; done) | refine blk_keep ?_)
  have b6 : Blk W (w.heap.size + 1 + 1 + 1 + 1 + 1 + 1) 32 #[.bool true, .slice none 0 0, .bool true, .slice (some ⟨w.heap.size + 1 + 1 + 1 + 1 + 1, 0, none⟩) 1 1] := by rw [hW]; repeat (first | (refine blk_at ?_; simp; done) | refine blk_keep ?_)
  have b7 : Blk W (w.heap.size + 1 + 1 + 1 + 1 + 1 + 1 + 1) 33 #[.slice (some ⟨w.heap.size + 1 + 1 + 1 + 1 + 1 + 1, 0, none⟩) 2 2] := by rw [hW]; repeat (first | (refine blk_at ?_; simp; done) | refine blk_keep ?_)
  have i64 : ∀ k : Int, 0 ≤ k → k ≤ 1000 → I64 k := fun k h1 h2 => ⟨by omega, by omega⟩
  have HL : Hid (∀ v, Below W.heap.size W v → modL.R (· < v.heap.size) v [.slice none 0 0, .slice (some ⟨w.heap.size + 1 + 1 + 1, 0, none⟩) 1 1, .slice none 0 0, .slice (some ⟨w.heap.size + 1, 0, none⟩) 1 1, .slice none 0 0] m10) := fun v hb => mod_at
    ⟨_, _, _, _, _, rfl, nil_sl _ _ _, one_sl (L := fnL) (x := f10) b3 b3.lt ⟨_, _, _, rfl, i64 1 (by decide) (by decide), i64 0 (by decide) (by decide), nil_sl _ _ _, nil_sl _ _ _, two_sl (L := insL) (x := (0, 0, 0)) (y := (26, 0, 0)) (c0 := [.int .i64 0, .int .i64 0, .int .i64 0]) (c1 := [.int .i64 26, .int .i64 0, .int .i64 0]) b2 b2.lt rfl ⟨rfl, i64 _ (by decide) (by decide), i64 _ (by decide) (by decide), i64 _ (by decide) (by decide)⟩ ⟨rfl, i64 _ (by decide) (by decide), i64 _ (by decide) (by decide), i64 _ (by decide) (by decide)⟩⟩, nil_sl _ _ _, one_sl (L := numL) (x := 7) b1 b1.lt ⟨rfl, by decide⟩, nil_sl _ _ _⟩ hb
  have HR : Hid (Sq rowL (· < W.heap.size) W (some ⟨w.heap.size + 1 + 1 + 1 + 1 + 1 + 1 + 1, 0, none⟩) [l10]) :=
    sq_of_sl (one_sl (L := rowL) (x := l10) b7 b7.lt (two_sl (L := shpL) (x := (true, [])) (y := (true, [(1, 0)])) (c0 := [.bool true, .slice none 0 0]) (c1 := [.bool true, .slice (some ⟨w.heap.size + 1 + 1 + 1 + 1 + 1, 0, none⟩) 1 1]) b6 b6.lt rfl (shp_none _ _ _) (shp_of (one_sl (L := typL) (x := (1, 0)) b5 b5.lt ⟨rfl, i64 _ (by decide) (by decide), i64 _ (by decide) (by decide)⟩))))
  have HB0 : Hid (Below w.heap.size w W) := by show Below _ _ _; rw [hW]; exact (((((((below_new w _).alloc (by simp) _).alloc (by simp <;> omega) _).alloc (by simp <;> omega) _).alloc (by simp <;> omega) _).alloc (by simp <;> omega) _).alloc (by simp <;> omega) _).alloc (by simp <;> omega) _
  have H4 := Lib.hid b4
  have h4 := b4.lt
  clear hW b1 b2 b3 b4 b5 b6 b7
  refine (rright_tells (b := true) (jright_any _ m10 _ 1 1 [l10] W (HL.out W (Below.refl _ _)) rfl HR.out (by omega)) ⟨fun _ => ⟨m10_main, m10_right⟩, fun _ => rfl⟩).mono ?_
  rintro e w1 ⟨rfl, hb1⟩
  have HB1 := Lib.hid hb1
  have hf := blk_below H4.out hb1 h4
  have y0 := hf.cell 0
  have y1 := hf.cell 1
  have y2 := hf.cell 2
  have y3 := hf.cell 3
  have y4 := hf.cell 4
  clear hb1 hf
  go_wp2_with (first
    | (go_at_call 8
       refine (rright_tells (b := false) (jright_any _ m10 none 0 0 [] w1 (HL.out w1 HB1.out) rfl (Sq.nil _ _ _ _) (by omega)) ⟨fun h => (by cases h), fun h => absurd h.2 (rightM_nil (fn := f10) rfl)⟩).mono ?_
       rintro e w2 ⟨rfl, hb2⟩
       have HB2 := Lib.hid (HB1.out.trans (hb2.mono HB1.out.size))
       clear hb2))
  go_ret
  exact ⟨rfl, HB0.out.trans (HB2.out.mono HB0.out.size)⟩
end Go.Proofs.Ytikhhcmfjncabaa
