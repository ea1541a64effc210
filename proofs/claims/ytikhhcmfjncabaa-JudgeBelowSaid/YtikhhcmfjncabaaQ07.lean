/-
  Cat Pwf Plrec Plfn Plimp Plnum Plstr Pjn
-/
import Derived.Test.YtikhhcmfjncabaaQ01
import Derived.Test.YtikhhcmfjncabaaQ02
import Derived.Test.YtikhhcmfjncabaaQ06
import Derived.Lib.AppendZeros
import Derived.Deep.RegionHeld3
set_option linter.unusedSimpArgs false
set_option linter.unusedVariables false
namespace Go.Proofs.Ytikhhcmfjncabaa
open Go.RowKit

theorem own_roomy (w w' : World) (h : w'.heap.size = w.heap.size) (cs : Array Value) (G : Nat) (hG : G ≤ maxLen) (hc : cs.size = G) : (w'.alloc (.cells cs 5)).ownsRow w.heap.size 5 1 (.slice (some ⟨w.heap.size, 0, none⟩) 0 G) 0 (Bs []) := by
  have := World.ownsRow_made (base := w.heap.size) (e := 5) (size := 1) w' cs G (by omega) hG (by omega)
  rw [h] at this
  exact this

theorem walk_append_make (w : World) {ops : Array Oper} {rest : List Oper} {o : Oper} {a : Act} {Q : Exit → Act → World → Prop} (hgd : o.guard = none) (s x : Operand)
    (ho : o.op = .call { callee := .builtin .append, args := #[s, x], argTypes := #[62, 3] })
    (n : Nat) (h0 : 0 < n) (hn : n ≤ 140737488355328) (hs : a.eval s = .slice none 0 0) (hx : a.eval x = .int .i64 (n : Nat))
    (h : ∀ G w', n ≤ G → G ≤ maxLen → w'.ownsRow w.heap.size 5 1 (.slice (some ⟨w.heap.size, 0, none⟩) 0 G) 0 (Bs []) → Below w.heap.size w w' → wpList Try.prog ops Q rest (a.put o.dst (.slice (some ⟨w.heap.size, 0, none⟩) n G)) w') :
    wpList Try.prog ops Q (o :: rest) a w := by
  obtain ⟨i0, hi0, hz0, hz1, hz2⟩ := info_parts u8_info
  refine wpList_plain hgd fun _ hK => ?_
  have hrun := Lib.run_append_nil_zeros (P := Try.prog) w 62 3 o.type 5 i0 (.int .u8 0) .i64 .i64 Try.underlying62 Try.underlying3 hi0 hz0 n h0 (by omega) (by omega) (by rw [hz2]; omega)
  have hG := grownCap_ge w n 0 5
  have hG2 := grownCap_le_maxLen w n 0 5 (by unfold maxLen; omega)
  generalize grownCap w n 0 5 = G at hrun hG hG2
  unfold Oper.wp execOp
  simp only [ho, resolve, invoke, builtin, Sem.run_bind, Sem.run_pure, Result.andThen_ok, List.map_toArray, List.map_cons, List.map_nil, hs, hx, hrun]
  refine hK _ _ (h G _ hG hG2 (own_roomy w w.drew rfl _ G hG2 ?_) ((Below.refl _ w).drew.alloc (Nat.le_refl _) _))
  simp [Builtin.zeroCells, Value.cells]
  omega

set_option maxRecDepth 100000 in
set_option maxHeartbeats 400000 in
theorem grow_nil (n : Nat) (w : World) (hn : n ≤ 140737488355328) :
    Calls Try.prog 91 #[.slice none 0 0, .int .i64 (n : Nat)] w fun e w' => ∃ v, e = .returned v ∧ w'.ownsRow w.heap.size 5 1 v 0 (Bs []) ∧ Below w.heap.size w w' := by
  rcases Nat.eq_zero_or_pos n with h | h
  · subst h
    go_enter Try.func91, Try.ntmps91
    go_wp2
    go_ret
    exact ⟨_, rfl, World.ownsRow_nil _ _ _ _, Below.refl _ _⟩
  · go_enter Try.func91, Try.ntmps91
    go_wp2_with (at_builtin
                 refine walk_append_make _ rfl (.tmp 20) (.tmp 21) rfl n h hn rfl rfl ?_
                 intro G w1 hG hG2 hown hb
                 have hG3 : G ≤ 9223372036854775807 := by unfold maxLen at hG2; omega
                 have HO := Lib.hid hown
                 clear hown hG2)
    go_ret
    exact ⟨_, rfl, HO.out, hb⟩

set_option maxRecDepth 100000 in
set_option maxHeartbeats 1000000 in
theorem concat_any (A : Option Addr) (n c : Nat) (xss : List (List Nat)) (w : World) (hl : xss.length = n) (hR : Rws (· < w.heap.size) w A xss) (hn : xss.flatten.length ≤ 140737488355328) (hn2 : n ≤ 140737488355328) :
    Calls Try.prog 84 #[.slice A n c] w fun e w' => ∃ v, e = .returned v ∧ w'.ownsRow w.heap.size 5 1 v xss.flatten.length (Bs xss.flatten) ∧ Below w.heap.size w w' := by
  have HL := Lib.hid hl
  have HR := Lib.hid hR
  clear hl hR
  go_enter Try.func84, Try.ntmps84
  go_wp2_with fail
  go_loop [3, 11] (fun s i => ∃ k : Nat, k ≤ n ∧ i = .int .i64 (k : Nat) ∧ s = .int .i64 (((xss.take k).flatten.length : Nat) : Int)) (fun _ i => n - (intOf i).toNat)
  case atStart => exact ⟨0, Nat.zero_le _, rfl, by simp⟩
  case round =>
    obtain ⟨k, hk, rfl, rfl⟩ := hrel
    have hle := flat_le xss k
    obtain ⟨m, hm⟩ : ∃ m, (xss.take k).flatten.length = m := ⟨_, rfl⟩
    rw [hm] at hle ⊢
    have HM := Lib.hid hm
    clear hm
    by_cases hlt : k < n
    · obtain ⟨a, B, c2, rfl, _, hcell, _, _⟩ := HR.out.at (k := k) (by rw [HL.out]; exact hlt)
      have HF := Lib.hid (flat_take xss k (by rw [HL.out]; exact hlt))
      have hle2 := flat_le xss (k + 1)
      rw [HF.out, List.length_append, HM.out] at hle2
      obtain ⟨x, hx⟩ : ∃ x, xss[k]?.getD [] = x := ⟨_, rfl⟩
      rw [hx] at hcell hle2
      have HX := Lib.hid hx
      clear hx
      go_wp2_with fail
      refine ⟨⟨k + 1, by omega, by simp, ?_⟩, by simp [intOf]; omega⟩
      rw [HF.out, List.length_append, HM.out, HX.out]
      simp
    · obtain rfl : k = n := by omega
      have HE : Hid (m = xss.flatten.length) := by
        show m = xss.flatten.length
        rw [← HM.out, List.take_of_length_le (by rw [HL.out]; exact Nat.le_refl _)]
      go_wp2_with fail
      refine (grow_nil m w (by omega)).mono ?_
      rintro e w1 ⟨v1, rfl, hown1, hb1⟩
      have HO1 := Lib.hid hown1
      have HB1 := Lib.hid hb1
      clear hown1 hb1
      go_wp2_with fail
      go_loopw [6, 27] (fun s i wr => ∃ j : Nat, j ≤ k ∧ i = .int .i64 (j : Nat) ∧ wr.ownsRow w.heap.size 5 1 s (xss.take j).flatten.length (Bs (xss.take j).flatten) ∧ Below w.heap.size w wr) (fun _ i _ => k - (intOf i).toNat)
      case atStart => exact ⟨0, Nat.zero_le _, rfl, by simpa using HO1.out, HB1.out⟩
      case round =>
        obtain ⟨j, hj, rfl, hown, hbel⟩ := hrel
        have HO := Lib.hid hown
        have HB := Lib.hid hbel
        have hs := hbel.size
        clear hown hbel
        have hlej := flat_le xss j
        by_cases hlt2 : j < k
        · obtain ⟨a, B, c2, rfl, hab, hcell, _, hBy⟩ := HR.out.at (k := j) (by rw [HL.out]; exact hlt2)
          have hcell2 := (HB.out.cell (p := a.add j) (by rw [addBlock]; exact hab)).trans hcell
          have HF := Lib.hid (flat_take xss j (by rw [HL.out]; exact hlt2))
          have hle2 := flat_le xss (j + 1)
          rw [HF.out, List.length_append] at hle2
          obtain ⟨x, hx⟩ : ∃ x, xss[j]?.getD [] = x := ⟨_, rfl⟩
          rw [hx] at hcell hle2 hcell2 hBy
          have HX := Lib.hid hx
          have HY := Lib.hid hBy
          clear hx hcell hBy
          obtain ⟨q, hq⟩ : ∃ q, (xss.take j).flatten = q := ⟨_, rfl⟩
          have HQ := Lib.hid hq
          have HO2 : Hid (wr.ownsRow w.heap.size 5 1 u6 q.length (Bs q)) := by
            show wr.ownsRow w.heap.size 5 1 u6 q.length (Bs q)
            rw [← hq]; exact HO.out
          rw [hq] at hle2 hlej
          clear hq HO
          go_wp2_with (at_builtin
                       refine walk_append _ rfl (.tmp 31) (.tmp 32) rfl w.heap.size u6 q.length q rfl HO2.out B x.length c2 x rfl rfl (· < w.heap.size) (HY.out.below HB.out (Nat.le_refl _)) (by omega) hs ?_
                       intro v2 w2 hown2 hg2 _
                       have HO3 := Lib.hid hown2
                       clear hown2)
          refine ⟨⟨j + 1, by omega, by simp, ?_, HB.out.grown hg2 hs (fun i hi => (HO2.out.lt i hi).1)⟩, by simp [intOf]; omega⟩
          rw [HF.out, HQ.out, HX.out, List.length_append]
          exact HO3.out
        · obtain rfl : j = k := by omega
          go_wp2_with fail
          go_ret
          refine ⟨_, rfl, ?_, HB.out⟩
          have := HO.out
          rw [List.take_of_length_le (by rw [HL.out]; exact Nat.le_refl _)] at this
          exact this
end Go.Proofs.Ytikhhcmfjncabaa
namespace Go.Proofs.Ytikhhcmfjncabaa
open Go.RowKit

theorem rws_four (w : World) (A0 A1 A2 A3 : Option Addr) (c0 c1 c2 c3 : Nat) (x0 x1 x2 x3 : List Nat) (l0 : x0.length ≤ c0) (l1 : x1.length ≤ c1) (l2 : x2.length ≤ c2) (l3 : x3.length ≤ c3)
    (h0 : Byt (· < w.heap.size) w A0 x0) (h1 : Byt (· < w.heap.size) w A1 x1) (h2 : Byt (· < w.heap.size) w A2 x2) (h3 : Byt (· < w.heap.size) w A3 x3) :
    Rws (· < (w.alloc (.cells #[.slice A0 x0.length c0, .slice A1 x1.length c1, .slice A2 x2.length c2, .slice A3 x3.length c3] 62)).heap.size)
      (w.alloc (.cells #[.slice A0 x0.length c0, .slice A1 x1.length c1, .slice A2 x2.length c2, .slice A3 x3.length c3] 62)) (some ⟨w.heap.size, 0, none⟩) [x0, x1, x2, x3] := fun _ => by
  refine ⟨_, rfl, by simp, fun j hj => ?_⟩
  have hk : ∀ o : Obj, ∀ b, b < w.heap.size → (w.alloc o).heap[b]? = w.heap[b]? := fun o b hb => Below.heap_alloc w _ b hb
  have e : (⟨w.heap.size, 0, none⟩ : Addr).add j = ⟨w.heap.size, j, none⟩ := by unfold Addr.add; split <;> simp_all
  rw [e, World.cell?_alloc_mark]
  match j, hj with
  | 0, _ => exact ⟨A0, c0, rfl, l0, (h0.keep (hk _)).wide fun b hb => by simp; omega⟩
  | 1, _ => exact ⟨A1, c1, rfl, l1, (h1.keep (hk _)).wide fun b hb => by simp; omega⟩
  | 2, _ => exact ⟨A2, c2, rfl, l2, (h2.keep (hk _)).wide fun b hb => by simp; omega⟩
  | 3, _ => exact ⟨A3, c3, rfl, l3, (h3.keep (hk _)).wide fun b hb => by simp; omega⟩
  | j + 4, hj => exact absurd hj (by simp)

def Yb (w : World) (A : Option Addr) (c : Nat) (xs : List Nat) : Prop := xs.length ≤ c ∧ Byt (· < w.heap.size) w A xs
theorem Yb.below {w w' : World} {A : Option Addr} {c : Nat} {xs : List Nat} (h : Yb w A c xs) (hb : Below w.heap.size w w') : Yb w' A c xs :=
  ⟨h.1, (h.2.below hb (Nat.le_refl _)).wide fun b h1 => Nat.lt_of_lt_of_le h1 hb.size⟩
theorem Yb.of {w : World} {base n : Nat} {v : Value} {xs : List Nat} (h : w.ownsRow base 5 1 v n (Bs xs)) : ∃ A c, v = .slice A xs.length c ∧ Yb w A c xs := by
  obtain ⟨A, c, rfl, e, h1, -, h2⟩ := own_slice h
  subst e
  exact ⟨A, c, rfl, h1, h2.wide fun b hb => hb.2⟩

set_option maxRecDepth 100000 in
set_option maxHeartbeats 2000000 in
theorem putFunction_any (cs : List Value) (x : Fn) (r : Int) (w : World) (hr : r ≤ 8) (hx : fnOk r x = true) (h : fnL.R (· < w.heap.size) w cs x) : Calls Try.prog 45 #[vAgg cs] w (Puts (fnB x) w) := by
  obtain ⟨a1, a2, a3, a4, a5, a6, a7, a8⟩ := fn_sizes hx
  have hB1 := tys_len hr (by omega) a5
  have hB2 := tB_len hr a6
  have hB3 := tys_len hr (by omega) a7
  have hB4 := lB_bound iB x.code 5 (fun t _ => iB_len t) (by unfold B64; omega)
  clear a5 a6 a7 a8 hx hr
  obtain ⟨p0, p1, p2, rfl, i1, i2, ⟨A4, d4, e4, l4, m4, s4⟩, ⟨A5, d5, e5, l5, m5, s5⟩, ⟨A6, d6, e6, l6, m6, s6⟩⟩ := h
  simp only [List.cons.injEq, and_true] at e4 e5 e6
  subst e4 e5 e6
  show Calls Try.prog 45 #[.agg #[.slice A4 x.args.length d4, .int .i64 x.ret.1, .int .i64 x.ret.2, .slice A5 x.locs.length d5, .slice A6 x.code.length d6]] w (Puts (fnB x) w)
  obtain ⟨n, hn⟩ : ∃ n, x.args.length = n := ⟨_, rfl⟩
  obtain ⟨m, hm⟩ : ∃ m, x.locs.length = m := ⟨_, rfl⟩
  obtain ⟨o, ho⟩ : ∃ o, x.code.length = o := ⟨_, rfl⟩
  obtain ⟨y0, hy0⟩ : ∃ y, lB tB x.args = y := ⟨_, rfl⟩
  obtain ⟨y1, hy1⟩ : ∃ y, tB x.ret = y := ⟨_, rfl⟩
  obtain ⟨y2, hy2⟩ : ∃ y, lB tB x.locs = y := ⟨_, rfl⟩
  obtain ⟨y3, hy3⟩ : ∃ y, lB iB x.code = y := ⟨_, rfl⟩
  have P0 : Hid (∀ w1, Below w.heap.size w w1 → Calls Try.prog 43 #[.slice A4 n d4] w1 (Puts y0 w1)) := fun w1 hb => by
    rw [← hy0]
    exact putTypes_any A4 n d4 x.args w1 hn ((s4.keep fun b hb1 => hb.block b hb1).wide fun b hb1 => Nat.lt_of_lt_of_le hb1 hb.size) (by omega) (by omega)
  have P1 : Hid (∀ w1, Calls Try.prog 83 #[.agg #[.int .i64 x.ret.1, .int .i64 x.ret.2]] w1 (Puts y1 w1)) := fun w1 => by
    rw [← hy1]
    exact kput x.ret.1 x.ret.2 w1 i1 i2
  have P2 : Hid (∀ w1, Below w.heap.size w w1 → Calls Try.prog 43 #[.slice A5 m d5] w1 (Puts y2 w1)) := fun w1 hb => by
    rw [← hy2]
    exact putTypes_any A5 m d5 x.locs w1 hm ((s5.keep fun b hb1 => hb.block b hb1).wide fun b hb1 => Nat.lt_of_lt_of_le hb1 hb.size) (by omega) (by omega)
  have P3 : Hid (∀ w1, Below w.heap.size w w1 → Calls Try.prog 85 #[.slice A6 o d6, .func (.func 86) #[] #[]] w1 (Puts y3 w1)) := fun w1 hb => by
    rw [← hy3]
    exact putList_ins A6 o d6 x.code w1 ho ((s6.keep fun b hb1 => hb.block b hb1).wide fun b hb1 => Nat.lt_of_lt_of_le hb1 hb.size) (by omega) (by omega) (put_ins x.code)
  have HI : Hid (fnB x = [y0, y1, y2, y3].flatten) := by show fnB x = _; rw [← hy0, ← hy1, ← hy2, ← hy3]; simp [fnB]
  rw [hy0] at hB1
  rw [hy1] at hB2
  rw [hy2] at hB3
  rw [hy3, ho] at hB4
  rw [hn, hm, ho]
  rw [hn] at a1 a2
  rw [hm] at a2
  rw [ho] at a3 a4
  clear hy0 hy1 hy2 hy3 hn hm ho s4 l4 m4 s5 l5 m5 s6 l6 m6 i1 i2
  have HZ : Hid ([y0, y1, y2, y3].flatten.length ≤ 140737488355328) := by show [y0, y1, y2, y3].flatten.length ≤ _; simp; omega
  obtain ⟨b, hb⟩ : ∃ b, fnB x = b := ⟨_, rfl⟩
  rw [hb] at HI ⊢
  clear hb
  generalize x.ret.1 = k1 at *
  generalize x.ret.2 = k2 at *
  go_enter Try.func45, Try.ntmps45
  go_wp2_with fail
  refine wp_world fun W hW => ?_
  have hC : C5 w.heap.size (.slice A4 n d4) (.int .i64 k1) (.int .i64 k2) (.slice A5 m d5) (.slice A6 o d6) W := by rw [hW]; simp [C5, go_sem]
  have HB0 : Hid (Below w.heap.size w W) := by
    show Below w.heap.size w W
    rw [hW]
    exact (Below.refl _ _).alloc (Nat.le_refl _) _
  have hs : w.heap.size < W.heap.size := by rw [hW]; simp
  clear hW
  have HC0 := Lib.hid hC
  obtain ⟨z0, z1, z2, z3, z4⟩ := hC
  go_region_held3 (fun w' => w'.cell? ⟨w.heap.size, 0, none⟩ = some (.slice A4 n d4) ∧ w'.cell? ⟨w.heap.size, 1, none⟩ = some (.int .i64 k1) ∧ w'.cell? ⟨w.heap.size, 2, none⟩ = some (.int .i64 k2) ∧ w'.cell? ⟨w.heap.size, 3, none⟩ = some (.slice A5 m d5) ∧ w'.cell? ⟨w.heap.size, 4, none⟩ = some (.slice A6 o d6))
    (first | exact HC5.out | exact HC4.out | exact HC4.out.below (Below.alloc (Below.refl _ _) (Nat.le_refl _) _) HS4.out | exact HC3.out | exact HC2.out | exact HC1.out | exact HC0.out)
    (first
      | (go_at_call 85
         refine (P3.out _ HB3.out).mono ?_
         rintro e w4 ⟨u4, rfl, hown4, hb4⟩
         obtain ⟨B3, f3, rfl, hy3⟩ := Yb.of hown4
         have Y0 := Lib.hid (Y0c.out.below hb4)
         have Y1 := Lib.hid (Y1b.out.below hb4)
         have Y2 := Lib.hid (Y2a.out.below hb4)
         have Y3 := Lib.hid hy3
         have HB4 := Lib.hid (HB3.out.trans (hb4.mono HB3.out.size))
         have HC4 := Lib.hid (HC3.out.below hb4 HS3.out)
         have HS4 := Lib.hid (Nat.lt_of_lt_of_le HS3.out hb4.size)
         clear hown4 hb4 hy3)
      | (go_at_call 43
         (with_reducible refine (P2.out _ ?_).mono ?_)
         · exact HB2.out
         rintro e w3 ⟨u3, rfl, hown3, hb3⟩
         obtain ⟨B2, f2, rfl, hy2⟩ := Yb.of hown3
         have Y0c := Lib.hid (Y0b.out.below hb3)
         have Y1b := Lib.hid (Y1a.out.below hb3)
         have Y2a := Lib.hid hy2
         have HB3 := Lib.hid (HB2.out.trans (hb3.mono HB2.out.size))
         have HC3 := Lib.hid (HC2.out.below hb3 HS2.out)
         have HS3 := Lib.hid (Nat.lt_of_lt_of_le HS2.out hb3.size)
         clear hown3 hb3 hy2)
      | (go_at_call 83
         refine (P1.out _).mono ?_
         rintro e w2 ⟨u2, rfl, hown2, hb2⟩
         obtain ⟨B1, f1, rfl, hy1⟩ := Yb.of hown2
         have Y0b := Lib.hid (Y0a.out.below hb2)
         have Y1a := Lib.hid hy1
         have HB2 := Lib.hid (HB1.out.trans (hb2.mono HB1.out.size))
         have HC2 := Lib.hid (HC1.out.below hb2 HS1.out)
         have HS2 := Lib.hid (Nat.lt_of_lt_of_le HS1.out hb2.size)
         clear hown2 hb2 hy1)
      | (go_at_call 43
         (with_reducible refine (P0.out _ ?_).mono ?_)
         · exact HB0.out.drew
         rintro e w1 ⟨u1, rfl, hown1, hb1⟩
         obtain ⟨B0, f0, rfl, hy0⟩ := Yb.of hown1
         have Y0a := Lib.hid hy0
         have HB1 := Lib.hid (HB0.out.drew.trans (hb1.mono HB0.out.size))
         have HC1 := Lib.hid (C5.below (w := W.drew) HC0.out hb1 hs)
         have HS1 := Lib.hid (Nat.lt_of_lt_of_le hs hb1.size)
         clear hown1 hb1 hy0)
      | (go_at_call 84
         refine (concat_any _ _ _ [y0, y1, y2, y3] _ rfl (rws_four w4 B0 B1 B2 B3 f0 f1 f2 f3 y0 y1 y2 y3 Y0.out.1 Y1.out.1 Y2.out.1 Y3.out.1 Y0.out.2 Y1.out.2 Y2.out.2 Y3.out.2) HZ.out (by simp)).mono ?_
         rintro e w5 ⟨u5, rfl, hown5, hb5⟩
         have HO5 := Lib.hid hown5
         have Hb5 := Lib.hid hb5
         have HC5 := Lib.hid ((HC4.out.below (Below.alloc (Below.refl _ _) (Nat.le_refl _) _) HS4.out).below hb5 (by simp; have := HS4.out; omega))
         clear hown5 hb5))
  go_wp2_with fail
  go_ret
  refine ⟨_, rfl, ?_, (HB4.out.alloc HB4.out.size _).trans (Hb5.out.mono (by simp; have := HB4.out.size; omega))⟩
  rw [HI.out]
  exact own_wide HO5.out (by simp; have := HB4.out.size; omega)
end Go.Proofs.Ytikhhcmfjncabaa
namespace Go.Proofs.Ytikhhcmfjncabaa
open Go.RowKit

set_option maxRecDepth 100000 in
set_option maxHeartbeats 1000000 in
theorem putList_rec (A : Option Addr) (n c : Nat) (xs : List (List Typ)) (w : World) (hl : xs.length = n) (h : Sq tysL (· < w.heap.size) w A xs) (hn2 : n ≤ 1000000) (hn : (lB (lB tB) xs).length ≤ 1000000)
    (hP : ∀ (w1 : World) (cs : List Value) (x : (List Typ)), x ∈ xs → tysL.R (· < w1.heap.size) w1 cs x → Calls Try.prog 43 #[vOne cs] w1 (Puts ((lB tB) x) w1)) :
    Calls Try.prog 42 #[.slice A n c, .func (.func 43) #[] #[]] w (Puts (lB (lB tB) xs) w) := by
  have HN := Lib.hid hn
  have HL := Lib.hid hl
  have HS := Lib.hid h
  have HP0 := Lib.hid hP
  clear hl h hn hP
  have hn3 : n < B64 := by unfold B64; omega
  go_enter Try.func42, Try.ntmps42
  go_wp2_with fail
  refine (var_any n w hn3).mono ?_
  rintro e w1 ⟨u1, rfl, hown1, hb1⟩
  have HO1 := Lib.hid hown1
  have HB1 := Lib.hid hb1
  clear hown1 hb1
  go_wp2_with fail
  go_loopw [5, 14] (fun s i wr => ∃ k : Nat, k ≤ n ∧ i = .int .i64 (k : Nat) ∧ (∃ q, q = vb n ++ ((xs.take k).map (lB tB)).flatten ∧ q.length ≤ 1000000 ∧ wr.ownsRow w.heap.size 5 1 s q.length (Bs q)) ∧ Below w.heap.size w wr) (fun _ i _ => n - (intOf i).toNat)
  case atStart =>
    refine ⟨0, Nat.zero_le _, rfl, ⟨_, rfl, ?_, ?_⟩, HB1.out⟩
    · have := HN.out
      simp only [lB, List.length_append, HL.out] at this
      simp
      omega
    · simpa using HO1.out
  case round =>
    obtain ⟨k, hk, rfl, ⟨q, hq, hq2, hown⟩, hbel⟩ := hrel
    have HO := Lib.hid hown
    have HB := Lib.hid hbel
    have HQ := Lib.hid hq
    have hs := hbel.size
    clear hown hbel hq
    by_cases hlt : k < n
    · skip
      obtain ⟨x, hx⟩ : ∃ x, xs[k]? = some x := ⟨xs[k]'(by rw [HL.out]; exact hlt), List.getElem?_eq_getElem _⟩
      have hmem : x ∈ xs := List.mem_of_getElem? hx
      obtain ⟨a, cs, rfl, hab, hc, hr⟩ := HS.out.at hx
      have HF := Lib.hid (cut_flat (lB tB) xs k x hx)
      have hle2 := flat_short (lB tB) xs (k + 1)
      rw [HF.out, List.length_append] at hle2
      have hq3 : q.length + ((lB tB) x).length ≤ 1000000 := by
        have := HN.out
        simp only [lB, List.length_append, HL.out] at this
        rw [HQ.out, List.length_append]
        omega
      clear hle2 hx
      have HR := Lib.hid hr
      obtain ⟨A2, d2, rfl, -, -, -⟩ := hr
      have c0 := (HB.out.cell (p := a.add k) (by rw [addBlock]; exact hab)).trans (one_cell (K := tysL.k) rfl (hc 0 _ rfl))
      have HP : Hid (∀ w1, Below w.heap.size w w1 → Calls Try.prog 43 #[.slice A2 x.length d2] w1 (Puts ((lB tB) x) w1)) := fun w1 hb => HP0.out w1 [.slice A2 x.length d2] x hmem (tysL.wide (tysL.keep HR.out fun b hb1 => hb.block b hb1) fun b hb1 => Nat.lt_of_lt_of_le hb1 hb.size)
      clear hc
      obtain ⟨y, hy⟩ : ∃ y, (lB tB) x = y := ⟨_, rfl⟩
      rw [hy] at hq3 HP
      have HY := Lib.hid hy
      clear hy
      go_wp2_with (first
        | (go_at_call 43
           refine (HP.out _ (HB.out)).mono ?_
           rintro e w2 ⟨u2, rfl, hown2, hb2⟩
           obtain ⟨A3, c3, rfl, -, -, -, hB2⟩ := own_slice hown2
           have HB2 := Lib.hid hB2
           have HO2 := Lib.hid (own_below (HO.out) hb2 (Nat.le_refl _))
           have Hb2 := Lib.hid ((HB.out).trans (hb2.mono (hs)))
           have hs2 := Hb2.out.size
           clear hown2 hB2 hb2)
        | (at_builtin
           refine walk_append _ rfl (.tmp 18) (.tmp 21) rfl w.heap.size u5 q.length q rfl HO2.out A3 y.length c3 y rfl rfl _ HB2.out (by omega) (by omega) ?_
           intro v4 w4 hown4 hg4 _
           have HO4 := Lib.hid hown4
           have HG4 := Lib.hid hg4
           clear hown4 hg4))
      refine ⟨⟨k + 1, by omega, by simp, ⟨q ++ y, ?_, ?_, ?_⟩, Hb2.out.grown HG4.out (by omega) (fun i hi => (HO2.out.lt i hi).1)⟩, by simp [intOf]; omega⟩
      · rw [HF.out, HQ.out, HY.out]
        simp [List.append_assoc]
      · simp [List.length_append]
        omega
      · rw [List.length_append]
        exact HO4.out
    · obtain rfl : k = n := by omega
      go_wp2_with fail
      go_ret
      refine ⟨_, rfl, ?_, HB.out⟩
      have e : lB (lB tB) xs = q := by
        rw [HQ.out, List.take_of_length_le (by rw [HL.out]; exact Nat.le_refl _), lB, HL.out]
      rw [e]
      exact HO.out
end Go.Proofs.Ytikhhcmfjncabaa
namespace Go.Proofs.Ytikhhcmfjncabaa
open Go.RowKit

set_option maxRecDepth 100000 in
set_option maxHeartbeats 1000000 in
theorem putList_fn (A : Option Addr) (n c : Nat) (xs : List Fn) (w : World) (hl : xs.length = n) (h : Sq fnL (· < w.heap.size) w A xs) (hn2 : n ≤ 1000000) (hn : (lB fnB xs).length ≤ 1000000)
    (hP : ∀ (w1 : World) (cs : List Value) (x : Fn), x ∈ xs → fnL.R (· < w1.heap.size) w1 cs x → Calls Try.prog 45 #[vAgg cs] w1 (Puts (fnB x) w1)) :
    Calls Try.prog 44 #[.slice A n c, .func (.func 45) #[] #[]] w (Puts (lB fnB xs) w) := by
  have HN := Lib.hid hn
  have HL := Lib.hid hl
  have HS := Lib.hid h
  have HP0 := Lib.hid hP
  clear hl h hn hP
  have hn3 : n < B64 := by unfold B64; omega
  go_enter Try.func44, Try.ntmps44
  go_wp2_with fail
  refine (var_any n w hn3).mono ?_
  rintro e w1 ⟨u1, rfl, hown1, hb1⟩
  have HO1 := Lib.hid hown1
  have HB1 := Lib.hid hb1
  clear hown1 hb1
  go_wp2_with fail
  go_loopw [5, 14] (fun s i wr => ∃ k : Nat, k ≤ n ∧ i = .int .i64 (k : Nat) ∧ (∃ q, q = vb n ++ ((xs.take k).map fnB).flatten ∧ q.length ≤ 1000000 ∧ wr.ownsRow w.heap.size 5 1 s q.length (Bs q)) ∧ Below w.heap.size w wr) (fun _ i _ => n - (intOf i).toNat)
  case atStart =>
    refine ⟨0, Nat.zero_le _, rfl, ⟨_, rfl, ?_, ?_⟩, HB1.out⟩
    · have := HN.out
      simp only [lB, List.length_append, HL.out] at this
      simp
      omega
    · simpa using HO1.out
  case round =>
    obtain ⟨k, hk, rfl, ⟨q, hq, hq2, hown⟩, hbel⟩ := hrel
    have HO := Lib.hid hown
    have HB := Lib.hid hbel
    have HQ := Lib.hid hq
    have hs := hbel.size
    clear hown hbel hq
    by_cases hlt : k < n
    · skip
      obtain ⟨x, hx⟩ : ∃ x, xs[k]? = some x := ⟨xs[k]'(by rw [HL.out]; exact hlt), List.getElem?_eq_getElem _⟩
      have hmem : x ∈ xs := List.mem_of_getElem? hx
      obtain ⟨a, cs, rfl, hab, hc, hr⟩ := HS.out.at hx
      have HF := Lib.hid (cut_flat fnB xs k x hx)
      have hle2 := flat_short fnB xs (k + 1)
      rw [HF.out, List.length_append] at hle2
      have hq3 : q.length + (fnB x).length ≤ 1000000 := by
        have := HN.out
        simp only [lB, List.length_append, HL.out] at this
        rw [HQ.out, List.length_append]
        omega
      clear hle2 hx
      have HR := Lib.hid hr
      obtain ⟨p0, p1, p2, rfl, -, -, ⟨A4, d4, e4, -⟩, ⟨A5, d5, e5, -⟩, ⟨A6, d6, e6, -⟩⟩ := hr
      simp only [List.cons.injEq, and_true] at e4 e5 e6
      subst e4 e5 e6
      have c0 := (HB.out.cell (p := a.add (k * 5)) (by rw [addBlock]; exact hab)).trans (hc 0 _ rfl)
      have c1 := (HB.out.cell (p := a.add (k * 5 + 1)) (by rw [addBlock]; exact hab)).trans (hc 1 _ rfl)
      rw [next_cell a (k * 5) 1 (by omega)] at c1
      have c2 := (HB.out.cell (p := a.add (k * 5 + 2)) (by rw [addBlock]; exact hab)).trans (hc 2 _ rfl)
      rw [next_cell a (k * 5) 2 (by omega)] at c2
      have c3 := (HB.out.cell (p := a.add (k * 5 + 3)) (by rw [addBlock]; exact hab)).trans (hc 3 _ rfl)
      rw [next_cell a (k * 5) 3 (by omega)] at c3
      have c4 := (HB.out.cell (p := a.add (k * 5 + 4)) (by rw [addBlock]; exact hab)).trans (hc 4 _ rfl)
      rw [next_cell a (k * 5) 4 (by omega)] at c4
      have HP : Hid (∀ w1, Below w.heap.size w w1 → Calls Try.prog 45 #[.agg #[.slice A4 x.args.length d4, .int .i64 x.ret.1, .int .i64 x.ret.2, .slice A5 x.locs.length d5, .slice A6 x.code.length d6]] w1 (Puts (fnB x) w1)) := fun w1 hb => HP0.out w1 [.slice A4 x.args.length d4, .int .i64 x.ret.1, .int .i64 x.ret.2, .slice A5 x.locs.length d5, .slice A6 x.code.length d6] x hmem (fnL.wide (fnL.keep HR.out fun b hb1 => hb.block b hb1) fun b hb1 => Nat.lt_of_lt_of_le hb1 hb.size)
      clear hc
      obtain ⟨y, hy⟩ : ∃ y, fnB x = y := ⟨_, rfl⟩
      rw [hy] at hq3 HP
      have HY := Lib.hid hy
      clear hy
      go_wp2_with (first
        | (go_at_call 45
           refine (HP.out _ (HB.out.alloc hs _)).mono ?_
           rintro e w2 ⟨u2, rfl, hown2, hb2⟩
           obtain ⟨A3, c3, rfl, -, -, -, hB2⟩ := own_slice hown2
           have HB2 := Lib.hid hB2
           have HO2 := Lib.hid (own_below (HO.out.alloc _) hb2 (Nat.le_refl _))
           have Hb2 := Lib.hid ((HB.out.alloc hs _).trans (hb2.mono (by simp; omega)))
           have hs2 := Hb2.out.size
           clear hown2 hB2 hb2)
        | (at_builtin
           refine walk_append _ rfl (.tmp 18) (.tmp 21) rfl w.heap.size u5 q.length q rfl HO2.out A3 y.length c3 y rfl rfl _ HB2.out (by omega) (by omega) ?_
           intro v4 w4 hown4 hg4 _
           have HO4 := Lib.hid hown4
           have HG4 := Lib.hid hg4
           clear hown4 hg4))
      refine ⟨⟨k + 1, by omega, by simp, ⟨q ++ y, ?_, ?_, ?_⟩, Hb2.out.grown HG4.out (by omega) (fun i hi => (HO2.out.lt i hi).1)⟩, by simp [intOf]; omega⟩
      · rw [HF.out, HQ.out, HY.out]
        simp [List.append_assoc]
      · simp [List.length_append]
        omega
      · rw [List.length_append]
        exact HO4.out
    · obtain rfl : k = n := by omega
      go_wp2_with fail
      go_ret
      refine ⟨_, rfl, ?_, HB.out⟩
      have e : lB fnB xs = q := by
        rw [HQ.out, List.take_of_length_le (by rw [HL.out]; exact Nat.le_refl _), lB, HL.out]
      rw [e]
      exact HO.out
end Go.Proofs.Ytikhhcmfjncabaa
namespace Go.Proofs.Ytikhhcmfjncabaa
open Go.RowKit

set_option maxRecDepth 100000 in
set_option maxHeartbeats 1000000 in
theorem putList_imp (A : Option Addr) (n c : Nat) (xs : List Imp) (w : World) (hl : xs.length = n) (h : Sq impL (· < w.heap.size) w A xs) (hn2 : n ≤ 1000000) (hn : (lB impB xs).length ≤ 1000000)
    (hP : ∀ (w1 : World) (cs : List Value) (x : Imp), x ∈ xs → impL.R (· < w1.heap.size) w1 cs x → Calls Try.prog 47 #[vAgg cs] w1 (Puts (impB x) w1)) :
    Calls Try.prog 46 #[.slice A n c, .func (.func 47) #[] #[]] w (Puts (lB impB xs) w) := by
  have HN := Lib.hid hn
  have HL := Lib.hid hl
  have HS := Lib.hid h
  have HP0 := Lib.hid hP
  clear hl h hn hP
  have hn3 : n < B64 := by unfold B64; omega
  go_enter Try.func46, Try.ntmps46
  go_wp2_with fail
  refine (var_any n w hn3).mono ?_
  rintro e w1 ⟨u1, rfl, hown1, hb1⟩
  have HO1 := Lib.hid hown1
  have HB1 := Lib.hid hb1
  clear hown1 hb1
  go_wp2_with fail
  go_loopw [5, 14] (fun s i wr => ∃ k : Nat, k ≤ n ∧ i = .int .i64 (k : Nat) ∧ (∃ q, q = vb n ++ ((xs.take k).map impB).flatten ∧ q.length ≤ 1000000 ∧ wr.ownsRow w.heap.size 5 1 s q.length (Bs q)) ∧ Below w.heap.size w wr) (fun _ i _ => n - (intOf i).toNat)
  case atStart =>
    refine ⟨0, Nat.zero_le _, rfl, ⟨_, rfl, ?_, ?_⟩, HB1.out⟩
    · have := HN.out
      simp only [lB, List.length_append, HL.out] at this
      simp
      omega
    · simpa using HO1.out
  case round =>
    obtain ⟨k, hk, rfl, ⟨q, hq, hq2, hown⟩, hbel⟩ := hrel
    have HO := Lib.hid hown
    have HB := Lib.hid hbel
    have HQ := Lib.hid hq
    have hs := hbel.size
    clear hown hbel hq
    by_cases hlt : k < n
    · skip
      obtain ⟨x, hx⟩ : ∃ x, xs[k]? = some x := ⟨xs[k]'(by rw [HL.out]; exact hlt), List.getElem?_eq_getElem _⟩
      have hmem : x ∈ xs := List.mem_of_getElem? hx
      obtain ⟨a, cs, rfl, hab, hc, hr⟩ := HS.out.at hx
      have HF := Lib.hid (cut_flat impB xs k x hx)
      have hle2 := flat_short impB xs (k + 1)
      rw [HF.out, List.length_append] at hle2
      have hq3 : q.length + (impB x).length ≤ 1000000 := by
        have := HN.out
        simp only [lB, List.length_append, HL.out] at this
        rw [HQ.out, List.length_append]
        omega
      clear hle2 hx
      have HR := Lib.hid hr
      obtain ⟨p0, rfl, -, -, ⟨A4, d4, e4, -⟩⟩ := hr
      simp only [List.cons.injEq, and_true] at e4
      subst e4
      have c0 := (HB.out.cell (p := a.add (k * 3)) (by rw [addBlock]; exact hab)).trans (hc 0 _ rfl)
      have c1 := (HB.out.cell (p := a.add (k * 3 + 1)) (by rw [addBlock]; exact hab)).trans (hc 1 _ rfl)
      rw [next_cell a (k * 3) 1 (by omega)] at c1
      have c2 := (HB.out.cell (p := a.add (k * 3 + 2)) (by rw [addBlock]; exact hab)).trans (hc 2 _ rfl)
      rw [next_cell a (k * 3) 2 (by omega)] at c2
      have HP : Hid (∀ w1, Below w.heap.size w w1 → Calls Try.prog 47 #[.agg #[.slice A4 x.args.length d4, .int .i64 x.ret.1, .int .i64 x.ret.2]] w1 (Puts (impB x) w1)) := fun w1 hb => HP0.out w1 [.slice A4 x.args.length d4, .int .i64 x.ret.1, .int .i64 x.ret.2] x hmem (impL.wide (impL.keep HR.out fun b hb1 => hb.block b hb1) fun b hb1 => Nat.lt_of_lt_of_le hb1 hb.size)
      clear hc
      obtain ⟨y, hy⟩ : ∃ y, impB x = y := ⟨_, rfl⟩
      rw [hy] at hq3 HP
      have HY := Lib.hid hy
      clear hy
      go_wp2_with (first
        | (go_at_call 47
           refine (HP.out _ (HB.out.alloc hs _)).mono ?_
           rintro e w2 ⟨u2, rfl, hown2, hb2⟩
           obtain ⟨A3, c3, rfl, -, -, -, hB2⟩ := own_slice hown2
           have HB2 := Lib.hid hB2
           have HO2 := Lib.hid (own_below (HO.out.alloc _) hb2 (Nat.le_refl _))
           have Hb2 := Lib.hid ((HB.out.alloc hs _).trans (hb2.mono (by simp; omega)))
           have hs2 := Hb2.out.size
           clear hown2 hB2 hb2)
        | (at_builtin
           refine walk_append _ rfl (.tmp 18) (.tmp 21) rfl w.heap.size u5 q.length q rfl HO2.out A3 y.length c3 y rfl rfl _ HB2.out (by omega) (by omega) ?_
           intro v4 w4 hown4 hg4 _
           have HO4 := Lib.hid hown4
           have HG4 := Lib.hid hg4
           clear hown4 hg4))
      refine ⟨⟨k + 1, by omega, by simp, ⟨q ++ y, ?_, ?_, ?_⟩, Hb2.out.grown HG4.out (by omega) (fun i hi => (HO2.out.lt i hi).1)⟩, by simp [intOf]; omega⟩
      · rw [HF.out, HQ.out, HY.out]
        simp [List.append_assoc]
      · simp [List.length_append]
        omega
      · rw [List.length_append]
        exact HO4.out
    · obtain rfl : k = n := by omega
      go_wp2_with fail
      go_ret
      refine ⟨_, rfl, ?_, HB.out⟩
      have e : lB impB xs = q := by
        rw [HQ.out, List.take_of_length_le (by rw [HL.out]; exact Nat.le_refl _), lB, HL.out]
      rw [e]
      exact HO.out
end Go.Proofs.Ytikhhcmfjncabaa
namespace Go.Proofs.Ytikhhcmfjncabaa
open Go.RowKit

set_option maxRecDepth 100000 in
set_option maxHeartbeats 1000000 in
theorem putList_num (A : Option Addr) (n c : Nat) (xs : List Nat) (w : World) (hl : xs.length = n) (h : Sq numL (· < w.heap.size) w A xs) (hn2 : n ≤ 1000000) (hn : (lB numB xs).length ≤ 1000000)
    (hP : ∀ (w1 : World) (cs : List Value) (x : Nat), x ∈ xs → numL.R (· < w1.heap.size) w1 cs x → Calls Try.prog 49 #[vOne cs] w1 (Puts (numB x) w1)) :
    Calls Try.prog 48 #[.slice A n c, .func (.func 49) #[] #[]] w (Puts (lB numB xs) w) := by
  have HN := Lib.hid hn
  have HL := Lib.hid hl
  have HS := Lib.hid h
  have HP0 := Lib.hid hP
  clear hl h hn hP
  have hn3 : n < B64 := by unfold B64; omega
  go_enter Try.func48, Try.ntmps48
  go_wp2_with fail
  refine (var_any n w hn3).mono ?_
  rintro e w1 ⟨u1, rfl, hown1, hb1⟩
  have HO1 := Lib.hid hown1
  have HB1 := Lib.hid hb1
  clear hown1 hb1
  go_wp2_with fail
  go_loopw [5, 14] (fun s i wr => ∃ k : Nat, k ≤ n ∧ i = .int .i64 (k : Nat) ∧ (∃ q, q = vb n ++ ((xs.take k).map numB).flatten ∧ q.length ≤ 1000000 ∧ wr.ownsRow w.heap.size 5 1 s q.length (Bs q)) ∧ Below w.heap.size w wr) (fun _ i _ => n - (intOf i).toNat)
  case atStart =>
    refine ⟨0, Nat.zero_le _, rfl, ⟨_, rfl, ?_, ?_⟩, HB1.out⟩
    · have := HN.out
      simp only [lB, List.length_append, HL.out] at this
      simp
      omega
    · simpa using HO1.out
  case round =>
    obtain ⟨k, hk, rfl, ⟨q, hq, hq2, hown⟩, hbel⟩ := hrel
    have HO := Lib.hid hown
    have HB := Lib.hid hbel
    have HQ := Lib.hid hq
    have hs := hbel.size
    clear hown hbel hq
    by_cases hlt : k < n
    · skip
      obtain ⟨x, hx⟩ : ∃ x, xs[k]? = some x := ⟨xs[k]'(by rw [HL.out]; exact hlt), List.getElem?_eq_getElem _⟩
      have hmem : x ∈ xs := List.mem_of_getElem? hx
      obtain ⟨a, cs, rfl, hab, hc, hr⟩ := HS.out.at hx
      have HF := Lib.hid (cut_flat numB xs k x hx)
      have hle2 := flat_short numB xs (k + 1)
      rw [HF.out, List.length_append] at hle2
      have hq3 : q.length + (numB x).length ≤ 1000000 := by
        have := HN.out
        simp only [lB, List.length_append, HL.out] at this
        rw [HQ.out, List.length_append]
        omega
      clear hle2 hx
      have HR := Lib.hid hr
      obtain ⟨rfl, -⟩ := hr
      have c0 := (HB.out.cell (p := a.add k) (by rw [addBlock]; exact hab)).trans (one_cell (K := numL.k) rfl (hc 0 _ rfl))
      have HP : Hid (∀ w1, Below w.heap.size w w1 → Calls Try.prog 49 #[.int .u64 (x : Int)] w1 (Puts (numB x) w1)) := fun w1 hb => HP0.out w1 [.int .u64 (x : Int)] x hmem (numL.wide (numL.keep HR.out fun b hb1 => hb.block b hb1) fun b hb1 => Nat.lt_of_lt_of_le hb1 hb.size)
      clear hc
      obtain ⟨y, hy⟩ : ∃ y, numB x = y := ⟨_, rfl⟩
      rw [hy] at hq3 HP
      have HY := Lib.hid hy
      clear hy
      go_wp2_with (first
        | (go_at_call 49
           refine (HP.out _ (HB.out)).mono ?_
           rintro e w2 ⟨u2, rfl, hown2, hb2⟩
           obtain ⟨A3, c3, rfl, -, -, -, hB2⟩ := own_slice hown2
           have HB2 := Lib.hid hB2
           have HO2 := Lib.hid (own_below (HO.out) hb2 (Nat.le_refl _))
           have Hb2 := Lib.hid ((HB.out).trans (hb2.mono (hs)))
           have hs2 := Hb2.out.size
           clear hown2 hB2 hb2)
        | (at_builtin
           refine walk_append _ rfl (.tmp 18) (.tmp 21) rfl w.heap.size u5 q.length q rfl HO2.out A3 y.length c3 y rfl rfl _ HB2.out (by omega) (by omega) ?_
           intro v4 w4 hown4 hg4 _
           have HO4 := Lib.hid hown4
           have HG4 := Lib.hid hg4
           clear hown4 hg4))
      refine ⟨⟨k + 1, by omega, by simp, ⟨q ++ y, ?_, ?_, ?_⟩, Hb2.out.grown HG4.out (by omega) (fun i hi => (HO2.out.lt i hi).1)⟩, by simp [intOf]; omega⟩
      · rw [HF.out, HQ.out, HY.out]
        simp [List.append_assoc]
      · simp [List.length_append]
        omega
      · rw [List.length_append]
        exact HO4.out
    · obtain rfl : k = n := by omega
      go_wp2_with fail
      go_ret
      refine ⟨_, rfl, ?_, HB.out⟩
      have e : lB numB xs = q := by
        rw [HQ.out, List.take_of_length_le (by rw [HL.out]; exact Nat.le_refl _), lB, HL.out]
      rw [e]
      exact HO.out
end Go.Proofs.Ytikhhcmfjncabaa
namespace Go.Proofs.Ytikhhcmfjncabaa
open Go.RowKit

set_option maxRecDepth 100000 in
set_option maxHeartbeats 1000000 in
theorem putList_str (A : Option Addr) (n c : Nat) (xs : List (List Nat)) (w : World) (hl : xs.length = n) (h : Sq strL (· < w.heap.size) w A xs) (hn2 : n ≤ 1000000) (hn : (lB pt xs).length ≤ 1000000)
    (hP : ∀ (w1 : World) (cs : List Value) (x : (List Nat)), x ∈ xs → strL.R (· < w1.heap.size) w1 cs x → Calls Try.prog 51 #[vOne cs] w1 (Puts (pt x) w1)) :
    Calls Try.prog 50 #[.slice A n c, .func (.func 51) #[] #[]] w (Puts (lB pt xs) w) := by
  have HN := Lib.hid hn
  have HL := Lib.hid hl
  have HS := Lib.hid h
  have HP0 := Lib.hid hP
  clear hl h hn hP
  have hn3 : n < B64 := by unfold B64; omega
  go_enter Try.func50, Try.ntmps50
  go_wp2_with fail
  refine (var_any n w hn3).mono ?_
  rintro e w1 ⟨u1, rfl, hown1, hb1⟩
  have HO1 := Lib.hid hown1
  have HB1 := Lib.hid hb1
  clear hown1 hb1
  go_wp2_with fail
  go_loopw [5, 14] (fun s i wr => ∃ k : Nat, k ≤ n ∧ i = .int .i64 (k : Nat) ∧ (∃ q, q = vb n ++ ((xs.take k).map pt).flatten ∧ q.length ≤ 1000000 ∧ wr.ownsRow w.heap.size 5 1 s q.length (Bs q)) ∧ Below w.heap.size w wr) (fun _ i _ => n - (intOf i).toNat)
  case atStart =>
    refine ⟨0, Nat.zero_le _, rfl, ⟨_, rfl, ?_, ?_⟩, HB1.out⟩
    · have := HN.out
      simp only [lB, List.length_append, HL.out] at this
      simp
      omega
    · simpa using HO1.out
  case round =>
    obtain ⟨k, hk, rfl, ⟨q, hq, hq2, hown⟩, hbel⟩ := hrel
    have HO := Lib.hid hown
    have HB := Lib.hid hbel
    have HQ := Lib.hid hq
    have hs := hbel.size
    clear hown hbel hq
    by_cases hlt : k < n
    · skip
      obtain ⟨x, hx⟩ : ∃ x, xs[k]? = some x := ⟨xs[k]'(by rw [HL.out]; exact hlt), List.getElem?_eq_getElem _⟩
      have hmem : x ∈ xs := List.mem_of_getElem? hx
      obtain ⟨a, cs, rfl, hab, hc, hr⟩ := HS.out.at hx
      have HF := Lib.hid (cut_flat pt xs k x hx)
      have hle2 := flat_short pt xs (k + 1)
      rw [HF.out, List.length_append] at hle2
      have hq3 : q.length + (pt x).length ≤ 1000000 := by
        have := HN.out
        simp only [lB, List.length_append, HL.out] at this
        rw [HQ.out, List.length_append]
        omega
      clear hle2 hx
      have HR := Lib.hid hr
      obtain ⟨s0, rfl, -⟩ := hr
      have c0 := (HB.out.cell (p := a.add k) (by rw [addBlock]; exact hab)).trans (one_cell (K := strL.k) rfl (hc 0 _ rfl))
      have HP : Hid (∀ w1, Below w.heap.size w w1 → Calls Try.prog 51 #[.string s0] w1 (Puts (pt x) w1)) := fun w1 hb => HP0.out w1 [.string s0] x hmem (strL.wide (strL.keep HR.out fun b hb1 => hb.block b hb1) fun b hb1 => Nat.lt_of_lt_of_le hb1 hb.size)
      clear hc
      obtain ⟨y, hy⟩ : ∃ y, pt x = y := ⟨_, rfl⟩
      rw [hy] at hq3 HP
      have HY := Lib.hid hy
      clear hy
      go_wp2_with (first
        | (go_at_call 51
           refine (HP.out _ (HB.out)).mono ?_
           rintro e w2 ⟨u2, rfl, hown2, hb2⟩
           obtain ⟨A3, c3, rfl, -, -, -, hB2⟩ := own_slice hown2
           have HB2 := Lib.hid hB2
           have HO2 := Lib.hid (own_below (HO.out) hb2 (Nat.le_refl _))
           have Hb2 := Lib.hid ((HB.out).trans (hb2.mono (hs)))
           have hs2 := Hb2.out.size
           clear hown2 hB2 hb2)
        | (at_builtin
           refine walk_append _ rfl (.tmp 18) (.tmp 21) rfl w.heap.size u5 q.length q rfl HO2.out A3 y.length c3 y rfl rfl _ HB2.out (by omega) (by omega) ?_
           intro v4 w4 hown4 hg4 _
           have HO4 := Lib.hid hown4
           have HG4 := Lib.hid hg4
           clear hown4 hg4))
      refine ⟨⟨k + 1, by omega, by simp, ⟨q ++ y, ?_, ?_, ?_⟩, Hb2.out.grown HG4.out (by omega) (fun i hi => (HO2.out.lt i hi).1)⟩, by simp [intOf]; omega⟩
      · rw [HF.out, HQ.out, HY.out]
        simp [List.append_assoc]
      · simp [List.length_append]
        omega
      · rw [List.length_append]
        exact HO4.out
    · obtain rfl : k = n := by omega
      go_wp2_with fail
      go_ret
      refine ⟨_, rfl, ?_, HB.out⟩
      have e : lB pt xs = q := by
        rw [HQ.out, List.take_of_length_le (by rw [HL.out]; exact Nat.le_refl _), lB, HL.out]
      rw [e]
      exact HO.out
end Go.Proofs.Ytikhhcmfjncabaa
namespace Go.Proofs.Ytikhhcmfjncabaa
open Go.RowKit

set_option maxRecDepth 100000 in
set_option maxHeartbeats 1000000 in
theorem join_any (A : Option Addr) (n c : Nat) (xss : List (List Nat)) (w : World) (hl : xss.length = n) (hR : Rws (· < w.heap.size) w A xss) (hn : (joinB xss).length ≤ 1000000) :
    Calls Try.prog 41 #[.slice A n c] w fun e w' => ∃ v, e = .returned v ∧ w'.ownsRow w.heap.size 5 1 v (joinB xss).length (Bs (joinB xss)) ∧ Below w.heap.size w w' := by
  have hn2 : n ≤ 1000000 := by have := pts_many xss; rw [joinB_length] at hn; omega
  have HN := Lib.hid hn
  have HL := Lib.hid hl
  have HR := Lib.hid hR
  clear hl hR hn
  have hn3 : n < B64 := by unfold B64; omega
  go_enter Try.func41, Try.ntmps41
  go_wp2_with fail
  refine (var_any n w hn3).mono ?_
  rintro e w1 ⟨u1, rfl, hown1, hb1⟩
  have HO1 := Lib.hid hown1
  have HB1 := Lib.hid hb1
  clear hown1 hb1
  go_wp2_with fail
  go_loopw [3, 12] (fun s i wr => ∃ k : Nat, k ≤ n ∧ i = .int .i64 (k : Nat) ∧ (∃ q, q = vb n ++ pts (xss.take k) ∧ q.length ≤ 1000000 ∧ wr.ownsRow w.heap.size 5 1 s q.length (Bs q)) ∧ Below w.heap.size w wr) (fun _ i _ => n - (intOf i).toNat)
  case atStart =>
    refine ⟨0, Nat.zero_le _, rfl, ⟨_, rfl, ?_, ?_⟩, HB1.out⟩
    · have := HN.out
      rw [joinB_length, HL.out] at this
      simp [pts]
      omega
    · simpa [pts] using HO1.out
  case round =>
    obtain ⟨k, hk, rfl, ⟨q, hq, hq2, hown⟩, hbel⟩ := hrel
    have HO := Lib.hid hown
    have HB := Lib.hid hbel
    have HQ := Lib.hid hq
    have hs := hbel.size
    clear hown hbel hq
    by_cases hlt : k < n
    · obtain ⟨a, B, c2, rfl, hab, hcell, _, hBy⟩ := HR.out.at (k := k) (by rw [HL.out]; exact hlt)
      have hcell2 := (HB.out.cell (p := a.add k) (by rw [addBlock]; exact hab)).trans hcell
      have HF := Lib.hid (pts_take xss k (by rw [HL.out]; exact hlt))
      have hle2 := pts_le xss (k + 1)
      rw [HF.out, List.length_append, pt_length] at hle2
      obtain ⟨x, hx⟩ : ∃ x, xss[k]?.getD [] = x := ⟨_, rfl⟩
      rw [hx] at hcell hle2 hcell2 hBy
      have HX := Lib.hid hx
      have HY := Lib.hid hBy
      clear hx hcell hBy
      have hq3 : q.length + (vb x.length).length + x.length ≤ 1000000 := by
        have := HN.out
        rw [joinB_length, HL.out] at this
        rw [HQ.out, List.length_append]
        omega
      clear hle2
      have hx64 : x.length < B64 := by unfold B64; omega
      go_wp2_with fail
      refine (var_any x.length wr hx64).mono ?_
      rintro e w2 ⟨u2, rfl, hown2, hb2⟩
      obtain ⟨A2, c3, rfl, -, -, -, hB2⟩ := own_slice hown2
      have HB2 := Lib.hid hB2
      have Hb2 := Lib.hid hb2
      have HO2 := Lib.hid (own_below HO.out hb2 (Nat.le_refl _))
      have hs2 := hb2.size
      clear hown2 hB2 hb2
      go_wp2_with (first
        | (at_builtin
           refine walk_append _ rfl (.tmp 16) (.tmp 20) rfl w.heap.size u3 q.length q rfl HO2.out A2 (vb x.length).length c3 (vb x.length) rfl rfl _ HB2.out (by omega) (by omega) ?_
           intro v3 w3 hown3 hg3 _
           have HO3 := Lib.hid hown3
           have HG3 := Lib.hid hg3
           have HB3 := Lib.hid ((HB.out.trans (Hb2.out.mono (by omega))).grown hg3 (by omega) (fun i hi => (HO.out.lt i hi).1))
           have hs3 := hg3.size
           clear hown3 hg3)
        | (at_builtin
           refine walk_append _ rfl (.tmp 22) (.tmp 23) rfl w.heap.size v3 (q.length + (vb x.length).length) (q ++ vb x.length) rfl HO3.out B x.length c2 x rfl rfl (· < w.heap.size) (HY.out.below HB3.out (Nat.le_refl _)) (by omega) (by omega) ?_
           intro v4 w4 hown4 hg4 _
           have HO4 := Lib.hid hown4
           have HG4 := Lib.hid hg4
           clear hown4 hg4))
      refine ⟨⟨k + 1, by omega, by simp, ⟨q ++ vb x.length ++ x, ?_, ?_, ?_⟩, HB3.out.grown HG4.out (by omega) (fun i hi => (HO3.out.lt i hi).1)⟩, by simp [intOf]; omega⟩
      · rw [HF.out, HQ.out, HX.out, pt]
        simp [List.append_assoc]
      · simp [List.length_append]
        omega
      · have e : (q ++ vb x.length ++ x).length = q.length + (vb x.length).length + x.length := by simp [List.length_append]; omega
        rw [e]
        exact HO4.out
    · obtain rfl : k = n := by omega
      go_wp2_with fail
      go_ret
      refine ⟨_, rfl, ?_, HB.out⟩
      have e : joinB xss = q := by
        rw [HQ.out, List.take_of_length_le (by rw [HL.out]; exact Nat.le_refl _), joinB, HL.out]
      rw [e]
      exact HO.out
end Go.Proofs.Ytikhhcmfjncabaa
