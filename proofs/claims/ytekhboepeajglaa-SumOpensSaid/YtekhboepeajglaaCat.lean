/-
  What slices.Grow (of nil) and slices.Concat do with slices of bytes.
  Conditions: as each theorem says.
-/
import Derived.Test.YtekhboepeajglaaWds
import Derived.Lib.AppendZeros
namespace Go.Proofs.Ytekhboepeajglaa
open Go.RowKit

/-- A slice of slices of bytes: at A lie slices that hold the rows xss, all of it in blocks of which S says yes. -/
def Rws (S : Nat → Prop) (w : World) (A : Option Addr) (xss : List (List Nat)) : Prop :=
  0 < xss.length → ∃ a, A = some a ∧ S a.block ∧ ∀ j, j < xss.length → ∃ B c, w.cell? (a.add j) = some (.slice B (xss[j]?.getD []).length c) ∧ (xss[j]?.getD []).length ≤ c ∧ Byt S w B (xss[j]?.getD [])
theorem Rws.nil (S : Nat → Prop) (w : World) (A : Option Addr) : Rws S w A [] := fun h => absurd h (by simp)
theorem Rws.keep {S : Nat → Prop} {w w' : World} {A : Option Addr} {xss : List (List Nat)} (h : Rws S w A xss) (hk : ∀ b, S b → w'.heap[b]? = w.heap[b]?) : Rws S w' A xss := fun hn => by
  obtain ⟨a, e, hs, hc⟩ := h hn
  refine ⟨a, e, hs, fun j hj => ?_⟩
  obtain ⟨B, c, h1, h2, h3⟩ := hc j hj
  exact ⟨B, c, (World.cell?_of_block (hk _ (by rw [addBlock]; exact hs))).trans h1, h2, h3.keep hk⟩
theorem Rws.wide {S T : Nat → Prop} {w : World} {A : Option Addr} {xss : List (List Nat)} (h : Rws S w A xss) (hk : ∀ b, S b → T b) : Rws T w A xss := fun hn => by
  obtain ⟨a, e, hs, hc⟩ := h hn
  refine ⟨a, e, hk _ hs, fun j hj => ?_⟩
  obtain ⟨B, c, h1, h2, h3⟩ := hc j hj
  exact ⟨B, c, h1, h2, h3.wide hk⟩
theorem Rws.below {B B' : Nat} {w w' : World} {A : Option Addr} {xss : List (List Nat)} (h : Rws (· < B) w A xss) (hb : Below B' w w') (hB : B ≤ B') : Rws (· < B) w' A xss := h.keep fun b h1 => hb.block b (Nat.lt_of_lt_of_le h1 hB)
theorem Rws.at {S : Nat → Prop} {w : World} {A : Option Addr} {xss : List (List Nat)} (h : Rws S w A xss) {k : Nat} (hk : k < xss.length) :
    ∃ a B c, A = some a ∧ S a.block ∧ w.cell? (a.add k) = some (.slice B (xss[k]?.getD []).length c) ∧ (xss[k]?.getD []).length ≤ c ∧ Byt S w B (xss[k]?.getD []) := by
  obtain ⟨a, e, hs, hc⟩ := h (by omega)
  obtain ⟨B, c, h1, h2, h3⟩ := hc k hk
  exact ⟨a, B, c, e, hs, h1, h2, h3⟩

theorem flat_take (xss : List (List Nat)) (k : Nat) (h : k < xss.length) : (xss.take (k + 1)).flatten = (xss.take k).flatten ++ (xss[k]?.getD []) := by
  rw [List.take_succ_eq_append_getElem h, List.flatten_append]
  simp [h]
theorem flat_le (xss : List (List Nat)) (k : Nat) : (xss.take k).flatten.length ≤ xss.flatten.length := by
  conv => rhs; rw [← List.take_append_drop k xss]
  rw [List.flatten_append, List.length_append]
  omega
theorem own_roomy (w w' : World) (h : w'.heap.size = w.heap.size) (cs : Array Value) (G : Nat) (hG : G ≤ maxLen) (hc : cs.size = G) : (w'.alloc (.cells cs 5)).ownsRow w.heap.size 5 1 (.slice (some ⟨w.heap.size, 0, none⟩) 0 G) 0 (Bs []) := by
  have := World.ownsRow_made (base := w.heap.size) (e := 5) (size := 1) w' cs G (by omega) hG (by omega)
  rw [h] at this
  exact this

/-- append(nil, make([]byte, n)...), n at least one, at the operation. -/
theorem walk_append_make (w : World) {ops : Array Oper} {rest : List Oper} {o : Oper} {a : Act} {Q : Exit → Act → World → Prop} (hgd : o.guard = none) (s x : Operand)
    (ho : o.op = .call { callee := .builtin .append, args := #[s, x], argTypes := #[22, 3] })
    (n : Nat) (h0 : 0 < n) (hn : n ≤ 140737488355328) (hs : a.eval s = .slice none 0 0) (hx : a.eval x = .int .i64 (n : Nat))
    (h : ∀ G w', n ≤ G → G ≤ maxLen → w'.ownsRow w.heap.size 5 1 (.slice (some ⟨w.heap.size, 0, none⟩) 0 G) 0 (Bs []) → Below w.heap.size w w' → wpList Try.prog ops Q rest (a.put o.dst (.slice (some ⟨w.heap.size, 0, none⟩) n G)) w') :
    wpList Try.prog ops Q (o :: rest) a w := by
  obtain ⟨i0, hi0, hz0, hz1, hz2⟩ := info_parts u8_info
  refine wpList_plain hgd fun _ hK => ?_
  have hrun := Lib.run_append_nil_zeros (P := Try.prog) w 22 3 o.type 5 i0 (.int .u8 0) .i64 .i64 Try.underlying22 Try.underlying3 hi0 hz0 n h0 (by omega) (by omega) (by rw [hz2]; omega)
  have hG := grownCap_ge w n 0 5
  have hG2 := grownCap_le_maxLen w n 0 5 (by unfold maxLen; omega)
  generalize grownCap w n 0 5 = G at hrun hG hG2
  unfold Oper.wp execOp
  simp only [ho, resolve, invoke, builtin, Sem.run_bind, Sem.run_pure, Result.andThen_ok, List.map_toArray, List.map_cons, List.map_nil, hs, hx, hrun]
  refine hK _ _ (h G _ hG hG2 (own_roomy w w.drew rfl _ G hG2 ?_) ((Below.refl _ w).drew.alloc (Nat.le_refl _) _))
  simp [Builtin.zeroCells, Value.cells]
  omega

set_option maxRecDepth 100000 in
set_option maxHeartbeats 400000 in
theorem grow_nil (n : Nat) (w : World) (hn : n ≤ 140737488355328) :
    Calls Try.prog 22 #[.slice none 0 0, .int .i64 (n : Nat)] w fun e w' => ∃ v, e = .returned v ∧ w'.ownsRow w.heap.size 5 1 v 0 (Bs []) ∧ Below w.heap.size w w' := by
  rcases Nat.eq_zero_or_pos n with h | h
  · subst h
    go_enter Try.func22, Try.ntmps22
    go_wp2
    go_ret
    exact ⟨_, rfl, World.ownsRow_nil _ _ _ _, Below.refl _ _⟩
  · go_enter Try.func22, Try.ntmps22
    go_wp2_with (at_builtin
                 refine walk_append_make _ rfl (.tmp 20) (.tmp 21) rfl n h hn rfl rfl ?_
                 intro G w1 hG hG2 hown hb
                 have hG3 : G ≤ 9223372036854775807 := by unfold maxLen at hG2; omega
                 have HO := Lib.hid hown
                 clear hown hG2)
    go_ret
    exact ⟨_, rfl, HO.out, hb⟩

set_option maxRecDepth 100000 in
set_option maxHeartbeats 1000000 in
theorem concat_any (A : Option Addr) (n c : Nat) (xss : List (List Nat)) (w : World) (hl : xss.length = n) (hR : Rws (· < w.heap.size) w A xss) (hn : xss.flatten.length ≤ 140737488355328) (hn2 : n ≤ 140737488355328) :
    Calls Try.prog 16 #[.slice A n c] w fun e w' => ∃ v, e = .returned v ∧ w'.ownsRow w.heap.size 5 1 v xss.flatten.length (Bs xss.flatten) ∧ Below w.heap.size w w' := by
  have HL := Lib.hid hl
  have HR := Lib.hid hR
  clear hl hR
  go_enter Try.func16, Try.ntmps16
  go_wp2_with fail
  go_loop [3, 11] (fun s i => ∃ k : Nat, k ≤ n ∧ i = .int .i64 (k : Nat) ∧ s = .int .i64 (((xss.take k).flatten.length : Nat) : Int)) (fun _ i => n - (intOf i).toNat)
  case atStart => exact ⟨0, Nat.zero_le _, rfl, by simp⟩
  case round =>
    obtain ⟨k, hk, rfl, rfl⟩ := hrel
    have hle := flat_le xss k
    obtain ⟨m, hm⟩ : ∃ m, (xss.take k).flatten.length = m := ⟨_, rfl⟩
    rw [hm] at hle ⊢
    have HM := Lib.hid hm
    clear hm
    by_cases hlt : k < n
    · obtain ⟨a, B, c2, rfl, _, hcell, _, _⟩ := HR.out.at (k := k) (by rw [HL.out]; exact hlt)
      have HF := Lib.hid (flat_take xss k (by rw [HL.out]; exact hlt))
      have hle2 := flat_le xss (k + 1)
      rw [HF.out, List.length_append, HM.out] at hle2
      obtain ⟨x, hx⟩ : ∃ x, xss[k]?.getD [] = x := ⟨_, rfl⟩
      rw [hx] at hcell hle2
      have HX := Lib.hid hx
      clear hx
      go_wp2_with fail
      refine ⟨⟨k + 1, by omega, by simp, ?_⟩, by simp [intOf]; omega⟩
      rw [HF.out, List.length_append, HM.out, HX.out]
      simp
    · obtain rfl : k = n := by omega
      have HE : Hid (m = xss.flatten.length) := by
        show m = xss.flatten.length
        rw [← HM.out, List.take_of_length_le (by rw [HL.out]; exact Nat.le_refl _)]
      go_wp2_with fail
      refine (grow_nil m w (by omega)).mono ?_
      rintro e w1 ⟨v1, rfl, hown1, hb1⟩
      have HO1 := Lib.hid hown1
      have HB1 := Lib.hid hb1
      clear hown1 hb1
      go_wp2_with fail
      go_loopw [6, 27] (fun s i wr => ∃ j : Nat, j ≤ k ∧ i = .int .i64 (j : Nat) ∧ wr.ownsRow w.heap.size 5 1 s (xss.take j).flatten.length (Bs (xss.take j).flatten) ∧ Below w.heap.size w wr) (fun _ i _ => k - (intOf i).toNat)
      case atStart => exact ⟨0, Nat.zero_le _, rfl, by simpa using HO1.out, HB1.out⟩
      case round =>
        obtain ⟨j, hj, rfl, hown, hbel⟩ := hrel
        have HO := Lib.hid hown
        have HB := Lib.hid hbel
        have hs := hbel.size
        clear hown hbel
        have hlej := flat_le xss j
        by_cases hlt2 : j < k
        · obtain ⟨a, B, c2, rfl, hab, hcell, _, hBy⟩ := HR.out.at (k := j) (by rw [HL.out]; exact hlt2)
          have hcell2 := (HB.out.cell (p := a.add j) (by rw [addBlock]; exact hab)).trans hcell
          have HF := Lib.hid (flat_take xss j (by rw [HL.out]; exact hlt2))
          have hle2 := flat_le xss (j + 1)
          rw [HF.out, List.length_append] at hle2
          obtain ⟨x, hx⟩ : ∃ x, xss[j]?.getD [] = x := ⟨_, rfl⟩
          rw [hx] at hcell hle2 hcell2 hBy
          have HX := Lib.hid hx
          have HY := Lib.hid hBy
          clear hx hcell hBy
          obtain ⟨q, hq⟩ : ∃ q, (xss.take j).flatten = q := ⟨_, rfl⟩
          have HQ := Lib.hid hq
          have HO2 : Hid (wr.ownsRow w.heap.size 5 1 u6 q.length (Bs q)) := by
            show wr.ownsRow w.heap.size 5 1 u6 q.length (Bs q)
            rw [← hq]; exact HO.out
          rw [hq] at hle2 hlej
          clear hq HO
          go_wp2_with (at_builtin
                       refine walk_append _ rfl (.tmp 31) (.tmp 32) rfl w.heap.size u6 q.length q rfl HO2.out B x.length c2 x rfl rfl (· < w.heap.size) (HY.out.below HB.out (Nat.le_refl _)) (by omega) hs ?_
                       intro v2 w2 hown2 hg2 _
                       have HO3 := Lib.hid hown2
                       clear hown2)
          refine ⟨⟨j + 1, by omega, by simp, ?_, HB.out.grown hg2 hs (fun i hi => (HO2.out.lt i hi).1)⟩, by simp [intOf]; omega⟩
          rw [HF.out, HQ.out, HX.out, List.length_append]
          exact HO3.out
        · obtain rfl : j = k := by omega
          go_wp2_with fail
          go_ret
          refine ⟨_, rfl, ?_, HB.out⟩
          have := HO.out
          rw [List.take_of_length_le (by rw [HL.out]; exact Nat.le_refl _)] at this
          exact this
end Go.Proofs.Ytekhboepeajglaa
