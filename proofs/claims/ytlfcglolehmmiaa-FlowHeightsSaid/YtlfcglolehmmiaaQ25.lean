/-
  What the document's Join does. Conditions: as the theorem says (which parts lie there, and that they come to at most a million bytes).
  What the document's Fixed does: the lowest bytes of a number. Conditions: as each theorem says.
  Words for the document's Module: its types' answer in one shape, modules that are small, cells of one block beside a row that is appended to. Conditions: as each theorem says.
  What the document's own Light answers: where it says yes, all lists within lists, and texts, are small. Conditions: there is a module, and each of its lists is within what a machine reaches.
-/
import Derived.Test.YtlfcglolehmmiaaQ01
import Derived.Test.YtlfcglolehmmiaaQ02
import Derived.Test.YtlfcglolehmmiaaQ04
import Derived.Test.YtlfcglolehmmiaaQ09
import Derived.Test.YtlfcglolehmmiaaQ10
import Derived.Test.YtlfcglolehmmiaaQ23
import Derived.Test.YtlfcglolehmmiaaQ24
import Derived.Deep.DeepCutAuto
import Derived.Deep.RegionHeld3
import Derived.BigQuiet
namespace Go.Proofs.Ytlfcglolehmmiaa
open Go.RowKit

set_option maxRecDepth 100000 in
set_option maxHeartbeats 2000000 in
theorem refJoin_any (A : Option Addr) (n c : Nat) (xss : List (List Nat)) (w : World) (hl : xss.length = n) (hR : Rws (· < w.heap.size) w A xss) (hn : (joinB xss).length ≤ 1000000) :
    Calls Try.prog 55 #[.slice A n c] w fun e w' => ∃ v, e = .returned v ∧ w'.ownsRow w.heap.size 5 1 v (joinB xss).length (Bs (joinB xss)) ∧ Below w.heap.size w w' := by
  have hn2 : n ≤ 1000000 := by have := pts_many xss; rw [joinB_length] at hn; omega
  have HN := Lib.hid hn
  have HL := Lib.hid hl
  have HR := Lib.hid hR
  clear hl hR hn
  have hn3 : n < B64 := by unfold B64; omega
  go_enter Try.func55, Try.ntmps55
  go_wp2_with fail
  refine (refVar_any n w hn3).mono ?_
  rintro e w1 ⟨u1, rfl, hown1, hb1⟩
  have HO1 := Lib.hid hown1
  have HB1 := Lib.hid hb1
  clear hown1 hb1
  go_wp2_with fail
  go_loopw [3, 4] (fun s i wr => ∃ k : Nat, k ≤ n ∧ i = .int .i64 (k : Nat) ∧ (∃ q, q = vb n ++ pts (xss.take k) ∧ q.length ≤ 1000000 ∧ wr.ownsRow w.heap.size 5 1 s q.length (Bs q)) ∧ Below w.heap.size w wr) (fun _ i _ => n - (intOf i).toNat)
  case atStart =>
    refine ⟨0, Nat.zero_le _, rfl, ⟨_, rfl, ?_, ?_⟩, HB1.out⟩
    · have := HN.out
      rw [joinB_length, HL.out] at this
      simp [pts]
      omega
    · simpa [pts] using HO1.out
  case round =>
    obtain ⟨k, hk, rfl, ⟨q, hq, hq2, hown⟩, hbel⟩ := hrel
    have HO : Hid (wr.drew.ownsRow w.heap.size 5 1 u3 q.length (Bs q)) := own_below hown ((Below.refl _ wr).drew) (Nat.le_refl _)
    have HO0 := Lib.hid hown
    have HB0 := Lib.hid hbel
    have HB : Hid (Below w.heap.size w wr.drew) := hbel.drew
    have HQ := Lib.hid hq
    have hs := hbel.size
    clear hown hbel hq
    by_cases hlt : k < n
    · obtain ⟨a, B, c2, rfl, hab, hcell, _, hBy⟩ := HR.out.at (k := k) (by rw [HL.out]; exact hlt)
      have hcell2 : wr.cell? (a.add k) = some (.slice B (xss[k]?.getD []).length c2) := (HB0.out.cell (p := a.add k) (by rw [addBlock]; exact hab)).trans hcell
      have HF := Lib.hid (pts_take xss k (by rw [HL.out]; exact hlt))
      have hle2 := pts_le xss (k + 1)
      rw [HF.out, List.length_append, pt_length] at hle2
      obtain ⟨x, hx⟩ : ∃ x, xss[k]?.getD [] = x := ⟨_, rfl⟩
      rw [hx] at hcell hle2 hcell2 hBy
      have HX := Lib.hid hx
      have HY := Lib.hid hBy
      have HC := Lib.hid hcell
      have HA : Hid ((a.add k).block < w.heap.size) := by show (a.add k).block < w.heap.size; rw [addBlock]; exact hab
      clear hx hcell hBy hab
      have hq3 : q.length + (vb x.length).length + x.length ≤ 1000000 := by
        have := HN.out
        rw [joinB_length, HL.out] at this
        rw [HQ.out, List.length_append]
        omega
      clear hle2
      have hx64 : x.length < B64 := by unfold B64; omega
      have k0 : 0 ≤ (k : Int) := by omega
      have k1 : (k : Int) < (n : Int) := by omega
      have b1 : q.length + (vb x.length).length ≤ 140737488355328 := by omega
      have b2 : q.length + (vb x.length).length + x.length ≤ 140737488355328 := by omega
      have HW : Hid (IntKind.u64.wrap ((x.length : Nat) : Int) = ((x.length : Nat) : Int)) := by show IntKind.u64.wrap ((x.length : Nat) : Int) = _; rw [IntKind.wrap_u64]; omega
      go_wp2_with fail
      go_region_law (first
        | (with_reducible refine step_is (.tmp 15) (.tmp 22) 62 ?_
           refine step_append _ rfl (.tmp 15) (.tmp 22) rfl w.heap.size u3 q.length q rfl HO2.out A2 (vb x.length).length c3 (vb x.length) rfl rfl _ HB2.out b1 HS2.out ?_
           intro v3 w3 hown3 hg3 _
           have HO3 := Lib.hid hown3
           have HB3 := Lib.hid (Hb2.out.grown hg3 HS2.out (fun i hi => (HO.out.lt i hi).1))
           have HS3 := Lib.hid HB3.out.size
           have hcell4 := (HB3.out.cell (p := a.add k) HA.out).trans HC.out
           clear hown3 hg3)
        | (with_reducible refine step_is (.tmp 23) (.tmp 27) 62 ?_
           refine step_append _ rfl (.tmp 23) (.tmp 27) rfl w.heap.size v3 (q.length + (vb x.length).length) (q ++ vb x.length) rfl HO3.out B x.length c2 x rfl rfl (· < w.heap.size) (HY.out.below HB3.out (Nat.le_refl _)) b2 HS3.out ?_
           intro v4 w4 hown4 hg4 _
           have HO4 := Lib.hid hown4
           have HB4 := Lib.hid (HB3.out.grown hg4 HS3.out (fun i hi => (HO3.out.lt i hi).1))
           clear hown4 hg4)
        | (with_reducible refine step_call 49 ?_
           go_simp
           go_at_call 49
           rw [HW.out]
           refine (refVar_any x.length _ hx64).mono ?_
           rintro e w2 ⟨u2, rfl, hown2, hb2⟩
           obtain ⟨A2, c3, rfl, -, -, -, hB2⟩ := own_slice hown2
           have HB2 := Lib.hid hB2
           have Hb2 := Lib.hid (HB.out.trans (hb2.mono HB.out.size))
           have HO2 := Lib.hid (own_below HO.out hb2 (Nat.le_refl _))
           have HS2 := Lib.hid Hb2.out.size
           have hcell3 := (Hb2.out.cell (p := a.add k) HA.out).trans HC.out
           clear hown2 hB2 hb2))
      all_goals
        go_wp2_with fail
        refine ⟨⟨k + 1, by omega, by simp, ⟨q ++ vb x.length ++ x, ?_, ?_, ?_⟩, HB4.out⟩, by simp [intOf]; omega⟩
        · rw [HF.out, HQ.out, HX.out, pt]
          simp [List.append_assoc]
        · simp [List.length_append]
          omega
        · have e : (q ++ vb x.length ++ x).length = q.length + (vb x.length).length + x.length := by simp [List.length_append]; omega
          rw [e]
          exact HO4.out
    · obtain rfl : k = n := by omega
      go_wp2_with fail
      go_ret
      refine ⟨_, rfl, ?_, HB0.out⟩
      have e : joinB xss = q := by
        rw [HQ.out, List.take_of_length_le (by rw [HL.out]; exact Nat.le_refl _), joinB, HL.out]
      rw [e]
      exact HO0.out
end Go.Proofs.Ytlfcglolehmmiaa
namespace Go.Proofs.Ytlfcglolehmmiaa
open Go.RowKit
set_option maxHeartbeats 1000000 in
theorem refFixed_any (v : Nat) (n : Int) (w : World) (hv : v < B64) :
    Calls Try.prog 54 #[.int .u64 (v : Nat), .int .i64 n] w fun e w' => ∃ u, e = .returned u ∧ w'.ownsRow w.heap.size 5 1 u (wid n) (Bs (fb v (wid n))) ∧ Below w.heap.size w w' := by
  go_enter Try.func54, Try.ntmps54
  go_wp2
  go_loopw [0, 5, 6] (fun x o i wr => ∃ k : Nat, k ≤ wid n ∧ x = .int .u64 ((v / 256 ^ k : Nat) : Int) ∧ i = .int .i64 (k : Nat) ∧ wr.ownsRow w.heap.size 5 1 o k (Bs (fb v k)) ∧ Below w.heap.size w wr) (fun _ _ i _ => 8 - (intOf i).toNat)
  case atStart => exact ⟨0, Nat.zero_le _, by simp, rfl, World.ownsRow_nil _ _ _ _, Below.refl _ _⟩
  case round =>
    obtain ⟨k, hk, rfl, rfl, hown, hbel⟩ := hrel
    have hw8 := wid_le n
    have hvk : v / 256 ^ k < B64 := Nat.lt_of_le_of_lt (Nat.div_le_self _ _) hv
    obtain ⟨u, hu⟩ : ∃ u, v / 256 ^ k = u := ⟨_, rfl⟩
    rw [hu] at hvk ⊢
    have HU := Lib.hid hu
    have HO := Lib.hid hown
    have HV := Lib.hid hvk
    clear hu hown hvk hv
    have hs := hbel.size
    by_cases hlt : k < wid n
    · have t1 : decide ((k : Int) < n) = true := by unfold wid at hlt; simp; omega
      have t2 : decide ((k : Int) < 8) = true := by simp; omega
      have t3 : k < 8 := by omega
      go_wp2_with (at_builtin
                   refine walk_append _ rfl (.tmp 16) (.tmp 20) rfl w.heap.size u5 k (fb v k) rfl (HO.out.alloc _) (some ⟨wr.heap.size, 0, none⟩) 1 1 [u % 256] rfl rfl (· = wr.heap.size) (byt_one wr _ (u % 256) (by first | rfl | omega | simp)) (by omega) (by simp; omega) ?_
                   intro v1 w1 hown1 hg1 _)
      refine ⟨⟨k + 1, hlt, ?_, by simp, ?_, (hbel.alloc hs _).grown hg1 (by simp; omega) (fun j hj => (HO.out.lt j hj).1)⟩, by simp [intOf]; omega⟩
      · have e : v / 256 ^ (k + 1) = u / 256 := by rw [Nat.pow_succ, ← Nat.div_div_eq_div_mul, HU.out]
        have h := HV.out
        unfold B64 at h
        rw [e, IntKind.wrap_u64]
        congr 1
        omega
      · rw [fb_succ, HU.out]
        exact hown1
    · obtain rfl : k = wid n := by omega
      by_cases hn : ((wid n : Nat) : Int) < n
      · have t1 : decide (((wid n : Nat) : Int) < n) = true := by simpa using hn
        have t2 : decide (((wid n : Nat) : Int) < 8) = false := by unfold wid at hn ⊢; simp; omega
        have t3 : ¬ wid n < 8 := by unfold wid at hn ⊢; omega
        go_wp2
        go_ret
        exact ⟨_, rfl, HO.out, hbel⟩
      · have t1 : decide (((wid n : Nat) : Int) < n) = false := by simpa using hn
        go_wp2
        go_ret
        exact ⟨_, rfl, HO.out, hbel⟩
end Go.Proofs.Ytlfcglolehmmiaa
namespace Go.Proofs.Ytlfcglolehmmiaa
open Go.RowKit
set_option linter.unusedVariables false

theorem rtypes_flat (A : Option Addr) (n c : Nat) (xs : List Typ) (r mo : Int) (w : World) (hl : xs.length = n) (h : Sq typL (· < w.heap.size) w A xs) (hn2 : n ≤ 3000) (hr : r ≤ 8) :
    Calls Try.prog 50 #[.slice A n c, .int .i64 r, .int .i64 mo] w fun e w' => Below w.heap.size w w' ∧ ∃ A2 m c2 ys, e = .returned (.tuple #[.slice A2 m c2, .bool (witB 0 mo (goodT r) xs)]) ∧ ys.length = m ∧ m ≤ 12010 ∧ m ≤ c2 ∧ Byt (fun b => w.heap.size ≤ b ∧ b < w'.heap.size) w' A2 ys ∧ (witB 0 mo (goodT r) xs = true → ys = lB tB xs) := by
  refine (rtypes_any A n c xs r mo w hl h hn2 hr).mono ?_
  rintro e w' ⟨hb, ⟨hall, u, rfl, hown⟩ | ⟨hall, rfl⟩⟩
  · obtain ⟨A2, c2, rfl, hn, hc, _, hB⟩ := own_slice hown
    have hw : witB 0 mo (goodT r) xs = decide ((xs.length : Int) ≤ mo) := by
      simp only [witB, hall, Bool.and_true]
      exact decide_eq_decide.2 ⟨fun h => h.2, fun h => ⟨by omega, h⟩⟩
    have hlen := lB_bound tB xs 4 (fun t ht => tB_len hr (List.all_eq_true.1 hall t ht)) (by unfold B64; omega)
    refine ⟨hb, A2, _, c2, lB tB xs, by rw [hw], rfl, by omega, hc, hB, fun _ => rfl⟩
  · have hw : witB 0 mo (goodT r) xs = false := by simp only [witB, hall, Bool.and_false]
    refine ⟨hb, none, 0, 0, [], by rw [hw], rfl, by omega, by omega, Byt.nil _ _ _, fun h => by rw [hw] at h; cases h⟩

/-- What the document's Module answers. -/
def RMod (x : Mod) (w : World) (e : Ending) (w' : World) : Prop :=
  Below w.heap.size w w' ∧ ((fitB x = true ∧ ∃ u, e = .returned (.tuple #[u, .bool true]) ∧ w'.ownsRow w.heap.size 5 1 u (modB x).length (Bs (modB x))) ∨
    (fitB x = false ∧ ∃ A n c, e = .returned (.tuple #[.slice A n c, .bool false])))

/-- A module whose lists within lists, and texts, are small. -/
structure Small (x : Mod) : Prop where
  recs : ∀ t ∈ x.recs, t.length ≤ 3000
  funcs : ∀ f ∈ x.funcs, f.args.length ≤ 3000 ∧ f.locs.length ≤ 3000 ∧ f.code.length ≤ 3000
  imps : ∀ i ∈ x.imps, i.args.length ≤ 3000
  texts : ∀ s ∈ x.texts, s.length ≤ 3000
theorem Fit.small {x : Mod} (h : Fit x) : Small x := by
  refine ⟨fun t ht => ?_, fun f hf => ?_, fun i hi => ?_, fun s hs => ?_⟩
  · have := rec_sizes (h.recs t ht); omega
  · have := fn_sizes (h.funcs f hf); omega
  · have := imp_sizes (h.imps i hi); omega
  · have := h.texts s hs; omega

theorem all_app {α : Type} {g : α → Bool} {xs : List α} {k : Nat} {x : α} (hx : xs[k]? = some x) : (xs.take (k + 1)).all g = ((xs.take k).all g && g x) := by
  obtain ⟨hk, rfl⟩ := List.getElem?_eq_some_iff.1 hx
  rw [List.take_succ_eq_append_getElem hk, List.all_append]
  simp
/-- What stands in the module's parts, by its parts. -/
theorem fit_false_recs {x : Mod} (h : x.recs.all (recOk x.recs.length) = false) : fitB x = false := by
  simp [fitB, witB, h]
theorem fit_false_funcs {x : Mod} {f : Fn} (hf : f ∈ x.funcs) (h : fnOk x.recs.length f = false) : fitB x = false := by
  cases e : fitB x
  · rfl
  · have := (fitB_iff.1 e).funcs f hf
    rw [h] at this
    cases this
theorem fit_all {x : Mod} (h0 : x.recs.length ≤ 8) (h1 : 1 ≤ x.funcs.length) (h2 : x.funcs.length ≤ 8) (h3 : x.imps.length ≤ 8) (h4 : x.ints.length ≤ 16) (h5 : x.texts.length ≤ 16) :
    fitB x = (x.recs.all (recOk x.recs.length) && x.funcs.all (fnOk x.recs.length) && x.imps.all (impOk x.recs.length) && x.texts.all shortB) := by
  have e0 : decide ((0 : Int) ≤ (x.recs.length : Int) ∧ (x.recs.length : Int) ≤ 8) = true := decide_eq_true ⟨by omega, by omega⟩
  have e1 : decide ((1 : Int) ≤ (x.funcs.length : Int) ∧ (x.funcs.length : Int) ≤ 8) = true := decide_eq_true ⟨by omega, by omega⟩
  have e2 : decide ((0 : Int) ≤ (x.imps.length : Int) ∧ (x.imps.length : Int) ≤ 8) = true := decide_eq_true ⟨by omega, by omega⟩
  have e3 : decide (x.ints.length ≤ 16) = true := decide_eq_true h4
  have e4 : decide ((0 : Int) ≤ (x.texts.length : Int) ∧ (x.texts.length : Int) ≤ 16) = true := decide_eq_true ⟨by omega, by omega⟩
  simp only [fitB, witB, e0, e1, e2, e3, e4, Bool.true_and, Bool.and_true]
theorem C5.grown {b : Nat} {v0 v1 v2 v3 v4 : Value} {w w' : World} {o : Option Nat} (h : C5 b v0 v1 v2 v3 v4 w) (hg : w.grownBy w' o) (ho : o ≠ some b) (hb : b < w.heap.size) : C5 b v0 v1 v2 v3 v4 w' := by
  have hk : w'.heap[b]? = w.heap[b]? := hg.block b hb (by intro e; first | exact ho e | exact ho e.symm)
  have hc : ∀ i, w'.cell? ⟨b, i, none⟩ = w.cell? ⟨b, i, none⟩ := fun i => World.cell?_of_block hk
  exact ⟨(hc 0).trans h.1, (hc 1).trans h.2.1, (hc 2).trans h.2.2.1, (hc 3).trans h.2.2.2.1, (hc 4).trans h.2.2.2.2⟩

/-- append of a string's bytes, as one step of a statement whose order is drawn. -/
theorem step_append_str (w : World) {ops : Array Oper} {o : Oper} {a : Act} {K : Act → World → Prop} {Q : Exit → Act → World → Prop} {E : Prop} (hgd : o.guard = none) (sl x : Operand)
    (ho : o.op = .call { callee := .builtin .append, args := #[sl, x], argTypes := #[62, 9] })
    (base : Nat) (v : Value) (n : Nat) (xs : List Nat) (hs : a.eval sl = v) (hown : w.ownsRow base 5 1 v n (Bs xs)) (s : ByteArray) (hx : a.eval x = .string s)
    (hbig : n + (strB s).length ≤ 140737488355328) (hbase : base ≤ w.heap.size)
    (h : ∀ v' w', w'.ownsRow base 5 1 v' (n + (strB s).length) (Bs (xs ++ strB s)) → w.grownBy w' v.ownBlock → K (a.put o.dst v') w') :
    if Region.wanted o (yielded ops a.tmps) = true then Oper.wp Try.prog o a w K Q else E := by
  have hw : Region.wanted o (yielded ops a.tmps) = true := by simp [Region.wanted, hgd]
  rw [if_pos hw]
  obtain ⟨i0, hi0, hz0, hz1, hz2⟩ := info_parts u8_info
  rw [strB_len] at hbig h
  obtain ⟨v', w', hrun, h2, h3, _⟩ := Lib.run_append_own_string (P := Try.prog) w base 62 9 o.type 5 i0 Try.underlying62 Try.underlying9 hi0 hz0 hz1 hz2 v n (Bs xs) hown s (by simp only [maxLen]; omega) hbig hbase
  unfold Oper.wp execOp
  simp only [ho, resolve, invoke, builtin, Sem.run_bind, Sem.run_pure, Result.andThen_ok, List.map_toArray, List.map_cons, List.map_nil, hs, hx, hrun]
  rw [strB_cells, ← Bs_app] at h2
  exact h v' w' h2 h3
/-- A guard: the operation is an append of just these operands, of these two types. -/
theorem step_is2 (s x : Operand) (t u : TypeId) {d : Option Tmp} {ty : TypeId} {p : String} {af : Array Edge} {g : Option (Nat × Bool)} {y : Nat → Option Bool} {inst : Decidable (Region.wanted ⟨d, .call ⟨.builtin .append, #[s, x], #[t, u]⟩, ty, p, af, g⟩ y = true)} {W E : Prop}
    (h : @ite Prop (Region.wanted ⟨d, .call ⟨.builtin .append, #[s, x], #[t, u]⟩, ty, p, af, g⟩ y = true) inst W E) : @ite Prop (Region.wanted ⟨d, .call ⟨.builtin .append, #[s, x], #[t, u]⟩, ty, p, af, g⟩ y = true) inst W E := h
theorem take_all_false {α : Type} {g : α → Bool} {xs : List α} {k : Nat} (h : (xs.take k).all g = false) : xs.all g = false := by
  rw [← List.take_append_drop k xs, List.all_append, h]
  rfl
theorem get_all_false {α : Type} {g : α → Bool} {xs : List α} {k : Nat} {x : α} (hx : xs[k]? = some x) (h : g x = false) : xs.all g = false := by
  rw [List.all_eq_false]
  exact ⟨x, List.mem_of_getElem? hx, by rw [h]; simp⟩
theorem all_full {α : Type} {xs : List α} {n : Nat} (h : xs.length = n) : xs.take n = xs := List.take_of_length_le (by omega)
theorem insB_len_pos {t : Ins} (h : goodIn t = true) : 0 < (iB t).length := by
  obtain ⟨o, a, b⟩ := t
  obtain ⟨o1, a1, b1, rfl, rfl, rfl, _⟩ := goodI_parts (op := o) (a := a) (b := b) h
  rw [iB, insB_good h]
  simp
theorem insB_bad {t : Ins} (h : goodIn t = false) : iB t = [] := by
  obtain ⟨o, a, b⟩ := t
  unfold iB insB
  have h' : goodI o a b = false := h
  simp [h']
theorem wit_few {α : Type} {g : α → Bool} {xs : List α} {n : Nat} {hi : Int} (h : xs.length = n) (hn : ¬ 1 ≤ n) : witB 1 hi g xs = false := by
  have : decide ((1 : Int) ≤ (xs.length : Int) ∧ (xs.length : Int) ≤ hi) = false := decide_eq_false (by omega)
  rw [witB, this]
  rfl
theorem wit_many {α : Type} {g : α → Bool} {xs : List α} {n : Nat} (h : xs.length = n) (hn : ¬ n ≤ 64) : witB 1 64 g xs = false := by
  have : decide ((1 : Int) ≤ (xs.length : Int) ∧ (xs.length : Int) ≤ 64) = false := decide_eq_false (by omega)
  rw [witB, this]
  rfl
theorem wit_one {α : Type} {g : α → Bool} {xs : List α} {lo hi : Int} {k : Nat} {x : α} (hx : xs[k]? = some x) (h : g x = false) : witB lo hi g xs = false := by
  rw [witB, get_all_false hx h]
  simp
theorem wit_fine {α : Type} {g : α → Bool} {xs : List α} {n : Nat} (h : xs.length = n) (h1 : 1 ≤ n) (h2 : n ≤ 64) (ha : xs.all g = true) : witB 1 64 g xs = true := by
  have : decide ((1 : Int) ≤ (xs.length : Int) ∧ (xs.length : Int) ≤ 64) = true := decide_eq_true (by omega)
  rw [witB, this, ha]
  rfl
/-- A slice's own block lies outside of these blocks. -/
def Out (lo hi : Nat) (v : Value) : Prop := ∀ i, v.ownBlock = some i → i < lo ∨ hi ≤ i
theorem grown_in {lo hi b : Nat} {v : Value} {w w' : World} (ho : Out lo hi v) (hg : w.grownBy w' v.ownBlock) (h1 : lo ≤ b) (h2 : b < hi) (h3 : hi ≤ w.heap.size) : w'.heap[b]? = w.heap[b]? :=
  hg.block b (by omega) (by intro e; have := ho b (by first | exact e | exact e.symm); omega)
theorem Out.grown {lo hi n : Nat} {v v' : Value} (h : Out lo hi v) (hv : v'.ownBlock = v.ownBlock ∨ v'.ownBlock = some n) (hn : hi ≤ n) : Out lo hi v' := fun i hi' => by
  rcases hv with e | e
  · exact h i (e ▸ hi')
  · rw [e] at hi'
    injection hi' with hi'
    omega
/-- A row of bytes that grows beside one block of five cells and two slices of bytes. -/
structure Rgn (V : World) (lo hi : Nat) (a b c d e : Value) (Y1 Y2 : Option Addr) (ys1 ys2 : List Nat) (s : Value) (q : List Nat) (w : World) : Prop where
  own : w.ownsRow V.heap.size 5 1 s q.length (Bs q)
  bel : Below V.heap.size V w
  c5 : C5 lo a b c d e w
  y1 : Byt (fun b => lo ≤ b ∧ b < hi) w Y1 ys1
  y2 : Byt (fun b => lo ≤ b ∧ b < hi) w Y2 ys2
  out : Out lo hi s
  lh : lo < hi
  hw : hi ≤ w.heap.size
section
variable {V : World} {lo hi : Nat} {a b c d e : Value} {Y1 Y2 : Option Addr} {ys1 ys2 : List Nat} {s : Value} {q : List Nat} {w w' : World}
theorem Rgn.call (h : Rgn V lo hi a b c d e Y1 Y2 ys1 ys2 s q w) (hb : Below w.heap.size w w') : Rgn V lo hi a b c d e Y1 Y2 ys1 ys2 s q w' :=
  have hl := h.lh
  have hh := h.hw
  ⟨own_below h.own hb (Nat.le_refl _), h.bel.trans (hb.mono h.bel.size), h.c5.below hb (by omega), h.y1.keep fun b h1 => hb.block b (by omega), h.y2.keep fun b h1 => hb.block b (by omega), h.out, h.lh, Nat.le_trans h.hw hb.size⟩
theorem rgn_cells (h : Rgn V lo hi a b c d e Y1 Y2 ys1 ys2 s q w) : w.cell? ⟨lo, 1, none⟩ = some b ∧ w.cell? ⟨lo, 2, none⟩ = some c ∧ w.cell? ⟨lo, 4, none⟩ = some e := ⟨h.c5.2.1, h.c5.2.2.1, h.c5.2.2.2.2⟩
theorem Rgn.drew (h : Rgn V lo hi a b c d e Y1 Y2 ys1 ys2 s q w) : Rgn V lo hi a b c d e Y1 Y2 ys1 ys2 s q w.drew := h.call ((Below.refl _ w).drew)
theorem Rgn.app (h : Rgn V lo hi a b c d e Y1 Y2 ys1 ys2 s q w) {v' : Value} {ys : List Nat} {m : Nat} (hm : ys.length = m) (hown : w'.ownsRow V.heap.size 5 1 v' (q.length + m) (Bs (q ++ ys))) (hg : w.grownBy w' s.ownBlock) (hv : v'.ownBlock = s.ownBlock ∨ v'.ownBlock = some w.heap.size) :
    Rgn V lo hi a b c d e Y1 Y2 ys1 ys2 v' (q ++ ys) w' := by
  have hl := h.lh
  have hh := h.hw
  have hk : ∀ b, lo ≤ b ∧ b < hi → w'.heap[b]? = w.heap[b]? := fun b hb => grown_in h.out hg hb.1 hb.2 hh
  refine ⟨by rw [List.length_append, hm]; exact hown, h.bel.grown hg h.bel.size (fun i hi => (h.own.lt i hi).1), ?_, h.y1.keep hk, h.y2.keep hk, h.out.grown hv hh, hl, Nat.le_trans hh hg.size⟩
  have hc : ∀ i, w'.cell? ⟨lo, i, none⟩ = w.cell? ⟨lo, i, none⟩ := fun i => World.cell?_of_block (hk lo ⟨Nat.le_refl _, hl⟩)
  exact ⟨(hc 0).trans h.c5.1, (hc 1).trans h.c5.2.1, (hc 2).trans h.c5.2.2.1, (hc 3).trans h.c5.2.2.2.1, (hc 4).trans h.c5.2.2.2.2⟩
end
end Go.Proofs.Ytlfcglolehmmiaa
namespace Go.Proofs.Ytlfcglolehmmiaa
open Go.RowKit
set_option linter.unusedSimpArgs false
set_option linter.unusedVariables false

/-- The first k things measure at most z. -/
def Ub {α : Type} (g : α → Nat) (xs : List α) (k : Nat) (z : Int) : Prop := ∀ j p, j < k → xs[j]? = some p → (g p : Int) ≤ z
theorem Ub.zero {α : Type} (g : α → Nat) (xs : List α) (z : Int) : Ub g xs 0 z := fun j p h => absurd h (by omega)
theorem Ub.mono {α : Type} {g : α → Nat} {xs : List α} {k : Nat} {z z' : Int} (h : Ub g xs k z) (hz : z ≤ z') : Ub g xs k z' := fun j p h1 h2 => Int.le_trans (h j p h1 h2) hz
theorem Ub.step {α : Type} {g : α → Nat} {xs : List α} {k : Nat} {z z' : Int} {p : α} (h : Ub g xs k z) (hp : xs[k]? = some p) (hz : z ≤ z') (hg : (g p : Int) ≤ z') : Ub g xs (k + 1) z' := fun j q h1 h2 => by
  by_cases e : j = k
  · subst e
    rw [hp] at h2
    injection h2 with h2
    subst h2
    exact hg
  · exact Int.le_trans (h j q (by omega) h2) hz
theorem Ub.all {α : Type} {g : α → Nat} {xs : List α} {n : Nat} {z : Int} (h : Ub g xs n z) (hn : xs.length = n) : ∀ p ∈ xs, (g p : Int) ≤ z := fun p hp => by
  obtain ⟨j, hj⟩ := List.mem_iff_getElem?.1 hp
  exact h j p (by rw [← hn]; exact (List.getElem?_eq_some_iff.1 hj).1) hj

set_option maxRecDepth 100000 in
set_option maxHeartbeats 8000000 in
theorem light_any (cs : List Value) (x : Mod) (w : World) (h : modL.R (· < w.heap.size) w cs x) (hz : Zm x) : Calls Try.prog 8 #[vAgg cs] w fun e w' => ∃ b : Bool, e = .returned (.bool b) ∧ Below w.heap.size w w' ∧ (b = true → Small x) := by
  have hR : reachBytes < 140737488355328 := reachBytes_lt
  obtain ⟨⟨r0, y0⟩, ⟨r1, y1⟩, ⟨r2, y2⟩, ⟨r3, -⟩, r4, y4⟩ := hz
  have Z0 : Hid (∀ t ∈ x.recs, t.length < 140737488355328) := fun t ht => Nat.lt_of_le_of_lt (y0 t ht).1 hR
  have Z1 : Hid (∀ f ∈ x.funcs, f.args.length < 140737488355328 ∧ f.locs.length < 140737488355328 ∧ f.code.length < 140737488355328) := fun f hf => ⟨Nat.lt_of_le_of_lt (y1 f hf).1.1 hR, Nat.lt_of_le_of_lt (y1 f hf).2.1.1 hR, Nat.lt_of_le_of_lt (y1 f hf).2.2.1 hR⟩
  have Z2 : Hid (∀ f ∈ x.imps, f.args.length < 140737488355328) := fun f hf => Nat.lt_of_le_of_lt (y2 f hf).1 hR
  have Z4 : Hid (∀ s ∈ x.texts, s.length < 140737488355328) := fun s hs => Nat.lt_of_le_of_lt (y4 s hs) hR
  replace r0 : x.recs.length < 140737488355328 := Nat.lt_of_le_of_lt r0 hR
  replace r1 : x.funcs.length < 140737488355328 := Nat.lt_of_le_of_lt r1 hR
  replace r2 : x.imps.length < 140737488355328 := Nat.lt_of_le_of_lt r2 hR
  replace r3 : x.ints.length < 140737488355328 := Nat.lt_of_le_of_lt r3 hR
  replace r4 : x.texts.length < 140737488355328 := Nat.lt_of_le_of_lt r4 hR
  clear hR y0 y1 y2 y4
  obtain ⟨_, _, _, _, _, rfl, ⟨A0, d0, e0, l0, m0, s0⟩, ⟨A1, d1, e1, l1, m1, s1⟩, ⟨A2, d2, e2, l2, m2, s2⟩, ⟨A3, d3, e3, l3, m3, s3⟩, ⟨A4, d4, e4, l4, m4, s4⟩⟩ := h
  simp only [List.cons.injEq, and_true] at e0 e1 e2 e3 e4
  subst e0 e1 e2 e3 e4
  unfold maxLen at m0 m1 m2 m3 m4
  show Calls Try.prog 8 #[.agg #[.slice A0 x.recs.length d0, .slice A1 x.funcs.length d1, .slice A2 x.imps.length d2, .slice A3 x.ints.length d3, .slice A4 x.texts.length d4]] w _
  obtain ⟨n0, hn0⟩ : ∃ n, x.recs.length = n := ⟨_, rfl⟩
  have HL0 := Lib.hid hn0
  have HS0 := Lib.hid s0
  obtain ⟨n1, hn1⟩ : ∃ n, x.funcs.length = n := ⟨_, rfl⟩
  have HL1 := Lib.hid hn1
  have HS1 := Lib.hid s1
  obtain ⟨n2, hn2⟩ : ∃ n, x.imps.length = n := ⟨_, rfl⟩
  have HL2 := Lib.hid hn2
  have HS2 := Lib.hid s2
  obtain ⟨n3, hn3⟩ : ∃ n, x.ints.length = n := ⟨_, rfl⟩
  have HL3 := Lib.hid hn3
  have HS3 := Lib.hid s3
  obtain ⟨n4, hn4⟩ : ∃ n, x.texts.length = n := ⟨_, rfl⟩
  have HL4 := Lib.hid hn4
  have HS4 := Lib.hid s4
  rw [hn0, hn1, hn2, hn3, hn4]
  rw [hn0] at l0 r0
  rw [hn1] at l1 r1
  rw [hn2] at l2 r2
  rw [hn3] at l3 r3
  rw [hn4] at l4 r4
  clear hn0 s0 hn1 s1 hn2 s2 hn3 s3 hn4 s4
  have hw0 : (n0 : Int) ≤ 9223372036854775807 := by omega
  have hw1 : (n1 : Int) ≤ 9223372036854775807 := by omega
  have hw2 : (n2 : Int) ≤ 9223372036854775807 := by omega
  have hw4 : (n4 : Int) ≤ 9223372036854775807 := by omega
  have HB0 : Hid (Below w.heap.size w (w.alloc (.cells #[.slice A0 n0 d0, .slice A1 n1 d1, .slice A2 n2 d2, .slice A3 n3 d3, .slice A4 n4 d4] 28))) := (Below.refl _ _).alloc (Nat.le_refl _) _
  go_enter Try.func8, Try.ntmps8
  go_wp2_with fail
  · go_ret
    exact ⟨_, rfl, HB0.out, fun h => by simp at h⟩
  have hsum : n0 + n1 + n2 + n3 + n4 ≤ 200 := by omega
  refine wp_world fun W hW => ?_
  have HBW : Hid (Below w.heap.size w W) := by show Below _ _ _; rw [hW]; exact HB0.out
  have HCW : Hid (C5 w.heap.size (.slice A0 n0 d0) (.slice A1 n1 d1) (.slice A2 n2 d2) (.slice A3 n3 d3) (.slice A4 n4 d4) W) := by rw [hW]; show C5 _ _ _ _ _ _ _; simp [C5, go_sem]
  have hWz : w.heap.size < W.heap.size := by rw [hW]; simp
  have HZ : Hid (∀ wr, Below W.heap.size W wr → C5 w.heap.size (.slice A0 n0 d0) (.slice A1 n1 d1) (.slice A2 n2 d2) (.slice A3 n3 d3) (.slice A4 n4 d4) wr) := fun wr hb => HCW.out.below hb hWz
  have HFin : Hid (∀ wr, Below W.heap.size W wr → Below w.heap.size w wr) := fun wr hb => HBW.out.trans (hb.mono HBW.out.size)
  clear hW HB0 HCW
  have HA0 := Lib.hid ((HS0.out.below HBW.out (Nat.le_refl _)).wide (T := (· < W.heap.size)) fun b hb => Nat.lt_of_lt_of_le hb HBW.out.size)
  clear HS0
  have HA1 := Lib.hid ((HS1.out.below HBW.out (Nat.le_refl _)).wide (T := (· < W.heap.size)) fun b hb => Nat.lt_of_lt_of_le hb HBW.out.size)
  clear HS1
  have HA2 := Lib.hid ((HS2.out.below HBW.out (Nat.le_refl _)).wide (T := (· < W.heap.size)) fun b hb => Nat.lt_of_lt_of_le hb HBW.out.size)
  clear HS2
  have HA3 := Lib.hid ((HS3.out.below HBW.out (Nat.le_refl _)).wide (T := (· < W.heap.size)) fun b hb => Nat.lt_of_lt_of_le hb HBW.out.size)
  clear HS3
  have HA4 := Lib.hid ((HS4.out.below HBW.out (Nat.le_refl _)).wide (T := (· < W.heap.size)) fun b hb => Nat.lt_of_lt_of_le hb HBW.out.size)
  clear HS4
  go_loopw [3, 4] (fun s i wr => ∃ (z : Int) (k : Nat), s = .int .i64 z ∧ k ≤ n0 ∧ i = .int .i64 (k : Nat) ∧ 0 ≤ z ∧ z ≤ 200 + (k : Int) * 140737488355328 ∧ Ub List.length x.recs k z ∧ Below W.heap.size W wr) (fun _ i _ => n0 - (intOf i).toNat)
  case atStart => exact ⟨_, 0, rfl, Nat.zero_le _, rfl, by omega, by omega, Ub.zero _ _ _, Below.refl _ _⟩
  case round =>
    obtain ⟨z, k, rfl, hk, rfl, hz0, hz1, g0, hbel⟩ := hrel
    have HU0 := Lib.hid g0
    clear g0
    have HB := Lib.hid hbel
    have hs := hbel.size
    clear hbel
    by_cases hlt : k < n0
    · obtain ⟨p, hp⟩ : ∃ p, x.recs[k]? = some p := ⟨x.recs[k]'(by rw [HL0.out]; exact hlt), List.getElem?_eq_getElem _⟩
      have HP := Lib.hid hp
      have hm := List.mem_of_getElem? hp
      obtain ⟨a, cs, ea, hab, hc, hR⟩ := HA0.out.at hp
      clear hp
      subst ea
      have hb9 := Z0.out p hm
      obtain ⟨P0, c3, rfl, -, -, -⟩ := hR
      have ca0 := (HB.out.cell (p := a.add k) (by rw [addBlock]; exact hab)).trans (one_cell (K := tysL.k) rfl (hc 0 _ rfl))
      obtain ⟨v1, hv1⟩ : ∃ v, p.length = v := ⟨_, rfl⟩
      rw [hv1] at ca0 hb9
      have HV1 := Lib.hid hv1
      clear hc hm hv1
      obtain ⟨z0, z1, z2, z3, z4⟩ := HZ.out wr HB.out
      have k0' : 0 ≤ (k : Int) := by omega
      have k1' : (k : Int) < (n0 : Int) := by omega
      go_wp2_with fail
      exact ⟨⟨z + (v1 : Int), k + 1, rfl, by omega, by simp, by omega, by omega, HU0.out.step HP.out (by omega) (by simp only [HV1.out]; omega), HB.out⟩, by simp [intOf]; omega⟩
    · obtain rfl : k = n0 := by omega
      obtain ⟨n0, hnn⟩ : ∃ n, n = k := ⟨_, rfl⟩
      subst hnn
      obtain ⟨z0, z1, z2, z3, z4⟩ := HZ.out wr HB.out
      go_wp2_with fail
      go_loopw [3, 5] (fun s i wr => ∃ (z : Int) (k : Nat), s = .int .i64 z ∧ k ≤ n1 ∧ i = .int .i64 (k : Nat) ∧ 0 ≤ z ∧ z ≤ 28147497671065800 + (k : Int) * 422212465065984 ∧ Ub List.length x.recs n0 z ∧ Ub (fun f => List.length (Fn.args f)) x.funcs k z ∧ Ub (fun f => List.length (Fn.locs f)) x.funcs k z ∧ Ub (fun f => List.length (Fn.code f)) x.funcs k z ∧ Below W.heap.size W wr) (fun _ i _ => n1 - (intOf i).toNat)
      case atStart => exact ⟨_, 0, rfl, Nat.zero_le _, rfl, by omega, by omega, HU0.out, Ub.zero _ _ _, Ub.zero _ _ _, Ub.zero _ _ _, HB.out⟩
      case round =>
        obtain ⟨z, k, rfl, hk, rfl, hz0, hz1, o0, g0, g1, g2, hbel⟩ := hrel
        clear HB
        clear HU0
        have HU0 := Lib.hid o0
        have HU1 := Lib.hid g0
        have HU2 := Lib.hid g1
        have HU3 := Lib.hid g2
        clear o0 g0 g1 g2
        have HB := Lib.hid hbel
        have hs := hbel.size
        clear hbel
        by_cases hlt : k < n1
        · obtain ⟨p, hp⟩ : ∃ p, x.funcs[k]? = some p := ⟨x.funcs[k]'(by rw [HL1.out]; exact hlt), List.getElem?_eq_getElem _⟩
          have HP := Lib.hid hp
          have hm := List.mem_of_getElem? hp
          obtain ⟨a, cs, ea, hab, hc, hR⟩ := HA1.out.at hp
          clear hp
          subst ea
          obtain ⟨hb7, hb8, hb9⟩ := Z1.out p hm
          obtain ⟨_, _, _, rfl, -, -, ⟨P0, c3, e4, -⟩, ⟨P2, c5, e6, -⟩, ⟨P4, c7, e8, -⟩⟩ := hR
          simp only [List.cons.injEq, and_true] at e4 e6 e8
          subst e4 e6 e8
          have ca0 := (HB.out.cell (p := a.add (k * 5)) (by rw [addBlock]; exact hab)).trans (hc 0 _ rfl)
          have ca1 := (HB.out.cell (p := a.add (k * 5 + 1)) (by rw [addBlock]; exact hab)).trans (hc 1 _ rfl)
          rw [next_cell a (k * 5) 1 (by omega)] at ca1
          have ca2 := (HB.out.cell (p := a.add (k * 5 + 2)) (by rw [addBlock]; exact hab)).trans (hc 2 _ rfl)
          rw [next_cell a (k * 5) 2 (by omega)] at ca2
          have ca3 := (HB.out.cell (p := a.add (k * 5 + 3)) (by rw [addBlock]; exact hab)).trans (hc 3 _ rfl)
          rw [next_cell a (k * 5) 3 (by omega)] at ca3
          have ca4 := (HB.out.cell (p := a.add (k * 5 + 4)) (by rw [addBlock]; exact hab)).trans (hc 4 _ rfl)
          rw [next_cell a (k * 5) 4 (by omega)] at ca4
          obtain ⟨v1, hv1⟩ : ∃ v, p.args.length = v := ⟨_, rfl⟩
          obtain ⟨v2, hv2⟩ : ∃ v, p.locs.length = v := ⟨_, rfl⟩
          obtain ⟨v3, hv3⟩ : ∃ v, p.code.length = v := ⟨_, rfl⟩
          rw [hv1] at ca0 hb7
          rw [hv2] at ca3 hb8
          rw [hv3] at ca4 hb9
          have HV1 := Lib.hid hv1
          have HV2 := Lib.hid hv2
          have HV3 := Lib.hid hv3
          clear hc hm hv1 hv2 hv3
          obtain ⟨z0, z1, z2, z3, z4⟩ := HZ.out wr HB.out
          have k0' : 0 ≤ (k : Int) := by omega
          have k1' : (k : Int) < (n1 : Int) := by omega
          go_wp2_with fail
          go_quiet (fail)
          go_wp2_with fail
          exact ⟨⟨z + (v1 : Int) + (v2 : Int) + (v3 : Int), k + 1, rfl, by omega, by simp, by omega, by omega, HU0.out.mono (by omega), HU1.out.step HP.out (by omega) (by simp only [HV1.out]; omega), HU2.out.step HP.out (by omega) (by simp only [HV2.out]; omega), HU3.out.step HP.out (by omega) (by simp only [HV3.out]; omega), below_drews' HB.out _ hs⟩, by simp [intOf]; omega⟩
        · obtain rfl : k = n1 := by omega
          obtain ⟨n1, hnn⟩ : ∃ n, n = k := ⟨_, rfl⟩
          subst hnn
          obtain ⟨z0, z1, z2, z3, z4⟩ := HZ.out wr HB.out
          go_wp2_with fail
          go_loopw [3, 6] (fun s i wr => ∃ (z : Int) (k : Nat), s = .int .i64 z ∧ k ≤ n2 ∧ i = .int .i64 (k : Nat) ∧ 0 ≤ z ∧ z ≤ 112589990684262600 + (k : Int) * 140737488355328 ∧ Ub List.length x.recs n0 z ∧ Ub (fun f => List.length (Fn.args f)) x.funcs n1 z ∧ Ub (fun f => List.length (Fn.locs f)) x.funcs n1 z ∧ Ub (fun f => List.length (Fn.code f)) x.funcs n1 z ∧ Ub (fun f => List.length (Imp.args f)) x.imps k z ∧ Below W.heap.size W wr) (fun _ i _ => n2 - (intOf i).toNat)
          case atStart => exact ⟨_, 0, rfl, Nat.zero_le _, rfl, by omega, by omega, HU0.out, HU1.out, HU2.out, HU3.out, Ub.zero _ _ _, HB.out⟩
          case round =>
            obtain ⟨z, k, rfl, hk, rfl, hz0, hz1, o0, o1, o2, o3, g0, hbel⟩ := hrel
            clear HB
            clear HU0 HU1 HU2 HU3
            have HU0 := Lib.hid o0
            have HU1 := Lib.hid o1
            have HU2 := Lib.hid o2
            have HU3 := Lib.hid o3
            have HU4 := Lib.hid g0
            clear o0 o1 o2 o3 g0
            have HB := Lib.hid hbel
            have hs := hbel.size
            clear hbel
            by_cases hlt : k < n2
            · obtain ⟨p, hp⟩ : ∃ p, x.imps[k]? = some p := ⟨x.imps[k]'(by rw [HL2.out]; exact hlt), List.getElem?_eq_getElem _⟩
              have HP := Lib.hid hp
              have hm := List.mem_of_getElem? hp
              obtain ⟨a, cs, ea, hab, hc, hR⟩ := HA2.out.at hp
              clear hp
              subst ea
              have hb9 := Z2.out p hm
              obtain ⟨_, rfl, -, -, ⟨P0, c3, e4, -⟩⟩ := hR
              simp only [List.cons.injEq, and_true] at e4
              subst e4
              have ca0 := (HB.out.cell (p := a.add (k * 3)) (by rw [addBlock]; exact hab)).trans (hc 0 _ rfl)
              have ca1 := (HB.out.cell (p := a.add (k * 3 + 1)) (by rw [addBlock]; exact hab)).trans (hc 1 _ rfl)
              rw [next_cell a (k * 3) 1 (by omega)] at ca1
              have ca2 := (HB.out.cell (p := a.add (k * 3 + 2)) (by rw [addBlock]; exact hab)).trans (hc 2 _ rfl)
              rw [next_cell a (k * 3) 2 (by omega)] at ca2
              obtain ⟨v1, hv1⟩ : ∃ v, p.args.length = v := ⟨_, rfl⟩
              rw [hv1] at ca0 hb9
              have HV1 := Lib.hid hv1
              clear hc hm hv1
              obtain ⟨z0, z1, z2, z3, z4⟩ := HZ.out wr HB.out
              have k0' : 0 ≤ (k : Int) := by omega
              have k1' : (k : Int) < (n2 : Int) := by omega
              go_wp2_with fail
              exact ⟨⟨z + (v1 : Int), k + 1, rfl, by omega, by simp, by omega, by omega, HU0.out.mono (by omega), HU1.out.mono (by omega), HU2.out.mono (by omega), HU3.out.mono (by omega), HU4.out.step HP.out (by omega) (by simp only [HV1.out]; omega), HB.out⟩, by simp [intOf]; omega⟩
            · obtain rfl : k = n2 := by omega
              obtain ⟨n2, hnn⟩ : ∃ n, n = k := ⟨_, rfl⟩
              subst hnn
              obtain ⟨z0, z1, z2, z3, z4⟩ := HZ.out wr HB.out
              go_wp2_with fail
              go_loopw [3, 7] (fun s i wr => ∃ (z : Int) (k : Nat), s = .int .i64 z ∧ k ≤ n4 ∧ i = .int .i64 (k : Nat) ∧ 0 ≤ z ∧ z ≤ 140737488355328200 + (k : Int) * 140737488355328 ∧ Ub List.length x.recs n0 z ∧ Ub (fun f => List.length (Fn.args f)) x.funcs n1 z ∧ Ub (fun f => List.length (Fn.locs f)) x.funcs n1 z ∧ Ub (fun f => List.length (Fn.code f)) x.funcs n1 z ∧ Ub (fun f => List.length (Imp.args f)) x.imps n2 z ∧ Ub List.length x.texts k z ∧ Below W.heap.size W wr) (fun _ i _ => n4 - (intOf i).toNat)
              case atStart => exact ⟨_, 0, rfl, Nat.zero_le _, rfl, by omega, by omega, HU0.out, HU1.out, HU2.out, HU3.out, HU4.out, Ub.zero _ _ _, HB.out⟩
              case round =>
                obtain ⟨z, k, rfl, hk, rfl, hz0, hz1, o0, o1, o2, o3, o4, g0, hbel⟩ := hrel
                clear HB
                clear HU0 HU1 HU2 HU3 HU4
                have HU0 := Lib.hid o0
                have HU1 := Lib.hid o1
                have HU2 := Lib.hid o2
                have HU3 := Lib.hid o3
                have HU4 := Lib.hid o4
                have HU5 := Lib.hid g0
                clear o0 o1 o2 o3 o4 g0
                have HB := Lib.hid hbel
                have hs := hbel.size
                clear hbel
                by_cases hlt : k < n4
                · obtain ⟨p, hp⟩ : ∃ p, x.texts[k]? = some p := ⟨x.texts[k]'(by rw [HL4.out]; exact hlt), List.getElem?_eq_getElem _⟩
                  have HP := Lib.hid hp
                  have hm := List.mem_of_getElem? hp
                  obtain ⟨a, cs, ea, hab, hc, hR⟩ := HA4.out.at hp
                  clear hp
                  subst ea
                  have hb9 := Z4.out p hm
                  obtain ⟨st, rfl, hst⟩ := hR
                  have ca0 := (HB.out.cell (p := a.add k) (by rw [addBlock]; exact hab)).trans (one_cell (K := strL.k) rfl (hc 0 _ rfl))
                  obtain ⟨v1, hv1⟩ : ∃ v, p.length = v := ⟨_, rfl⟩
                  have hsz : st.size = v1 := by rw [← hv1, hst, strB_len]
                  rw [hv1] at hb9
                  clear hst
                  have HV1 := Lib.hid hv1
                  clear hc hm hv1
                  obtain ⟨z0, z1, z2, z3, z4⟩ := HZ.out wr HB.out
                  have k0' : 0 ≤ (k : Int) := by omega
                  have k1' : (k : Int) < (n4 : Int) := by omega
                  go_wp2_with fail
                  exact ⟨⟨z + (v1 : Int), k + 1, rfl, by omega, by simp, by omega, by omega, HU0.out.mono (by omega), HU1.out.mono (by omega), HU2.out.mono (by omega), HU3.out.mono (by omega), HU4.out.mono (by omega), HU5.out.step HP.out (by omega) (by simp only [HV1.out]; omega), HB.out⟩, by simp [intOf]; omega⟩
                · obtain rfl : k = n4 := by omega
                  obtain ⟨n4, hnn⟩ : ∃ n, n = k := ⟨_, rfl⟩
                  subst hnn
                  obtain ⟨z0, z1, z2, z3, z4⟩ := HZ.out wr HB.out
                  go_wp2_with fail
                  go_ret
                  refine ⟨_, rfl, HFin.out _ HB.out, fun hb => ?_⟩
                  have hz3 : z < 3000 := by simpa using hb
                  refine ⟨fun t ht => ?_, fun f hf => ⟨?_, ?_, ?_⟩, fun i hi => ?_, fun s hs => ?_⟩
                  · have := HU0.out.all HL0.out t ht; omega
                  · have := HU1.out.all HL1.out f hf; omega
                  · have := HU2.out.all HL1.out f hf; omega
                  · have := HU3.out.all HL1.out f hf; omega
                  · have := HU4.out.all HL2.out i hi; omega
                  · have := HU5.out.all HL4.out s hs; omega
end Go.Proofs.Ytlfcglolehmmiaa
