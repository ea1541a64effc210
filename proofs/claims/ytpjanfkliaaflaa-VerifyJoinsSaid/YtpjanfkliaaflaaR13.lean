/-
  Vbe Vgw Fon1 Fon2 Fon3 Fon4 Fon
-/
import Derived.Test.YtpjanfkliaaflaaR09
import Derived.Test.YtpjanfkliaaflaaR11
import Derived.Test.YtpjanfkliaaflaaR12
set_option linter.unusedSimpArgs false
set_option linter.unusedVariables false
namespace Go.Proofs.Ytpjanfkliaaflaa
open Go.RowKit

theorem blk_dr {v : World} {b t : Nat} {c : Array Value} (h : Blk v b t c) : Blk v.drew b t c := h
theorem made_C2 (n : Nat) : (madeCells #[.bool false, .slice none 0 0] (n * 2)).toList = CS2 (List.replicate n (false, .slice none 0 0)) := by
  apply List.ext_getElem?
  intro i
  by_cases hi : i < n * 2
  · have hj : i / 2 < n := by omega
    have hr : (List.replicate n ((false, .slice none 0 0) : Bool × Value))[i / 2]? = some (false, .slice none 0 0) := by simp [hj]
    rcases Nat.mod_two_eq_zero_or_one i with e | e
    · have h0 := CS2_get0 hr
      rw [show i / 2 * 2 = i by omega] at h0
      rw [h0]
      simp [madeCells, hi, e]
    · have h0 := CS2_get1 hr
      rw [show i / 2 * 2 + 1 = i by omega] at h0
      rw [h0]
      simp [madeCells, hi, e]
  · rw [List.getElem?_eq_none (by simp [madeCells]; omega), List.getElem?_eq_none (by rw [CS2_length]; simp; omega)]
theorem made_Bl (n : Nat) : (madeCells #[.bool false] n).toList = Bl (List.replicate n false) := by
  rw [toList_madeCells_one]
  simp [Bl]
theorem shp_info : (Try.prog.info? 44).map (fun i => (i.zero, i.size, i.bytes)) = some (some (.agg #[.bool false, .slice none 0 0]), 2, 32) := by kernel_rfl
theorem bool_info : (Try.prog.info? 4).map (fun i => (i.zero, i.size, i.bytes)) = some (some (.bool false), 1, 1) := by kernel_rfl
theorem run_make_shp (n : Nat) (hn : n ≤ 1000) (w : World) : (Instr.makeSlice 45 (.int .i64 (n : Nat)) (.int .i64 (n : Nat))).run Try.prog w = .ok (.slice (some ⟨w.heap.size, 0, none⟩) n n) (w.alloc (.cells (madeCells #[.bool false, .slice none 0 0] (n * 2)) 44)) := by
  obtain ⟨i, hi, hz, hs, hb⟩ := info_parts shp_info
  have := run_make (P := Try.prog) w 45 44 i _ Try.underlying45 hi hz .i64 .i64 (n : Int) (n : Int) (by omega) (Int.le_refl _) (by rw [hb]; omega) (by omega)
  rw [hs, Int.toNat_natCast] at this
  exact this
theorem run_make_bool (n : Nat) (hn : n ≤ 1000) (w : World) : (Instr.makeSlice 77 (.int .i64 (n : Nat)) (.int .i64 (n : Nat))).run Try.prog w = .ok (.slice (some ⟨w.heap.size, 0, none⟩) n n) (w.alloc (.cells (madeCells #[.bool false] n) 4)) := by
  obtain ⟨i, hi, hz, hs, hb⟩ := info_parts bool_info
  have := run_make (P := Try.prog) w 77 4 i _ Try.underlying77 hi hz .i64 .i64 (n : Int) (n : Int) (by omega) (Int.le_refl _) (by rw [hb]; omega) (by omega)
  rw [hs, Int.toNat_natCast, Nat.mul_one] at this
  exact this
theorem wk_begin {w W : World} {n g p q : Nat} (hn : n ≤ 1000) (hg : w.heap.size ≤ g) (hp : w.heap.size ≤ p) (hq : w.heap.size ≤ q) (hgp : g ≠ p) (hgq : g ≠ q) (hpq : p ≠ q)
    (hP : Blk W p 44 (madeCells #[.bool false, .slice none 0 0] (n * 2))) (hQ : Blk W q 4 (madeCells #[.bool false] n)) (hG : Blk W g 79 #[.slice (some ⟨p, 0, none⟩) n n, .slice (some ⟨q, 0, none⟩) n n]) :
    Wk w.heap.size g p q (fun b => if b = g then some 0 else if b = p then some 1 else if b = q then some 2 else none) W (List.replicate n (false, [])) (List.replicate n false) (List.replicate n (false, .slice none 0 0)) := by
  have hnm : n ≤ maxLen := by unfold maxLen; omega
  refine ⟨by simp, by simp [hgp.symm], by simp [hgq.symm, hpq.symm], fun b hb => ?_, by simpa using hG, ?_, ?_, fun k x hx => ?_⟩
  · by_cases e1 : b = g
    · subst e1; exact ⟨hg, hG.lt⟩
    by_cases e2 : b = p
    · subst e2; exact ⟨hp, hP.lt⟩
    by_cases e3 : b = q
    · subst e3; exact ⟨hq, hQ.lt⟩
    simp [e1, e2, e3] at hb
  · rw [List.length_replicate]
    refine ⟨by rw [CS2_length, List.length_replicate], .inr ⟨p, n, _, rfl, hp, hP, Nat.le_refl _, hnm, size_madeCells _ _, ?_⟩⟩
    rw [made_C2, List.take_of_length_le (by rw [CS2_length, List.length_replicate]; exact Nat.le_refl _)]
  · rw [List.length_replicate]
    refine ⟨by rw [Bl_length, List.length_replicate, Nat.mul_one], .inr ⟨q, n, _, rfl, hq, hQ, Nat.le_refl _, hnm, by rw [size_madeCells, Nat.mul_one], ?_⟩⟩
    rw [made_Bl, List.take_of_length_le (by rw [Bl_length, List.length_replicate, Nat.mul_one]; exact Nat.le_refl _)]
  · have hk := (List.getElem?_eq_some_iff.1 hx).1
    rw [List.length_replicate] at hk
    rw [List.getElem?_replicate, if_pos hk] at hx
    injection hx with hx
    subst hx
    exact ⟨.slice none 0 0, by rw [List.getElem?_replicate, if_pos hk], .inl ⟨rfl, none, 0, rfl, by simp [maxLen], fun _ => rfl⟩, fun h => absurd h (by simp)⟩

set_option maxRecDepth 100000 in
set_option maxHeartbeats 2000000 in
theorem begin_any (n : Nat) (h0 : 0 < n) (hn : n ≤ 64) (w : World) :
    Calls Try.prog 28 #[.int .i64 (n : Nat)] w fun e w' => Below w.heap.size w w' ∧ ∃ g p q Z r, e = .returned (.pointer (some ⟨g, 0, none⟩)) ∧ Wk w.heap.size g p q Z w' (beginF n) ((List.replicate n false).set 0 true) r := by
  have M1 := run_make_shp n (by omega)
  have M2 := run_make_bool n (by omega)
  go_enter Try.func28, Try.ntmps28
  go_wp2_with fail
  go_region
  all_goals
    go_upto_region 2 with (fail)
    refine wp_world fun W hW => ?_
    have HBW : Hid (Below w.heap.size w W) := by
      show Below _ _ _
      rw [hW]
      exact (((below_new w _).alloc (by simp) _).alloc (by simp <;> omega) _).drew
    have hWk : ∃ p q Z, (w.heap.size ≤ p) ∧ Wk w.heap.size (w.heap.size + 1 + 1) p q Z W (List.replicate n (false, [])) (List.replicate n false) (List.replicate n (false, .slice none 0 0)) := by
      first
      | exact ⟨w.heap.size, w.heap.size + 1, _, Nat.le_refl _, wk_begin (by omega) (by omega) (by omega) (by omega) (by omega) (by omega) (by omega) (by rw [hW]; exact blk_dr (blk_keep (blk_keep (blk_at rfl)))) (by rw [hW]; exact blk_dr (blk_keep (blk_at (by simp)))) (by rw [hW]; exact blk_dr (blk_at (by simp)))⟩
      | exact ⟨w.heap.size + 1, w.heap.size, _, by omega, wk_begin (by omega) (by omega) (by omega) (by omega) (by omega) (by omega) (by omega) (by rw [hW]; exact blk_dr (blk_keep (blk_at (by simp)))) (by rw [hW]; exact blk_dr (blk_keep (blk_keep (blk_at rfl)))) (by rw [hW]; exact blk_dr (blk_at (by simp)))⟩
    clear hW
    obtain ⟨p, q, Z, -, hWk⟩ := hWk
    have HW := Lib.hid hWk
    have HL := Lib.hid hWk.low0
    have RE : Hid (Calls Try.prog 49 #[.pointer (some ⟨w.heap.size + 1 + 1, 0, none⟩), .int .i64 ((0 : Nat) : Int), .slice none 0 0] W (Reached w.heap.size (w.heap.size + 1 + 1) p q Z W (List.replicate n (false, [])) (List.replicate n false) 0 [])) :=
      reach_any _ _ p q Z W _ _ _ 0 none 0 0 [] hWk HBW.out.size (by simpa using h0) (by simp; omega) rfl (by omega) (Sq.nil _ _ _ _)
    clear hWk
    go_wp2_with fail
    refine RE.out.mono ?_
    rintro e w6 ⟨hT6, ⟨rfl, u, hu, hne⟩ | ⟨rfl, Z6, r6, l6, ws6, hW6, hz6, hrch⟩⟩
    · rw [List.getElem?_replicate, if_pos h0] at hu
      cases hu
    · have HT6 := Lib.hid hT6
      have HW6 := Lib.hid hW6
      have HR6 := Lib.hid hrch
      clear hT6 hW6 hz6 hrch
      go_wp2_with fail
      go_ret
      have hB := HBW.out.trans (HT6.out.below HBW.out.size HL.out)
      refine ⟨hB, _, p, q, Z6, r6, rfl, ?_⟩
      obtain ⟨s, _, rfl, rfl⟩ | ⟨u, hu, -⟩ := HR6.out
      · exact HW6.out
      · rw [List.getElem?_replicate, if_pos h0] at hu
        cases hu
end Go.Proofs.Ytpjanfkliaaflaa
namespace Go.Proofs.Ytpjanfkliaaflaa
open Go.RowKit

theorem next_len {m : Mod} {f : Fn} {i : Ins} {p : Nat} {s t : List Typ} {ks : List Int} (h : insB8 m f i p s = (0, t, ks)) : ks.length ≤ 2 := by
  unfold insB8 at h
  split at h
  · simp at h
  · split at h
    · simp at h
    · split at h
      · simp at h
      · rename_i l hl
        simp only [Prod.mk.injEq, true_and] at h
        obtain ⟨-, rfl⟩ := h
        unfold nextB at hl
        repeat (split at hl
                · first
                  | (injection hl with hl; subst hl; simp)
                  | cases hl)
        injection hl with hl
        subst hl
        simp
def cnt : List Bool → Nat
  | [] => 0
  | b :: l => (if b then 1 else 0) + cnt l
theorem cnt_le (l : List Bool) : cnt l ≤ l.length := by
  induction l with
  | nil => simp [cnt]
  | cons b l ih => cases b <;> simp [cnt] <;> omega
theorem cnt_clear {l : List Bool} {k : Nat} (h : l[k]? = some true) : cnt (l.set k false) + 1 = cnt l := by
  induction l generalizing k with
  | nil => simp at h
  | cons b l ih =>
    cases k with
    | zero => simp at h; subst h; simp [cnt]; omega
    | succ k =>
      have := ih (by simpa using h)
      simp only [List.set_cons_succ, cnt]
      omega
def todo (l : List Shape) (ws : List Bool) : Nat := rkS (toS l) l.length * (l.length + 1) + cnt ws
theorem todo_less {l l' : List Shape} {ws ws' : List Bool} (hl : l'.length = l.length) (hw : ws'.length = l.length) (h : rkS (toS l') l.length < rkS (toS l) l.length) : todo l' ws' < todo l ws := by
  unfold todo
  rw [hl]
  have h1 := cnt_le ws'
  have h2 := Nat.mul_le_mul_right (l.length + 1) (show rkS (toS l') l.length + 1 ≤ rkS (toS l) l.length from h)
  rw [Nat.add_mul] at h2
  omega
def Inv (m : Mod) (fn : Fn) (l : List Shape) (ws : List Bool) : Prop := (∀ p : Nat, ws[p]? = some false → okAt m fn (toS l) p) ∧ (∀ (p : Nat) (s : List Typ), l[p]? = some (false, s) → s = []) ∧ ∀ p : Nat, ws[p]? = some true → ∃ s, l[p]? = some (true, s)
theorem leS_refl (S : Shp) : leS S S := fun p => leO_refl _
theorem leS_trans {S T U : Shp} (h : leS S T) (h' : leS T U) : leS S U := fun p => leO_trans (h p) (h' p)
theorem leS_put {S : Shp} {k : Nat} {s : List Typ} (h : leO (S k) (some s)) : leS S (putS S k s) := fun p => by
  by_cases e : p = k
  · rw [e, putS_at]; exact h
  · rw [putS_ne e]; exact leO_refl _
structure Leads (m : Mod) (fn : Fn) (l : List Shape) (ws : List Bool) (t : List Typ) (done : List Int) (l' : List Shape) (ws' : List Bool) : Prop where
  runF : RunF m fn l'
  lenw : ws'.length = l.length
  grow : leS (toS l) (toS l')
  still : ∀ p : Nat, ws'[p]? = some false → ws[p]? = some false ∧ l'[p]? = l[p]?
  led : ∀ k ∈ done, leO (some t) (toS l' k.toNat)
  out : ∀ (p : Nat) (s : List Typ), l'[p]? = some (false, s) → s = []
  seen : ∀ p : Nat, ws'[p]? = some true → ∃ s, l'[p]? = some (true, s)
  less : todo l' ws' ≤ todo l ws
theorem Leads.begin {m : Mod} {fn : Fn} {l : List Shape} {ws : List Bool} (t : List Typ) (h : RunF m fn l) (hw : ws.length = l.length) (ho : ∀ (p : Nat) (s : List Typ), l[p]? = some (false, s) → s = []) (hs : ∀ p : Nat, ws[p]? = some true → ∃ s, l[p]? = some (true, s)) : Leads m fn l ws t [] l ws :=
  ⟨h, hw, leS_refl _, fun p hp => ⟨hp, rfl⟩, fun k hk => (by simp at hk), ho, hs, Nat.le_refl _⟩
theorem Leads.step {m : Mod} {fn : Fn} {l l1 l2 : List Shape} {ws w1 w2 : List Bool} {t s : List Typ} {done ks : List Int} {pc k : Nat} {i : Ins} (h : Leads m fn l ws t done l1 w1) (hl : l.length = fn.code.length) (hr : Rch l1 w1 k t l2 w2) (hu : Und m fn pc s) (hi : fn.code[pc]? = some i) (hf : insB8 m fn i pc s = (0, t, ks)) (hk : (k : Int) ∈ ks) (hc : canL t) (h8 : t.length ≤ 8) (hlt : k < fn.code.length) : Leads m fn l ws t (done ++ [(k : Int)]) l2 w2 := by
  have hll : l1.length = l.length := by rw [h.runF.len, hl]
  have hlk : k < l1.length := by rw [h.runF.len]; exact hlt
  rcases hr with ⟨s0, hx, rfl, rfl⟩ | ⟨u, hx, hn, rfl, hw⟩
  · have hg : leS (toS l1) (toS (l1.set k (true, t))) := by
      rw [toS_set hlk]
      exact leS_put fun z hz => by rw [toS_no hx] at hz; cases hz
    refine ⟨⟨by simpa using h.runF.len, by rw [toS_set hlk]; exact run_new h.runF.run hu hi hf hk (toS_no hx) hc h8 hlt⟩, by simpa using h.lenw, leS_trans h.grow hg, fun p hp => ?_, fun j hj => ?_, fun p s hp => ?_, fun p hp => ?_, ?_⟩
    · by_cases e : k = p
      · subst e
        rw [List.getElem?_set_self (by rw [h.lenw, ← hll]; exact hlk)] at hp
        cases hp
      · rw [List.getElem?_set_ne e] at hp ⊢
        exact h.still p hp
    · rcases List.mem_append.1 hj with hj | hj
      · exact leO_trans (h.led j hj) (hg _)
      · simp only [List.mem_singleton] at hj
        subst hj
        rw [Int.toNat_natCast, toS_set hlk, putS_at]
        exact leO_refl _
    · by_cases e : k = p
      · subst e
        rw [List.getElem?_set_self hlk] at hp
        cases hp
      · rw [List.getElem?_set_ne e] at hp
        exact h.out p s hp
    · by_cases e : k = p
      · subst e
        exact ⟨t, List.getElem?_set_self hlk⟩
      · rw [List.getElem?_set_ne e] at hp ⊢
        exact h.seen p hp
    · refine Nat.le_trans (Nat.le_of_lt (todo_less (by simp) (by rw [List.length_set, h.lenw, hll]) ?_)) h.less
      rw [toS_set hlk]
      exact rkS_new hlk (toS_no hx) h8
  · have hcu := (h.runF.run.can k u (toS_yes hx)).1
    have hg : leS (toS l1) (toS (l1.set k (true, joinL u t))) := by
      rw [toS_set hlk]
      refine leS_put fun z hz => ?_
      rw [toS_yes hx] at hz
      injection hz with hz
      subst hz
      exact ⟨_, rfl, joinL_left hn⟩
    have hrun : RunF m fn (l1.set k (true, joinL u t)) := ⟨by simpa using h.runF.len, by rw [toS_set hlk]; exact run_join h.runF.run hu hi hf hk (toS_yes hx) hn hc⟩
    have hled : ∀ j ∈ done ++ [(k : Int)], leO (some t) (toS (l1.set k (true, joinL u t)) j.toNat) := fun j hj => by
      rcases List.mem_append.1 hj with hj | hj
      · exact leO_trans (h.led j hj) (hg _)
      · simp only [List.mem_singleton] at hj
        subst hj
        rw [Int.toNat_natCast, toS_set hlk, putS_at]
        intro z hz
        injection hz with hz
        subst hz
        exact ⟨_, rfl, joinL_right hn⟩
    have hout : ∀ (p : Nat) (s : List Typ), (l1.set k (true, joinL u t))[p]? = some (false, s) → s = [] := fun p s hp => by
      by_cases e : k = p
      · subst e
        rw [List.getElem?_set_self hlk] at hp
        cases hp
      · rw [List.getElem?_set_ne e] at hp
        exact h.out p s hp
    rcases hw with ⟨he, rfl⟩ | ⟨hne, rfl⟩
    · have hs : l1.set k (true, joinL u t) = l1 := by rw [he]; exact set_self hx
      rw [hs] at hrun hled hout ⊢
      exact ⟨hrun, h.lenw, h.grow, h.still, hled, hout, h.seen, h.less⟩
    · refine ⟨hrun, by simpa using h.lenw, leS_trans h.grow hg, fun p hp => ?_, hled, hout, fun p hp => ?_, ?_⟩
      · by_cases e : k = p
        · subst e
          rw [List.getElem?_set_self (by rw [h.lenw, ← hll]; exact hlk)] at hp
          cases hp
        · rw [List.getElem?_set_ne e] at hp ⊢
          exact h.still p hp
      · by_cases e : k = p
        · subst e
          exact ⟨_, List.getElem?_set_self hlk⟩
        · rw [List.getElem?_set_ne e] at hp ⊢
          exact h.seen p hp
      · refine Nat.le_trans (Nat.le_of_lt (todo_less (by simp) (by rw [List.length_set, h.lenw, hll]) ?_)) h.less
        rw [toS_set hlk]
        exact rkS_join hlk (toS_yes hx) hcu hc hn hne
theorem Leads.ends {m : Mod} {fn : Fn} {l l' : List Shape} {ws ws' : List Bool} {t s : List Typ} {ks : List Int} {pc : Nat} {i : Ins} (h : Leads m fn l (ws.set pc false) t ks l' ws') (hI : Inv m fn l ws) (hx : l[pc]? = some (true, s)) (hw : ws[pc]? = some true) (hi : fn.code[pc]? = some i) (hf : insB8 m fn i pc s = (0, t, ks)) : Inv m fn l' ws' ∧ todo l' ws' < todo l ws := by
  have hc := cnt_clear hw
  refine ⟨⟨fun p hp => ?_, h.out, h.seen⟩, Nat.lt_of_le_of_lt h.less (by unfold todo; omega)⟩
  obtain ⟨h1, h2⟩ := h.still p hp
  by_cases e : pc = p
  · subst e
    intro z hz
    rw [hx] at h2
    rw [toS_yes h2] at hz
    injection hz with hz
    subst hz
    exact ⟨i, t, ks, hi, hf, h.led⟩
  · rw [List.getElem?_set_ne e] at h1
    intro z hz
    have h3 : toS l p = some z := by unfold toS at hz ⊢; rwa [h2] at hz
    obtain ⟨i', t', ks', q1, q2, q3⟩ := hI.1 p h1 z h3
    exact ⟨i', t', ks', q1, q2, fun k hk => leO_trans (q3 k hk) (h.grow _)⟩
end Go.Proofs.Ytpjanfkliaaflaa
namespace Go.Proofs.Ytpjanfkliaaflaa
open Go.RowKit

set_option maxRecDepth 100000 in
set_option maxHeartbeats 4000000 in
theorem on_few (A B D : Option Addr) (n m k c d g : Nat) (ins outs ts : List Typ) (w : World) (hn : ins.length = n) (hm : outs.length = m) (hk : ts.length = k) (sn : Sq typL (· < w.heap.size) w A ins) (sm : Sq typL (· < w.heap.size) w B outs) (sk : Sq typL (· < w.heap.size) w D ts)
    (hlt : k < n) (bn : n ≤ 1000) (bm : m ≤ 1000) (bk : k ≤ 1000) (bg : k ≤ g) (bg2 : g ≤ 9223372036854775807) (bd : m ≤ d) (bd2 : d ≤ 9223372036854775807) : Calls Try.prog 78 #[.agg #[.slice A n c, .slice B m d], .slice D k g] w (Moved (movB ts ins outs) w) := by
  have HN := Lib.hid hn
  have HM := Lib.hid hm
  have HK := Lib.hid hk
  have SN := Lib.hid sn
  have SM := Lib.hid sm
  have SK := Lib.hid sk
  have HB0 : Hid (∀ o : Obj, Below w.heap.size w (w.alloc o)) := fun o => below_new w o
  clear hn hm hk sn sm sk
  have e1 : (k : Int) - (n : Int) < 0 := by omega
  have HV := Lib.hid (movB_few (outs := outs) (show ts.length < ins.length by rw [HK.out, HN.out]; exact hlt))
  clear hlt
  go_enter Try.func78, Try.ntmps78
  go_wp2_with fail
  refine wp_world fun U hU => ?_
  have HBU : Hid (Below w.heap.size w U) := by show Below _ _ _; rw [hU]; exact HB0.out _
  clear hU
  have HBR : Hid (∀ dq osq, Below w.heap.size w (Go.Sort.grow (redrawn U dq) osq)) := fun dq osq => HBU.out.trans ((below_regrown U dq osq).mono HBU.out.size)
  refine wp_region_quiet_below (by kernel_rfl) (by kernel_rfl) ?_
  repeat (quiet_step (fail))
  refine wpQuiet_nil ?_
  intro _ hw'
  obtain ⟨⟨dq, osq⟩, hw''⟩ := hw'
  subst hw''
  go_wp2_with fail
  go_ret2
  exact ⟨HBR.out dq osq, .inl ⟨HV.out, rfl⟩⟩
end Go.Proofs.Ytpjanfkliaaflaa
namespace Go.Proofs.Ytpjanfkliaaflaa
open Go.RowKit

set_option maxRecDepth 100000 in
set_option maxHeartbeats 4000000 in
theorem on_far (A B : Option Addr) (a : Addr) (n m k c d g : Nat) (ins outs ts : List Typ) (w : World) (hn : ins.length = n) (hm : outs.length = m) (hk : ts.length = k) (sn : Sq typL (· < w.heap.size) w A ins) (sm : Sq typL (· < w.heap.size) w B outs) (sk : Sq typL (· < w.heap.size) w (some a) ts)
    (hlt : ¬ k < n) (hg : ¬ g = k - n) (bn : n ≤ 1000) (bm : m ≤ 1000) (bk : k ≤ 1000) (bg : k ≤ g) (bg2 : g ≤ 9223372036854775807) (bd : m ≤ d) (bd2 : d ≤ 9223372036854775807) : Calls Try.prog 78 #[.agg #[.slice A n c, .slice B m d], .slice (some a) k g] w (Moved (movB ts ins outs) w) := by
  have HN := Lib.hid hn
  have HM := Lib.hid hm
  have HK := Lib.hid hk
  have SN := Lib.hid sn
  have SM := Lib.hid sm
  have SK := Lib.hid sk
  have HB0 : Hid (∀ o : Obj, Below w.heap.size w (w.alloc o)) := fun o => below_new w o
  clear hn hm hk sn sm sk
  obtain ⟨b, hb⟩ : ∃ b : Nat, k - n = b := ⟨_, rfl⟩
  have HBe : Hid (ts.length - ins.length = b) := by show _ = b; rw [HK.out, HN.out]; exact hb
  have HLe : Hid (ins.length ≤ ts.length) := by show _ ≤ _; rw [HK.out, HN.out]; omega
  have e1 : (k : Int) - (n : Int) = (b : Int) := by omega
  have e2 : b ≤ k := by omega
  have e3 : b ≤ g := by omega
  have e4 : (b : Int) ≤ (k : Int) := by omega
  have e5 : (b : Int) ≤ (g : Int) := by omega
  have e6 : k - b = n := by omega
  have e7 : (k : Int) ≤ (g : Int) := by omega
  have e8 : decide ((b : Int) < 0) = false := by simp
  have TE : Hid (∀ w1 D' c', Below w.heap.size w w1 → (b < k → D' = (some a).map (·.add (b * 2))) → Calls Try.prog 95 #[.slice D' n c', .slice A n c, .func (.func 86) #[] #[]] w1 fun e w' => e = .returned (.bool (belowT (ts.drop b) ins)) ∧ Below w1.heap.size w1 w') := fun w1 D' c' hb1 hd =>
    equalFunc_sub D' A n n c' c (ts.drop b) ins w1 (by rw [List.length_drop, HK.out]; exact e6) HN.out (sq_from ((SK.out.below hb1 (Nat.le_refl _)).wide fun i hi => Nat.lt_of_lt_of_le hi hb1.size) D' (by rw [HK.out]; exact hd)) ((SN.out.below hb1 (Nat.le_refl _)).wide fun i hi => Nat.lt_of_lt_of_le hi hb1.size) (by omega) (by omega)
  have TC : Hid (∀ w1 G, Below w.heap.size w w1 → Blk w1 G 29 #[.slice (some a) b g, .slice B m d] → Calls Try.prog 96 #[.slice (some ⟨G, 0, none⟩) 2 2] w1 fun e w' => ∃ v, e = .returned v ∧ w'.ownsRow w1.heap.size 23 2 v (ts.take b ++ outs).length (T2 (ts.take b ++ outs)) ∧ Below w1.heap.size w1 w') := fun w1 G hb1 hblk => by
    have lb : (ts.take b).length = b := by rw [List.length_take, HK.out]; omega
    have r0 : tysL.R (· < w1.heap.size) w1 [.slice (some a) b g] (ts.take b) := ⟨some a, g, by rw [lb], by omega, by unfold maxLen; omega, ((SK.out.below hb1 (Nat.le_refl _)).wide fun i hi => Nat.lt_of_lt_of_le hi hb1.size).take b⟩
    have r1 : tysL.R (· < w1.heap.size) w1 [.slice B m d] outs := ⟨B, d, by rw [HM.out], by rw [HM.out]; exact bd, by unfold maxLen; omega, (SM.out.below hb1 (Nat.le_refl _)).wide fun i hi => Nat.lt_of_lt_of_le hi hb1.size⟩
    obtain ⟨A9, c9, e9, -, -, hsq⟩ := two_sl (L := tysL) hblk hblk.lt rfl r0 r1
    simp only [List.cons.injEq, Value.slice.injEq, and_true] at e9
    obtain ⟨rfl, -, -⟩ := e9
    have := concat_tys (some ⟨G, 0, none⟩) 2 2 [ts.take b, outs] w1 rfl hsq (by simp only [List.flatten_cons, List.flatten_nil, List.append_nil, List.length_append, lb, HM.out]; omega) (by omega)
    simpa using this
  have HC : Hid (∀ w1, Below (w.heap.size + 1) (w.alloc (.cells #[.slice A n c, .slice B m d] 122)) w1 → w1.cell? ⟨w.heap.size, 0, none⟩ = some (.slice A n c) ∧ w1.cell? ⟨w.heap.size, 1, none⟩ = some (.slice B m d)) := fun w1 hb1 => ⟨(hb1.cell (p := ⟨w.heap.size, 0, none⟩) (by simp)).trans (by simp [go_sem]), (hb1.cell (p := ⟨w.heap.size, 1, none⟩) (by simp)).trans (by simp [go_sem])⟩
  have HV0 : Hid (belowT (ts.drop b) ins = false → movB ts ins outs = none) := fun h => movB_not HBe.out h
  have HV1 : Hid (8 < b + m → movB ts ins outs = none) := fun h => movB_many HBe.out (by rw [HM.out]; exact h)
  have HV2 : Hid (belowT (ts.drop b) ins = true → b + m ≤ 8 → movB ts ins outs = some (ts.take b ++ outs)) := fun h1 h2 => movB_yes HBe.out HLe.out h1 (by rw [HM.out]; exact h2)
  rw [hb] at hg
  clear hlt hb
  have TE2 : Hid (∀ w1 c', Below w.heap.size w w1 → Calls Try.prog 95 #[.slice (some (a.add (b * 2))) n c', .slice A n c, .func (.func 86) #[] #[]] w1 fun e w' => e = .returned (.bool (belowT (ts.drop b) ins)) ∧ Below w1.heap.size w1 w') := fun w1 c' hb1 => TE.out w1 _ c' hb1 (fun h => rfl)
  clear TE
  cases hbt : belowT (ts.drop b) ins
  case' true => by_cases h8 : 8 < b + m
  all_goals
    rw [hbt] at TE2
    have HBT := Lib.hid hbt
    clear hbt
    have hw1 : IntKind.i64.wrap ((b : Int) + (m : Int)) = (b : Int) + (m : Int) := by rw [IntKind.wrap_i64]; omega
    try (have h8i : decide ((8 : Int) < (b : Int) + (m : Int)) = decide (8 < b + m) := by rw [decide_eq_decide]; omega)
    try rw [decide_eq_true h8] at h8i
    try rw [decide_eq_false h8] at h8i
    go_enter Try.func78, Try.ntmps78
    go_wp2_with fail
    refine wp_world fun U hU => ?_
    have HBU : Hid (Below w.heap.size w U) := by show Below _ _ _; rw [hU]; exact HB0.out _
    have HCU : Hid (U.cell? ⟨w.heap.size, 0, none⟩ = some (.slice A n c) ∧ U.cell? ⟨w.heap.size, 1, none⟩ = some (.slice B m d)) := by show _ ∧ _; rw [hU]; exact HC.out _ (Below.refl _ _)
    have hsU : w.heap.size < U.heap.size := by rw [hU]; simp
    clear hU
    have HBR : Hid (∀ dq osq, Below w.heap.size w (Go.Sort.grow (redrawn U dq) osq)) := fun dq osq => HBU.out.trans ((below_regrown U dq osq).mono HBU.out.size)
    have x0 := cell_regrown HCU.out.1
    have x1 := cell_regrown HCU.out.2
    refine wp_region_quiet_below (by kernel_rfl) (by kernel_rfl) ?_
    repeat (quiet_step (first | with_reducible exact Calls.regrown_of (TE2.out _ _ (HBR.out _ _))))
    refine wpQuiet_nil ?_
    intro _ hw'
    obtain ⟨⟨dq, osq⟩, hw''⟩ := hw'
    subst hw''
    have HB1 := Lib.hid (HBR.out dq osq)
    have HS1 : Hid (w.heap.size < (Go.Sort.grow (redrawn U dq) osq).heap.size) := Nat.lt_of_lt_of_le hsU (below_regrown U dq osq).size
    go_wp2_with fail
    first
    | (go_ret2
       exact ⟨HB1.out, .inl ⟨by first | exact HV0.out HBT.out | exact HV1.out h8, rfl⟩⟩)
    | skip
  all_goals
    refine wp_world fun V hV => ?_
    have HBV : Hid (Below w.heap.size w V) := by show Below _ _ _; rw [hV]; exact HB1.out
    have HCV : Hid (V.cell? ⟨w.heap.size, 1, none⟩ = some (.slice B m d)) := by show _ = _; rw [hV]; exact x1 dq osq
    have hsV : w.heap.size < V.heap.size := by rw [hV]; exact HS1.out
    have HVX := Lib.hid (HV2.out HBT.out (by omega))
    clear hV x0 x1
    go_region_held3 (fun w' => w'.cell? ⟨w.heap.size, 1, none⟩ = some (.slice B m d))
      (first | exact HCV.out | exact SS4.out | exact (((below_new V _).cell (p := ⟨w.heap.size, 1, none⟩) hsV).trans HCV.out) | exact (((below_new V _).drew.cell (p := ⟨w.heap.size, 1, none⟩) hsV).trans HCV.out))
      (first
      | (go_at_call 96
         refine (TC.out _ V.heap.size ((HBV.out.alloc HBV.out.size _).drew) (blk_new V _ _)).mono ?_
         rintro e w4 ⟨v4, rfl, hown4, hb4⟩
         have HO4 := Lib.hid hown4
         have HB4 : Hid (Below V.heap.size V w4) := (by show Below _ _ _; first | exact (below_new V _).trans (hb4.mono (by simp)) | exact (below_new V _).drew.trans (hb4.mono (by simp)))
         have SS4 := Lib.hid ((HB4.out.cell (p := ⟨w.heap.size, 1, none⟩) hsV).trans HCV.out)
         clear hown4 hb4))
    go_wp2_with fail
    go_ret2
    refine ⟨HBV.out.trans (HB4.out.mono HBV.out.size), .inr ⟨_, v4, HVX.out, rfl, ?_⟩⟩
    refine ⟨HO4.out.1, ?_⟩
    rcases HO4.out.2 with h | ⟨g', cap, cur, e, hb2, rest⟩
    · exact .inl h
    · exact .inr ⟨g', cap, cur, e, by have := HBV.out.size; simp at hb2; omega, rest⟩
end Go.Proofs.Ytpjanfkliaaflaa
namespace Go.Proofs.Ytpjanfkliaaflaa
open Go.RowKit

set_option maxRecDepth 100000 in
set_option maxHeartbeats 4000000 in
theorem on_full (A B : Option Addr) (a : Addr) (n m k c d g : Nat) (ins outs ts : List Typ) (w : World) (hn : ins.length = n) (hm : outs.length = m) (hk : ts.length = k) (sn : Sq typL (· < w.heap.size) w A ins) (sm : Sq typL (· < w.heap.size) w B outs) (sk : Sq typL (· < w.heap.size) w (some a) ts)
    (hlt : ¬ k < n) (hg : g = k - n) (bn : n ≤ 1000) (bm : m ≤ 1000) (bk : k ≤ 1000) (bg : k ≤ g) (bg2 : g ≤ 9223372036854775807) (bd : m ≤ d) (bd2 : d ≤ 9223372036854775807) : Calls Try.prog 78 #[.agg #[.slice A n c, .slice B m d], .slice (some a) k g] w (Moved (movB ts ins outs) w) := by
  have HN := Lib.hid hn
  have HM := Lib.hid hm
  have HK := Lib.hid hk
  have SN := Lib.hid sn
  have SM := Lib.hid sm
  have SK := Lib.hid sk
  have HB0 : Hid (∀ o : Obj, Below w.heap.size w (w.alloc o)) := fun o => below_new w o
  clear hn hm hk sn sm sk
  obtain ⟨b, hb⟩ : ∃ b : Nat, k - n = b := ⟨_, rfl⟩
  have HBe : Hid (ts.length - ins.length = b) := by show _ = b; rw [HK.out, HN.out]; exact hb
  have HLe : Hid (ins.length ≤ ts.length) := by show _ ≤ _; rw [HK.out, HN.out]; omega
  have e1 : (k : Int) - (n : Int) = (b : Int) := by omega
  have e2 : b ≤ k := by omega
  have e3 : b ≤ g := by omega
  have e4 : (b : Int) ≤ (k : Int) := by omega
  have e5 : (b : Int) ≤ (g : Int) := by omega
  have e6 : k - b = n := by omega
  have e7 : (k : Int) ≤ (g : Int) := by omega
  have e8 : decide ((b : Int) < 0) = false := by simp
  have TE : Hid (∀ w1 D' c', Below w.heap.size w w1 → (b < k → D' = (some a).map (·.add (b * 2))) → Calls Try.prog 95 #[.slice D' n c', .slice A n c, .func (.func 86) #[] #[]] w1 fun e w' => e = .returned (.bool (belowT (ts.drop b) ins)) ∧ Below w1.heap.size w1 w') := fun w1 D' c' hb1 hd =>
    equalFunc_sub D' A n n c' c (ts.drop b) ins w1 (by rw [List.length_drop, HK.out]; exact e6) HN.out (sq_from ((SK.out.below hb1 (Nat.le_refl _)).wide fun i hi => Nat.lt_of_lt_of_le hi hb1.size) D' (by rw [HK.out]; exact hd)) ((SN.out.below hb1 (Nat.le_refl _)).wide fun i hi => Nat.lt_of_lt_of_le hi hb1.size) (by omega) (by omega)
  have TC : Hid (∀ w1 G, Below w.heap.size w w1 → Blk w1 G 29 #[.slice (some a) b g, .slice B m d] → Calls Try.prog 96 #[.slice (some ⟨G, 0, none⟩) 2 2] w1 fun e w' => ∃ v, e = .returned v ∧ w'.ownsRow w1.heap.size 23 2 v (ts.take b ++ outs).length (T2 (ts.take b ++ outs)) ∧ Below w1.heap.size w1 w') := fun w1 G hb1 hblk => by
    have lb : (ts.take b).length = b := by rw [List.length_take, HK.out]; omega
    have r0 : tysL.R (· < w1.heap.size) w1 [.slice (some a) b g] (ts.take b) := ⟨some a, g, by rw [lb], by omega, by unfold maxLen; omega, ((SK.out.below hb1 (Nat.le_refl _)).wide fun i hi => Nat.lt_of_lt_of_le hi hb1.size).take b⟩
    have r1 : tysL.R (· < w1.heap.size) w1 [.slice B m d] outs := ⟨B, d, by rw [HM.out], by rw [HM.out]; exact bd, by unfold maxLen; omega, (SM.out.below hb1 (Nat.le_refl _)).wide fun i hi => Nat.lt_of_lt_of_le hi hb1.size⟩
    obtain ⟨A9, c9, e9, -, -, hsq⟩ := two_sl (L := tysL) hblk hblk.lt rfl r0 r1
    simp only [List.cons.injEq, Value.slice.injEq, and_true] at e9
    obtain ⟨rfl, -, -⟩ := e9
    have := concat_tys (some ⟨G, 0, none⟩) 2 2 [ts.take b, outs] w1 rfl hsq (by simp only [List.flatten_cons, List.flatten_nil, List.append_nil, List.length_append, lb, HM.out]; omega) (by omega)
    simpa using this
  have HC : Hid (∀ w1, Below (w.heap.size + 1) (w.alloc (.cells #[.slice A n c, .slice B m d] 122)) w1 → w1.cell? ⟨w.heap.size, 0, none⟩ = some (.slice A n c) ∧ w1.cell? ⟨w.heap.size, 1, none⟩ = some (.slice B m d)) := fun w1 hb1 => ⟨(hb1.cell (p := ⟨w.heap.size, 0, none⟩) (by simp)).trans (by simp [go_sem]), (hb1.cell (p := ⟨w.heap.size, 1, none⟩) (by simp)).trans (by simp [go_sem])⟩
  have HV0 : Hid (belowT (ts.drop b) ins = false → movB ts ins outs = none) := fun h => movB_not HBe.out h
  have HV1 : Hid (8 < b + m → movB ts ins outs = none) := fun h => movB_many HBe.out (by rw [HM.out]; exact h)
  have HV2 : Hid (belowT (ts.drop b) ins = true → b + m ≤ 8 → movB ts ins outs = some (ts.take b ++ outs)) := fun h1 h2 => movB_yes HBe.out HLe.out h1 (by rw [HM.out]; exact h2)
  rw [hb] at hg
  clear hlt hb
  have hg2 := hg.symm
  clear hg
  subst hg2
  have TE2 : Hid (∀ w1 c', Below w.heap.size w w1 → Calls Try.prog 95 #[.slice (some a) n c', .slice A n c, .func (.func 86) #[] #[]] w1 fun e w' => e = .returned (.bool (belowT (ts.drop b) ins)) ∧ Below w1.heap.size w1 w') := fun w1 c' hb1 => TE.out w1 _ c' hb1 (fun h => by omega)
  clear TE
  cases hbt : belowT (ts.drop b) ins
  case' true => by_cases h8 : 8 < b + m
  all_goals
    rw [hbt] at TE2
    have HBT := Lib.hid hbt
    clear hbt
    have hw1 : IntKind.i64.wrap ((b : Int) + (m : Int)) = (b : Int) + (m : Int) := by rw [IntKind.wrap_i64]; omega
    try (have h8i : decide ((8 : Int) < (b : Int) + (m : Int)) = decide (8 < b + m) := by rw [decide_eq_decide]; omega)
    try rw [decide_eq_true h8] at h8i
    try rw [decide_eq_false h8] at h8i
    go_enter Try.func78, Try.ntmps78
    go_wp2_with fail
    refine wp_world fun U hU => ?_
    have HBU : Hid (Below w.heap.size w U) := by show Below _ _ _; rw [hU]; exact HB0.out _
    have HCU : Hid (U.cell? ⟨w.heap.size, 0, none⟩ = some (.slice A n c) ∧ U.cell? ⟨w.heap.size, 1, none⟩ = some (.slice B m d)) := by show _ ∧ _; rw [hU]; exact HC.out _ (Below.refl _ _)
    have hsU : w.heap.size < U.heap.size := by rw [hU]; simp
    clear hU
    have HBR : Hid (∀ dq osq, Below w.heap.size w (Go.Sort.grow (redrawn U dq) osq)) := fun dq osq => HBU.out.trans ((below_regrown U dq osq).mono HBU.out.size)
    have x0 := cell_regrown HCU.out.1
    have x1 := cell_regrown HCU.out.2
    refine wp_region_quiet_below (by kernel_rfl) (by kernel_rfl) ?_
    repeat (quiet_step (first | with_reducible exact Calls.regrown_of (TE2.out _ _ (HBR.out _ _))))
    refine wpQuiet_nil ?_
    intro _ hw'
    obtain ⟨⟨dq, osq⟩, hw''⟩ := hw'
    subst hw''
    have HB1 := Lib.hid (HBR.out dq osq)
    have HS1 : Hid (w.heap.size < (Go.Sort.grow (redrawn U dq) osq).heap.size) := Nat.lt_of_lt_of_le hsU (below_regrown U dq osq).size
    go_wp2_with fail
    first
    | (go_ret2
       exact ⟨HB1.out, .inl ⟨by first | exact HV0.out HBT.out | exact HV1.out h8, rfl⟩⟩)
    | skip
  all_goals
    refine wp_world fun V hV => ?_
    have HBV : Hid (Below w.heap.size w V) := by show Below _ _ _; rw [hV]; exact HB1.out
    have HCV : Hid (V.cell? ⟨w.heap.size, 1, none⟩ = some (.slice B m d)) := by show _ = _; rw [hV]; exact x1 dq osq
    have hsV : w.heap.size < V.heap.size := by rw [hV]; exact HS1.out
    have HVX := Lib.hid (HV2.out HBT.out (by omega))
    clear hV x0 x1
    go_region_held3 (fun w' => w'.cell? ⟨w.heap.size, 1, none⟩ = some (.slice B m d))
      (first | exact HCV.out | exact SS4.out | exact (((below_new V _).cell (p := ⟨w.heap.size, 1, none⟩) hsV).trans HCV.out) | exact (((below_new V _).drew.cell (p := ⟨w.heap.size, 1, none⟩) hsV).trans HCV.out))
      (first
      | (go_at_call 96
         refine (TC.out _ V.heap.size ((HBV.out.alloc HBV.out.size _).drew) (blk_new V _ _)).mono ?_
         rintro e w4 ⟨v4, rfl, hown4, hb4⟩
         have HO4 := Lib.hid hown4
         have HB4 : Hid (Below V.heap.size V w4) := (by show Below _ _ _; first | exact (below_new V _).trans (hb4.mono (by simp)) | exact (below_new V _).drew.trans (hb4.mono (by simp)))
         have SS4 := Lib.hid ((HB4.out.cell (p := ⟨w.heap.size, 1, none⟩) hsV).trans HCV.out)
         clear hown4 hb4))
    go_wp2_with fail
    go_ret2
    refine ⟨HBV.out.trans (HB4.out.mono HBV.out.size), .inr ⟨_, v4, HVX.out, rfl, ?_⟩⟩
    refine ⟨HO4.out.1, ?_⟩
    rcases HO4.out.2 with h | ⟨g', cap, cur, e, hb2, rest⟩
    · exact .inl h
    · exact .inr ⟨g', cap, cur, e, by have := HBV.out.size; simp at hb2; omega, rest⟩
end Go.Proofs.Ytpjanfkliaaflaa
namespace Go.Proofs.Ytpjanfkliaaflaa
open Go.RowKit

set_option maxRecDepth 100000 in
set_option maxHeartbeats 4000000 in
theorem on_none (A B : Option Addr) (m c d : Nat) (ins outs ts : List Typ) (w : World) (hn : ins.length = 0) (hm : outs.length = m) (hk : ts.length = 0) (sn : Sq typL (· < w.heap.size) w A ins) (sm : Sq typL (· < w.heap.size) w B outs) (sk : Sq typL (· < w.heap.size) w none ts)
    (bm : m ≤ 1000) (bd : m ≤ d) (bd2 : d ≤ 9223372036854775807) : Calls Try.prog 78 #[.agg #[.slice A 0 c, .slice B m d], .slice none 0 0] w (Moved (movB ts ins outs) w) := by
  obtain rfl : ins = [] := List.eq_nil_of_length_eq_zero hn
  obtain rfl : ts = [] := List.eq_nil_of_length_eq_zero hk
  have HM := Lib.hid hm
  have SM := Lib.hid sm
  have HB0 : Hid (∀ o : Obj, Below w.heap.size w (w.alloc o)) := fun o => below_new w o
  clear hn hm hk sn sm sk
  have TE2 : Hid (∀ w1 c', Below w.heap.size w w1 → Calls Try.prog 95 #[.slice none 0 c', .slice A 0 c, .func (.func 86) #[] #[]] w1 fun e w' => e = .returned (.bool true) ∧ Below w1.heap.size w1 w') := fun w1 c' hb1 =>
    equalFunc_sub none A 0 0 c' c [] [] w1 rfl rfl (Sq.nil _ _ _ _) (Sq.nil _ _ _ _) (by omega) (by omega)
  have TC : Hid (∀ w1 G, Below w.heap.size w w1 → Blk w1 G 29 #[.slice none 0 0, .slice B m d] → Calls Try.prog 96 #[.slice (some ⟨G, 0, none⟩) 2 2] w1 fun e w' => ∃ v, e = .returned v ∧ w'.ownsRow w1.heap.size 23 2 v outs.length (T2 outs) ∧ Below w1.heap.size w1 w') := fun w1 G hb1 hblk => by
    have r0 : tysL.R (· < w1.heap.size) w1 [.slice none 0 0] [] := nil_sl _ _ _
    have r1 : tysL.R (· < w1.heap.size) w1 [.slice B m d] outs := ⟨B, d, by rw [HM.out], by rw [HM.out]; exact bd, by unfold maxLen; omega, (SM.out.below hb1 (Nat.le_refl _)).wide fun i hi => Nat.lt_of_lt_of_le hi hb1.size⟩
    obtain ⟨A9, c9, e9, -, -, hsq⟩ := two_sl (L := tysL) hblk hblk.lt rfl r0 r1
    simp only [List.cons.injEq, Value.slice.injEq, and_true] at e9
    obtain ⟨rfl, -, -⟩ := e9
    have := concat_tys (some ⟨G, 0, none⟩) 2 2 [[], outs] w1 rfl hsq (by simp only [List.flatten_cons, List.flatten_nil, List.append_nil, List.nil_append, HM.out]; omega) (by omega)
    simpa using this
  have HC : Hid (∀ w1, Below (w.heap.size + 1) (w.alloc (.cells #[.slice A 0 c, .slice B m d] 122)) w1 → w1.cell? ⟨w.heap.size, 0, none⟩ = some (.slice A 0 c) ∧ w1.cell? ⟨w.heap.size, 1, none⟩ = some (.slice B m d)) := fun w1 hb1 => ⟨(hb1.cell (p := ⟨w.heap.size, 0, none⟩) (by simp)).trans (by simp [go_sem]), (hb1.cell (p := ⟨w.heap.size, 1, none⟩) (by simp)).trans (by simp [go_sem])⟩
  have HV1 : Hid (8 < m → movB [] [] outs = none) := fun h => movB_many (b := 0) rfl (by rw [HM.out]; omega)
  have HV2 : Hid (m ≤ 8 → movB [] [] outs = some outs) := fun h2 => movB_yes (s := []) (b := 0) rfl (Nat.le_refl _) rfl (by rw [HM.out]; omega)
  by_cases h8 : 8 < m
  all_goals
    have hw1 : IntKind.i64.wrap (m : Int) = (m : Int) := by rw [IntKind.wrap_i64]; omega
    have h8i : decide ((8 : Int) < (m : Int)) = decide (8 < m) := by rw [decide_eq_decide]; omega
    try rw [decide_eq_true h8] at h8i
    try rw [decide_eq_false h8] at h8i
    go_enter Try.func78, Try.ntmps78
    go_wp2_with fail
    refine wp_world fun U hU => ?_
    have HBU : Hid (Below w.heap.size w U) := by show Below _ _ _; rw [hU]; exact HB0.out _
    have HCU : Hid (U.cell? ⟨w.heap.size, 0, none⟩ = some (.slice A 0 c) ∧ U.cell? ⟨w.heap.size, 1, none⟩ = some (.slice B m d)) := by show _ ∧ _; rw [hU]; exact HC.out _ (Below.refl _ _)
    have hsU : w.heap.size < U.heap.size := by rw [hU]; simp
    clear hU
    have HBR : Hid (∀ dq osq, Below w.heap.size w (Go.Sort.grow (redrawn U dq) osq)) := fun dq osq => HBU.out.trans ((below_regrown U dq osq).mono HBU.out.size)
    have x0 := cell_regrown HCU.out.1
    have x1 := cell_regrown HCU.out.2
    refine wp_region_quiet_below (by kernel_rfl) (by kernel_rfl) ?_
    repeat (quiet_step (first | with_reducible exact Calls.regrown_of (TE2.out _ _ (HBR.out _ _))))
    refine wpQuiet_nil ?_
    intro _ hw'
    obtain ⟨⟨dq, osq⟩, hw''⟩ := hw'
    subst hw''
    have HB1 := Lib.hid (HBR.out dq osq)
    have HS1 : Hid (w.heap.size < (Go.Sort.grow (redrawn U dq) osq).heap.size) := Nat.lt_of_lt_of_le hsU (below_regrown U dq osq).size
    go_wp2_with fail
    first
    | (go_ret2
       exact ⟨HB1.out, .inl ⟨by first | exact HV1.out h8, rfl⟩⟩)
    | skip
  all_goals
    refine wp_world fun V hV => ?_
    have HBV : Hid (Below w.heap.size w V) := by show Below _ _ _; rw [hV]; exact HB1.out
    have HCV : Hid (V.cell? ⟨w.heap.size, 1, none⟩ = some (.slice B m d)) := by show _ = _; rw [hV]; exact x1 dq osq
    have hsV : w.heap.size < V.heap.size := by rw [hV]; exact HS1.out
    have HVX := Lib.hid (HV2.out (by omega))
    clear hV x0 x1
    go_region_held3 (fun w' => w'.cell? ⟨w.heap.size, 1, none⟩ = some (.slice B m d))
      (first | exact HCV.out | exact SS4.out | exact (((below_new V _).cell (p := ⟨w.heap.size, 1, none⟩) hsV).trans HCV.out) | exact (((below_new V _).drew.cell (p := ⟨w.heap.size, 1, none⟩) hsV).trans HCV.out))
      (first
      | (go_at_call 96
         refine (TC.out _ V.heap.size ((HBV.out.alloc HBV.out.size _).drew) (blk_new V _ _)).mono ?_
         rintro e w4 ⟨v4, rfl, hown4, hb4⟩
         have HO4 := Lib.hid hown4
         have HB4 : Hid (Below V.heap.size V w4) := (by show Below _ _ _; first | exact (below_new V _).trans (hb4.mono (by simp)) | exact (below_new V _).drew.trans (hb4.mono (by simp)))
         have SS4 := Lib.hid ((HB4.out.cell (p := ⟨w.heap.size, 1, none⟩) hsV).trans HCV.out)
         clear hown4 hb4))
    go_wp2_with fail
    go_ret2
    refine ⟨HBV.out.trans (HB4.out.mono HBV.out.size), .inr ⟨_, v4, HVX.out, rfl, ?_⟩⟩
    refine ⟨HO4.out.1, ?_⟩
    rcases HO4.out.2 with h | ⟨g', cap, cur, e, hb2, rest⟩
    · exact .inl h
    · exact .inr ⟨g', cap, cur, e, by have := HBV.out.size; simp at hb2; omega, rest⟩
end Go.Proofs.Ytpjanfkliaaflaa
namespace Go.Proofs.Ytpjanfkliaaflaa
open Go.RowKit

theorem on_any (A B D : Option Addr) (n m k c d g : Nat) (ins outs ts : List Typ) (w : World) (hn : ins.length = n) (hm : outs.length = m) (hk : ts.length = k) (sn : Sq typL (· < w.heap.size) w A ins) (sm : Sq typL (· < w.heap.size) w B outs) (sk : Sq typL (· < w.heap.size) w D ts)
    (bn : n ≤ 1000) (bm : m ≤ 1000) (bk : k ≤ 1000) (bg : k ≤ g) (bg2 : g ≤ 9223372036854775807) (bd : m ≤ d) (bd2 : d ≤ 9223372036854775807) (hnil : D = none → g = 0) : Calls Try.prog 78 #[.agg #[.slice A n c, .slice B m d], .slice D k g] w (Moved (movB ts ins outs) w) := by
  by_cases hlt : k < n
  · exact on_few A B D n m k c d g ins outs ts w hn hm hk sn sm sk hlt bn bm bk bg bg2 bd bd2
  · cases D with
    | none =>
      obtain rfl := hnil rfl
      obtain rfl : k = 0 := by omega
      obtain rfl : n = 0 := by omega
      exact on_none A B m c d ins outs ts w hn hm hk sn sm sk bm bd bd2
    | some a =>
      by_cases hg : g = k - n
      · exact on_full A B a n m k c d g ins outs ts w hn hm hk sn sm sk hlt hg bn bm bk bg bg2 bd bd2
      · exact on_far A B a n m k c d g ins outs ts w hn hm hk sn sm sk hlt hg bn bm bk bg bg2 bd bd2
end Go.Proofs.Ytpjanfkliaaflaa
