/-
  Tyr Wityp Wiins Kgd Iar Ift Ipt
-/
import Derived.Test.YtpjanfkliaaflaaR01
import Derived.Test.YtpjanfkliaaflaaR02
import Derived.Lib.AppendZeros
import Derived.LoopN
set_option linter.unusedSimpArgs false
set_option linter.unusedVariables false
namespace Go.Proofs.Ytpjanfkliaaflaa
open Go.RowKit

def T2 : List Typ → List Value
  | [] => []
  | t :: ts => .int .i64 t.1 :: .int .i64 t.2 :: T2 ts
theorem T2_app (ts us : List Typ) : T2 (ts ++ us) = T2 ts ++ T2 us := by
  induction ts with
  | nil => rfl
  | cons t ts ih => simp [T2, ih]
theorem T2_length (ts : List Typ) : (T2 ts).length = ts.length * 2 := by
  induction ts with
  | nil => rfl
  | cons t ts ih => simp [T2, ih]; omega
theorem T2_get0 {ts : List Typ} {j : Nat} {t : Typ} (h : ts[j]? = some t) : (T2 ts)[j * 2]? = some (.int .i64 t.1) := by
  induction ts generalizing j with
  | nil => simp at h
  | cons u ts ih =>
    cases j with
    | zero => simp at h; subst h; simp [T2]
    | succ j => rw [show (j + 1) * 2 = j * 2 + 1 + 1 by omega]; simp [T2]; exact ih (by simpa using h)
theorem T2_get1 {ts : List Typ} {j : Nat} {t : Typ} (h : ts[j]? = some t) : (T2 ts)[j * 2 + 1]? = some (.int .i64 t.2) := by
  induction ts generalizing j with
  | nil => simp at h
  | cons u ts ih =>
    cases j with
    | zero => simp at h; subst h; simp [T2]
    | succ j => rw [show (j + 1) * 2 + 1 = j * 2 + 1 + 1 + 1 by omega]; simp [T2]; exact ih (by simpa using h)
theorem T2_one (ts : List Typ) : ∀ u ∈ T2 ts, u.oneCell' = true := by
  induction ts with
  | nil => simp [T2]
  | cons t ts ih =>
    intro u hu
    simp only [T2, List.mem_cons] at hu
    rcases hu with rfl | rfl | hu
    · rfl
    · rfl
    · exact ih u hu
def A64 (ts : List Typ) : Prop := ∀ t ∈ ts, I64 t.1 ∧ I64 t.2
theorem A64.app {ts us : List Typ} (h : A64 ts) (h' : A64 us) : A64 (ts ++ us) := fun t ht => by
  rcases List.mem_append.1 ht with h1 | h1
  · exact h t h1
  · exact h' t h1
theorem A64.take {ts : List Typ} (h : A64 ts) (k : Nat) : A64 (ts.take k) := fun t ht => h t (List.mem_of_mem_take ht)
theorem A64.drop {ts : List Typ} (h : A64 ts) (k : Nat) : A64 (ts.drop k) := fun t ht => h t (List.mem_of_mem_drop ht)
theorem A64.nil : A64 [] := fun t ht => by simp at ht
theorem A64.one {t : Typ} (h : I64 t.1) (h' : I64 t.2) : A64 [t] := fun u hu => by simp at hu; subst hu; exact ⟨h, h'⟩
theorem Sq.a64 {S : Nat → Prop} {w : World} {A : Option Addr} {ts : List Typ} (h : Sq typL S w A ts) : A64 ts := fun t ht => by
  obtain ⟨j, hj⟩ := List.mem_iff_getElem?.1 ht
  obtain ⟨a, cs, -, -, -, hr⟩ := h.at hj
  exact hr.2
theorem Sq.take {α : Type} {L : Lay α} {S : Nat → Prop} {w : World} {A : Option Addr} {xs : List α} (h : Sq L S w A xs) (k : Nat) : Sq L S w A (xs.take k) := fun hn => by
  have hl : (xs.take k).length ≤ xs.length := by simp; omega
  obtain ⟨a, e, hs, hc⟩ := h (by omega)
  refine ⟨a, e, hs, fun j x hx => hc j x ?_⟩
  have hj : j < k := by
    have := (List.getElem?_eq_some_iff.1 hx).1
    simp at this
    omega
  rwa [List.getElem?_take_of_lt hj] at hx
theorem Sq.drop {α : Type} {L : Lay α} {S : Nat → Prop} {w : World} {A : Option Addr} {xs : List α} (h : Sq L S w A xs) (k : Nat) : Sq L S w (A.map (·.add (k * L.k))) (xs.drop k) := fun hn => by
  have hl : (xs.drop k).length = xs.length - k := by simp
  obtain ⟨a, e, hs, hc⟩ := h (by omega)
  refine ⟨a.add (k * L.k), by rw [e]; rfl, by rw [addBlock]; exact hs, fun j x hx => ?_⟩
  rw [List.getElem?_drop] at hx
  obtain ⟨cs, h1, h2⟩ := hc (k + j) x hx
  refine ⟨cs, fun i u hu => ?_, h2⟩
  rw [addAdd, ← h1 i u hu, Nat.add_mul, Nat.add_assoc]
theorem own_sq {w : World} {base n : Nat} {v : Value} {ts : List Typ} (h : w.ownsRow base 23 2 v n (T2 ts)) (ha : A64 ts) :
    ∃ A c, v = .slice A n c ∧ n = ts.length ∧ n ≤ c ∧ c ≤ maxLen ∧ Sq typL (fun b => base ≤ b ∧ b < w.heap.size) w A ts := by
  have hn : n = ts.length := by have := h.1; rw [T2_length] at this; omega
  rcases h.2 with ⟨rfl, h0⟩ | ⟨g, cap, cur, rfl, hb, hg, hnc, hcm, _, _⟩
  · refine ⟨none, 0, by rw [h0], hn, by omega, by simp [maxLen], fun hpos => absurd hpos (by omega)⟩
  · refine ⟨some ⟨g, 0, none⟩, cap, rfl, hn, hnc, hcm, fun _ => ⟨⟨g, 0, none⟩, rfl, ⟨hb, (Array.getElem?_eq_some_iff.1 hg).1⟩, fun j t hj => ⟨_, fun i u hu => ?_, rfl, ha t (List.mem_of_getElem? hj)⟩⟩⟩
    match i, hu with
    | 0, hu => simp at hu; subst hu; exact h.cells rfl (j * 2) _ (T2_get0 hj)
    | 1, hu => simp at hu; subst hu; exact h.cells rfl (j * 2 + 1) _ (T2_get1 hj)
    | i + 2, hu => simp at hu
theorem own_tys_empty (w : World) : (w.alloc (.cells #[] 23)).ownsRow w.heap.size 23 2 (.slice (some ⟨w.heap.size, 0, none⟩) 0 0) 0 (T2 []) :=
  World.ownsRow_made w #[] 0 (Nat.le_refl _) (by simp [maxLen]) (by simp)
theorem sq_cells {S : Nat → Prop} {w : World} {a : Addr} {ts : List Typ} (h : Sq typL S w (some a) ts) : ∀ j u, (T2 ts)[j]? = some u → w.cell? (a.add j) = some u := fun j u hu => by
  have hj := (List.getElem?_eq_some_iff.1 hu).1
  rw [T2_length] at hj
  obtain ⟨a', e, -, hc⟩ := h (by omega)
  injection e with e
  subst e
  obtain ⟨t, ht⟩ : ∃ t, ts[j / 2]? = some t := ⟨ts[j / 2]'(by omega), List.getElem?_eq_getElem _⟩
  obtain ⟨cs, h1, rfl, -⟩ := hc _ t ht
  rcases Nat.mod_two_eq_zero_or_one j with e | e
  · have ej : j = j / 2 * 2 := by omega
    have k0 := h1 0 _ rfl
    rw [ej, T2_get0 ht] at hu
    injection hu with hu
    subst hu
    rw [show j / 2 * typL.k + 0 = j by show j / 2 * 2 + 0 = j; omega] at k0
    exact k0
  · have ej : j = j / 2 * 2 + 1 := by omega
    have k0 := h1 1 _ rfl
    rw [ej, T2_get1 ht] at hu
    injection hu with hu
    subst hu
    rw [show j / 2 * typL.k + 1 = j by show j / 2 * 2 + 1 = j; omega] at k0
    exact k0

theorem typ_info : (Try.prog.info? 23).map (fun i => (i.zero, i.size, i.bytes)) = some (some (.agg #[.int .i64 0, .int .i64 0]), 2, 16) := by kernel_rfl

set_option maxRecDepth 100000 in
theorem run_append_tys (w : World) (base ty : Nat) (v : Value) (n : Nat) (xs : List Typ) (hown : w.ownsRow base 23 2 v n (T2 xs)) (A : Option Addr) (m c : Nat) (ys : List Typ) (hm : ys.length = m)
    (S : Nat → Prop) (hy : Sq typL S w A ys) (hbig : n + m ≤ 1000000000) (hbase : base ≤ w.heap.size) :
    ∃ v' w', (Builtin.append_ #[29, 29] ty #[v, .slice A m c]).run Try.prog w = .ok v' w' ∧ w'.ownsRow base 23 2 v' (n + m) (T2 (xs ++ ys)) ∧ w.grownBy w' v.ownBlock ∧
      (v'.ownBlock = v.ownBlock ∨ v'.ownBlock = some w.heap.size) := by
  obtain ⟨i0, hi0, hz0, hz1, hz2⟩ := info_parts typ_info
  rw [T2_app]
  rcases A with _ | a
  · have h0 : m = 0 := by
      rcases Nat.eq_zero_or_pos m with h | h
      · exact h
      · obtain ⟨a, h, _⟩ := hy (by omega)
        cases h
    subst h0
    obtain rfl : ys = [] := List.eq_nil_of_length_eq_zero hm
    refine ⟨v, w, ?_, by simpa [T2] using hown, ⟨rfl, rfl, rfl, Nat.le_refl _, fun _ _ _ => rfl⟩, .inl rfl⟩
    have ht := run_underlying (P := Try.prog) (w := w) Try.underlying29
    rcases hown.2 with ⟨rfl, rfl⟩ | ⟨g, cap, cur, rfl, _, _, hnc, _⟩
    · simp [Builtin.append_, ht, sizeOf, typeInfo, hi0, Builtin.lenOf, Builtin.firstCells]
    · simp [Builtin.append_, ht, sizeOf, typeInfo, hi0, Builtin.lenOf, Builtin.firstCells, hnc, storeCells]
  · obtain ⟨v', w', hrun, h2, h3, _, h5⟩ := run_append_own_at (P := Try.prog) w base 29 ty 23 i0 (.agg #[.int .i64 0, .int .i64 0]) 2 16 Try.underlying29 hi0 hz0 hz1 hz2 rfl (by omega) v n (T2 xs) hown a m c (T2 ys) (by rw [T2_length]; omega) (sq_cells hy) (T2_one ys)
      (by simp only [maxLen]; omega) (by omega) hbase
    exact ⟨v', w', hrun, h2, h3, h5⟩

theorem walk_append_tys (w : World) {ops : Array Oper} {rest : List Oper} {o : Oper} {a : Act} {Q : Exit → Act → World → Prop} (hgd : o.guard = none) (s x : Operand)
    (ho : o.op = .call { callee := .builtin .append, args := #[s, x], argTypes := #[29, 29] })
    (base : Nat) (v : Value) (n : Nat) (xs : List Typ) (hs : a.eval s = v) (hown : w.ownsRow base 23 2 v n (T2 xs)) (A : Option Addr) (m c : Nat) (ys : List Typ) (hx : a.eval x = .slice A m c) (hm : ys.length = m)
    (S : Nat → Prop) (hy : Sq typL S w A ys) (hbig : n + m ≤ 1000000000) (hbase : base ≤ w.heap.size)
    (h : ∀ v' w', w'.ownsRow base 23 2 v' (n + m) (T2 (xs ++ ys)) → w.grownBy w' v.ownBlock → (v'.ownBlock = v.ownBlock ∨ v'.ownBlock = some w.heap.size) → wpList Try.prog ops Q rest (a.put o.dst v') w') :
    wpList Try.prog ops Q (o :: rest) a w := by
  refine wpList_plain hgd fun _ hK => ?_
  obtain ⟨v', w', hrun, h2, h3, h4⟩ := run_append_tys w base o.type v n xs hown A m c ys hm S hy hbig hbase
  unfold Oper.wp execOp
  simp only [ho, resolve, invoke, builtin, Sem.run_bind, Sem.run_pure, Result.andThen_ok, List.map_toArray, List.map_cons, List.map_nil, hs, hx, hrun]
  exact hK _ _ (h v' w' h2 h3 h4)

theorem walk_make_tys (w : World) {ops : Array Oper} {rest : List Oper} {o : Oper} {a : Act} {Q : Exit → Act → World → Prop} (hgd : o.guard = none) (s x : Operand)
    (ho : o.op = .call { callee := .builtin .append, args := #[s, x], argTypes := #[29, 3] })
    (n : Nat) (h0 : 0 < n) (hn : n ≤ 1000000000) (hs : a.eval s = .slice none 0 0) (hx : a.eval x = .int .i64 (n : Nat))
    (h : ∀ G w', n ≤ G → G ≤ maxLen → w'.ownsRow w.heap.size 23 2 (.slice (some ⟨w.heap.size, 0, none⟩) 0 G) 0 (T2 []) → Below w.heap.size w w' → wpList Try.prog ops Q rest (a.put o.dst (.slice (some ⟨w.heap.size, 0, none⟩) n G)) w') :
    wpList Try.prog ops Q (o :: rest) a w := by
  obtain ⟨i0, hi0, hz0, hz1, hz2⟩ := info_parts typ_info
  refine wpList_plain hgd fun _ hK => ?_
  have hrun := Lib.run_append_nil_zeros (P := Try.prog) w 29 3 o.type 23 i0 (.agg #[.int .i64 0, .int .i64 0]) .i64 .i64 Try.underlying29 Try.underlying3 hi0 hz0 n h0 (by omega) (by omega) (by rw [hz2]; omega)
  have hG := grownCap_ge w n 0 23
  have hG2 := grownCap_le_maxLen w n 0 23 (by unfold maxLen; omega)
  generalize grownCap w n 0 23 = G at hrun hG hG2
  unfold Oper.wp execOp
  simp only [ho, resolve, invoke, builtin, Sem.run_bind, Sem.run_pure, Result.andThen_ok, List.map_toArray, List.map_cons, List.map_nil, hs, hx, hrun]
  refine hK _ _ (h G _ hG hG2 ?_ ((Below.refl _ w).drew.alloc (Nat.le_refl _) _))
  refine World.ownsRow_made (base := w.heap.size) (e := 23) (size := 2) w.drew _ G (Nat.le_refl _) hG2 ?_
  simp [Builtin.zeroCells, Value.cells]
  omega

def Is (l : List Int) : List Value := l.map fun x => Value.int .i64 x
theorem Is_length (l : List Int) : (Is l).length = l.length := by simp [Is]
theorem Is_get {l : List Int} {j : Nat} {x : Int} (h : l[j]? = some x) : (Is l)[j]? = some (.int .i64 x) := by simp [Is, h]
end Go.Proofs.Ytpjanfkliaaflaa
namespace Go.Proofs.Ytpjanfkliaaflaa
open Go.RowKit

set_option maxRecDepth 100000 in
set_option maxHeartbeats 1000000 in
theorem within_typ (A : Option Addr) (n c : Nat) (xs : List Typ) (lo hi : Int) (g : Typ → Bool) (p7 : Addr) (w : World) (hl : xs.length = n) (h : Sq typL (· < w.heap.size) w A xs) (hn2 : n ≤ 9223372036854775807) (hlo : -1000 ≤ lo ∧ lo ≤ 1000) (hhi : -9223372036854775808 ≤ hi ∧ hi ≤ 1000)
    (hG : ∀ (w1 : World) (cs : List Value) (x : Typ), Below w.heap.size w w1 → x ∈ xs → typL.R (· < w1.heap.size) w1 cs x → Calls Try.prog 52 #[vAgg cs, .pointer (some p7)] w1 (Tells (g x) w1)) :
    Calls Try.prog 55 #[.slice A n c, .int .i64 lo, .int .i64 hi, .func (.func 52) #[] #[.pointer (some p7)]] w (Tells (witB lo hi g xs) w) := by
  have HL := Lib.hid hl
  have HS := Lib.hid h
  have HP0 := Lib.hid hG
  have HW : Hid (witB lo hi g xs = (decide (lo ≤ (n : Int) ∧ (n : Int) ≤ hi) && xs.all g)) := by rw [← hl]; exact rfl
  clear hl h hG
  obtain ⟨wb, hwb⟩ : ∃ wb, witB lo hi g xs = wb := ⟨_, rfl⟩
  rw [hwb] at HW ⊢
  clear hwb
  by_cases h1 : (n : Int) < lo
  · have e : wb = false := by rw [HW.out]; simp; omega
    rw [e]
    clear HW e
    go_enter Try.func55, Try.ntmps55
    go_wp2_with fail
    go_ret
    exact ⟨rfl, Below.refl _ _⟩
  by_cases h2 : hi < (n : Int)
  · have e : wb = false := by rw [HW.out]; simp; omega
    rw [e]
    clear HW e
    go_enter Try.func55, Try.ntmps55
    go_wp2_with fail
    go_ret
    exact ⟨rfl, Below.refl _ _⟩
  replace HW : Hid (wb = xs.all g) := by
    show wb = xs.all g
    rw [HW.out]
    simp
    omega
  go_enter Try.func55, Try.ntmps55
  go_wp2_with fail
  go_loopw [23] (fun i wr => ∃ k : Nat, k ≤ n ∧ i = .int .i64 (k : Nat) ∧ (xs.take k).all g = true ∧ Below w.heap.size w wr) (fun i _ => n - (intOf i).toNat)
  case atStart => exact ⟨0, Nat.zero_le _, rfl, by simp, Below.refl _ _⟩
  case round =>
    obtain ⟨k, hk, rfl, hall, hbel⟩ := hrel
    have HA := Lib.hid hall
    have HB := Lib.hid hbel
    have hs := hbel.size
    clear hall hbel
    by_cases hlt : k < n
    · skip
      obtain ⟨x, hx⟩ : ∃ x, xs[k]? = some x := ⟨xs[k]'(by rw [HL.out]; exact hlt), List.getElem?_eq_getElem _⟩
      have hmem : x ∈ xs := List.mem_of_getElem? hx
      obtain ⟨a, cs, rfl, hab, hc, hr⟩ := HS.out.at hx
      have HX := Lib.hid hx
      clear hx
      have HR := Lib.hid hr
      obtain ⟨rfl, -, -⟩ := hr
      have c0 := (HB.out.cell (p := a.add (k * 2)) (by rw [addBlock]; exact hab)).trans (hc 0 _ rfl)
      have c1 := (HB.out.cell (p := a.add (k * 2 + 1)) (by rw [addBlock]; exact hab)).trans (hc 1 _ rfl)
      rw [next_cell a (k * 2) 1 (by omega)] at c1
      have HP : Hid (∀ w1, Below w.heap.size w w1 → Calls Try.prog 52 #[.agg #[.int .i64 x.1, .int .i64 x.2], .pointer (some p7)] w1 (Tells (g x) w1)) := fun w1 hb => HP0.out w1 [.int .i64 x.1, .int .i64 x.2] x hb hmem (typL.wide (typL.keep HR.out fun b hb1 => hb.block b hb1) fun b hb1 => Nat.lt_of_lt_of_le hb1 hb.size)
      clear hc
      cases hg : g x
      · rw [hg] at HP
        have e : wb = false := by
          rw [HW.out, List.all_eq_false]
          exact ⟨x, hmem, by rw [hg]; simp⟩
        have E := Lib.hid e
        clear e hg
        go_wp2_with (first
          | (go_at_call 52
             refine (HP.out _ (HB.out.alloc hs _)).mono ?_
             rintro e w2 ⟨rfl, hb2⟩
             have Hb2 := Lib.hid ((HB.out.alloc hs _).trans (hb2.mono (by simp; omega)))
             clear hb2))
        go_ret
        exact ⟨by rw [E.out]; rfl, Hb2.out⟩
      · rw [hg] at HP
        have HG := Lib.hid hg
        clear hg
        go_wp2_with (first
          | (go_at_call 52
             refine (HP.out _ (HB.out.alloc hs _)).mono ?_
             rintro e w2 ⟨rfl, hb2⟩
             have Hb2 := Lib.hid ((HB.out.alloc hs _).trans (hb2.mono (by simp; omega)))
             clear hb2))
        refine ⟨⟨k + 1, by omega, by simp, all_take HA.out HX.out HG.out, Hb2.out⟩, by simp [intOf]; omega⟩
    · obtain rfl : k = n := by omega
      go_wp2_with fail
      go_ret
      refine ⟨?_, HB.out⟩
      have e := HA.out
      rw [List.take_of_length_le (by rw [HL.out]; exact Nat.le_refl _)] at e
      rw [HW.out, e]
      rfl
end Go.Proofs.Ytpjanfkliaaflaa
namespace Go.Proofs.Ytpjanfkliaaflaa
open Go.RowKit

set_option maxRecDepth 100000 in
set_option maxHeartbeats 1000000 in
theorem within_ins (A : Option Addr) (n c : Nat) (xs : List Ins) (lo hi : Int) (g : Ins → Bool) (w : World) (hl : xs.length = n) (h : Sq insL (· < w.heap.size) w A xs) (hn2 : n ≤ 9223372036854775807) (hlo : -1000 ≤ lo ∧ lo ≤ 1000) (hhi : -9223372036854775808 ≤ hi ∧ hi ≤ 1000)
    (hG : ∀ (w1 : World) (cs : List Value) (x : Ins), Below w.heap.size w w1 → x ∈ xs → insL.R (· < w1.heap.size) w1 cs x → Calls Try.prog 59 #[vAgg cs] w1 (Tells (g x) w1)) :
    Calls Try.prog 58 #[.slice A n c, .int .i64 lo, .int .i64 hi, .func (.func 59) #[] #[]] w (Tells (witB lo hi g xs) w) := by
  have HL := Lib.hid hl
  have HS := Lib.hid h
  have HP0 := Lib.hid hG
  have HW : Hid (witB lo hi g xs = (decide (lo ≤ (n : Int) ∧ (n : Int) ≤ hi) && xs.all g)) := by rw [← hl]; exact rfl
  clear hl h hG
  obtain ⟨wb, hwb⟩ : ∃ wb, witB lo hi g xs = wb := ⟨_, rfl⟩
  rw [hwb] at HW ⊢
  clear hwb
  by_cases h1 : (n : Int) < lo
  · have e : wb = false := by rw [HW.out]; simp; omega
    rw [e]
    clear HW e
    go_enter Try.func58, Try.ntmps58
    go_wp2_with fail
    go_ret
    exact ⟨rfl, Below.refl _ _⟩
  by_cases h2 : hi < (n : Int)
  · have e : wb = false := by rw [HW.out]; simp; omega
    rw [e]
    clear HW e
    go_enter Try.func58, Try.ntmps58
    go_wp2_with fail
    go_ret
    exact ⟨rfl, Below.refl _ _⟩
  replace HW : Hid (wb = xs.all g) := by
    show wb = xs.all g
    rw [HW.out]
    simp
    omega
  go_enter Try.func58, Try.ntmps58
  go_wp2_with fail
  go_loopw [23] (fun i wr => ∃ k : Nat, k ≤ n ∧ i = .int .i64 (k : Nat) ∧ (xs.take k).all g = true ∧ Below w.heap.size w wr) (fun i _ => n - (intOf i).toNat)
  case atStart => exact ⟨0, Nat.zero_le _, rfl, by simp, Below.refl _ _⟩
  case round =>
    obtain ⟨k, hk, rfl, hall, hbel⟩ := hrel
    have HA := Lib.hid hall
    have HB := Lib.hid hbel
    have hs := hbel.size
    clear hall hbel
    by_cases hlt : k < n
    · skip
      obtain ⟨x, hx⟩ : ∃ x, xs[k]? = some x := ⟨xs[k]'(by rw [HL.out]; exact hlt), List.getElem?_eq_getElem _⟩
      have hmem : x ∈ xs := List.mem_of_getElem? hx
      obtain ⟨a, cs, rfl, hab, hc, hr⟩ := HS.out.at hx
      have HX := Lib.hid hx
      clear hx
      have HR := Lib.hid hr
      obtain ⟨rfl, -, -, -⟩ := hr
      have c0 := (HB.out.cell (p := a.add (k * 3)) (by rw [addBlock]; exact hab)).trans (hc 0 _ rfl)
      have c1 := (HB.out.cell (p := a.add (k * 3 + 1)) (by rw [addBlock]; exact hab)).trans (hc 1 _ rfl)
      rw [next_cell a (k * 3) 1 (by omega)] at c1
      have c2 := (HB.out.cell (p := a.add (k * 3 + 2)) (by rw [addBlock]; exact hab)).trans (hc 2 _ rfl)
      rw [next_cell a (k * 3) 2 (by omega)] at c2
      have HP : Hid (∀ w1, Below w.heap.size w w1 → Calls Try.prog 59 #[.agg #[.int .i64 x.1, .int .i64 x.2.1, .int .i64 x.2.2]] w1 (Tells (g x) w1)) := fun w1 hb => HP0.out w1 [.int .i64 x.1, .int .i64 x.2.1, .int .i64 x.2.2] x hb hmem (insL.wide (insL.keep HR.out fun b hb1 => hb.block b hb1) fun b hb1 => Nat.lt_of_lt_of_le hb1 hb.size)
      clear hc
      cases hg : g x
      · rw [hg] at HP
        have e : wb = false := by
          rw [HW.out, List.all_eq_false]
          exact ⟨x, hmem, by rw [hg]; simp⟩
        have E := Lib.hid e
        clear e hg
        go_wp2_with (first
          | (go_at_call 59
             refine (HP.out _ (HB.out.alloc hs _)).mono ?_
             rintro e w2 ⟨rfl, hb2⟩
             have Hb2 := Lib.hid ((HB.out.alloc hs _).trans (hb2.mono (by simp; omega)))
             clear hb2))
        go_ret
        exact ⟨by rw [E.out]; rfl, Hb2.out⟩
      · rw [hg] at HP
        have HG := Lib.hid hg
        clear hg
        go_wp2_with (first
          | (go_at_call 59
             refine (HP.out _ (HB.out.alloc hs _)).mono ?_
             rintro e w2 ⟨rfl, hb2⟩
             have Hb2 := Lib.hid ((HB.out.alloc hs _).trans (hb2.mono (by simp; omega)))
             clear hb2))
        refine ⟨⟨k + 1, by omega, by simp, all_take HA.out HX.out HG.out, Hb2.out⟩, by simp [intOf]; omega⟩
    · obtain rfl : k = n := by omega
      go_wp2_with fail
      go_ret
      refine ⟨?_, HB.out⟩
      have e := HA.out
      rw [List.take_of_length_le (by rw [HL.out]; exact Nat.le_refl _)] at e
      rw [HW.out, e]
      rfl
end Go.Proofs.Ytpjanfkliaaflaa
namespace Go.Proofs.Ytpjanfkliaaflaa
open Go.RowKit

theorem kgood (k n r : Int) (w : World) : Calls Try.prog 53 #[.agg #[.int .i64 k, .int .i64 n], .int .i64 r] w fun e w' => e = .returned (.bool (goodB k n r)) ∧ Below w.heap.size w w' := by
  by_cases h1 : k = 1
  · subst h1
    go_enter Try.func53, Try.ntmps53
    go_wp2_with fail
    go_ret
    exact ⟨rfl, (Below.refl _ _).alloc (Nat.le_refl _) _⟩
  by_cases h2 : k = 2
  · subst h2
    go_enter Try.func53, Try.ntmps53
    go_wp2_with fail
    go_ret
    exact ⟨rfl, (Below.refl _ _).alloc (Nat.le_refl _) _⟩
  by_cases h3 : k = 3
  · subst h3
    go_enter Try.func53, Try.ntmps53
    go_wp2_with fail
    go_ret
    exact ⟨rfl, (Below.refl _ _).alloc (Nat.le_refl _) _⟩
  by_cases h7 : k = 7
  · subst h7
    go_enter Try.func53, Try.ntmps53
    go_wp2_with fail
    go_ret
    exact ⟨rfl, (Below.refl _ _).alloc (Nat.le_refl _) _⟩
  by_cases h4 : k = 4
  · subst h4
    by_cases hn : 0 ≤ n
    · have e : goodB 4 n r = decide (n < r) := by simp [goodB, hn]
      rw [e]
      clear e
      go_enter Try.func53, Try.ntmps53
      go_wp2_with fail
      go_ret
      exact ⟨rfl, (Below.refl _ _).alloc (Nat.le_refl _) _⟩
    · have e : goodB 4 n r = false := by simp [goodB, hn]
      rw [e]
      clear e
      go_enter Try.func53, Try.ntmps53
      go_wp2_with fail
      go_ret
      exact ⟨rfl, (Below.refl _ _).alloc (Nat.le_refl _) _⟩
  by_cases h5 : k = 5
  · subst h5
    by_cases hn : 0 ≤ n
    · have e : goodB 5 n r = decide (n < 4) := by simp [goodB, hn]
      rw [e]
      clear e
      go_enter Try.func53, Try.ntmps53
      go_wp2_with fail
      go_ret
      exact ⟨rfl, (Below.refl _ _).alloc (Nat.le_refl _) _⟩
    · have e : goodB 5 n r = false := by simp [goodB, hn]
      rw [e]
      clear e
      go_enter Try.func53, Try.ntmps53
      go_wp2_with fail
      go_ret
      exact ⟨rfl, (Below.refl _ _).alloc (Nat.le_refl _) _⟩
  have e : goodB k n r = false := by simp [goodB, h1, h2, h3, h7, h4, h5]
  rw [e]
  clear e
  go_enter Try.func53, Try.ntmps53
  go_wp2_with fail
  go_ret
  exact ⟨rfl, (Below.refl _ _).alloc (Nat.le_refl _) _⟩
end Go.Proofs.Ytpjanfkliaaflaa
namespace Go.Proofs.Ytpjanfkliaaflaa
open Go.RowKit

set_option maxHeartbeats 1000000 in
theorem args_any (op : Int) (w : World) : Calls Try.prog 83 #[.int .i64 op] w fun e w' => e = .returned (.int .i64 (argN op)) ∧ w = w' := by
  by_cases hc : op = 29 ∨ op = 30 ∨ op = 0 ∨ op = 1 ∨ op = 3 ∨ op = 4 ∨ op = 23 ∨ op = 24 ∨ op = 25 ∨ op = 27 ∨ op = 28
  · rcases hc with rfl | rfl | rfl | rfl | rfl | rfl | rfl | rfl | rfl | rfl | rfl
    all_goals
      go_enter Try.func83, Try.ntmps83
      go_wp2_with fail
      go_ret
      exact ⟨rfl, rfl⟩
  · obtain ⟨n29, n30, n0, n1, n3, n4, n23, n24, n25, n27, n28⟩ : op ≠ 29 ∧ op ≠ 30 ∧ op ≠ 0 ∧ op ≠ 1 ∧ op ≠ 3 ∧ op ≠ 4 ∧ op ≠ 23 ∧ op ≠ 24 ∧ op ≠ 25 ∧ op ≠ 27 ∧ op ≠ 28 := by omega
    clear hc
    by_cases hlo : op < 0
    · have e : argN op = -1 := by unfold argN; rw [if_neg (by omega), if_neg (by omega), if_pos (by omega)]
      rw [e]
      clear e
      go_enter Try.func83, Try.ntmps83
      go_wp2_with fail
      go_ret
      exact ⟨rfl, rfl⟩
    by_cases hhi : 42 ≤ op
    · have e : argN op = -1 := by unfold argN; rw [if_neg (by omega), if_neg (by omega), if_pos (by omega)]
      rw [e]
      clear e
      go_enter Try.func83, Try.ntmps83
      go_wp2_with fail
      go_ret
      exact ⟨rfl, rfl⟩
    have e : argN op = 0 := by unfold argN; rw [if_neg (by omega), if_neg (by omega), if_neg (by omega)]
    rw [e]
    clear e
    go_enter Try.func83, Try.ntmps83
    go_wp2_with fail
    go_ret
    exact ⟨rfl, rfl⟩
end Go.Proofs.Ytpjanfkliaaflaa
namespace Go.Proofs.Ytpjanfkliaaflaa
open Go.RowKit

set_option maxHeartbeats 2000000 in
theorem fit_any (n a b : Int) (w : World) : Calls Try.prog 84 #[.agg #[.int .i64 a, .int .i64 b], .int .i64 n] w fun e w' => e = .returned (.bool (fitN n a b)) ∧ Below w.heap.size w w' := by
  have i0 : ∀ w, (Instr.index 131 (.agg #[.int .i64 a, .int .i64 b]) (.int .i64 0)).run Try.prog w = .ok (.int .i64 a) w := fun _ => by kernel_rfl
  have i1 : ∀ w, (Instr.index 131 (.agg #[.int .i64 a, .int .i64 b]) (.int .i64 1)).run Try.prog w = .ok (.int .i64 b) w := fun _ => by kernel_rfl
  unfold fitN
  by_cases h0 : 0 < n
  · rw [if_pos h0]
    by_cases h1 : 1 < n
    · rw [if_pos h1]
      by_cases a0 : a < 0
      · rw [decide_eq_false (by omega)]
        go_enter Try.func84, Try.ntmps84
        go_wp2_with fail
        refine wp_loop_rounds 3 ?_
        rw [rounds_succ]
        go_wp2_with fail
        go_ret
        exact ⟨rfl, (Below.refl _ _).alloc (Nat.le_refl _) _⟩
      by_cases a1 : 255 < a
      · rw [decide_eq_false (by omega)]
        go_enter Try.func84, Try.ntmps84
        go_wp2_with fail
        refine wp_loop_rounds 3 ?_
        rw [rounds_succ]
        go_wp2_with fail
        go_ret
        exact ⟨rfl, (Below.refl _ _).alloc (Nat.le_refl _) _⟩
      by_cases b0 : b < 0
      · rw [decide_eq_false (by omega)]
        go_enter Try.func84, Try.ntmps84
        go_wp2_with fail
        refine wp_loop_rounds 3 ?_
        rw [rounds_succ]
        go_wp2_with fail
        rw [rounds_succ]
        go_wp2_with fail
        go_ret
        exact ⟨rfl, (Below.refl _ _).alloc (Nat.le_refl _) _⟩
      by_cases b1 : 255 < b
      · rw [decide_eq_false (by omega)]
        go_enter Try.func84, Try.ntmps84
        go_wp2_with fail
        refine wp_loop_rounds 3 ?_
        rw [rounds_succ]
        go_wp2_with fail
        rw [rounds_succ]
        go_wp2_with fail
        go_ret
        exact ⟨rfl, (Below.refl _ _).alloc (Nat.le_refl _) _⟩
      rw [decide_eq_true (by omega)]
      go_enter Try.func84, Try.ntmps84
      go_wp2_with fail
      refine wp_loop_rounds 3 ?_
      rw [rounds_succ]
      go_wp2_with fail
      rw [rounds_succ]
      go_wp2_with fail
      rw [rounds_succ]
      go_wp2_with fail
      go_ret
      exact ⟨rfl, (Below.refl _ _).alloc (Nat.le_refl _) _⟩
    · rw [if_neg h1]
      by_cases a0 : a < 0
      · rw [decide_eq_false (by omega)]
        go_enter Try.func84, Try.ntmps84
        go_wp2_with fail
        refine wp_loop_rounds 3 ?_
        rw [rounds_succ]
        go_wp2_with fail
        go_ret
        exact ⟨rfl, (Below.refl _ _).alloc (Nat.le_refl _) _⟩
      by_cases a1 : 255 < a
      · rw [decide_eq_false (by omega)]
        go_enter Try.func84, Try.ntmps84
        go_wp2_with fail
        refine wp_loop_rounds 3 ?_
        rw [rounds_succ]
        go_wp2_with fail
        go_ret
        exact ⟨rfl, (Below.refl _ _).alloc (Nat.le_refl _) _⟩
      by_cases b0 : b < 0
      · rw [decide_eq_false (by omega)]
        go_enter Try.func84, Try.ntmps84
        go_wp2_with fail
        refine wp_loop_rounds 3 ?_
        rw [rounds_succ]
        go_wp2_with fail
        rw [rounds_succ]
        go_wp2_with fail
        go_ret
        exact ⟨rfl, (Below.refl _ _).alloc (Nat.le_refl _) _⟩
      by_cases b1 : 0 < b
      · rw [decide_eq_false (by omega)]
        go_enter Try.func84, Try.ntmps84
        go_wp2_with fail
        refine wp_loop_rounds 3 ?_
        rw [rounds_succ]
        go_wp2_with fail
        rw [rounds_succ]
        go_wp2_with fail
        go_ret
        exact ⟨rfl, (Below.refl _ _).alloc (Nat.le_refl _) _⟩
      rw [decide_eq_true (by omega)]
      go_enter Try.func84, Try.ntmps84
      go_wp2_with fail
      refine wp_loop_rounds 3 ?_
      rw [rounds_succ]
      go_wp2_with fail
      rw [rounds_succ]
      go_wp2_with fail
      rw [rounds_succ]
      go_wp2_with fail
      go_ret
      exact ⟨rfl, (Below.refl _ _).alloc (Nat.le_refl _) _⟩
  · rw [if_neg h0, if_neg (by omega)]
    have h1 : ¬ 1 < n := by omega
    by_cases a0 : a < 0
    · rw [decide_eq_false (by omega)]
      go_enter Try.func84, Try.ntmps84
      go_wp2_with fail
      refine wp_loop_rounds 3 ?_
      rw [rounds_succ]
      go_wp2_with fail
      go_ret
      exact ⟨rfl, (Below.refl _ _).alloc (Nat.le_refl _) _⟩
    by_cases a1 : 0 < a
    · rw [decide_eq_false (by omega)]
      go_enter Try.func84, Try.ntmps84
      go_wp2_with fail
      refine wp_loop_rounds 3 ?_
      rw [rounds_succ]
      go_wp2_with fail
      go_ret
      exact ⟨rfl, (Below.refl _ _).alloc (Nat.le_refl _) _⟩
    by_cases b0 : b < 0
    · rw [decide_eq_false (by omega)]
      go_enter Try.func84, Try.ntmps84
      go_wp2_with fail
      refine wp_loop_rounds 3 ?_
      rw [rounds_succ]
      go_wp2_with fail
      rw [rounds_succ]
      go_wp2_with fail
      go_ret
      exact ⟨rfl, (Below.refl _ _).alloc (Nat.le_refl _) _⟩
    by_cases b1 : 0 < b
    · rw [decide_eq_false (by omega)]
      go_enter Try.func84, Try.ntmps84
      go_wp2_with fail
      refine wp_loop_rounds 3 ?_
      rw [rounds_succ]
      go_wp2_with fail
      rw [rounds_succ]
      go_wp2_with fail
      go_ret
      exact ⟨rfl, (Below.refl _ _).alloc (Nat.le_refl _) _⟩
    rw [decide_eq_true (by omega)]
    go_enter Try.func84, Try.ntmps84
    go_wp2_with fail
    refine wp_loop_rounds 3 ?_
    rw [rounds_succ]
    go_wp2_with fail
    rw [rounds_succ]
    go_wp2_with fail
    rw [rounds_succ]
    go_wp2_with fail
    go_ret
    exact ⟨rfl, (Below.refl _ _).alloc (Nat.le_refl _) _⟩
end Go.Proofs.Ytpjanfkliaaflaa
namespace Go.Proofs.Ytpjanfkliaaflaa
open Go.RowKit


theorem wid_one : wid 1 = 1 := by decide
theorem fb_one (o : Nat) (h : o < 256) : fb o 1 = [o] := by simp [fb]; omega

set_option maxRecDepth 100000 in
set_option maxHeartbeats 1000000 in
theorem iput_none (op a b : Int) (w : World) (h : goodI op a b = false) :
    Calls Try.prog 71 #[.agg #[.int .i64 op, .int .i64 a, .int .i64 b]] w fun e w' => e = .returned (.slice none 0 0) ∧ Below w.heap.size w w' := by
  unfold goodI at h
  have AR := Lib.hid (fun w => args_any op w)
  obtain ⟨n, hn⟩ : ∃ n, argN op = n := ⟨_, rfl⟩
  rw [hn] at h AR
  have FT := Lib.hid (fun w => fit_any n a b w)
  clear hn
  by_cases h0 : n < 0
  · clear h
    go_enter Try.func71, Try.ntmps71
    go_wp2_with (first
      | (go_at_call 83
         refine (AR.out _).mono ?_
         rintro e w1 ⟨rfl, rfl⟩))
    go_ret
    exact ⟨rfl, ((Below.refl _ _).alloc (Nat.le_refl _) _).alloc (by simp) _⟩
  · have hf : fitN n a b = false := by
      rw [decide_eq_true (by omega)] at h
      simpa using h
    rw [hf] at FT
    clear hf h
    go_enter Try.func71, Try.ntmps71
    go_wp2_with (first
      | (go_at_call 83
         refine (AR.out _).mono ?_
         rintro e w1 ⟨rfl, rfl⟩)
      | (go_at_call 84
         refine (FT.out _).mono ?_
         rintro e w2 ⟨rfl, hb2⟩
         have HB2 := Lib.hid hb2
         clear hb2))
    go_ret
    exact ⟨rfl, (((Below.refl _ _).alloc (Nat.le_refl _) _).alloc (by simp) _).trans (HB2.out.mono (by simp; omega))⟩
theorem arr_new (w : World) (o : Obj) (t : TypeId) (cs : Array Value) : Blk ((w.alloc o).alloc (.cells cs t)) (w.heap.size + 1) t cs := by
  have := heap_alloc_new (w.alloc o) (.cells cs t)
  simpa [Blk] using this

set_option maxRecDepth 100000 in
set_option maxHeartbeats 1000000 in
theorem iput_0 (o x y : Nat) (w : World) (h : goodI o x y = true) (hn : argN o = 0) :
    Calls Try.prog 71 #[.agg #[.int .i64 (o : Nat), .int .i64 (x : Nat), .int .i64 (y : Nat)]] w fun e w' => ∃ u, e = .returned u ∧ w'.ownsRow w.heap.size 5 1 u (insB o x y).length (Bs (insB o x y)) ∧ Below w.heap.size w w' := by
  have AR := Lib.hid (fun w => args_any o w)
  rw [hn] at AR
  have FT := Lib.hid (fun w => fit_any 0 x y w)
  have hf : fitN 0 x y = true := by
    unfold goodI at h
    rw [hn] at h
    simpa using h
  rw [hf] at FT
  obtain ⟨o', x', y', eo, ex, ey, ho, hx, hy, -⟩ := goodI_parts h
  obtain rfl : o = o' := by omega
  obtain rfl : x = x' := by omega
  obtain rfl : y = y' := by omega
  have HE : Hid (insB o x y = [o] ++ bodyB 0 x y) := by
    show insB o x y = [o] ++ bodyB 0 x y
    rw [insB_good h, hn]
    rfl
  have HO : Hid (o < 256) := by show o < 256; omega
  have HO64 : Hid (o < B64) := by show o < B64; unfold B64; omega
  have HX64 : Hid (x < B64) := by show x < B64; unfold B64; omega
  have HY64 : Hid (y < B64) := by show y < B64; unfold B64; omega
  have HL1 : Hid (1 + (vb x).length ≤ 140737488355328) := by show 1 + (vb x).length ≤ 140737488355328; have := vb255 x hx; omega
  have HL2 : Hid (1 + (vb x).length + (vb y).length ≤ 140737488355328) := by show 1 + (vb x).length + (vb y).length ≤ 140737488355328; have := vb255 x hx; have := vb255 y hy; omega
  clear hf hn h eo ex ey
  go_enter Try.func71, Try.ntmps71
  go_wp2_with (first
    | (go_at_call 83
       refine (AR.out _).mono ?_
       rintro e w1 ⟨rfl, rfl⟩)
    | (go_at_call 84
       refine (FT.out _).mono ?_
       rintro e w2 ⟨rfl, hb2⟩
       have HB2 : Hid (Below w.heap.size w w2) := (((Below.refl _ _).alloc (Nat.le_refl _) _).alloc (by simp) _).trans (hb2.mono (by simp; omega))
       have hk := (hb2.block w.heap.size (by simp; omega)).trans ((Below.heap_alloc _ _ w.heap.size (by simp)).trans (blk_new w 25 #[.int .i64 (o : Nat), .int .i64 (x : Nat), .int .i64 (y : Nat)]))
       have k0 := Blk.cell hk 0
       have hs2 : w.heap.size + 2 ≤ w2.heap.size := (by have := hb2.size; simp at this; omega)
       have HA2 := Lib.hid ((hb2.block (w.heap.size + 1) (by simp)).trans (arr_new w _ 131 #[.int .i64 (x : Nat), .int .i64 (y : Nat)]))
       simp at k0
       clear hb2 hk)
    | (go_at_call 72
       refine (fixed_any o 1 w2 HO64.out).mono ?_
       rintro e w3 ⟨u3, rfl, hown3, hb3⟩
       rw [wid_one, fb_one o HO.out] at hown3
       have HO3 := Lib.hid hown3
       have HB3 := Lib.hid (hb3.mono (Nat.le_refl w2.heap.size))
       have HA3 := Lib.hid ((hb3.block (w.heap.size + 1) (by omega)).trans HA2.out)
       have a30 := Blk.cell HA3.out 0
       simp at a30
       clear hown3 hb3))
  refine wp_loop_rounds 3 ?_
  rw [rounds_succ]
  go_wp2_with fail
  go_ret
  have e : insB o x y = [o] := by rw [HE.out]; simp [bodyB]
  have el : (insB o x y).length = 1 := by rw [e]; simp; try omega
  rw [el, e]
  exact ⟨_, rfl, own_wide HO3.out HB2.out.size, HB2.out.trans (HB3.out.mono HB2.out.size)⟩

set_option maxRecDepth 100000 in
set_option maxHeartbeats 1000000 in
theorem iput_1 (o x y : Nat) (w : World) (h : goodI o x y = true) (hn : argN o = 1) :
    Calls Try.prog 71 #[.agg #[.int .i64 (o : Nat), .int .i64 (x : Nat), .int .i64 (y : Nat)]] w fun e w' => ∃ u, e = .returned u ∧ w'.ownsRow w.heap.size 5 1 u (insB o x y).length (Bs (insB o x y)) ∧ Below w.heap.size w w' := by
  have AR := Lib.hid (fun w => args_any o w)
  rw [hn] at AR
  have FT := Lib.hid (fun w => fit_any 1 x y w)
  have hf : fitN 1 x y = true := by
    unfold goodI at h
    rw [hn] at h
    simpa using h
  rw [hf] at FT
  obtain ⟨o', x', y', eo, ex, ey, ho, hx, hy, -⟩ := goodI_parts h
  obtain rfl : o = o' := by omega
  obtain rfl : x = x' := by omega
  obtain rfl : y = y' := by omega
  have HE : Hid (insB o x y = [o] ++ bodyB 1 x y) := by
    show insB o x y = [o] ++ bodyB 1 x y
    rw [insB_good h, hn]
    rfl
  have HO : Hid (o < 256) := by show o < 256; omega
  have HO64 : Hid (o < B64) := by show o < B64; unfold B64; omega
  have HX64 : Hid (x < B64) := by show x < B64; unfold B64; omega
  have HY64 : Hid (y < B64) := by show y < B64; unfold B64; omega
  have HL1 : Hid (1 + (vb x).length ≤ 140737488355328) := by show 1 + (vb x).length ≤ 140737488355328; have := vb255 x hx; omega
  have HL2 : Hid (1 + (vb x).length + (vb y).length ≤ 140737488355328) := by show 1 + (vb x).length + (vb y).length ≤ 140737488355328; have := vb255 x hx; have := vb255 y hy; omega
  clear hf hn h eo ex ey
  go_enter Try.func71, Try.ntmps71
  go_wp2_with (first
    | (go_at_call 83
       refine (AR.out _).mono ?_
       rintro e w1 ⟨rfl, rfl⟩)
    | (go_at_call 84
       refine (FT.out _).mono ?_
       rintro e w2 ⟨rfl, hb2⟩
       have HB2 : Hid (Below w.heap.size w w2) := (((Below.refl _ _).alloc (Nat.le_refl _) _).alloc (by simp) _).trans (hb2.mono (by simp; omega))
       have hk := (hb2.block w.heap.size (by simp; omega)).trans ((Below.heap_alloc _ _ w.heap.size (by simp)).trans (blk_new w 25 #[.int .i64 (o : Nat), .int .i64 (x : Nat), .int .i64 (y : Nat)]))
       have k0 := Blk.cell hk 0
       have hs2 : w.heap.size + 2 ≤ w2.heap.size := (by have := hb2.size; simp at this; omega)
       have HA2 := Lib.hid ((hb2.block (w.heap.size + 1) (by simp)).trans (arr_new w _ 131 #[.int .i64 (x : Nat), .int .i64 (y : Nat)]))
       simp at k0
       clear hb2 hk)
    | (go_at_call 72
       refine (fixed_any o 1 w2 HO64.out).mono ?_
       rintro e w3 ⟨u3, rfl, hown3, hb3⟩
       rw [wid_one, fb_one o HO.out] at hown3
       have HO3 := Lib.hid hown3
       have HB3 := Lib.hid (hb3.mono (Nat.le_refl w2.heap.size))
       have HA3 := Lib.hid ((hb3.block (w.heap.size + 1) (by omega)).trans HA2.out)
       have a30 := Blk.cell HA3.out 0
       simp at a30
       clear hown3 hb3))
  refine wp_loop_rounds 3 ?_
  rw [rounds_succ]
  go_wp2_with (first
    | (go_at_call 66
       refine (var_any x w3 HX64.out).mono ?_
       rintro e w4 ⟨u4, rfl, hown4, hb4⟩
       obtain ⟨A4, c4, rfl, -, -, -, hY4⟩ := own_slice hown4
       have HY4 := Lib.hid hY4
       have HO4 := Lib.hid (own_below HO3.out hb4 (Nat.le_refl _))
       have HB4 := Lib.hid (HB3.out.trans (hb4.mono HB3.out.size))
       have HS4 := Lib.hid HB4.out.size
       clear hown4 hY4 hb4)
    | (at_builtin
       refine walk_append _ rfl (.tmp 31) (.tmp 36) rfl w2.heap.size u3 1 [o] rfl HO4.out A4 (vb x).length c4 (vb x) rfl rfl _ HY4.out HL1.out HS4.out ?_
       intro v5 w5 hown5 hg5 _
       have HO5 := Lib.hid hown5
       have HB5 := Lib.hid (HB4.out.grown hg5 HS4.out (fun i hi => (HO4.out.lt i hi).1))
       have HA5 := Lib.hid ((HB5.out.block (w.heap.size + 1) (by omega)).trans HA2.out)
       have a51 := Blk.cell HA5.out 1
       simp at a51
       clear hown5 hg5))
  rw [rounds_succ]
  go_wp2_with fail
  go_ret
  have e : insB o x y = [o] ++ vb x := by rw [HE.out]; simp [bodyB]
  have el : (insB o x y).length = 1 + (vb x).length := by rw [e]; simp; try omega
  rw [el, e]
  exact ⟨_, rfl, own_wide HO5.out HB2.out.size, HB2.out.trans (HB5.out.mono HB2.out.size)⟩

set_option maxRecDepth 100000 in
set_option maxHeartbeats 1000000 in
theorem iput_2 (o x y : Nat) (w : World) (h : goodI o x y = true) (hn : argN o = 2) :
    Calls Try.prog 71 #[.agg #[.int .i64 (o : Nat), .int .i64 (x : Nat), .int .i64 (y : Nat)]] w fun e w' => ∃ u, e = .returned u ∧ w'.ownsRow w.heap.size 5 1 u (insB o x y).length (Bs (insB o x y)) ∧ Below w.heap.size w w' := by
  have AR := Lib.hid (fun w => args_any o w)
  rw [hn] at AR
  have FT := Lib.hid (fun w => fit_any 2 x y w)
  have hf : fitN 2 x y = true := by
    unfold goodI at h
    rw [hn] at h
    simpa using h
  rw [hf] at FT
  obtain ⟨o', x', y', eo, ex, ey, ho, hx, hy, -⟩ := goodI_parts h
  obtain rfl : o = o' := by omega
  obtain rfl : x = x' := by omega
  obtain rfl : y = y' := by omega
  have HE : Hid (insB o x y = [o] ++ bodyB 2 x y) := by
    show insB o x y = [o] ++ bodyB 2 x y
    rw [insB_good h, hn]
    rfl
  have HO : Hid (o < 256) := by show o < 256; omega
  have HO64 : Hid (o < B64) := by show o < B64; unfold B64; omega
  have HX64 : Hid (x < B64) := by show x < B64; unfold B64; omega
  have HY64 : Hid (y < B64) := by show y < B64; unfold B64; omega
  have HL1 : Hid (1 + (vb x).length ≤ 140737488355328) := by show 1 + (vb x).length ≤ 140737488355328; have := vb255 x hx; omega
  have HL2 : Hid (1 + (vb x).length + (vb y).length ≤ 140737488355328) := by show 1 + (vb x).length + (vb y).length ≤ 140737488355328; have := vb255 x hx; have := vb255 y hy; omega
  clear hf hn h eo ex ey
  go_enter Try.func71, Try.ntmps71
  go_wp2_with (first
    | (go_at_call 83
       refine (AR.out _).mono ?_
       rintro e w1 ⟨rfl, rfl⟩)
    | (go_at_call 84
       refine (FT.out _).mono ?_
       rintro e w2 ⟨rfl, hb2⟩
       have HB2 : Hid (Below w.heap.size w w2) := (((Below.refl _ _).alloc (Nat.le_refl _) _).alloc (by simp) _).trans (hb2.mono (by simp; omega))
       have hk := (hb2.block w.heap.size (by simp; omega)).trans ((Below.heap_alloc _ _ w.heap.size (by simp)).trans (blk_new w 25 #[.int .i64 (o : Nat), .int .i64 (x : Nat), .int .i64 (y : Nat)]))
       have k0 := Blk.cell hk 0
       have hs2 : w.heap.size + 2 ≤ w2.heap.size := (by have := hb2.size; simp at this; omega)
       have HA2 := Lib.hid ((hb2.block (w.heap.size + 1) (by simp)).trans (arr_new w _ 131 #[.int .i64 (x : Nat), .int .i64 (y : Nat)]))
       simp at k0
       clear hb2 hk)
    | (go_at_call 72
       refine (fixed_any o 1 w2 HO64.out).mono ?_
       rintro e w3 ⟨u3, rfl, hown3, hb3⟩
       rw [wid_one, fb_one o HO.out] at hown3
       have HO3 := Lib.hid hown3
       have HB3 := Lib.hid (hb3.mono (Nat.le_refl w2.heap.size))
       have HA3 := Lib.hid ((hb3.block (w.heap.size + 1) (by omega)).trans HA2.out)
       have a30 := Blk.cell HA3.out 0
       simp at a30
       clear hown3 hb3))
  refine wp_loop_rounds 3 ?_
  rw [rounds_succ]
  go_wp2_with (first
    | (go_at_call 66
       refine (var_any x w3 HX64.out).mono ?_
       rintro e w4 ⟨u4, rfl, hown4, hb4⟩
       obtain ⟨A4, c4, rfl, -, -, -, hY4⟩ := own_slice hown4
       have HY4 := Lib.hid hY4
       have HO4 := Lib.hid (own_below HO3.out hb4 (Nat.le_refl _))
       have HB4 := Lib.hid (HB3.out.trans (hb4.mono HB3.out.size))
       have HS4 := Lib.hid HB4.out.size
       clear hown4 hY4 hb4)
    | (at_builtin
       refine walk_append _ rfl (.tmp 31) (.tmp 36) rfl w2.heap.size u3 1 [o] rfl HO4.out A4 (vb x).length c4 (vb x) rfl rfl _ HY4.out HL1.out HS4.out ?_
       intro v5 w5 hown5 hg5 _
       have HO5 := Lib.hid hown5
       have HB5 := Lib.hid (HB4.out.grown hg5 HS4.out (fun i hi => (HO4.out.lt i hi).1))
       have HA5 := Lib.hid ((HB5.out.block (w.heap.size + 1) (by omega)).trans HA2.out)
       have a51 := Blk.cell HA5.out 1
       simp at a51
       clear hown5 hg5))
  rw [rounds_succ]
  go_wp2_with (first
    | (go_at_call 66
       have hp := HO5.out
       clear hp
       refine (var_any y w5 HY64.out).mono ?_
       rintro e w6 ⟨u6, rfl, hown6, hb6⟩
       obtain ⟨A6, c6, rfl, -, -, -, hY6⟩ := own_slice hown6
       have HY6 := Lib.hid hY6
       have HO6 := Lib.hid (own_below HO5.out hb6 (Nat.le_refl _))
       have HB6 := Lib.hid (HB5.out.trans (hb6.mono HB5.out.size))
       have HS6 := Lib.hid HB6.out.size
       clear hown6 hY6 hb6)
    | (at_builtin
       have hp := HO6.out
       clear hp
       refine walk_append _ rfl (.tmp 31) (.tmp 36) rfl w2.heap.size v5 (1 + (vb x).length) ([o] ++ vb x) rfl HO6.out A6 (vb y).length c6 (vb y) rfl rfl _ HY6.out HL2.out HS6.out ?_
       intro v7 w7 hown7 hg7 _
       have HO7 := Lib.hid hown7
       have HB7 := Lib.hid (HB6.out.grown hg7 HS6.out (fun i hi => (HO6.out.lt i hi).1))
       clear hown7 hg7))
  rw [rounds_succ]
  go_wp2_with fail
  go_ret
  have e : insB o x y = [o] ++ vb x ++ vb y := by rw [HE.out]; simp [bodyB]
  have el : (insB o x y).length = 1 + (vb x).length + (vb y).length := by rw [e]; simp; try omega
  rw [el, e]
  exact ⟨_, rfl, own_wide HO7.out HB2.out.size, HB2.out.trans (HB7.out.mono HB2.out.size)⟩

theorem iput_any (op a b : Int) (w : World) :
    Calls Try.prog 71 #[.agg #[.int .i64 op, .int .i64 a, .int .i64 b]] w fun e w' => ∃ u, e = .returned u ∧ w'.ownsRow w.heap.size 5 1 u (insB op a b).length (Bs (insB op a b)) ∧ Below w.heap.size w w' := by
  by_cases h : goodI op a b = true
  · obtain ⟨o, x, y, rfl, rfl, rfl, -, -, -, h0, -⟩ := goodI_parts h
    rcases argN_cases o with hn | hn | hn | hn
    · omega
    · exact iput_0 o x y w h hn
    · exact iput_1 o x y w h hn
    · exact iput_2 o x y w h hn
  · rw [insB_none h]
    refine (iput_none op a b w (by simpa using h)).mono ?_
    rintro e w' ⟨rfl, hb⟩
    exact ⟨_, rfl, own_nil _ _, hb⟩
end Go.Proofs.Ytpjanfkliaaflaa
