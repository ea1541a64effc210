/-
  Vsc Vrw Vcl Kjn
-/
import Derived.Test.YtpjanfkliaaflaaR08
import Derived.Test.YtpjanfkliaaflaaR10
import Derived.ScopeJumps
import Derived.WalkMore
set_option linter.unusedSimpArgs false
set_option linter.unusedVariables false
namespace Go.Proofs.Ytpjanfkliaaflaa
open Go.RowKit

theorem wp_weaken {P : Program} {c : Code} {Q Q' : Exit → Act → World → Prop} {a : Act} {w : World} (h : c.wp P Q a w) (hQ : ∀ e a w, Q e a w → Q' e a w) : c.wp P Q' a w := fun b k cs => by
  obtain ⟨e, a', w', hq, harr⟩ := h b k cs
  exact ⟨e, a', w', hQ _ _ _ hq, harr⟩
theorem jump_weaken {l : Nat} {J J' : Act → World → Prop} {Q : Exit → Act → World → Prop} (h : ∀ a w, J a w → J' a w) : ∀ e a w, Exit.jump l J Q e a w → Exit.jump l J' Q e a w := by
  intro e a w hj
  cases e with
  | goto l' => exact ⟨hj.1, h _ _ hj.2⟩
  | normal => exact hj
  | exit id => exact hj
  | ret => exact hj
  | panic ch => exact hj
  | outgrown => exact hj
theorem least_ex {P : Nat → Prop} (h : ∃ n, P n) : ∃ m, P m ∧ ∀ k, P k → m ≤ k := by
  obtain ⟨n, hn⟩ := h
  induction n using Nat.strongRecOn with
  | _ n ih =>
    by_cases hk : ∃ k, k < n ∧ P k
    · obtain ⟨k, h1, h2⟩ := hk
      exact ih k h1 h2
    · exact ⟨n, hn, fun k h => Nat.le_of_not_lt fun h1 => hk ⟨k, h1, h⟩⟩
theorem rank_ex (J : Nat → Act → World → Prop) : ∃ f : Act × World → Nat, ∀ s : Act × World, (∃ n, J n s.1 s.2) → J (f s) s.1 s.2 ∧ ∀ k, J k s.1 s.2 → f s ≤ k := by
  refine Classical.axiomOfChoice (r := fun (s : Act × World) (m : Nat) => (∃ n, J n s.1 s.2) → J m s.1 s.2 ∧ ∀ k, J k s.1 s.2 → m ≤ k) fun s => ?_
  by_cases h : ∃ n, J n s.1 s.2
  · obtain ⟨m, hm⟩ := least_ex h
    exact ⟨m, fun _ => hm⟩
  · exact ⟨0, fun h' => absurd h' h⟩
theorem wp_scope_ranked {P : Program} {a : Act} {w : World} {Q : Exit → Act → World → Prop} {c rest : Code} (l : Nat) (J : Nat → Act → World → Prop) (hf : findLabel c l = some rest)
    (first : c.wp P (Exit.jump l (fun a' w' => ∃ n, J n a' w') Q) a w)
    (pass : ∀ n a w, J n a w → rest.wp P (Exit.jump l (fun a' w' => ∃ m, m < n ∧ J m a' w') Q) a w) : (Code.scope c).wp P Q a w := by
  obtain ⟨f, hf2⟩ := rank_ex J
  refine wp_scope_jumps l (fun a' w' => ∃ n, J n a' w') (fun a' w' => f (a', w')) hf first ?_
  intro a w hJ
  refine wp_weaken (pass _ a w (hf2 (a, w) hJ).1) (jump_weaken ?_)
  rintro a' w' ⟨m, hm, hJ'⟩
  exact ⟨⟨m, hJ'⟩, Nat.lt_of_le_of_lt ((hf2 (a', w') ⟨m, hJ'⟩).2 m hJ') hm⟩

theorem wp_scope_label {P : Program} {a : Act} {w : World} {Q : Exit → Act → World → Prop} {pre rest : Code} {l : Nat} (J : Nat → Act → World → Prop) (hf : findLabel (Code.seq pre (Code.seq (Code.label l) rest)) l = some (Code.seq Code.skip rest))
    (first : pre.wp P (Exit.then (fun a' w' => ∃ n, J n a' w') (Exit.jump l (fun _ _ => False) Q)) a w)
    (pass : ∀ n a w, J n a w → rest.wp P (Exit.jump l (fun a' w' => ∃ m, m < n ∧ J m a' w') Q) a w) : (Code.scope (Code.seq pre (Code.seq (Code.label l) rest))).wp P Q a w := by
  refine wp_scope_ranked l J hf (wp_seq (wp_weaken first ?_)) fun n a w h => wp_seq (wp_skip (pass n a w h))
  intro e a' w' h
  cases e with
  | normal =>
    obtain ⟨n, hn⟩ := h
    refine wp_seq (wp_label ?_)
    exact wp_weaken (pass n a' w' hn) (jump_weaken fun a w ⟨m, _, h⟩ => ⟨m, h⟩)
  | goto l' => exact absurd h.2 id
  | exit id => exact h
  | ret => exact h
  | panic ch => exact h
  | outgrown => exact h
def stkU (U : Nat → Prop) : Lay (List Typ) where
  k := 1
  R S w cs xs := ∃ A c, cs = [.slice A xs.length c] ∧ xs.length ≤ c ∧ c ≤ maxLen ∧ (A = none → c = 0) ∧ Sq typL S w A xs ∧ (0 < xs.length → ∃ b cur, A = some ⟨b, 0, none⟩ ∧ S b ∧ U b ∧ Blk w b 23 cur ∧ xs.length * 2 ≤ cur.size)
  len := by rintro S w cs x ⟨A, c, rfl, _⟩; rfl
  keep := by
    rintro S w w' cs x ⟨A, c, rfl, h1, h2, h3, h4, h5⟩ hk
    refine ⟨A, c, rfl, h1, h2, h3, h4.keep hk, fun h0 => ?_⟩
    obtain ⟨b, cur, e, hs, hu, hb, hl⟩ := h5 h0
    exact ⟨b, cur, e, hs, hu, (hk b hs).trans hb, hl⟩
  wide := by
    rintro S T w cs x ⟨A, c, rfl, h1, h2, h3, h4, h5⟩ hk
    refine ⟨A, c, rfl, h1, h2, h3, h4.wide hk, fun h0 => ?_⟩
    obtain ⟨b, cur, e, hs, hu, hb, hl⟩ := h5 h0
    exact ⟨b, cur, e, hk b hs, hu, hb, hl⟩
  one := by rintro S w cs x ⟨A, c, rfl, _⟩ u hu; simp at hu; subst hu; rfl
def shpU (U : Nat → Prop) : Lay Shape where
  k := 2
  R S w cs x := ∃ v, cs = [.bool x.1, v] ∧ (stkU U).R S w [v] x.2
  len := by rintro S w cs x ⟨v, rfl, _⟩; rfl
  keep := by rintro S w w' cs x ⟨v, rfl, h⟩ hk; exact ⟨v, rfl, (stkU U).keep h hk⟩
  wide := by rintro S T w cs x ⟨v, rfl, h⟩ hk; exact ⟨v, rfl, (stkU U).wide h hk⟩
  one := by
    rintro S w cs x ⟨v, rfl, h⟩ u hu
    simp at hu
    rcases hu with rfl | rfl
    · rfl
    · exact (stkU U).one h _ (by simp)
def rowU (U : Nat → Prop) : Lay (List Shape) where
  k := 1
  R S w cs l := ∃ A c, cs = [.slice A l.length c] ∧ l.length ≤ c ∧ c ≤ maxLen ∧ Sq (shpU U) S w A l ∧ (∀ a, A = some a → ¬ U a.block)
  len := by rintro S w cs x ⟨A, c, rfl, _⟩; rfl
  keep := by rintro S w w' cs x ⟨A, c, rfl, h1, h2, h3, h4⟩ hk; exact ⟨A, c, rfl, h1, h2, h3.keep hk, h4⟩
  wide := by rintro S T w cs x ⟨A, c, rfl, h1, h2, h3, h4⟩ hk; exact ⟨A, c, rfl, h1, h2, h3.wide hk, h4⟩
  one := by rintro S w cs x ⟨A, c, rfl, _⟩ u hu; simp at hu; subst hu; rfl
theorem Sq.turn {α : Type} {L L' : Lay α} {S T : Nat → Prop} {w : World} {A : Option Addr} {xs : List α} (h : Sq L S w A xs) (hk : L'.k = L.k) (hT : ∀ a, A = some a → S a.block → T a.block) (hR : ∀ cs x, x ∈ xs → L.R S w cs x → L'.R T w cs x) : Sq L' T w A xs := fun hn => by
  obtain ⟨a, e, hs, hc⟩ := h hn
  refine ⟨a, e, hT a e hs, fun j x hx => ?_⟩
  obtain ⟨cs, h1, h2⟩ := hc j x hx
  exact ⟨cs, by rw [hk]; exact h1, hR cs x (List.mem_of_getElem? hx) h2⟩
theorem stkU_plain {U S : Nat → Prop} {w : World} {cs : List Value} {x : List Typ} (h : (stkU U).R S w cs x) : stkL.R S w cs x := by
  obtain ⟨A, c, e, h1, h2, h3, h4, -⟩ := h
  exact ⟨A, c, e, h1, h2, h3, h4⟩
theorem shpU_plain {U S : Nat → Prop} {w : World} {cs : List Value} {x : Shape} (h : (shpU U).R S w cs x) : shpL.R S w cs x := by
  obtain ⟨v, e, h1⟩ := h
  exact ⟨v, e, stkU_plain h1⟩
theorem rowU_plain {U S : Nat → Prop} {w : World} {cs : List Value} {x : List Shape} (h : (rowU U).R S w cs x) : rowL.R S w cs x := by
  obtain ⟨A, c, e, h1, h2, h3, -⟩ := h
  exact ⟨A, c, e, h1, h2, h3.turn rfl (fun _ _ h => h) fun cs x _ h => shpU_plain h⟩
theorem rowU_iff {U U' S : Nat → Prop} {w : World} {cs : List Value} {x : List Shape} (h : (rowU U).R S w cs x) (hU : ∀ b, S b → (U b ↔ U' b)) (h0 : 0 < x.length) : (rowU U').R S w cs x := by
  obtain ⟨A, c, e, h1, h2, h3, h4⟩ := h
  obtain ⟨a, ea, hs, -⟩ := h3 h0
  refine ⟨A, c, e, h1, h2, h3.turn rfl (fun _ _ h => h) fun cs x _ h => ?_, fun a' e' hu => ?_⟩
  · obtain ⟨v, e, A, c, e2, q1, q2, q3, q4, q5⟩ := h
    refine ⟨v, e, A, c, e2, q1, q2, q3, q4, fun h0 => ?_⟩
    obtain ⟨b, cur, p1, p2, p3, p4⟩ := q5 h0
    exact ⟨b, cur, p1, p2, (hU b p2).1 p3, p4⟩
  · rw [ea] at e'
    injection e' with e'
    subst e'
    exact h4 a ea ((hU _ hs).2 hu)
theorem Wk.done {n0 g p q : Nat} {Z : Nat → Option Nat} {w : World} {l : List Shape} {ws : List Bool} {r : List (Bool × Value)} (h : Wk n0 g p q Z w l ws r) : (rowU fun b => ∃ k, Z b = some (k + 3)).R (fun b => n0 ≤ b ∧ b < w.heap.size) w [.slice (some ⟨p, 0, none⟩) l.length l.length] l := by
  have hp := h.low p (by rw [h.zp]; simp)
  have hlm : l.length ≤ maxLen := by
    rcases h.row.2 with ⟨e, _⟩ | ⟨g', cap, cur, e, _, _, hnc, hcm, _⟩
    · cases e
    · omega
  refine ⟨_, _, rfl, Nat.le_refl _, hlm, fun _ => ⟨_, rfl, hp, fun k x hx => ?_⟩, ?_⟩
  · obtain ⟨A, c, hr, h0, h1, hst, h2, h3, h4⟩ := h.cells hx
    have e : ∀ i, (⟨p, 0, none⟩ : Addr).add i = ⟨p, i, none⟩ := fun i => by unfold Addr.add; split <;> simp_all
    refine ⟨[.bool x.1, .slice A x.2.length c], fun i u hu => ?_, _, rfl, A, c, rfl, h2, h3, h4, hst.sq, fun hpos => ?_⟩
    · rw [e]
      match i, hu with
      | 0, hu => simp at hu; subst hu; exact h0
      | 1, hu => simp at hu; subst hu; exact h1
      | i + 2, hu => simp at hu
    · obtain ⟨v, hv1, hv2, hv3⟩ := h.stk k x hx
      rw [hr] at hv1
      simp only [Option.some.injEq, Prod.mk.injEq, true_and] at hv1
      subst hv1
      rcases hst with ⟨e, -⟩ | ⟨_, _, b, c', e, _, _, ho⟩
      · rw [e] at hpos; simp at hpos
      · simp only [Value.slice.injEq, true_and] at e
        obtain ⟨rfl, rfl⟩ := e
        have hl := ho.lt b rfl
        rcases ho.2 with ⟨e, _⟩ | ⟨g', cap, cur, e, _, hb, hnc, _, hcs, _⟩
        · cases e
        · simp only [Value.slice.injEq, Option.some.injEq, Addr.mk.injEq, and_true, true_and] at e
          obtain ⟨rfl, rfl⟩ := e
          exact ⟨b, cur, rfl, hl, ⟨k, hv3 hpos b rfl⟩, hb, by omega⟩
  · intro a e
    injection e with e
    subst e
    rintro ⟨k, hk⟩
    simp only at hk
    rw [h.zp] at hk
    injection hk with hk
    omega
end Go.Proofs.Ytpjanfkliaaflaa
namespace Go.Proofs.Ytpjanfkliaaflaa
open Go.RowKit

theorem set_self {α : Type} {l : List α} {k : Nat} {x : α} (h : l[k]? = some x) : l.set k x = l := by
  obtain ⟨hk, rfl⟩ := List.getElem?_eq_some_iff.1 h
  exact List.set_getElem_self hk
def mixJ (u t : List Typ) (k : Nat) : List Typ := joinL (u.take k) (t.take k) ++ u.drop k
theorem mixJ_zero (u t : List Typ) : mixJ u t 0 = u := by simp [mixJ, joinL]
theorem mixJ_all {u t : List Typ} (h : u.length = t.length) : mixJ u t t.length = joinL u t := by
  unfold mixJ
  rw [List.take_of_length_le (by omega), List.take_of_length_le (by omega), List.drop_eq_nil_of_le (by omega), List.append_nil]
theorem joinL_snoc {a b : List Typ} (h : a.length = b.length) (x y : Typ) : joinL (a ++ [x]) (b ++ [y]) = joinL a b ++ [joinT x y] := by
  induction a generalizing b with
  | nil =>
    cases b with
    | nil => rfl
    | cons _ _ => simp at h
  | cons z a ih =>
    cases b with
    | nil => simp at h
    | cons z' b => simp only [List.cons_append, joinL, ih (by simpa using h)]
theorem takeJ {u t : List Typ} {k : Nat} {x y : Typ} (hx : u[k]? = some x) (hy : t[k]? = some y) : joinL (u.take (k + 1)) (t.take (k + 1)) = joinL (u.take k) (t.take k) ++ [joinT x y] := by
  obtain ⟨h1, rfl⟩ := List.getElem?_eq_some_iff.1 hx
  obtain ⟨h2, rfl⟩ := List.getElem?_eq_some_iff.1 hy
  rw [List.take_succ_eq_append_getElem h1, List.take_succ_eq_append_getElem h2]
  exact joinL_snoc (by rw [List.length_take, List.length_take]; omega) _ _
theorem lenJ {u t : List Typ} {k : Nat} (h1 : k ≤ u.length) (h2 : k ≤ t.length) : (joinL (u.take k) (t.take k)).length = k := by
  rw [joinL_len (by rw [List.length_take, List.length_take]; omega), List.length_take]
  omega
theorem mixJ_len {u t : List Typ} {k : Nat} (h1 : k ≤ u.length) (h2 : k ≤ t.length) : (mixJ u t k).length = u.length := by
  unfold mixJ
  rw [List.length_append, lenJ h1 h2, List.length_drop]
  omega
theorem mixJ_get {u t : List Typ} {k : Nat} {x y : Typ} (hx : u[k]? = some x) (hy : t[k]? = some y) : (mixJ u t k)[k]? = some x := by
  have h1 := (List.getElem?_eq_some_iff.1 hx).1
  have h2 := (List.getElem?_eq_some_iff.1 hy).1
  unfold mixJ
  rw [List.getElem?_append_right (by rw [lenJ (by omega) (by omega)]; exact Nat.le_refl _), lenJ (by omega) (by omega), List.getElem?_drop]
  simpa using hx
theorem mixJ_step {u t : List Typ} {k : Nat} {x y : Typ} (hx : u[k]? = some x) (hy : t[k]? = some y) : mixJ u t (k + 1) = (mixJ u t k).set k (joinT x y) := by
  have h1 := (List.getElem?_eq_some_iff.1 hx).1
  have h2 := (List.getElem?_eq_some_iff.1 hy).1
  unfold mixJ
  rw [takeJ hx hy, List.set_append_right _ _ (by rw [lenJ (by omega) (by omega)]; exact Nat.le_refl _), lenJ (by omega) (by omega), Nat.sub_self, List.drop_eq_getElem_cons h1, List.set_cons_zero, List.append_assoc]
  rfl
theorem mixJ_same {u t : List Typ} {k : Nat} {x y : Typ} (hx : u[k]? = some x) (hy : t[k]? = some y) (h : joinT x y = x) : mixJ u t (k + 1) = mixJ u t k := by
  rw [mixJ_step hx hy, h]
  exact set_self (mixJ_get hx hy)
theorem mixJ_ne {u t : List Typ} {k : Nat} (h1 : k ≤ u.length) (h2 : k ≤ t.length) : mixJ u t k ≠ u ↔ joinL (u.take k) (t.take k) ≠ u.take k := by
  unfold mixJ
  constructor
  · intro h e; apply h; rw [e, List.take_append_drop]
  · intro h e
    apply h
    have := congrArg (List.take k) e
    rwa [List.take_append_of_le_length (by rw [lenJ h1 h2]; exact Nat.le_refl _), List.take_of_length_le (by rw [lenJ h1 h2]; exact Nat.le_refl _)] at this
theorem mixJ_more {u t : List Typ} {k : Nat} {x y : Typ} (hx : u[k]? = some x) (hy : t[k]? = some y) (h : mixJ u t k ≠ u ∨ joinT x y ≠ x) : mixJ u t (k + 1) ≠ u := by
  have h1 := (List.getElem?_eq_some_iff.1 hx).1
  have h2 := (List.getElem?_eq_some_iff.1 hy).1
  rw [mixJ_ne (by omega) (by omega), takeJ hx hy]
  rw [mixJ_ne (by omega) (by omega)] at h
  obtain ⟨_, rfl⟩ := List.getElem?_eq_some_iff.1 hx
  rw [List.take_succ_eq_append_getElem h1]
  intro e
  have := List.append_inj e (by rw [lenJ (by omega) (by omega), List.length_take]; omega)
  rcases h with h | h
  · exact h this.1
  · exact h (by simpa using this.2)
theorem canL_64 {ts : List Typ} {k : Nat} {x : Typ} (h : A64 ts) (hx : ts[k]? = some x) : I64 x.1 ∧ I64 x.2 := h x (List.mem_of_getElem? hx)
theorem joinT_64 {x y : Typ} (hx : I64 x.1 ∧ I64 x.2) (hy : I64 y.1 ∧ I64 y.2) : I64 (joinT x y).1 ∧ I64 (joinT x y).2 := by
  rcases joinT_cases x y with ⟨_, e⟩ | ⟨_, _, e⟩ | ⟨_, _, _, _, e⟩ | ⟨_, _, _, e⟩ <;> rw [e]
  · exact hy
  · exact hx
  · exact ⟨⟨by decide, by decide⟩, ⟨by decide, by decide⟩⟩
  · exact ⟨⟨by decide, by decide⟩, ⟨by decide, by decide⟩⟩
def Rch (l : List Shape) (ws : List Bool) (pc : Nat) (t : List Typ) (l' : List Shape) (ws' : List Bool) : Prop :=
  (∃ s, l[pc]? = some (false, s) ∧ l' = l.set pc (true, t) ∧ ws' = ws.set pc true) ∨ (∃ u, l[pc]? = some (true, u) ∧ u.length = t.length ∧ l' = l.set pc (true, joinL u t) ∧ ((joinL u t = u ∧ ws' = ws) ∨ (joinL u t ≠ u ∧ ws' = ws.set pc true)))
def Reached (n0 g p q : Nat) (Z : Nat → Option Nat) (w : World) (l : List Shape) (ws : List Bool) (pc : Nat) (t : List Typ) (e : Ending) (w' : World) : Prop :=
  Turn Z w w' ∧ ((e = .returned (.bool false) ∧ ∃ u, l[pc]? = some (true, u) ∧ u.length ≠ t.length) ∨
   (e = .returned (.bool true) ∧ ∃ Z' r' l' ws', Wk n0 g p q Z' w' l' ws' r' ∧ (∀ b, b < w.heap.size → Z' b = Z b) ∧ Rch l ws pc t l' ws'))
end Go.Proofs.Ytpjanfkliaaflaa
namespace Go.Proofs.Ytpjanfkliaaflaa
open Go.RowKit

theorem own_stk {n0 n : Nat} {w : World} {v : Value} {ts : List Typ} (h : w.ownsRow n0 23 2 v n (T2 ts)) (ha : A64 ts) (hl : ts.length = n) : Stk n0 w v ts := by
  subst hl
  rcases Nat.eq_zero_or_pos ts.length with h0 | h0
  · rcases h.2 with ⟨rfl, _⟩ | ⟨g, cap, cur, rfl, _, _, hnc, hcm, _, _⟩
    · exact .inl ⟨List.eq_nil_of_length_eq_zero h0, none, 0, rfl, by simp [maxLen], fun _ => rfl⟩
    · rw [h0]
      exact .inl ⟨List.eq_nil_of_length_eq_zero h0, _, cap, rfl, hcm, fun h => by cases h⟩
  · have h2 := h
    rcases h.2 with ⟨_, h1⟩ | ⟨g, cap, cur, rfl, _, _, hnc, hcm, _, _⟩
    · omega
    · exact .inr ⟨h0, ha, g, cap, rfl, hnc, hcm, h2⟩

set_option maxRecDepth 100000 in
set_option maxHeartbeats 400000 in
theorem clone_tys (A : Option Addr) (n c : Nat) (ts : List Typ) (w : World) (hl : ts.length = n) (hR : Sq typL (· < w.heap.size) w A ts) (hn : n ≤ 1000) :
    Calls Try.prog 73 #[.slice A n c] w fun e w' => ∃ v, e = .returned v ∧ Stk w.heap.size w' v ts ∧ Below w.heap.size w w' := by
  have qq : ∀ (w : World) (a : Option Addr) (n c n' c' : Nat), (binOp .eql 29 (.slice a n c) (.slice none n' c')).run Try.prog w = .ok (.bool a.isNone) w := fun w a n c n' c' => Lib.run_eql_slice_nil w _ _ a n c n' c' Try.underlying29
  have HL := Lib.hid hl
  have HR := Lib.hid hR
  have HA := Lib.hid hR.a64
  have HOE := Lib.hid (own_tys_empty w)
  rcases A with _ | a
  · have h0 : ts = [] := by
      cases ts with
      | nil => rfl
      | cons t ts => obtain ⟨a, e, -⟩ := hR (by simp); cases e
    clear hl hR
    go_enter Try.func73, Try.ntmps73
    go_wp2_with fail
    go_ret
    exact ⟨_, rfl, .inl ⟨h0, none, 0, rfl, by simp [maxLen], fun _ => rfl⟩, Below.refl _ _⟩
  · clear hl hR
    go_enter Try.func73, Try.ntmps73
    go_wp2_with (at_builtin
                 refine walk_append_tys _ rfl (.tmp 5) (.tmp 6) rfl w.heap.size (.slice (some ⟨w.heap.size, 0, none⟩) 0 0) 0 [] rfl HOE.out (some a) n c ts rfl HL.out (· < w.heap.size) (HR.out.below (below_new w _) (Nat.le_refl _)) (by omega) (by simp) ?_
                 intro v2 w2 hown2 hg2 _
                 have HO2 := Lib.hid hown2
                 have HB2 := Lib.hid ((below_new w _).grown hg2 (by simp) (fun i hi => (HOE.out.lt i hi).1))
                 clear hown2 hg2)
    go_ret
    exact ⟨_, rfl, own_stk (by simpa using HO2.out) HA.out HL.out, HB2.out⟩
end Go.Proofs.Ytpjanfkliaaflaa
namespace Go.Proofs.Ytpjanfkliaaflaa
open Go.RowKit

set_option maxHeartbeats 1000000 in
theorem kjoin (a b c d : Int) (w : World) : Calls Try.prog 74 #[.agg #[.int .i64 a, .int .i64 b], .agg #[.int .i64 c, .int .i64 d]] w fun e w' => e = .returned (.agg #[.int .i64 (joinK a b c d), .int .i64 (joinN a b c d)]) ∧ Below w.heap.size w w' := by
  have S1 := Lib.hid (fun w => ksub a b c d w)
  have S2 := Lib.hid (fun w => ksub c d a b w)
  have R1 := Lib.hid (fun w => kref a b w)
  have R2 := Lib.hid (fun w => kref c d w)
  cases h1 : subB a b c d
  · cases h2 : subB c d a b
    · cases h3 : refB a
      · rw [show joinK a b c d = 8 by simp [joinK, h1, h2, h3], show joinN a b c d = 0 by simp [joinN, h1, h2]]
        replace S1 := Lib.hid (by have := S1.out; rw [h1] at this; exact this)
        replace S2 := Lib.hid (by have := S2.out; rw [h2] at this; exact this)
        replace R1 := Lib.hid (by have := R1.out; rw [h3] at this; exact this)
        clear h1 h2 h3
        go_enter Try.func74, Try.ntmps74
        go_wp2_with (first | (go_at_call 86; with_reducible refine (S1.out _).mono ?_; rintro e w1 ⟨rfl, hb1⟩; obtain ⟨hc1, hf1⟩ := bcell hb1; have hz1 : w.heap.size + 2 < w1.heap.size := by { have := hb1.size; simp at this; omega }; have hy1 : w.heap.size + 1 < w1.heap.size := (by omega); have hx1 : w.heap.size < w1.heap.size := by omega) | (go_at_call 86; with_reducible refine (S2.out _).mono ?_; rintro e w2 ⟨rfl, hb2⟩; obtain ⟨hc2, hf2⟩ := bcell hb2; have hz2 : w.heap.size + 2 < w2.heap.size := by { have := hb2.size; omega }; have hy2 : w.heap.size + 1 < w2.heap.size := (by omega); have hx2 : w.heap.size < w2.heap.size := by omega) | (go_at_call 87; with_reducible refine (R1.out _).mono ?_; rintro e w3 ⟨rfl, hb3⟩; obtain ⟨hc3, hf3⟩ := bcell hb3; have hz3 : w.heap.size + 2 < w3.heap.size := by { have := hb3.size; omega }; have hy3 : w.heap.size + 1 < w3.heap.size := (by omega); have hx3 : w.heap.size < w3.heap.size := by omega))
        exact bodyPost_ret (v := .agg #[.int .i64 8, .int .i64 0]) (by simp [results, Try.results74, go_sem, hc1, hz1, hy1, hx1, hc2, hz2, hy2, hx2, hc3, hz3, hy3, hx3]) rfl ⟨rfl, ((((((((Below.refl _ _).alloc (Nat.le_refl _) _).alloc (by simp) _).alloc (by simp <;> omega) _).trans (hb1.mono (by simp; omega))).trans (hb2.mono (by omega))).trans (hb3.mono (by omega))).setCell (by simp <;> omega) _).setCell (by simp <;> omega) _⟩
      · cases h4 : refB c
        · rw [show joinK a b c d = 8 by simp [joinK, h1, h2, h4], show joinN a b c d = 0 by simp [joinN, h1, h2]]
          replace S1 := Lib.hid (by have := S1.out; rw [h1] at this; exact this)
          replace S2 := Lib.hid (by have := S2.out; rw [h2] at this; exact this)
          replace R1 := Lib.hid (by have := R1.out; rw [h3] at this; exact this)
          replace R2 := Lib.hid (by have := R2.out; rw [h4] at this; exact this)
          clear h1 h2 h3 h4
          go_enter Try.func74, Try.ntmps74
          go_wp2_with (first | (go_at_call 86; with_reducible refine (S1.out _).mono ?_; rintro e w1 ⟨rfl, hb1⟩; obtain ⟨hc1, hf1⟩ := bcell hb1; have hz1 : w.heap.size + 2 < w1.heap.size := by { have := hb1.size; simp at this; omega }; have hy1 : w.heap.size + 1 < w1.heap.size := (by omega); have hx1 : w.heap.size < w1.heap.size := by omega) | (go_at_call 86; with_reducible refine (S2.out _).mono ?_; rintro e w2 ⟨rfl, hb2⟩; obtain ⟨hc2, hf2⟩ := bcell hb2; have hz2 : w.heap.size + 2 < w2.heap.size := by { have := hb2.size; omega }; have hy2 : w.heap.size + 1 < w2.heap.size := (by omega); have hx2 : w.heap.size < w2.heap.size := by omega) | (go_at_call 87; with_reducible refine (R1.out _).mono ?_; rintro e w3 ⟨rfl, hb3⟩; obtain ⟨hc3, hf3⟩ := bcell hb3; have hz3 : w.heap.size + 2 < w3.heap.size := by { have := hb3.size; omega }; have hy3 : w.heap.size + 1 < w3.heap.size := (by omega); have hx3 : w.heap.size < w3.heap.size := by omega) | (go_at_call 87; with_reducible refine (R2.out _).mono ?_; rintro e w4 ⟨rfl, hb4⟩; obtain ⟨hc4, hf4⟩ := bcell hb4; have hz4 : w.heap.size + 2 < w4.heap.size := by { have := hb4.size; omega }; have hy4 : w.heap.size + 1 < w4.heap.size := (by omega); have hx4 : w.heap.size < w4.heap.size := by omega))
          exact bodyPost_ret (v := .agg #[.int .i64 8, .int .i64 0]) (by simp [results, Try.results74, go_sem, hc1, hz1, hy1, hx1, hc2, hz2, hy2, hx2, hc3, hz3, hy3, hx3, hc4, hz4, hy4, hx4]) rfl ⟨rfl, (((((((((Below.refl _ _).alloc (Nat.le_refl _) _).alloc (by simp) _).alloc (by simp <;> omega) _).trans (hb1.mono (by simp; omega))).trans (hb2.mono (by omega))).trans (hb3.mono (by omega))).trans (hb4.mono (by omega))).setCell (by simp <;> omega) _).setCell (by simp <;> omega) _⟩
        · rw [show joinK a b c d = 7 by simp [joinK, h1, h2, h3, h4], show joinN a b c d = 0 by simp [joinN, h1, h2]]
          replace S1 := Lib.hid (by have := S1.out; rw [h1] at this; exact this)
          replace S2 := Lib.hid (by have := S2.out; rw [h2] at this; exact this)
          replace R1 := Lib.hid (by have := R1.out; rw [h3] at this; exact this)
          replace R2 := Lib.hid (by have := R2.out; rw [h4] at this; exact this)
          clear h1 h2 h3 h4
          go_enter Try.func74, Try.ntmps74
          go_wp2_with (first | (go_at_call 86; with_reducible refine (S1.out _).mono ?_; rintro e w1 ⟨rfl, hb1⟩; obtain ⟨hc1, hf1⟩ := bcell hb1; have hz1 : w.heap.size + 2 < w1.heap.size := by { have := hb1.size; simp at this; omega }; have hy1 : w.heap.size + 1 < w1.heap.size := (by omega); have hx1 : w.heap.size < w1.heap.size := by omega) | (go_at_call 86; with_reducible refine (S2.out _).mono ?_; rintro e w2 ⟨rfl, hb2⟩; obtain ⟨hc2, hf2⟩ := bcell hb2; have hz2 : w.heap.size + 2 < w2.heap.size := by { have := hb2.size; omega }; have hy2 : w.heap.size + 1 < w2.heap.size := (by omega); have hx2 : w.heap.size < w2.heap.size := by omega) | (go_at_call 87; with_reducible refine (R1.out _).mono ?_; rintro e w3 ⟨rfl, hb3⟩; obtain ⟨hc3, hf3⟩ := bcell hb3; have hz3 : w.heap.size + 2 < w3.heap.size := by { have := hb3.size; omega }; have hy3 : w.heap.size + 1 < w3.heap.size := (by omega); have hx3 : w.heap.size < w3.heap.size := by omega) | (go_at_call 87; with_reducible refine (R2.out _).mono ?_; rintro e w4 ⟨rfl, hb4⟩; obtain ⟨hc4, hf4⟩ := bcell hb4; have hz4 : w.heap.size + 2 < w4.heap.size := by { have := hb4.size; omega }; have hy4 : w.heap.size + 1 < w4.heap.size := (by omega); have hx4 : w.heap.size < w4.heap.size := by omega))
          exact bodyPost_ret (v := .agg #[.int .i64 7, .int .i64 0]) (by simp [results, Try.results74, go_sem, hc1, hz1, hy1, hx1, hc2, hz2, hy2, hx2, hc3, hz3, hy3, hx3, hc4, hz4, hy4, hx4]) rfl ⟨rfl, (((((((((Below.refl _ _).alloc (Nat.le_refl _) _).alloc (by simp) _).alloc (by simp <;> omega) _).trans (hb1.mono (by simp; omega))).trans (hb2.mono (by omega))).trans (hb3.mono (by omega))).trans (hb4.mono (by omega))).setCell (by simp <;> omega) _).setCell (by simp <;> omega) _⟩
    · rw [show joinK a b c d = a by simp [joinK, h1, h2], show joinN a b c d = b by simp [joinN, h1, h2]]
      replace S1 := Lib.hid (by have := S1.out; rw [h1] at this; exact this)
      replace S2 := Lib.hid (by have := S2.out; rw [h2] at this; exact this)
      clear h1 h2
      go_enter Try.func74, Try.ntmps74
      go_wp2_with (first | (go_at_call 86; with_reducible refine (S1.out _).mono ?_; rintro e w1 ⟨rfl, hb1⟩; obtain ⟨hc1, hf1⟩ := bcell hb1; have hz1 : w.heap.size + 2 < w1.heap.size := by { have := hb1.size; simp at this; omega }; have hy1 : w.heap.size + 1 < w1.heap.size := (by omega); have hx1 : w.heap.size < w1.heap.size := by omega) | (go_at_call 86; with_reducible refine (S2.out _).mono ?_; rintro e w2 ⟨rfl, hb2⟩; obtain ⟨hc2, hf2⟩ := bcell hb2; have hz2 : w.heap.size + 2 < w2.heap.size := by { have := hb2.size; omega }; have hy2 : w.heap.size + 1 < w2.heap.size := (by omega); have hx2 : w.heap.size < w2.heap.size := by omega))
      exact bodyPost_ret (v := .agg #[.int .i64 a, .int .i64 b]) (by simp [results, Try.results74, go_sem, hc1, hz1, hy1, hx1, hc2, hz2, hy2, hx2]) rfl ⟨rfl, (((((((Below.refl _ _).alloc (Nat.le_refl _) _).alloc (by simp) _).alloc (by simp <;> omega) _).trans (hb1.mono (by simp; omega))).trans (hb2.mono (by omega))).setCell (by simp <;> omega) _).setCell (by simp <;> omega) _⟩
  · rw [show joinK a b c d = c by simp [joinK, h1], show joinN a b c d = d by simp [joinN, h1]]
    replace S1 := Lib.hid (by have := S1.out; rw [h1] at this; exact this)
    clear h1
    go_enter Try.func74, Try.ntmps74
    go_wp2_with (first | (go_at_call 86; with_reducible refine (S1.out _).mono ?_; rintro e w1 ⟨rfl, hb1⟩; obtain ⟨hc1, hf1⟩ := bcell hb1; have hz1 : w.heap.size + 2 < w1.heap.size := by { have := hb1.size; simp at this; omega }; have hy1 : w.heap.size + 1 < w1.heap.size := (by omega); have hx1 : w.heap.size < w1.heap.size := by omega))
    exact bodyPost_ret (v := .agg #[.int .i64 c, .int .i64 d]) (by simp [results, Try.results74, go_sem, hc1, hz1, hy1, hx1]) rfl ⟨rfl, ((((((Below.refl _ _).alloc (Nat.le_refl _) _).alloc (by simp) _).alloc (by simp <;> omega) _).trans (hb1.mono (by simp; omega))).setCell (by simp <;> omega) _).setCell (by simp <;> omega) _⟩
end Go.Proofs.Ytpjanfkliaaflaa
