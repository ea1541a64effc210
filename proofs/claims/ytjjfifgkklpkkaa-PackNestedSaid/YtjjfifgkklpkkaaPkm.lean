/-
  Plain facts on parts one behind the other, each behind how many bytes it has: that they are told apart in one way alone.
  Conditions: none; nothing here speaks of a program.
-/
import Derived.Test.YtjjfifgkklpkkaaMath
namespace Go.Proofs.Ytjjfifgkklpkkaa

/-- A part behind how many bytes it has. -/
def pt (x : List Nat) : List Nat := vb x.length ++ x
/-- Parts one behind the other. -/
def pts (xss : List (List Nat)) : List Nat := (xss.map pt).flatten
/-- Parts behind how many there are. -/
def joinB (xss : List (List Nat)) : List Nat := vb xss.length ++ pts xss

theorem pts_nil : pts [] = [] := rfl
theorem pts_cons (x : List Nat) (r : List (List Nat)) : pts (x :: r) = pt x ++ pts r := by simp [pts]
theorem pts_app (a b : List (List Nat)) : pts (a ++ b) = pts a ++ pts b := by simp [pts]
theorem pts_snoc (a : List (List Nat)) (x : List Nat) : pts (a ++ [x]) = pts a ++ pt x := by simp [pts]
theorem pt_length (x : List Nat) : (pt x).length = (vb x.length).length + x.length := by simp [pt]
theorem pts_take (xss : List (List Nat)) (k : Nat) (h : k < xss.length) : pts (xss.take (k + 1)) = pts (xss.take k) ++ pt (xss[k]?.getD []) := by
  rw [List.take_succ_eq_append_getElem h, pts_snoc]
  simp [h]
theorem pts_le (xss : List (List Nat)) (k : Nat) : (pts (xss.take k)).length ≤ (pts xss).length := by
  conv => rhs; rw [← List.take_append_drop k xss, pts_app, List.length_append]
  omega
theorem pts_many (xss : List (List Nat)) : xss.length ≤ (pts xss).length := by
  induction xss with
  | nil => simp
  | cons x r ih =>
    rw [pts_cons, List.length_append, pt_length, List.length_cons]
    have := vb_pos x.length
    omega
theorem pts_bound (xss : List (List Nat)) (M : Nat) (hM : M < B64) (h : ∀ j, j < xss.length → (xss[j]?.getD []).length ≤ M) : (pts xss).length ≤ xss.length * (10 + M) := by
  induction xss with
  | nil => simp [pts]
  | cons x r ih =>
    have h0 := h 0 (by simp)
    simp at h0
    have h1 := ih fun j hj => by have := h (j + 1) (by simp; omega); simpa using this
    have h2 := vb_len 9 x.length (by unfold B64 at hM; omega)
    rw [pts_cons, List.length_append, pt_length, List.length_cons, Nat.add_mul]
    omega
theorem pts_bytes (xss : List (List Nat)) (h : ∀ j, j < xss.length → ∀ x ∈ xss[j]?.getD [], x < 256) : ∀ x ∈ pts xss, x < 256 := by
  induction xss with
  | nil => simp [pts]
  | cons a r ih =>
    intro x hx
    rw [pts_cons, List.mem_append] at hx
    rcases hx with hx | hx
    · rw [pt, List.mem_append] at hx
      rcases hx with hx | hx
      · exact vb_bytes _ x hx
      · have := h 0 (by simp) x
        simp at this
        exact this hx
    · exact ih (fun j hj => by have := h (j + 1) (by simp; omega); simpa using this) x hx
theorem joinB_bytes (xss : List (List Nat)) (h : ∀ j, j < xss.length → ∀ x ∈ xss[j]?.getD [], x < 256) : ∀ x ∈ joinB xss, x < 256 := by
  intro x hx
  rw [joinB, List.mem_append] at hx
  rcases hx with hx | hx
  · exact vb_bytes _ x hx
  · exact pts_bytes xss h x hx
theorem joinB_length (xss : List (List Nat)) : (joinB xss).length = (vb xss.length).length + (pts xss).length := by simp [joinB]
theorem joinB_pos (xss : List (List Nat)) : 0 < (joinB xss).length := by
  rw [joinB_length]
  have := vb_pos xss.length
  omega
theorem joinB_bound (xss : List (List Nat)) (M : Nat) (hM : M < B64) (hn : xss.length < B64) (h : ∀ j, j < xss.length → (xss[j]?.getD []).length ≤ M) : (joinB xss).length ≤ 10 + xss.length * (10 + M) := by
  have h1 := pts_bound xss M hM h
  have h2 := vb_len 9 xss.length (by unfold B64 at hn; omega)
  rw [joinB_length]
  omega

/-- rest begins with a part of m bytes behind j bytes that tell m. -/
def HasPart (rest : List Nat) (m j : Nat) : Prop := IsVar rest m j ∧ j + m ≤ rest.length
theorem hasPart_split {rest : List Nat} {m j : Nat} (h : HasPart rest m j) : ((rest.drop j).take m).length = m ∧ rest = pt ((rest.drop j).take m) ++ rest.drop (j + m) := by
  have hl : ((rest.drop j).take m).length = m := by rw [List.length_take, List.length_drop]; have := h.2; omega
  refine ⟨hl, ?_⟩
  rw [pt, hl, ← h.1.2.1, List.append_assoc]
  have : (rest.drop j).take m ++ rest.drop (j + m) = rest.drop j := by
    rw [← List.drop_drop]
    exact List.take_append_drop m _
  rw [this, List.take_append_drop]
theorem hasPart_app (x r : List Nat) (hx : x.length < B64) : HasPart (pt x ++ r) x.length (vb x.length).length := by
  refine ⟨?_, ?_⟩
  · rw [pt, List.append_assoc]
    exact isVar_app _ hx _
  · simp [pt]
/-- What a row of parts goes on with. -/
theorem part_cut {x r : List Nat} {rest : List Nat} (hx : x.length < B64) (h : pt x ++ r = rest) : ∃ m j, HasPart rest m j ∧ x = (rest.drop j).take m ∧ r = rest.drop (j + m) := by
  subst h
  refine ⟨x.length, (vb x.length).length, hasPart_app x r hx, ?_, ?_⟩
  · rw [pt, List.append_assoc, List.drop_left, List.take_left]
  · rw [← List.drop_drop, pt, List.append_assoc, List.drop_left, List.drop_left]
theorem hasPart_unique {rest : List Nat} {m j m' j' : Nat} (h : HasPart rest m j) (h' : HasPart rest m' j') : m = m' ∧ j = j' := isVar_unique h.1 h'.1

/-- Where no part begins there is no row of at least one. -/
theorem no_part {pre xss : List (List Nat)} {rest bs : List Nat} (hb : bs = pts pre ++ rest) (hn : pre.length < xss.length) (hlt : bs.length < B64) (hx : bs = pts xss) (hpre : ∃ more, xss = pre ++ more) (hno : ¬ ∃ m j, HasPart rest m j) : False := by
  obtain ⟨more, rfl⟩ := hpre
  rw [pts_app] at hx
  have hr : rest = pts more := List.append_cancel_left (hb.symm.trans hx)
  cases more with
  | nil => simp at hn
  | cons x r =>
    rw [pts_cons] at hr
    have hxl : x.length < B64 := by
      have : x.length ≤ rest.length := by rw [hr, List.length_append, pt_length]; omega
      have : rest.length ≤ bs.length := by rw [hb, List.length_append]; omega
      omega
    obtain ⟨m, j, h, _⟩ := part_cut hxl hr.symm
    exact hno ⟨m, j, h⟩

/-- Of two rows of parts with the same bytes ahead one goes on as the other one. -/
theorem pts_pre (pre : List (List Nat)) : ∀ (xss : List (List Nat)) (rest bs : List Nat), bs = pts pre ++ rest → bs = pts xss → bs.length < B64 → pre.length ≤ xss.length → ∃ more, xss = pre ++ more := by
  induction pre with
  | nil => intro xss _ _ _ _ _ _; exact ⟨xss, rfl⟩
  | cons a pre ih =>
    intro xss rest bs hb hx hlt hn
    cases xss with
    | nil => simp at hn
    | cons x xss =>
      rw [pts_cons, List.append_assoc] at hb
      rw [pts_cons] at hx
      have ha : a.length < B64 := by
        have : a.length ≤ bs.length := by rw [hb, List.length_append, pt_length]; omega
        omega
      have hx' : x.length < B64 := by
        have : x.length ≤ bs.length := by rw [hx, List.length_append, pt_length]; omega
        omega
      obtain ⟨m, j, h1, h2, h3⟩ := part_cut ha hb.symm
      obtain ⟨m', j', h1', h2', h3'⟩ := part_cut hx' hx.symm
      obtain ⟨rfl, rfl⟩ := hasPart_unique h1 h1'
      obtain ⟨more, e⟩ := ih xss rest (bs.drop (j + m)) h3.symm h3'.symm (by simp; omega) (by simpa using hn)
      exact ⟨more, by rw [h2, h2', e]; rfl⟩

/-- The bytes are just the parts of which there are n. -/
def Body (bs : List Nat) (n : Nat) (xss : List (List Nat)) : Prop := xss.length = n ∧ bs = pts xss
theorem body_unique {bs : List Nat} {n : Nat} {xss yss : List (List Nat)} (hlt : bs.length < B64) (h : Body bs n xss) (h' : Body bs n yss) : xss = yss := by
  obtain ⟨more, e⟩ := pts_pre xss yss [] bs (by rw [List.append_nil]; exact h.2) h'.2 hlt (by rw [h.1, h'.1]; exact Nat.le_refl _)
  have : more = [] := by
    have h1 := congrArg List.length e
    rw [List.length_append, h.1, h'.1] at h1
    exact List.eq_nil_of_length_eq_zero (by omega)
  rw [e, this, List.append_nil]
theorem body_no {bs rest : List Nat} {n : Nat} {pre : List (List Nat)} (hlt : bs.length < B64) (hb : bs = pts pre ++ rest) (hn : pre.length < n) (hno : ¬ ∃ m j, HasPart rest m j) : ¬ ∃ xss, Body bs n xss := by
  rintro ⟨xss, h1, h2⟩
  exact no_part hb (by omega) hlt h2 (pts_pre pre xss rest bs hb h2 hlt (by omega)) hno
theorem body_rest {bs rest : List Nat} {n : Nat} {pre : List (List Nat)} (hlt : bs.length < B64) (hb : bs = pts pre ++ rest) (hn : pre.length = n) (hno : rest ≠ []) : ¬ ∃ xss, Body bs n xss := by
  rintro ⟨xss, h1, h2⟩
  obtain ⟨more, e⟩ := pts_pre pre xss rest bs hb h2 hlt (by omega)
  have : more = [] := by
    have h3 := congrArg List.length e
    rw [List.length_append, h1, hn] at h3
    exact List.eq_nil_of_length_eq_zero (by omega)
  subst this
  rw [List.append_nil] at e
  subst e
  apply hno
  have := hb.symm.trans h2
  simpa using this

/-- The bytes are a Join of at most so many parts, and of which. -/
def IsJoin (xs : List Nat) (most : Int) (xss : List (List Nat)) : Prop := xs = joinB xss ∧ (xss.length : Int) ≤ most
theorem isJoin_body {xs : List Nat} {n k : Nat} {most : Int} (hv : IsVar xs n k) (hm : (n : Int) ≤ most) {xss : List (List Nat)} (h : Body (xs.drop k) n xss) : IsJoin xs most xss := by
  refine ⟨?_, by rw [h.1]; exact hm⟩
  rw [joinB, h.1, ← hv.2.1, ← h.2, List.take_append_drop]
theorem join_len {xss : List (List Nat)} (hlt : (joinB xss).length < B64) : xss.length < B64 := by
  have := pts_many xss
  rw [joinB_length] at hlt
  omega
theorem join_var {xs : List Nat} {xss : List (List Nat)} (hlt : xs.length < B64) (h : xs = joinB xss) : IsVar xs xss.length (vb xss.length).length ∧ Body (xs.drop (vb xss.length).length) xss.length xss := by
  subst h
  refine ⟨isVar_app _ (join_len hlt) _, rfl, ?_⟩
  rw [joinB, List.drop_left]
theorem join_unique {xs : List Nat} {xss yss : List (List Nat)} (hlt : xs.length < B64) (h : xs = joinB xss) (h' : xs = joinB yss) : xss = yss := by
  obtain ⟨a1, a2⟩ := join_var hlt h
  obtain ⟨b1, b2⟩ := join_var hlt h'
  obtain ⟨e1, e2⟩ := isVar_unique a1 b1
  rw [← e1] at b2
  exact body_unique (by simp; omega) a2 b2
theorem no_join_var {xs : List Nat} {most : Int} (hlt : xs.length < B64) (hv : ¬ ∃ v n, IsVar xs v n) : ¬ ∃ xss, IsJoin xs most xss := by
  rintro ⟨xss, h, _⟩
  exact hv ⟨_, _, (join_var hlt h).1⟩
theorem no_join_most {xs : List Nat} {n k : Nat} {most : Int} (hlt : xs.length < B64) (hv : IsVar xs n k) (hm : most < (n : Int)) : ¬ ∃ xss, IsJoin xs most xss := by
  rintro ⟨xss, h, h2⟩
  obtain ⟨e, _⟩ := isVar_unique hv (join_var hlt h).1
  omega
theorem no_join_body {xs : List Nat} {n k : Nat} {most : Int} (hlt : xs.length < B64) (hv : IsVar xs n k) (hb : ¬ ∃ xss, Body (xs.drop k) n xss) : ¬ ∃ xss, IsJoin xs most xss := by
  rintro ⟨xss, h, h2⟩
  obtain ⟨a1, a2⟩ := join_var hlt h
  obtain ⟨e1, e2⟩ := isVar_unique hv a1
  rw [← e2, ← e1] at a2
  exact hb ⟨xss, a2⟩

/-- A Join that is cut off is none. -/
theorem pts_cut (xss : List (List Nat)) : ∀ (yss : List (List Nat)) (cut : List Nat), (pts xss).length < B64 → yss.length = xss.length → pts xss = pts yss ++ cut → cut = [] := by
  intro yss cut hlt hl h
  obtain ⟨more, e⟩ := pts_pre yss xss cut (pts xss) h rfl hlt (by omega)
  have : more = [] := by
    have h3 := congrArg List.length e
    rw [List.length_append] at h3
    exact List.eq_nil_of_length_eq_zero (by omega)
  subst this
  rw [List.append_nil] at e
  subst e
  simpa using h
theorem join_cut {xss yss : List (List Nat)} {cut : List Nat} (hlt : (joinB xss).length < B64) (h : joinB xss = joinB yss ++ cut) : cut = [] := by
  have hy : (joinB yss).length < B64 := by rw [h, List.length_append] at hlt; omega
  have h1 : IsVar (joinB xss) xss.length (vb xss.length).length := isVar_app _ (join_len hlt) _
  have h2 : IsVar (joinB xss) yss.length (vb yss.length).length := by
    rw [h, joinB, List.append_assoc]
    exact isVar_app _ (join_len hy) _
  obtain ⟨e, _⟩ := isVar_unique h1 h2
  refine pts_cut xss yss cut (by rw [joinB_length] at hlt; omega) e.symm ?_
  rw [joinB, joinB, e, List.append_assoc] at h
  exact List.append_cancel_left h
theorem no_join_take {xss : List (List Nat)} {k : Nat} {most : Int} (hlt : (joinB xss).length < B64) (hk : k < (joinB xss).length) : ¬ ∃ yss, IsJoin ((joinB xss).take k) most yss := by
  rintro ⟨yss, h, _⟩
  have := join_cut (yss := yss) (cut := (joinB xss).drop k) hlt (by rw [← h, List.take_append_drop])
  have := congrArg List.length this
  simp at this
  omega
theorem no_join_more {xss : List (List Nat)} {x : Nat} {most : Int} (hlt : (joinB xss).length + 1 < B64) : ¬ ∃ yss, IsJoin (joinB xss ++ [x]) most yss := by
  rintro ⟨yss, h, _⟩
  have := join_cut (xss := yss) (yss := xss) (cut := [x]) (by rw [← h]; simpa using hlt) h.symm
  cases this
end Go.Proofs.Ytjjfifgkklpkkaa
