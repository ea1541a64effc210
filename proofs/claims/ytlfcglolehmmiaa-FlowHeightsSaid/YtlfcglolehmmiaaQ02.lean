/-
  Plain facts on parts one behind the other, each behind how many bytes it has: that they are told apart in one way alone. Conditions: none; nothing here speaks of a program.
  Types, as plain facts: which are references, which are good, which stands for which, what two have in common. Conditions: none; nothing here speaks of a program.
  What num.Var does. Conditions: as each theorem says.
  What appending bytes to a slice of the call's own does, as one step of a statement whose order is drawn. Conditions: as the theorem says.
  The world under one name; what stands behind a call that only makes memory. Conditions: none.
  Small words more on memory: slices of bytes that the call owns, blocks that are new or kept. Conditions: none.
  What kind's Put does: the bytes of a type's two numbers. Conditions: the two numbers are of 64 bits.
  Words on slices of instructions: those that came in, those that the call owns, and what appending one to these does. Conditions: as each theorem says.
  Plain facts on bytes that make a number, the lowest first. Conditions: none; nothing here speaks of a program.
  What num.width does. Conditions: none.
  What num.Fixed does: the lowest bytes of a number. Conditions: as each theorem says.
-/
import Derived.Test.YtlfcglolehmmiaaQ01
import Derived.Deep.RegionLaw
import Init
namespace Go.Proofs.Ytlfcglolehmmiaa

/-- A part behind how many bytes it has. -/
def pt (x : List Nat) : List Nat := vb x.length ++ x
/-- Parts one behind the other. -/
def pts (xss : List (List Nat)) : List Nat := (xss.map pt).flatten
/-- Parts behind how many there are. -/
def joinB (xss : List (List Nat)) : List Nat := vb xss.length ++ pts xss

theorem pts_nil : pts [] = [] := rfl
theorem pts_cons (x : List Nat) (r : List (List Nat)) : pts (x :: r) = pt x ++ pts r := by simp [pts]
theorem pts_app (a b : List (List Nat)) : pts (a ++ b) = pts a ++ pts b := by simp [pts]
theorem pts_snoc (a : List (List Nat)) (x : List Nat) : pts (a ++ [x]) = pts a ++ pt x := by simp [pts]
theorem pt_length (x : List Nat) : (pt x).length = (vb x.length).length + x.length := by simp [pt]
theorem pts_take (xss : List (List Nat)) (k : Nat) (h : k < xss.length) : pts (xss.take (k + 1)) = pts (xss.take k) ++ pt (xss[k]?.getD []) := by
  rw [List.take_succ_eq_append_getElem h, pts_snoc]
  simp [h]
theorem pts_le (xss : List (List Nat)) (k : Nat) : (pts (xss.take k)).length ≤ (pts xss).length := by
  conv => rhs; rw [← List.take_append_drop k xss, pts_app, List.length_append]
  omega
theorem pts_many (xss : List (List Nat)) : xss.length ≤ (pts xss).length := by
  induction xss with
  | nil => simp
  | cons x r ih =>
    rw [pts_cons, List.length_append, pt_length, List.length_cons]
    have := vb_pos x.length
    omega
theorem pts_bound (xss : List (List Nat)) (M : Nat) (hM : M < B64) (h : ∀ j, j < xss.length → (xss[j]?.getD []).length ≤ M) : (pts xss).length ≤ xss.length * (10 + M) := by
  induction xss with
  | nil => simp [pts]
  | cons x r ih =>
    have h0 := h 0 (by simp)
    simp at h0
    have h1 := ih fun j hj => by have := h (j + 1) (by simp; omega); simpa using this
    have h2 := vb_len 9 x.length (by unfold B64 at hM; omega)
    rw [pts_cons, List.length_append, pt_length, List.length_cons, Nat.add_mul]
    omega
theorem pts_bytes (xss : List (List Nat)) (h : ∀ j, j < xss.length → ∀ x ∈ xss[j]?.getD [], x < 256) : ∀ x ∈ pts xss, x < 256 := by
  induction xss with
  | nil => simp [pts]
  | cons a r ih =>
    intro x hx
    rw [pts_cons, List.mem_append] at hx
    rcases hx with hx | hx
    · rw [pt, List.mem_append] at hx
      rcases hx with hx | hx
      · exact vb_bytes _ x hx
      · have := h 0 (by simp) x
        simp at this
        exact this hx
    · exact ih (fun j hj => by have := h (j + 1) (by simp; omega); simpa using this) x hx
theorem joinB_bytes (xss : List (List Nat)) (h : ∀ j, j < xss.length → ∀ x ∈ xss[j]?.getD [], x < 256) : ∀ x ∈ joinB xss, x < 256 := by
  intro x hx
  rw [joinB, List.mem_append] at hx
  rcases hx with hx | hx
  · exact vb_bytes _ x hx
  · exact pts_bytes xss h x hx
theorem joinB_length (xss : List (List Nat)) : (joinB xss).length = (vb xss.length).length + (pts xss).length := by simp [joinB]
theorem joinB_pos (xss : List (List Nat)) : 0 < (joinB xss).length := by
  rw [joinB_length]
  have := vb_pos xss.length
  omega
theorem joinB_bound (xss : List (List Nat)) (M : Nat) (hM : M < B64) (hn : xss.length < B64) (h : ∀ j, j < xss.length → (xss[j]?.getD []).length ≤ M) : (joinB xss).length ≤ 10 + xss.length * (10 + M) := by
  have h1 := pts_bound xss M hM h
  have h2 := vb_len 9 xss.length (by unfold B64 at hn; omega)
  rw [joinB_length]
  omega

/-- rest begins with a part of m bytes behind j bytes that tell m. -/
def HasPart (rest : List Nat) (m j : Nat) : Prop := IsVar rest m j ∧ j + m ≤ rest.length
theorem hasPart_split {rest : List Nat} {m j : Nat} (h : HasPart rest m j) : ((rest.drop j).take m).length = m ∧ rest = pt ((rest.drop j).take m) ++ rest.drop (j + m) := by
  have hl : ((rest.drop j).take m).length = m := by rw [List.length_take, List.length_drop]; have := h.2; omega
  refine ⟨hl, ?_⟩
  rw [pt, hl, ← h.1.2.1, List.append_assoc]
  have : (rest.drop j).take m ++ rest.drop (j + m) = rest.drop j := by
    rw [← List.drop_drop]
    exact List.take_append_drop m _
  rw [this, List.take_append_drop]
theorem hasPart_app (x r : List Nat) (hx : x.length < B64) : HasPart (pt x ++ r) x.length (vb x.length).length := by
  refine ⟨?_, ?_⟩
  · rw [pt, List.append_assoc]
    exact isVar_app _ hx _
  · simp [pt]
/-- What a row of parts goes on with. -/
theorem part_cut {x r : List Nat} {rest : List Nat} (hx : x.length < B64) (h : pt x ++ r = rest) : ∃ m j, HasPart rest m j ∧ x = (rest.drop j).take m ∧ r = rest.drop (j + m) := by
  subst h
  refine ⟨x.length, (vb x.length).length, hasPart_app x r hx, ?_, ?_⟩
  · rw [pt, List.append_assoc, List.drop_left, List.take_left]
  · rw [← List.drop_drop, pt, List.append_assoc, List.drop_left, List.drop_left]
theorem hasPart_unique {rest : List Nat} {m j m' j' : Nat} (h : HasPart rest m j) (h' : HasPart rest m' j') : m = m' ∧ j = j' := isVar_unique h.1 h'.1

/-- Where no part begins there is no row of at least one. -/
theorem no_part {pre xss : List (List Nat)} {rest bs : List Nat} (hb : bs = pts pre ++ rest) (hn : pre.length < xss.length) (hlt : bs.length < B64) (hx : bs = pts xss) (hpre : ∃ more, xss = pre ++ more) (hno : ¬ ∃ m j, HasPart rest m j) : False := by
  obtain ⟨more, rfl⟩ := hpre
  rw [pts_app] at hx
  have hr : rest = pts more := List.append_cancel_left (hb.symm.trans hx)
  cases more with
  | nil => simp at hn
  | cons x r =>
    rw [pts_cons] at hr
    have hxl : x.length < B64 := by
      have : x.length ≤ rest.length := by rw [hr, List.length_append, pt_length]; omega
      have : rest.length ≤ bs.length := by rw [hb, List.length_append]; omega
      omega
    obtain ⟨m, j, h, _⟩ := part_cut hxl hr.symm
    exact hno ⟨m, j, h⟩

/-- Of two rows of parts with the same bytes ahead one goes on as the other one. -/
theorem pts_pre (pre : List (List Nat)) : ∀ (xss : List (List Nat)) (rest bs : List Nat), bs = pts pre ++ rest → bs = pts xss → bs.length < B64 → pre.length ≤ xss.length → ∃ more, xss = pre ++ more := by
  induction pre with
  | nil => intro xss _ _ _ _ _ _; exact ⟨xss, rfl⟩
  | cons a pre ih =>
    intro xss rest bs hb hx hlt hn
    cases xss with
    | nil => simp at hn
    | cons x xss =>
      rw [pts_cons, List.append_assoc] at hb
      rw [pts_cons] at hx
      have ha : a.length < B64 := by
        have : a.length ≤ bs.length := by rw [hb, List.length_append, pt_length]; omega
        omega
      have hx' : x.length < B64 := by
        have : x.length ≤ bs.length := by rw [hx, List.length_append, pt_length]; omega
        omega
      obtain ⟨m, j, h1, h2, h3⟩ := part_cut ha hb.symm
      obtain ⟨m', j', h1', h2', h3'⟩ := part_cut hx' hx.symm
      obtain ⟨rfl, rfl⟩ := hasPart_unique h1 h1'
      obtain ⟨more, e⟩ := ih xss rest (bs.drop (j + m)) h3.symm h3'.symm (by simp; omega) (by simpa using hn)
      exact ⟨more, by rw [h2, h2', e]; rfl⟩

/-- The bytes are just the parts of which there are n. -/
def Body (bs : List Nat) (n : Nat) (xss : List (List Nat)) : Prop := xss.length = n ∧ bs = pts xss
theorem body_unique {bs : List Nat} {n : Nat} {xss yss : List (List Nat)} (hlt : bs.length < B64) (h : Body bs n xss) (h' : Body bs n yss) : xss = yss := by
  obtain ⟨more, e⟩ := pts_pre xss yss [] bs (by rw [List.append_nil]; exact h.2) h'.2 hlt (by rw [h.1, h'.1]; exact Nat.le_refl _)
  have : more = [] := by
    have h1 := congrArg List.length e
    rw [List.length_append, h.1, h'.1] at h1
    exact List.eq_nil_of_length_eq_zero (by omega)
  rw [e, this, List.append_nil]
theorem body_no {bs rest : List Nat} {n : Nat} {pre : List (List Nat)} (hlt : bs.length < B64) (hb : bs = pts pre ++ rest) (hn : pre.length < n) (hno : ¬ ∃ m j, HasPart rest m j) : ¬ ∃ xss, Body bs n xss := by
  rintro ⟨xss, h1, h2⟩
  exact no_part hb (by omega) hlt h2 (pts_pre pre xss rest bs hb h2 hlt (by omega)) hno
theorem body_rest {bs rest : List Nat} {n : Nat} {pre : List (List Nat)} (hlt : bs.length < B64) (hb : bs = pts pre ++ rest) (hn : pre.length = n) (hno : rest ≠ []) : ¬ ∃ xss, Body bs n xss := by
  rintro ⟨xss, h1, h2⟩
  obtain ⟨more, e⟩ := pts_pre pre xss rest bs hb h2 hlt (by omega)
  have : more = [] := by
    have h3 := congrArg List.length e
    rw [List.length_append, h1, hn] at h3
    exact List.eq_nil_of_length_eq_zero (by omega)
  subst this
  rw [List.append_nil] at e
  subst e
  apply hno
  have := hb.symm.trans h2
  simpa using this

/-- The bytes are a Join of at most so many parts, and of which. -/
def IsJoin (xs : List Nat) (most : Int) (xss : List (List Nat)) : Prop := xs = joinB xss ∧ (xss.length : Int) ≤ most
theorem isJoin_body {xs : List Nat} {n k : Nat} {most : Int} (hv : IsVar xs n k) (hm : (n : Int) ≤ most) {xss : List (List Nat)} (h : Body (xs.drop k) n xss) : IsJoin xs most xss := by
  refine ⟨?_, by rw [h.1]; exact hm⟩
  rw [joinB, h.1, ← hv.2.1, ← h.2, List.take_append_drop]
theorem join_len {xss : List (List Nat)} (hlt : (joinB xss).length < B64) : xss.length < B64 := by
  have := pts_many xss
  rw [joinB_length] at hlt
  omega
theorem join_var {xs : List Nat} {xss : List (List Nat)} (hlt : xs.length < B64) (h : xs = joinB xss) : IsVar xs xss.length (vb xss.length).length ∧ Body (xs.drop (vb xss.length).length) xss.length xss := by
  subst h
  refine ⟨isVar_app _ (join_len hlt) _, rfl, ?_⟩
  rw [joinB, List.drop_left]
theorem join_unique {xs : List Nat} {xss yss : List (List Nat)} (hlt : xs.length < B64) (h : xs = joinB xss) (h' : xs = joinB yss) : xss = yss := by
  obtain ⟨a1, a2⟩ := join_var hlt h
  obtain ⟨b1, b2⟩ := join_var hlt h'
  obtain ⟨e1, e2⟩ := isVar_unique a1 b1
  rw [← e1] at b2
  exact body_unique (by simp; omega) a2 b2
theorem no_join_var {xs : List Nat} {most : Int} (hlt : xs.length < B64) (hv : ¬ ∃ v n, IsVar xs v n) : ¬ ∃ xss, IsJoin xs most xss := by
  rintro ⟨xss, h, _⟩
  exact hv ⟨_, _, (join_var hlt h).1⟩
theorem no_join_most {xs : List Nat} {n k : Nat} {most : Int} (hlt : xs.length < B64) (hv : IsVar xs n k) (hm : most < (n : Int)) : ¬ ∃ xss, IsJoin xs most xss := by
  rintro ⟨xss, h, h2⟩
  obtain ⟨e, _⟩ := isVar_unique hv (join_var hlt h).1
  omega
theorem no_join_body {xs : List Nat} {n k : Nat} {most : Int} (hlt : xs.length < B64) (hv : IsVar xs n k) (hb : ¬ ∃ xss, Body (xs.drop k) n xss) : ¬ ∃ xss, IsJoin xs most xss := by
  rintro ⟨xss, h, h2⟩
  obtain ⟨a1, a2⟩ := join_var hlt h
  obtain ⟨e1, e2⟩ := isVar_unique hv a1
  rw [← e2, ← e1] at a2
  exact hb ⟨xss, a2⟩

/-- A Join that is cut off is none. -/
theorem pts_cut (xss : List (List Nat)) : ∀ (yss : List (List Nat)) (cut : List Nat), (pts xss).length < B64 → yss.length = xss.length → pts xss = pts yss ++ cut → cut = [] := by
  intro yss cut hlt hl h
  obtain ⟨more, e⟩ := pts_pre yss xss cut (pts xss) h rfl hlt (by omega)
  have : more = [] := by
    have h3 := congrArg List.length e
    rw [List.length_append] at h3
    exact List.eq_nil_of_length_eq_zero (by omega)
  subst this
  rw [List.append_nil] at e
  subst e
  simpa using h
theorem join_cut {xss yss : List (List Nat)} {cut : List Nat} (hlt : (joinB xss).length < B64) (h : joinB xss = joinB yss ++ cut) : cut = [] := by
  have hy : (joinB yss).length < B64 := by rw [h, List.length_append] at hlt; omega
  have h1 : IsVar (joinB xss) xss.length (vb xss.length).length := isVar_app _ (join_len hlt) _
  have h2 : IsVar (joinB xss) yss.length (vb yss.length).length := by
    rw [h, joinB, List.append_assoc]
    exact isVar_app _ (join_len hy) _
  obtain ⟨e, _⟩ := isVar_unique h1 h2
  refine pts_cut xss yss cut (by rw [joinB_length] at hlt; omega) e.symm ?_
  rw [joinB, joinB, e, List.append_assoc] at h
  exact List.append_cancel_left h
theorem no_join_take {xss : List (List Nat)} {k : Nat} {most : Int} (hlt : (joinB xss).length < B64) (hk : k < (joinB xss).length) : ¬ ∃ yss, IsJoin ((joinB xss).take k) most yss := by
  rintro ⟨yss, h, _⟩
  have := join_cut (yss := yss) (cut := (joinB xss).drop k) hlt (by rw [← h, List.take_append_drop])
  have := congrArg List.length this
  simp at this
  omega
theorem no_join_more {xss : List (List Nat)} {x : Nat} {most : Int} (hlt : (joinB xss).length + 1 < B64) : ¬ ∃ yss, IsJoin (joinB xss ++ [x]) most yss := by
  rintro ⟨yss, h, _⟩
  have := join_cut (xss := yss) (yss := xss) (cut := [x]) (by rw [← h]; simpa using hlt) h.symm
  cases this
end Go.Proofs.Ytlfcglolehmmiaa
namespace Go.Proofs.Ytlfcglolehmmiaa

def refB (k : Int) : Bool := k == 2 || k == 3 || k == 4 || k == 6 || k == 7
def goodB (k n r : Int) : Bool := if k = 1 ∨ k = 2 ∨ k = 3 ∨ k = 7 then n == 0 else if k = 4 then decide (0 ≤ n ∧ n < r) else if k = 5 then decide (0 ≤ n ∧ n < 4) else false
def subB (a b c d : Int) : Bool := (a == c && b == d) || c == 8 || (refB a && refB c && (a == 6 || c == 7))
def joinK (a b c d : Int) : Int := if subB a b c d then c else if subB c d a b then a else if refB a && refB c then 7 else 8
def joinN (a b c d : Int) : Int := if subB a b c d then d else if subB c d a b then b else 0
end Go.Proofs.Ytlfcglolehmmiaa
namespace Go.Proofs.Ytlfcglolehmmiaa
open Go.RowKit

theorem or128 (u : Nat) : bits .or .u8 ((u : Int) % 256) 128 = ((u % 128 + 128 : Nat) : Int) := by
  have h := u8_or_nat (u % 256) 128 (by omega) (by omega)
  have h3 : (u % 256) ||| 128 = u % 128 + 128 := by
    have e : u % 256 = u % 128 ∨ u % 256 = 128 + u % 128 := by omega
    have j : 128 ||| u % 128 = 128 + u % 128 := nat_join 7 128 (u % 128) (by omega) (by omega)
    rcases e with e | e
    · rw [e, Nat.or_comm, j]; omega
    · rw [e, ← j, Nat.or_assoc, Nat.or_comm (u % 128), ← Nat.or_assoc, Nat.or_self, j]; omega
  rw [h3] at h
  rw [← h]
  congr 1

set_option maxHeartbeats 1000000 in
theorem var_any (v : Nat) (w : World) (hv : v < B64) :
    Calls Try.prog 92 #[.int .u64 (v : Nat)] w fun e w' => ∃ u, e = .returned u ∧ w'.ownsRow w.heap.size 5 1 u (vb v).length (Bs (vb v)) ∧ Below w.heap.size w w' := by
  have HV0 := hv
  go_enter Try.func92, Try.ntmps92
  go_wp2
  go_loopw [0, 3] (fun x o wr => ∃ (u : Nat) (pre : List Nat), x = .int .u64 (u : Nat) ∧ wr.ownsRow w.heap.size 5 1 o pre.length (Bs pre) ∧ vb v = pre ++ vb u ∧ u < B64 ∧ Below w.heap.size w wr) (fun x _ _ => (intOf x).toNat)
  case atStart => exact ⟨v, [], rfl, World.ownsRow_nil _ _ _ _, by simp, hv, Below.refl _ _⟩
  case round =>
    obtain ⟨u, pre, rfl, hown, hvb, hu, hbel⟩ := hrel
    have HV := Lib.hid hvb
    have HO := Lib.hid hown
    have HU := Lib.hid hu
    clear hvb hown hu hv
    have hlen : pre.length + (vb u).length ≤ 10 := by
      have h1 := vb_len 9 v (by unfold B64 at HV0; omega)
      rw [HV.out] at h1
      simpa using h1
    have hpos := vb_pos u
    by_cases hlt : u < 128
    · have h1 : (decide ((128 : Int) ≤ (u : Int))) = false := by simp; omega
      go_wp2_with (at_builtin
                   refine walk_append _ rfl (.tmp 14) (.tmp 17) rfl w.heap.size u3 pre.length pre rfl (HO.out.alloc _) (some ⟨wr.heap.size, 0, none⟩) 1 1 [u] rfl rfl (· = wr.heap.size) (byt_one wr _ u rfl) (by omega) (by have := hbel.size; simp; omega) ?_
                   intro v1 w1 hown1 hg1 _)
      go_ret
      refine ⟨v1, rfl, ?_, (hbel.alloc hbel.size _).grown hg1 (by have := hbel.size; simp; omega) (fun k hk => (HO.out.lt k hk).1)⟩
      rw [HV.out, vb_small u hlt]
      simpa using hown1
    · have h1 : (decide ((128 : Int) ≤ (u : Int))) = true := by simp; omega
      go_wp2_with (at_builtin
                   refine walk_append _ rfl (.tmp 6) (.tmp 10) rfl w.heap.size u3 pre.length pre rfl (HO.out.alloc _) (some ⟨wr.heap.size, 0, none⟩) 1 1 [u % 128 + 128] rfl rfl (· = wr.heap.size) (byt_one wr _ (u % 128 + 128) (or128 u)) (by omega) (by have := hbel.size; simp; omega) ?_
                   intro v1 w1 hown1 hg1 _)
      go_roundw
      case rel =>
        refine ⟨u / 128, pre ++ [u % 128 + 128], by simp, by simpa using hown1, ?_, by have := HU.out; omega, (hbel.alloc hbel.size _).grown hg1 (by have := hbel.size; simp; omega) (fun k hk => (HO.out.lt k hk).1)⟩
        rw [HV.out, vb_big u hlt]
        simp
      case measure => simp [intOf]; omega
end Go.Proofs.Ytlfcglolehmmiaa
namespace Go.Proofs.Ytlfcglolehmmiaa
open Go.RowKit

theorem step_append (w : World) {ops : Array Oper} {o : Oper} {a : Act} {K : Act → World → Prop} {Q : Exit → Act → World → Prop} {E : Prop} (hgd : o.guard = none) (s x : Operand)
    (ho : o.op = .call { callee := .builtin .append, args := #[s, x], argTypes := #[62, 62] })
    (base : Nat) (v : Value) (n : Nat) (xs : List Nat) (hs : a.eval s = v) (hown : w.ownsRow base 5 1 v n (Bs xs)) (A : Option Addr) (m c : Nat) (ys : List Nat) (hx : a.eval x = .slice A m c) (hm : ys.length = m)
    (S : Nat → Prop) (hy : Byt S w A ys) (hbig : n + m ≤ 140737488355328) (hbase : base ≤ w.heap.size)
    (h : ∀ v' w', w'.ownsRow base 5 1 v' (n + m) (Bs (xs ++ ys)) → w.grownBy w' v.ownBlock → (v'.ownBlock = v.ownBlock ∨ v'.ownBlock = some w.heap.size) → K (a.put o.dst v') w') :
    if Region.wanted o (yielded ops a.tmps) = true then Oper.wp Try.prog o a w K Q else E := by
  have hw : Region.wanted o (yielded ops a.tmps) = true := by simp [Region.wanted, hgd]
  rw [if_pos hw]
  obtain ⟨v', w', hrun, h2, h3, h4⟩ := run_append_bytes w base o.type v n xs hown A m c ys hm S hy hbig hbase
  unfold Oper.wp execOp
  simp only [ho, resolve, invoke, builtin, Sem.run_bind, Sem.run_pure, Result.andThen_ok, List.map_toArray, List.map_cons, List.map_nil, hs, hx, hrun]
  exact h v' w' h2 h3 h4

/-- A guard: the operation is an append of just these operands (to be tried with_reducible: it fails at once where it does not fit). -/
theorem step_is (s x : Operand) (t : TypeId) {d : Option Tmp} {ty : TypeId} {p : String} {af : Array Edge} {g : Option (Nat × Bool)} {y : Nat → Option Bool} {inst : Decidable (Region.wanted ⟨d, .call ⟨.builtin .append, #[s, x], #[t, t]⟩, ty, p, af, g⟩ y = true)} {W E : Prop}
    (h : @ite Prop (Region.wanted ⟨d, .call ⟨.builtin .append, #[s, x], #[t, t]⟩, ty, p, af, g⟩ y = true) inst W E) : @ite Prop (Region.wanted ⟨d, .call ⟨.builtin .append, #[s, x], #[t, t]⟩, ty, p, af, g⟩ y = true) inst W E := h
/-- The same for a call of a Go function. -/
theorem step_call (f : Nat) {d : Option Tmp} {ar : Array Operand} {at' : Array TypeId} {ty : TypeId} {p : String} {af : Array Edge} {g : Option (Nat × Bool)} {y : Nat → Option Bool} {inst : Decidable (Region.wanted ⟨d, .call ⟨.value (.func f), ar, at'⟩, ty, p, af, g⟩ y = true)} {W E : Prop}
    (h : @ite Prop (Region.wanted ⟨d, .call ⟨.value (.func f), ar, at'⟩, ty, p, af, g⟩ y = true) inst W E) : @ite Prop (Region.wanted ⟨d, .call ⟨.value (.func f), ar, at'⟩, ty, p, af, g⟩ y = true) inst W E := h
end Go.Proofs.Ytlfcglolehmmiaa
namespace Go.Proofs.Ytlfcglolehmmiaa
open Go.RowKit

theorem wp_world {P : Program} {c : Code} {Q : Exit → Act → World → Prop} {a : Act} {w : World} (h : ∀ W, W = w → c.wp P Q a W) : c.wp P Q a w := h w rfl

theorem bcell {W w1 : World} (hb : Below W.heap.size W w1) : (∀ b o, b < W.heap.size → w1.cell? ⟨b, o, none⟩ = W.cell? ⟨b, o, none⟩) ∧ (∀ b o, b < W.heap.size → w1.frozen? ⟨b, o, none⟩ = W.frozen? ⟨b, o, none⟩) :=
  ⟨fun b o h => hb.cell (p := ⟨b, o, none⟩) h, fun b o h => hb.frozen (p := ⟨b, o, none⟩) h⟩
theorem calls_world {P : Program} {F : Nat} {args : Array Value} {w : World} {Q : Ending → World → Prop} (h : ∀ W, W = w → Calls P F args W Q) : Calls P F args w Q := h w rfl
end Go.Proofs.Ytlfcglolehmmiaa
namespace Go.Proofs.Ytlfcglolehmmiaa
open Go.RowKit

theorem own_wide {w : World} {b b' : Nat} {v : Value} {n : Nat} {xs : List Value} (h : w.ownsRow b 5 1 v n xs) (hb : b' ≤ b) : w.ownsRow b' 5 1 v n xs := by
  refine ⟨h.1, ?_⟩
  rcases h.2 with h | ⟨g', cap, cur, e, hb2, rest⟩
  · exact .inl h
  · exact .inr ⟨g', cap, cur, e, Nat.le_trans hb hb2, rest⟩
theorem own_nil (w : World) (b : Nat) : w.ownsRow b 5 1 (.slice none 0 0) 0 (Bs []) := ⟨rfl, .inl ⟨rfl, rfl⟩⟩
theorem blk_new (w : World) (t : TypeId) (cs : Array Value) : Blk (w.alloc (.cells cs t)) w.heap.size t cs := heap_alloc_new w _
theorem only_blk {g b : Nat} {w w' : World} {t : TypeId} {cs : Array Value} (h : Only g w w') (hb : Blk w b t cs) (hne : b ≠ g) : Blk w' b t cs := (h.block b hb.lt (fun e => hne (by injection e))).trans hb
theorem set_blk {b b' i : Nat} {w : World} {t : TypeId} {cs : Array Value} (hb : Blk w b t cs) (u : Value) (hne : b ≠ b') : Blk (w.setCell ⟨b', i, none⟩ u) b t cs := (Below.heap_setCell _ _ _ _ hne).trans hb
end Go.Proofs.Ytlfcglolehmmiaa
namespace Go.Proofs.Ytlfcglolehmmiaa
open Go.RowKit
set_option linter.unusedSimpArgs false

/-- The bytes of a type: negative numbers as 0. -/
def typB (k n : Int) : List Nat := vb k.toNat ++ vb n.toNat

theorem typB_len (k n : Int) (hk : k ≤ 9223372036854775807) (hn : n ≤ 9223372036854775807) : (typB k n).length ≤ 20 := by
  have h1 := vb_len 9 k.toNat (by simp; omega)
  have h2 := vb_len 9 n.toNat (by simp; omega)
  simp [typB]
  omega


theorem putNumber_any (n : Int) (w : World) (h : -9223372036854775808 ≤ n ∧ n ≤ 9223372036854775807) :
    Calls Try.prog 99 #[.int .i64 n] w fun e w' => ∃ u, e = .returned u ∧ w'.ownsRow w.heap.size 5 1 u (vb n.toNat).length (Bs (vb n.toNat)) ∧ Below w.heap.size w w' := by
  by_cases h0 : 0 ≤ n
  · obtain ⟨m, rfl⟩ : ∃ m : Nat, n = (m : Int) := ⟨n.toNat, by omega⟩
    have hm : m < B64 := by unfold B64; omega
    go_enter Try.func99, Try.ntmps99
    go_wp2_with (first | (go_at_call 92; refine (var_any m _ hm).mono ?_; rintro e w1 ⟨u, rfl, hown, hb⟩))
    go_ret
    exact ⟨_, rfl, hown, hb⟩
  · go_enter Try.func99, Try.ntmps99
    go_wp2_with (first | (go_at_call 92; refine (var_any 0 _ (by decide)).mono ?_; rintro e w1 ⟨u, rfl, hown, hb⟩))
    go_ret
    have e : n.toNat = 0 := by omega
    rw [e]
    exact ⟨_, rfl, hown, hb⟩

set_option maxHeartbeats 1000000 in
theorem kput (k n : Int) (w : World) (hk : -9223372036854775808 ≤ k ∧ k ≤ 9223372036854775807) (hn : -9223372036854775808 ≤ n ∧ n ≤ 9223372036854775807) :
    Calls Try.prog 94 #[.agg #[.int .i64 k, .int .i64 n]] w fun e w' => ∃ u, e = .returned u ∧ w'.ownsRow w.heap.size 5 1 u (typB k n).length (Bs (typB k n)) ∧ Below w.heap.size w w' := by
  have PK := Lib.hid (fun w => putNumber_any k w hk)
  have PN := Lib.hid (fun w => putNumber_any n w hn)
  have hl : (vb k.toNat).length + (vb n.toNat).length ≤ 140737488355328 := by
    have := typB_len k n hk.2 hn.2
    simp [typB] at this
    omega
  clear hk hn
  go_enter Try.func94, Try.ntmps94
  go_wp2_with fail
  refine wp_world fun W hW => ?_
  have c0 : W.cell? ⟨w.heap.size, 0, none⟩ = some (.int .i64 k) := by rw [hW]; simp [go_sem]
  have c1 : W.cell? ⟨w.heap.size, 1, none⟩ = some (.int .i64 n) := by rw [hW]; simp [go_sem]
  have HB0 : Hid (Below w.heap.size w W) := by
    show Below w.heap.size w W
    rw [hW]
    exact (Below.refl _ _).alloc (Nat.le_refl _) _
  have hs : w.heap.size < W.heap.size := by rw [hW]; simp
  clear hW
  have C1 := Lib.hid c1
  go_region_law (first
    | (with_reducible refine step_is (.tmp 5) (.tmp 8) 62 ?_
       refine step_append _ rfl (.tmp 5) (.tmp 8) rfl W.heap.size u1 (vb k.toNat).length (vb k.toNat) rfl HO1.out A2 (vb n.toNat).length c2 (vb n.toNat) rfl rfl _ HY2.out hl HS2.out ?_
       intro v3 w3 hown3 hg3 _
       have HO3 := Lib.hid hown3
       have HB3 := Lib.hid (HB2.out.grown hg3 HS2.out (fun i hi => (HO1.out.lt i hi).1))
       clear hown3 hg3)
    | (with_reducible refine step_call 99 ?_
       go_simp
       go_at_call 99
       with_reducible refine (PK.out _).mono ?_
       rintro e w1 ⟨u1, rfl, hown1, hb1⟩
       have HP1 := Lib.hid hown1
       have HB1 := Lib.hid (hb1.mono (Nat.le_refl W.heap.size))
       have hcell1 : w1.cell? ⟨w.heap.size, 1, none⟩ = some (.int .i64 n) := (hb1.cell (p := ⟨w.heap.size, 1, none⟩) hs).trans C1.out
       clear hown1 hb1)
    | (with_reducible refine step_call 99 ?_
       go_simp
       go_at_call 99
       with_reducible refine (PN.out _).mono ?_
       rintro e w2 ⟨u2, rfl, hown2, hb2⟩
       obtain ⟨A2, c2, rfl, -, -, -, hY2⟩ := own_slice hown2
       have HY2 := Lib.hid hY2
       have HB2 := Lib.hid (HB1.out.trans (hb2.mono HB1.out.size))
       have HO1 := Lib.hid (own_below HP1.out hb2 (Nat.le_refl _))
       have HS2 := Lib.hid HB2.out.size
       clear hown2 hY2 hb2))
  all_goals
    go_wp2_with fail
    go_ret
    refine ⟨_, rfl, ?_, HB0.out.drew.trans (HB3.out.mono HB0.out.size)⟩
    rw [show (typB k n).length = (vb k.toNat).length + (vb n.toNat).length by simp [typB]]
    exact own_wide HO3.out HB0.out.size
end Go.Proofs.Ytlfcglolehmmiaa
namespace Go.Proofs.Ytlfcglolehmmiaa
open Go.RowKit

/-- An instruction: Op, A, B. -/
abbrev Ins := Int × Int × Int
/-- Its cells. -/
def i3 (t : Ins) : List Value := [.int .i64 t.1, .int .i64 t.2.1, .int .i64 t.2.2]
/-- The cells of some. -/
def I3 : List Ins → List Value
  | [] => []
  | t :: ts => i3 t ++ I3 ts
theorem I3_app (ts us : List Ins) : I3 (ts ++ us) = I3 ts ++ I3 us := by
  induction ts with
  | nil => rfl
  | cons t ts ih => simp [I3, ih]
theorem I3_length (ts : List Ins) : (I3 ts).length = ts.length * 3 := by
  induction ts with
  | nil => rfl
  | cons t ts ih => simp [I3, i3, ih]; omega
theorem I3_get (ts : List Ins) (j i : Nat) (hj : j < ts.length) (hi : i < 3) : (I3 ts)[j * 3 + i]? = (i3 (ts[j]?.getD (0, 0, 0)))[i]? := by
  induction ts generalizing j with
  | nil => simp at hj
  | cons t ts ih =>
    cases j with
    | zero =>
      have : i < (i3 t).length := by simp [i3]; exact hi
      simp [I3, List.getElem?_append_left this]
    | succ j =>
      have hl : (i3 t).length = 3 := rfl
      rw [I3, List.getElem?_append_right (by rw [hl]; omega), hl, show (j + 1) * 3 + i - 3 = j * 3 + i by omega, ih j (by simpa using hj)]
      simp

/-- A slice with the address A holds the instructions ts, in a block of which S says yes. -/
def Iss (S : Nat → Prop) (w : World) (A : Option Addr) (ts : List Ins) : Prop :=
  0 < ts.length → ∃ a, A = some a ∧ S a.block ∧ ∀ j, j < ts.length →
    w.cell? (a.add (j * 3)) = some (.int .i64 (ts[j]?.getD (0, 0, 0)).1) ∧ w.cell? (a.add (j * 3 + 1)) = some (.int .i64 (ts[j]?.getD (0, 0, 0)).2.1) ∧ w.cell? (a.add (j * 3 + 2)) = some (.int .i64 (ts[j]?.getD (0, 0, 0)).2.2)
theorem Iss.nil (S : Nat → Prop) (w : World) (A : Option Addr) : Iss S w A [] := fun h => absurd h (by simp)
theorem Iss.keep {S : Nat → Prop} {w w' : World} {A : Option Addr} {ts : List Ins} (h : Iss S w A ts) (hk : ∀ b, S b → w'.heap[b]? = w.heap[b]?) : Iss S w' A ts := fun hn => by
  obtain ⟨a, e, hs, hc⟩ := h hn
  refine ⟨a, e, hs, fun j hj => ?_⟩
  obtain ⟨h0, h1, h2⟩ := hc j hj
  exact ⟨(World.cell?_of_block (hk _ (by rw [addBlock]; exact hs))).trans h0, (World.cell?_of_block (hk _ (by rw [addBlock]; exact hs))).trans h1, (World.cell?_of_block (hk _ (by rw [addBlock]; exact hs))).trans h2⟩
theorem Iss.wide {S T : Nat → Prop} {w : World} {A : Option Addr} {ts : List Ins} (h : Iss S w A ts) (hk : ∀ b, S b → T b) : Iss T w A ts := fun hn => by
  obtain ⟨a, e, hs, hc⟩ := h hn
  exact ⟨a, e, hk _ hs, hc⟩
theorem Iss.below {B B' : Nat} {w w' : World} {A : Option Addr} {ts : List Ins} (h : Iss (· < B) w A ts) (hb : Below B' w w') (hB : B ≤ B') : Iss (· < B) w' A ts := h.keep fun b h1 => hb.block b (Nat.lt_of_lt_of_le h1 hB)
theorem Iss.at {S : Nat → Prop} {w : World} {A : Option Addr} {ts : List Ins} (h : Iss S w A ts) {k : Nat} (hk : k < ts.length) :
    ∃ a, A = some a ∧ S a.block ∧ w.cell? (a.add (k * 3)) = some (.int .i64 (ts[k]?.getD (0, 0, 0)).1) ∧ w.cell? (a.add (k * 3 + 1)) = some (.int .i64 (ts[k]?.getD (0, 0, 0)).2.1) ∧ w.cell? (a.add (k * 3 + 2)) = some (.int .i64 (ts[k]?.getD (0, 0, 0)).2.2) := by
  obtain ⟨a, e, hs, hc⟩ := h (by omega)
  exact ⟨a, e, hs, hc k hk⟩

/-- What the call owns is a slice that holds its instructions. -/
theorem own_ins {w : World} {base n : Nat} {v : Value} {ts : List Ins} (h : w.ownsRow base 50 3 v n (I3 ts)) :
    ∃ A c, v = .slice A n c ∧ n = ts.length ∧ n ≤ c ∧ c ≤ maxLen ∧ Iss (fun b => base ≤ b ∧ b < w.heap.size) w A ts := by
  have hn : n = ts.length := by have := h.1; rw [I3_length] at this; omega
  rcases h.2 with ⟨rfl, h0⟩ | ⟨g, cap, cur, rfl, hb, hg, hnc, hcm, _, _⟩
  · refine ⟨none, 0, by rw [h0], hn, by omega, by simp [maxLen], fun hpos => absurd hpos (by omega)⟩
  · refine ⟨some ⟨g, 0, none⟩, cap, rfl, hn, hnc, hcm, fun _ => ⟨⟨g, 0, none⟩, rfl, ⟨hb, (Array.getElem?_eq_some_iff.1 hg).1⟩, fun j hj => ⟨?_, ?_, ?_⟩⟩⟩
    · exact h.cells rfl (j * 3) _ (I3_get ts j 0 hj (by omega))
    · exact h.cells rfl (j * 3 + 1) _ (I3_get ts j 1 hj (by omega))
    · exact h.cells rfl (j * 3 + 2) _ (I3_get ts j 2 hj (by omega))

theorem own_ins_nil (w : World) (b : Nat) : w.ownsRow b 50 3 (.slice none 0 0) 0 (I3 []) := ⟨rfl, .inl ⟨rfl, rfl⟩⟩

theorem ins_info : (Try.prog.info? 50).map (fun i => (i.zero, i.size, i.bytes)) = some (some (.agg #[.int .i64 0, .int .i64 0, .int .i64 0]), 3, 24) := by kernel_rfl

/-- What appending one instruction does, at the builtin. -/
theorem run_append_ins (w : World) (base ty : Nat) (v : Value) (n : Nat) (ts : List Ins) (hown : w.ownsRow base 50 3 v n (I3 ts)) (ad : Addr) (d : Nat) (t : Ins)
    (h0 : w.cell? ad = some (.int .i64 t.1)) (h1 : w.cell? (ad.add 1) = some (.int .i64 t.2.1)) (h2 : w.cell? (ad.add 2) = some (.int .i64 t.2.2)) (hbig : n ≤ 1000000) (hbase : base ≤ w.heap.size) :
    ∃ v' w', (Builtin.append_ #[40, 40] ty #[v, .slice (some ad) 1 d]).run Try.prog w = .ok v' w' ∧ w'.ownsRow base 50 3 v' (n + 1) (I3 (ts ++ [t])) ∧ w.grownBy w' v.ownBlock ∧
      (v'.ownBlock = v.ownBlock ∨ v'.ownBlock = some w.heap.size) := by
  obtain ⟨i0, hi0, hz0, hz1, hz2⟩ := info_parts ins_info
  obtain ⟨v', w', hrun, h2, h3, _, h5⟩ := run_append_own_at (P := Try.prog) w base 40 ty 50 i0 (.agg #[.int .i64 0, .int .i64 0, .int .i64 0]) 3 24 Try.underlying40 hi0 hz0 hz1 hz2 rfl (by omega) v n (I3 ts) hown ad 1 d (i3 t) rfl
    (fun j u hu => by
      match j with
      | 0 => simp [i3] at hu; subst hu; simpa [Addr.add] using h0
      | 1 => simp [i3] at hu; subst hu; exact h1
      | 2 => simp [i3] at hu; subst hu; exact h2
      | j + 3 => simp [i3] at hu)
    (fun u hu => by simp [i3] at hu; rcases hu with rfl | rfl | rfl <;> rfl) (by simp only [maxLen]; omega) (by omega) hbase
  refine ⟨v', w', hrun, ?_, h3, h5⟩
  rw [I3_app]
  simpa [I3] using h2

theorem walk_append_ins (w : World) {ops : Array Oper} {rest : List Oper} {o : Oper} {a : Act} {Q : Exit → Act → World → Prop} (hgd : o.guard = none) (s x : Operand)
    (ho : o.op = .call { callee := .builtin .append, args := #[s, x], argTypes := #[40, 40] })
    (base : Nat) (v : Value) (n : Nat) (ts : List Ins) (hs : a.eval s = v) (hown : w.ownsRow base 50 3 v n (I3 ts)) (ad : Addr) (d : Nat) (t : Ins) (hx : a.eval x = .slice (some ad) 1 d)
    (h0 : w.cell? ad = some (.int .i64 t.1)) (h1 : w.cell? (ad.add 1) = some (.int .i64 t.2.1)) (h2 : w.cell? (ad.add 2) = some (.int .i64 t.2.2)) (hbig : n ≤ 1000000) (hbase : base ≤ w.heap.size)
    (h : ∀ v' w', w'.ownsRow base 50 3 v' (n + 1) (I3 (ts ++ [t])) → w.grownBy w' v.ownBlock → (v'.ownBlock = v.ownBlock ∨ v'.ownBlock = some w.heap.size) → wpList Try.prog ops Q rest (a.put o.dst v') w') :
    wpList Try.prog ops Q (o :: rest) a w := by
  refine wpList_plain hgd fun _ hK => ?_
  obtain ⟨v', w', hrun, h2, h3, h4⟩ := run_append_ins w base o.type v n ts hown ad d t h0 h1 h2 hbig hbase
  unfold Oper.wp execOp
  simp only [ho, resolve, invoke, builtin, Sem.run_bind, Sem.run_pure, Result.andThen_ok, List.map_toArray, List.map_cons, List.map_nil, hs, hx, hrun]
  exact hK _ _ (h v' w' h2 h3 h4)
end Go.Proofs.Ytlfcglolehmmiaa
namespace Go.Proofs.Ytlfcglolehmmiaa
/-- The number that bytes make, the lowest first. -/
def le : List Nat → Nat
  | [] => 0
  | x :: xs => x + 256 * le xs
theorem le_lt (xs : List Nat) (h : ∀ x ∈ xs, x < 256) : le xs < 256 ^ xs.length := by
  induction xs with
  | nil => simp [le]
  | cons x xs ih =>
    have h1 := ih fun y hy => h y (by simp [hy])
    have h2 := h x (by simp)
    simp only [le, List.length_cons, Nat.pow_succ]
    omega
theorem drop_cons (xs : List Nat) (m : Nat) (h : m < xs.length) : xs.drop m = (xs[m]?.getD 0) :: xs.drop (m + 1) := by
  rw [List.drop_eq_getElem_cons h]
  simp [h]
theorem pow_le7 (k : Nat) (h : k ≤ 7) : 256 ^ k ≤ 72057594037927936 := by
  have : 256 ^ k ≤ 256 ^ 7 := Nat.pow_le_pow_right (by omega) h
  simpa using this

/-- The lowest m bytes of v, the lowest first. -/
def fb (v m : Nat) : List Nat := (List.range m).map fun j => v / 256 ^ j % 256
theorem fb_length (v m : Nat) : (fb v m).length = m := by simp [fb]
theorem fb_succ (v m : Nat) : fb v (m + 1) = fb v m ++ [v / 256 ^ m % 256] := by simp [fb, List.range_succ]
theorem fb_bytes (v m : Nat) : ∀ x ∈ fb v m, x < 256 := by
  intro x hx
  obtain ⟨j, _, rfl⟩ := List.mem_map.1 hx
  omega
theorem le_snoc (xs : List Nat) (y : Nat) : le (xs ++ [y]) = le xs + y * 256 ^ xs.length := by
  induction xs with
  | nil => simp [le]
  | cons x xs ih =>
    simp only [List.cons_append, le, ih, List.length_cons, Nat.pow_succ, Nat.mul_add, Nat.add_assoc]
    congr 2
    rw [Nat.mul_comm 256, Nat.mul_assoc]
theorem le_fb (v m : Nat) : le (fb v m) = v % 256 ^ m := by
  induction m with
  | zero => simp [fb, le, Nat.mod_one]
  | succ m ih => rw [fb_succ, le_snoc, ih, fb_length, Nat.pow_succ, Nat.mod_mul, Nat.mul_comm (256 ^ m)]
/-- How many bytes are meant by n: from 0 to 8. -/
def wid (n : Int) : Nat := min n.toNat 8
theorem wid_le (n : Int) : wid n ≤ 8 := by unfold wid; omega
end Go.Proofs.Ytlfcglolehmmiaa
namespace Go.Proofs.Ytlfcglolehmmiaa
open Go.RowKit
set_option maxHeartbeats 400000 in
theorem width_any (n : Int) (w : World) : Calls Try.prog 103 #[.int .i64 n] w fun e w' => e = .returned (.int .i64 (wid n : Nat)) ∧ w = w' := by
  go_enter Try.func103, Try.ntmps103
  go_wp2
  all_goals
    go_ret
    exact ⟨ret_int (by unfold wid; omega), rfl⟩
end Go.Proofs.Ytlfcglolehmmiaa
namespace Go.Proofs.Ytlfcglolehmmiaa
open Go.RowKit
/-- The same, of which but the first i stand there yet. -/
def fz (v m i : Nat) : List Nat := (List.range m).map fun j => if j < i then v / 256 ^ j % 256 else 0
theorem fz_length (v m i : Nat) : (fz v m i).length = m := by simp [fz]
theorem fz_all (v m : Nat) : fz v m m = fb v m := by
  unfold fz fb
  refine List.map_congr_left fun j hj => ?_
  rw [if_pos (List.mem_range.1 hj)]
theorem fz_zero (v m : Nat) : Bs (fz v m 0) = List.replicate m (.int .u8 0) := by
  unfold Bs fz
  rw [List.eq_replicate_iff]
  refine ⟨by simp, fun b hb => ?_⟩
  simp at hb
  exact hb.2.symm
theorem fz_set (v m i : Nat) : (Bs (fz v m i)).set i (.int .u8 ((v / 256 ^ i % 256 : Nat) : Int)) = Bs (fz v m (i + 1)) := by
  apply List.ext_getElem
  · simp [Bs, fz]
  · intro j h1 h2
    simp only [Bs, fz, List.getElem_set, List.getElem_map, List.getElem_range]
    by_cases hij : i = j
    · subst hij; simp
    · rw [if_neg hij]
      by_cases hj : j < i
      · rw [if_pos hj, if_pos (by omega)]
      · rw [if_neg hj, if_neg (by omega)]
theorem shr_byte (v k : Nat) : (v : Int) / 2 ^ (8 * k) % 256 = ((v / 256 ^ k % 256 : Nat) : Int) := by
  have : (256 : Nat) ^ k = 2 ^ (8 * k) := by rw [Nat.pow_mul]
  rw [this]
  simp

set_option maxRecDepth 100000 in
set_option maxHeartbeats 1000000 in
theorem fixed_any (v : Nat) (n : Int) (w : World) (hv : v < B64) :
    Calls Try.prog 98 #[.int .u64 (v : Nat), .int .i64 n] w fun e w' => ∃ u, e = .returned u ∧ w'.ownsRow w.heap.size 5 1 u (wid n) (Bs (fb v (wid n))) ∧ Below w.heap.size w w' := by
  obtain ⟨i0, hi0, hz0, hz1, hz2⟩ := info_parts u8_info
  have hw8 := wid_le n
  have HV := Lib.hid hv
  clear hv
  go_enter Try.func98, Try.ntmps98
  go_wp2_with fail
  refine (width_any n w).mono ?_
  rintro e w' ⟨rfl, rfl⟩
  obtain ⟨m, hm⟩ : ∃ m, wid n = m := ⟨_, rfl⟩
  rw [hm] at hw8 ⊢
  have HM := Lib.hid hm
  clear hm
  have hby : i0.bytes * m ≤ 281474976710656 := by rw [hz2]; omega
  have hml : m ≤ maxLen := by simp [maxLen]; omega
  go_wp2_with (at_make
               refine wpList_make_full _ rfl (.tmp 8) (.tmp 8) 62 rfl w.heap.size 5 i0 (.int .u8 0) 1 Try.underlying62 hi0 hz0 hz1 .i64 .i64 m m m rfl rfl rfl rfl hby hml (Nat.le_refl _) ?_
               intro w1 hown1 hg1)
  have hown2 : w1.ownsRow w.heap.size 5 1 (.slice (some ⟨w.heap.size, 0, none⟩) m m) m (Bs (fz v m 0)) := by
    rw [fz_zero]
    have := hown1
    rw [Nat.mul_one] at this
    have e : (madeCells (Value.int .u8 0).cells m).toList = List.replicate m (.int .u8 0) := toList_madeCells_one _ _
    rw [e] at this
    exact this
  have hb1 : Below w.heap.size w w1 := (Below.refl _ w).grown hg1 (Nat.le_refl _) (fun k hk => by cases hk)
  clear hown1 hg1
  go_loopw [12] (fun i wr => ∃ k : Nat, k ≤ m ∧ i = .int .i64 (k : Nat) ∧ wr.ownsRow w.heap.size 5 1 (.slice (some ⟨w.heap.size, 0, none⟩) m m) m (Bs (fz v m k)) ∧ Below w.heap.size w wr) (fun i _ => m - (intOf i).toNat)
  case atStart => exact ⟨0, Nat.zero_le _, rfl, hown2, hb1⟩
  case round =>
    obtain ⟨k, hk, rfl, hown, hbel⟩ := hrel
    have HO := Lib.hid hown
    clear hown2 hb1
    by_cases hlt : k < m
    · have hc := hown.cellAt k (by omega)
      rw [Bs_get _ _ (by rw [fz_length]; exact hlt)] at hc
      have hf := hown.frozenAt k
      clear hown
      go_wp2
      have hst := HO.out.stored k (.int .u8 ((v / 256 ^ k % 256 : Nat) : Int))
      rw [fz_set] at hst
      rw [shr_byte v k]
      exact ⟨⟨k + 1, by omega, by simp, hst.1, hbel.setCell (p := ⟨w.heap.size, k, none⟩) (Nat.le_refl _) _⟩, by simp [intOf]; omega⟩
    · obtain rfl : k = m := by omega
      clear hown
      go_wp2
      go_ret
      refine ⟨_, rfl, ?_, hbel⟩
      rw [HM.out, ← fz_all]
      exact HO.out
end Go.Proofs.Ytlfcglolehmmiaa
