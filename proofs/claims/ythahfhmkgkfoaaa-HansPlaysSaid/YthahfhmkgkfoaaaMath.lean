/-
  Plain facts on numbers written with seven bits a byte: how many bytes there are, which byte is the last, and that the bytes tell the number.
  Conditions: none; nothing here speaks of a program.
-/
namespace Go.Proofs.Ythahfhmkgkfoaaa

/-- A number by seven bits a byte, the lowest first, each but the last with 128 more. -/
def vb (v : Nat) : List Nat := if v < 128 then [v] else (v % 128 + 128) :: vb (v / 128)
termination_by v
decreasing_by omega

theorem vb_small (v : Nat) (h : v < 128) : vb v = [v] := by rw [vb, if_pos h]
theorem vb_big (v : Nat) (h : ¬ v < 128) : vb v = (v % 128 + 128) :: vb (v / 128) := by rw [vb, if_neg h]

theorem vb_pos (v : Nat) : 0 < (vb v).length := by
  by_cases h : v < 128
  · rw [vb_small v h]; simp
  · rw [vb_big v h]; simp

theorem vb_bytes (v : Nat) : ∀ x ∈ vb v, x < 256 := by
  induction v using Nat.strongRecOn with
  | _ v ih =>
    by_cases h : v < 128
    · rw [vb_small v h]; intro x hx; simp at hx; omega
    · rw [vb_big v h]
      intro x hx
      rcases List.mem_cons.1 hx with rfl | hx
      · omega
      · exact ih (v / 128) (by omega) x hx

theorem vb_len (k : Nat) : ∀ v, v < 128 ^ (k + 1) → (vb v).length ≤ k + 1 := by
  induction k with
  | zero => intro v hv; rw [vb_small v (by simpa using hv)]; simp
  | succ k ih =>
    intro v hv
    by_cases h : v < 128
    · rw [vb_small v h]; simp
    · rw [vb_big v h, List.length_cons]
      have : v / 128 < 128 ^ (k + 1) := Nat.div_lt_of_lt_mul (by rw [Nat.pow_succ] at hv; omega)
      have := ih _ this
      omega

/-- What a row of such bytes comes to. -/
def sv : List Nat → Nat
  | [] => 0
  | x :: r => x % 128 + 128 * sv r

theorem sv_vb (v : Nat) : sv (vb v) = v := by
  induction v using Nat.strongRecOn with
  | _ v ih =>
    by_cases h : v < 128
    · rw [vb_small v h]; simp [sv]; omega
    · rw [vb_big v h, sv, ih (v / 128) (by omega)]; omega

/-- each but the last: 128 or more. -/
theorem vb_init (v : Nat) : ∀ j, j + 1 < (vb v).length → 128 ≤ (vb v)[j]?.getD 0 := by
  induction v using Nat.strongRecOn with
  | _ v ih =>
    intro j hj
    by_cases h : v < 128
    · rw [vb_small v h] at hj; simp at hj
    · rw [vb_big v h] at hj ⊢
      cases j with
      | zero => simp
      | succ j => simp at hj ⊢; exact ih (v / 128) (by omega) j (by omega)

/-- the last: below 128, and not 0 unless it is the only one. -/
theorem vb_last (v : Nat) : ∀ j, j + 1 = (vb v).length → (vb v)[j]?.getD 0 < 128 ∧ ((vb v)[j]?.getD 0 = 0 → j = 0) := by
  induction v using Nat.strongRecOn with
  | _ v ih =>
    intro j hj
    by_cases h : v < 128
    · rw [vb_small v h] at hj ⊢
      have : j = 0 := by simpa using hj
      subst this
      simp; omega
    · rw [vb_big v h] at hj ⊢
      have hp := vb_pos (v / 128)
      cases j with
      | zero => simp at hj; rw [hj] at hp; simp at hp
      | succ j =>
        simp at hj ⊢
        obtain ⟨h1, h2⟩ := ih (v / 128) (by omega) j (by omega)
        refine ⟨h1, fun h0 => ?_⟩
        have := h2 h0
        subst this
        -- one byte, and it is 0: v / 128 = 0
        have e := sv_vb (v / 128)
        obtain ⟨y, hy⟩ := List.length_eq_one_iff.1 (show (vb (v / 128)).length = 1 by omega)
        rw [hy] at e h0
        simp [sv] at e h0
        omega

/-- the tenth, of a number of 64 bits: at most 1. -/
theorem vb_nth (k : Nat) : ∀ v, (vb v).length = k + 1 → (vb v)[k]?.getD 0 = v / 128 ^ k := by
  induction k with
  | zero =>
    intro v hl
    by_cases h : v < 128
    · rw [vb_small v h]; simp
    · rw [vb_big v h] at hl; simp at hl; have := vb_pos (v / 128); rw [hl] at this; simp at this
  | succ k ih =>
    intro v hl
    by_cases h : v < 128
    · rw [vb_small v h] at hl; simp at hl
    · rw [vb_big v h] at hl ⊢
      simp at hl ⊢
      rw [ih _ hl, Nat.div_div_eq_div_mul, Nat.pow_succ, Nat.mul_comm]

theorem vb_back (xs : List Nat) (y : Nat) (hy : y < 128) (h : ∀ x ∈ xs, 128 ≤ x ∧ x < 256) (h0 : y = 0 → xs = []) : vb (sv (xs ++ [y])) = xs ++ [y] := by
  induction xs with
  | nil => simp [sv]; rw [Nat.mod_eq_of_lt hy]; exact vb_small y hy
  | cons x xs ih =>
    have hx := h x (by simp)
    have hpos : 0 < sv (xs ++ [y]) := by
      rcases Nat.eq_zero_or_pos (sv (xs ++ [y])) with e | e
      · exfalso
        by_cases hz : y = 0
        · have := h0 hz; simp at this
        · have ih' := ih (fun z hz => h z (by simp [hz])) (fun e => absurd e hz)
          rw [e, vb_small 0 (by omega)] at ih'
          cases xs with
          | nil => simp at ih'; omega
          | cons a b => simp at ih'
      · exact e
    have ih' := ih (fun z hz => h z (by simp [hz])) (fun e => by have := h0 e; simp at this)
    simp only [List.cons_append, sv]
    rw [vb_big _ (by omega)]
    have e1 : (x % 128 + 128 * sv (xs ++ [y])) % 128 + 128 = x := by omega
    have e2 : (x % 128 + 128 * sv (xs ++ [y])) / 128 = sv (xs ++ [y]) := by omega
    rw [e1, e2, ih']

theorem sv_lt (xs : List Nat) : sv xs < 128 ^ xs.length := by
  induction xs with
  | nil => simp [sv]
  | cons x xs ih => simp only [sv, List.length_cons, Nat.pow_succ]; omega
theorem sv_snoc (xs : List Nat) (y : Nat) : sv (xs ++ [y]) = sv xs + y % 128 * 128 ^ xs.length := by
  induction xs with
  | nil => simp [sv]
  | cons x xs ih =>
    simp only [List.cons_append, sv, ih, List.length_cons, Nat.pow_succ, Nat.mul_add, Nat.add_assoc]
    congr 2
    rw [Nat.mul_comm 128, Nat.mul_assoc]

/-- 2^64, behind a name. -/
def B64 : Nat := 18446744073709551616

/-- The bytes xs begin with the n bytes of the number v. -/
def IsVar (xs : List Nat) (v n : Nat) : Prop := n ≤ xs.length ∧ xs.take n = vb v ∧ v < B64

theorem take_get (xs : List Nat) (n j : Nat) (h : j < n) : (xs.take n)[j]?.getD 0 = xs[j]?.getD 0 := by rw [List.getElem?_take_of_lt h]

theorem IsVar.len {xs : List Nat} {v n : Nat} (h : IsVar xs v n) : n = (vb v).length := by
  rw [← h.2.1, List.length_take]; have := h.1; omega
theorem IsVar.pos {xs : List Nat} {v n : Nat} (h : IsVar xs v n) : 0 < n := by rw [h.len]; exact vb_pos v
theorem IsVar.le10 {xs : List Nat} {v n : Nat} (h : IsVar xs v n) : n ≤ 10 := by
  rw [h.len]; exact vb_len 9 v (by have := h.2.2; unfold B64 at this; omega)
theorem IsVar.init {xs : List Nat} {v n : Nat} (h : IsVar xs v n) (j : Nat) (hj : j + 1 < n) : 128 ≤ xs[j]?.getD 0 := by
  rw [← take_get xs n j (by omega), h.2.1]; exact vb_init v j (by rw [← h.len]; exact hj)
theorem IsVar.last {xs : List Nat} {v n : Nat} (h : IsVar xs v n) (j : Nat) (hj : j + 1 = n) : xs[j]?.getD 0 < 128 ∧ (xs[j]?.getD 0 = 0 → j = 0) := by
  rw [← take_get xs n j (by omega), h.2.1]; exact vb_last v j (by rw [← h.len]; exact hj)
theorem IsVar.tenth {xs : List Nat} {v : Nat} (h : IsVar xs v 10) : xs[9]?.getD 0 ≤ 1 := by
  rw [← take_get xs 10 9 (by omega), h.2.1, vb_nth 9 v h.len.symm]
  have := h.2.2
  unfold B64 at this
  omega

/-- All of the first i bytes go on. -/
def More (xs : List Nat) (i : Nat) : Prop := i ≤ xs.length ∧ ∀ j, j < i → 128 ≤ xs[j]?.getD 0

theorem More.zero (xs : List Nat) : More xs 0 := ⟨Nat.zero_le _, fun j hj => absurd hj (by omega)⟩
theorem More.succ {xs : List Nat} {i : Nat} (h : More xs i) (hi : i < xs.length) (hx : 128 ≤ xs[i]?.getD 0) : More xs (i + 1) :=
  ⟨hi, fun j hj => by rcases Nat.lt_or_ge j i with hji | hji; exact h.2 j hji; obtain rfl : j = i := by omega
                      exact hx⟩
theorem More.past {xs : List Nat} {i v n : Nat} (h : More xs i) (hv : IsVar xs v n) : i < n := by
  rcases Nat.lt_or_ge i n with h1 | h1
  · exact h1
  · have hp := hv.pos
    have := h.2 (n - 1) (by omega)
    have := (hv.last (n - 1) (by omega)).1
    omega
theorem no_end {xs : List Nat} {i : Nat} (h : More xs i) (hi : i = xs.length ∨ 10 ≤ i) : ¬ ∃ v n, IsVar xs v n := by
  rintro ⟨v, n, hv⟩
  have h1 := h.past hv
  have h2 := hv.1
  have h3 := hv.le10
  omega
theorem no_tenth {xs : List Nat} (h : More xs 9) (hx : 1 < xs[9]?.getD 0) : ¬ ∃ v n, IsVar xs v n := by
  rintro ⟨v, n, hv⟩
  have h1 := h.past hv
  have h3 := hv.le10
  obtain rfl : n = 10 := by omega
  have := hv.tenth
  omega
theorem no_zero {xs : List Nat} {i : Nat} (h : More xs i) (hi : 0 < i) (hx : xs[i]?.getD 0 = 0) : ¬ ∃ v n, IsVar xs v n := by
  rintro ⟨v, n, hv⟩
  have h1 := h.past hv
  rcases Nat.lt_or_ge (i + 1) n with h2 | h2
  · have := hv.init i h2
    omega
  · have := (hv.last i (by omega)).2 hx
    omega
theorem take_succ_get (xs : List Nat) (i : Nat) (hi : i < xs.length) : xs.take (i + 1) = xs.take i ++ [xs[i]?.getD 0] := by
  rw [List.take_succ_eq_append_getElem hi]; simp [hi]
theorem sv_take (xs : List Nat) (i : Nat) (hi : i < xs.length) : sv (xs.take (i + 1)) = sv (xs.take i) + xs[i]?.getD 0 % 128 * 128 ^ i := by
  rw [take_succ_get xs i hi, sv_snoc, List.length_take, Nat.min_eq_left (by omega)]
theorem take_lt (xs : List Nat) (i : Nat) (hi : i ≤ xs.length) : sv (xs.take i) < 128 ^ i := by
  have := sv_lt (xs.take i)
  rwa [List.length_take, Nat.min_eq_left hi] at this
theorem pow128 (i : Nat) (hi : i ≤ 9) : 128 ^ i ≤ 9223372036854775808 := by
  have : 128 ^ i ≤ 128 ^ 9 := Nat.pow_le_pow_right (by omega) hi
  simpa using this
theorem yes_var {xs : List Nat} {i : Nat} (hb : ∀ x ∈ xs, x < 256) (h : More xs i) (hi : i < xs.length) (hi9 : i ≤ 9) (hx : xs[i]?.getD 0 < 128) (h0 : ¬ (xs[i]?.getD 0 = 0 ∧ 0 < i)) (h9 : i = 9 → xs[i]?.getD 0 ≤ 1) :
    IsVar xs (sv (xs.take (i + 1))) (i + 1) := by
  refine ⟨hi, ?_, ?_⟩
  · rw [take_succ_get xs i hi]
    refine (vb_back _ _ hx (fun x hx' => ?_) (fun e => ?_)).symm
    · obtain ⟨j, hj, rfl⟩ := List.mem_iff_getElem.1 hx'
      have hj' : j < i := by simp at hj; omega
      have := h.2 j hj'
      rw [List.getElem_take]
      simp [show j < xs.length by omega] at this
      exact ⟨this, hb _ (List.getElem_mem _)⟩
    · have : i = 0 := by
        rcases Nat.eq_zero_or_pos i with h | h
        · exact h
        · exact absurd ⟨e, h⟩ h0
      subst this
      simp
  · rw [sv_take xs i hi, Nat.mod_eq_of_lt hx]
    have h1 := take_lt xs i h.1
    unfold B64
    rcases Nat.lt_or_ge i 9 with h2 | h2
    · have h3 : 128 ^ (i + 1) ≤ 9223372036854775808 := pow128 (i + 1) (by omega)
      have h4 : xs[i]?.getD 0 * 128 ^ i ≤ 127 * 128 ^ i := Nat.mul_le_mul_right _ (by omega)
      rw [Nat.pow_succ] at h3
      omega
    · obtain rfl : i = 9 := by omega
      have := h9 rfl
      have h4 : xs[9]?.getD 0 * 128 ^ 9 ≤ 1 * 128 ^ 9 := Nat.mul_le_mul_right _ this
      have h5 : (128 : Nat) ^ 9 = 9223372036854775808 := by decide
      omega
theorem isVar_unique {xs : List Nat} {v n v' n' : Nat} (h : IsVar xs v n) (h' : IsVar xs v' n') : v = v' ∧ n = n' := by
  have hn : n = n' := by
    have p1 := h.pos
    have p2 := h'.pos
    rcases Nat.lt_trichotomy n n' with e | e | e
    · have := h'.init (n - 1) (by omega)
      have := (h.last (n - 1) (by omega)).1
      omega
    · exact e
    · have := h.init (n' - 1) (by omega)
      have := (h'.last (n' - 1) (by omega)).1
      omega
  subst hn
  refine ⟨?_, rfl⟩
  rw [← sv_vb v, ← sv_vb v', ← h.2.1, ← h'.2.1]
theorem isVar_app (v : Nat) (hv : v < B64) (r : List Nat) : IsVar (vb v ++ r) v (vb v).length := ⟨by simp, by simp, hv⟩
end Go.Proofs.Ythahfhmkgkfoaaa
