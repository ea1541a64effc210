/-
  What module's putList does over elements of one kind (string): how many there are, and the bytes of each. Conditions: as the theorem says.
  What pack.Join does. Conditions: as the theorem says (which parts lie there, and that they come to at most a million bytes).
  Plain facts on CRC-32 by its register: a step for a bit is linear and loses nothing; a row of bytes is fed as one number; so turned bits within 32 side by side always show. Conditions: none; nothing here speaks of a program.
  Small facts on sums, beside those of Crc. Conditions: as each theorem says.
  What the project's sum.next and sum.Of do: the sum of some bytes is their CRC-32. Conditions: as each theorem says.
  What module's Encode and Print do: the bytes of a module that fits, and their sum. Conditions: none but that there is a module.
-/
import Derived.Test.YtngjnkkdhjholaaGreatQ01
import Derived.Test.YtngjnkkdhjholaaGreatQ02
import Derived.Test.YtngjnkkdhjholaaGreatQ03
import Derived.Test.YtngjnkkdhjholaaGreatQ06
import Derived.Test.YtngjnkkdhjholaaGreatQ07
namespace Go.Proofs.YtngjnkkdhjholaaGreat
open Go.RowKit
set_option linter.unusedSimpArgs false
set_option linter.unusedVariables false

set_option maxRecDepth 100000 in
set_option maxHeartbeats 1000000 in
theorem putList_str (A : Option Addr) (n c : Nat) (xs : List (List Nat)) (w : World) (hl : xs.length = n) (h : Sq strL (· < w.heap.size) w A xs) (hn2 : n ≤ 1000000) (hn : (lB pt xs).length ≤ 1000000)
    (hP : ∀ (w1 : World) (cs : List Value) (x : (List Nat)), x ∈ xs → strL.R (· < w1.heap.size) w1 cs x → Calls Tryz.prog 27 #[vOne cs] w1 (Puts (pt x) w1)) :
    Calls Tryz.prog 26 #[.slice A n c, .func (.func 27) #[] #[]] w (Puts (lB pt xs) w) := by
  have HN := Lib.hid hn
  have HL := Lib.hid hl
  have HS := Lib.hid h
  have HP0 := Lib.hid hP
  clear hl h hn hP
  have hn3 : n < B64 := by unfold B64; omega
  go_enter Tryz.func26, Tryz.ntmps26
  go_wp2_with fail
  refine (var_any n w hn3).mono ?_
  rintro e w1 ⟨u1, rfl, hown1, hb1⟩
  have HO1 := Lib.hid hown1
  have HB1 := Lib.hid hb1
  clear hown1 hb1
  go_wp2_with fail
  go_loopw [5, 14] (fun s i wr => ∃ k : Nat, k ≤ n ∧ i = .int .i64 (k : Nat) ∧ (∃ q, q = vb n ++ ((xs.take k).map pt).flatten ∧ q.length ≤ 1000000 ∧ wr.ownsRow w.heap.size 5 1 s q.length (Bs q)) ∧ Below w.heap.size w wr) (fun _ i _ => n - (intOf i).toNat)
  case atStart =>
    refine ⟨0, Nat.zero_le _, rfl, ⟨_, rfl, ?_, ?_⟩, HB1.out⟩
    · have := HN.out
      simp only [lB, List.length_append, HL.out] at this
      simp
      omega
    · simpa using HO1.out
  case round =>
    obtain ⟨k, hk, rfl, ⟨q, hq, hq2, hown⟩, hbel⟩ := hrel
    have HO := Lib.hid hown
    have HB := Lib.hid hbel
    have HQ := Lib.hid hq
    have hs := hbel.size
    clear hown hbel hq
    by_cases hlt : k < n
    · skip
      obtain ⟨x, hx⟩ : ∃ x, xs[k]? = some x := ⟨xs[k]'(by rw [HL.out]; exact hlt), List.getElem?_eq_getElem _⟩
      have hmem : x ∈ xs := List.mem_of_getElem? hx
      obtain ⟨a, cs, rfl, hab, hc, hr⟩ := HS.out.at hx
      have HF := Lib.hid (cut_flat pt xs k x hx)
      have hle2 := flat_short pt xs (k + 1)
      rw [HF.out, List.length_append] at hle2
      have hq3 : q.length + (pt x).length ≤ 1000000 := by
        have := HN.out
        simp only [lB, List.length_append, HL.out] at this
        rw [HQ.out, List.length_append]
        omega
      clear hle2 hx
      have HR := Lib.hid hr
      obtain ⟨s0, rfl, -⟩ := hr
      have c0 := (HB.out.cell (p := a.add k) (by rw [addBlock]; exact hab)).trans (one_cell (K := strL.k) rfl (hc 0 _ rfl))
      have HP : Hid (∀ w1, Below w.heap.size w w1 → Calls Tryz.prog 27 #[.string s0] w1 (Puts (pt x) w1)) := fun w1 hb => HP0.out w1 [.string s0] x hmem (strL.wide (strL.keep HR.out fun b hb1 => hb.block b hb1) fun b hb1 => Nat.lt_of_lt_of_le hb1 hb.size)
      clear hc
      obtain ⟨y, hy⟩ : ∃ y, pt x = y := ⟨_, rfl⟩
      rw [hy] at hq3 HP
      have HY := Lib.hid hy
      clear hy
      go_wp2_with (first
        | (go_at_call 27
           refine (HP.out _ (HB.out)).mono ?_
           rintro e w2 ⟨u2, rfl, hown2, hb2⟩
           obtain ⟨A3, c3, rfl, -, -, -, hB2⟩ := own_slice hown2
           have HB2 := Lib.hid hB2
           have HO2 := Lib.hid (own_below (HO.out) hb2 (Nat.le_refl _))
           have Hb2 := Lib.hid ((HB.out).trans (hb2.mono (hs)))
           have hs2 := Hb2.out.size
           clear hown2 hB2 hb2)
        | (at_builtin
           refine walk_append _ rfl (.tmp 18) (.tmp 21) rfl w.heap.size u5 q.length q rfl HO2.out A3 y.length c3 y rfl rfl _ HB2.out (by omega) (by omega) ?_
           intro v4 w4 hown4 hg4 _
           have HO4 := Lib.hid hown4
           have HG4 := Lib.hid hg4
           clear hown4 hg4))
      refine ⟨⟨k + 1, by omega, by simp, ⟨q ++ y, ?_, ?_, ?_⟩, Hb2.out.grown HG4.out (by omega) (fun i hi => (HO2.out.lt i hi).1)⟩, by simp [intOf]; omega⟩
      · rw [HF.out, HQ.out, HY.out]
        simp [List.append_assoc]
      · simp [List.length_append]
        omega
      · rw [List.length_append]
        exact HO4.out
    · obtain rfl : k = n := by omega
      go_wp2_with fail
      go_ret
      refine ⟨_, rfl, ?_, HB.out⟩
      have e : lB pt xs = q := by
        rw [HQ.out, List.take_of_length_le (by rw [HL.out]; exact Nat.le_refl _), lB, HL.out]
      rw [e]
      exact HO.out
end Go.Proofs.YtngjnkkdhjholaaGreat
namespace Go.Proofs.YtngjnkkdhjholaaGreat
open Go.RowKit

set_option maxRecDepth 100000 in
set_option maxHeartbeats 1000000 in
theorem join_any (A : Option Addr) (n c : Nat) (xss : List (List Nat)) (w : World) (hl : xss.length = n) (hR : Rws (· < w.heap.size) w A xss) (hn : (joinB xss).length ≤ 1000000) :
    Calls Tryz.prog 17 #[.slice A n c] w fun e w' => ∃ v, e = .returned v ∧ w'.ownsRow w.heap.size 5 1 v (joinB xss).length (Bs (joinB xss)) ∧ Below w.heap.size w w' := by
  have hn2 : n ≤ 1000000 := by have := pts_many xss; rw [joinB_length] at hn; omega
  have HN := Lib.hid hn
  have HL := Lib.hid hl
  have HR := Lib.hid hR
  clear hl hR hn
  have hn3 : n < B64 := by unfold B64; omega
  go_enter Tryz.func17, Tryz.ntmps17
  go_wp2_with fail
  refine (var_any n w hn3).mono ?_
  rintro e w1 ⟨u1, rfl, hown1, hb1⟩
  have HO1 := Lib.hid hown1
  have HB1 := Lib.hid hb1
  clear hown1 hb1
  go_wp2_with fail
  go_loopw [3, 12] (fun s i wr => ∃ k : Nat, k ≤ n ∧ i = .int .i64 (k : Nat) ∧ (∃ q, q = vb n ++ pts (xss.take k) ∧ q.length ≤ 1000000 ∧ wr.ownsRow w.heap.size 5 1 s q.length (Bs q)) ∧ Below w.heap.size w wr) (fun _ i _ => n - (intOf i).toNat)
  case atStart =>
    refine ⟨0, Nat.zero_le _, rfl, ⟨_, rfl, ?_, ?_⟩, HB1.out⟩
    · have := HN.out
      rw [joinB_length, HL.out] at this
      simp [pts]
      omega
    · simpa [pts] using HO1.out
  case round =>
    obtain ⟨k, hk, rfl, ⟨q, hq, hq2, hown⟩, hbel⟩ := hrel
    have HO := Lib.hid hown
    have HB := Lib.hid hbel
    have HQ := Lib.hid hq
    have hs := hbel.size
    clear hown hbel hq
    by_cases hlt : k < n
    · obtain ⟨a, B, c2, rfl, hab, hcell, _, hBy⟩ := HR.out.at (k := k) (by rw [HL.out]; exact hlt)
      have hcell2 := (HB.out.cell (p := a.add k) (by rw [addBlock]; exact hab)).trans hcell
      have HF := Lib.hid (pts_take xss k (by rw [HL.out]; exact hlt))
      have hle2 := pts_le xss (k + 1)
      rw [HF.out, List.length_append, pt_length] at hle2
      obtain ⟨x, hx⟩ : ∃ x, xss[k]?.getD [] = x := ⟨_, rfl⟩
      rw [hx] at hcell hle2 hcell2 hBy
      have HX := Lib.hid hx
      have HY := Lib.hid hBy
      clear hx hcell hBy
      have hq3 : q.length + (vb x.length).length + x.length ≤ 1000000 := by
        have := HN.out
        rw [joinB_length, HL.out] at this
        rw [HQ.out, List.length_append]
        omega
      clear hle2
      have hx64 : x.length < B64 := by unfold B64; omega
      go_wp2_with fail
      refine (var_any x.length wr hx64).mono ?_
      rintro e w2 ⟨u2, rfl, hown2, hb2⟩
      obtain ⟨A2, c3, rfl, -, -, -, hB2⟩ := own_slice hown2
      have HB2 := Lib.hid hB2
      have Hb2 := Lib.hid hb2
      have HO2 := Lib.hid (own_below HO.out hb2 (Nat.le_refl _))
      have hs2 := hb2.size
      clear hown2 hB2 hb2
      go_wp2_with (first
        | (at_builtin
           refine walk_append _ rfl (.tmp 16) (.tmp 20) rfl w.heap.size u3 q.length q rfl HO2.out A2 (vb x.length).length c3 (vb x.length) rfl rfl _ HB2.out (by omega) (by omega) ?_
           intro v3 w3 hown3 hg3 _
           have HO3 := Lib.hid hown3
           have HG3 := Lib.hid hg3
           have HB3 := Lib.hid ((HB.out.trans (Hb2.out.mono (by omega))).grown hg3 (by omega) (fun i hi => (HO.out.lt i hi).1))
           have hs3 := hg3.size
           clear hown3 hg3)
        | (at_builtin
           refine walk_append _ rfl (.tmp 22) (.tmp 23) rfl w.heap.size v3 (q.length + (vb x.length).length) (q ++ vb x.length) rfl HO3.out B x.length c2 x rfl rfl (· < w.heap.size) (HY.out.below HB3.out (Nat.le_refl _)) (by omega) (by omega) ?_
           intro v4 w4 hown4 hg4 _
           have HO4 := Lib.hid hown4
           have HG4 := Lib.hid hg4
           clear hown4 hg4))
      refine ⟨⟨k + 1, by omega, by simp, ⟨q ++ vb x.length ++ x, ?_, ?_, ?_⟩, HB3.out.grown HG4.out (by omega) (fun i hi => (HO3.out.lt i hi).1)⟩, by simp [intOf]; omega⟩
      · rw [HF.out, HQ.out, HX.out, pt]
        simp [List.append_assoc]
      · simp [List.length_append]
        omega
      · have e : (q ++ vb x.length ++ x).length = q.length + (vb x.length).length + x.length := by simp [List.length_append]; omega
        rw [e]
        exact HO4.out
    · obtain rfl : k = n := by omega
      go_wp2_with fail
      go_ret
      refine ⟨_, rfl, ?_, HB.out⟩
      have e : joinB xss = q := by
        rw [HQ.out, List.take_of_length_le (by rw [HL.out]; exact Nat.le_refl _), joinB, HL.out]
      rw [e]
      exact HO.out
end Go.Proofs.YtngjnkkdhjholaaGreat
namespace Go.Proofs.YtngjnkkdhjholaaGreat

/-- The polynomial, turned about. -/
def P32 : Nat := 3988292384
/-- 32 ones. -/
def O32 : Nat := 4294967295
/-- One step of the register. -/
def zs (n : Nat) : Nat := if n % 2 = 1 then (n / 2) ^^^ P32 else n / 2
/-- So many steps. -/
def zk : Nat → Nat → Nat
  | 0, n => n
  | k + 1, n => zk k (zs n)

theorem xor_zero {a b : Nat} (h : a ^^^ b = 0) : a = b := by
  have e : (a ^^^ b) ^^^ b = a := by rw [Nat.xor_assoc, Nat.xor_self, Nat.xor_zero]
  rw [h, Nat.zero_xor] at e
  exact e.symm
theorem zs_bit (n i : Nat) : (zs n).testBit i = (n.testBit (i + 1) ^^ (n.testBit 0 && P32.testBit i)) := by
  unfold zs
  by_cases h : n % 2 = 1
  · simp [h, Nat.testBit_xor, Nat.testBit_succ, Nat.testBit_zero]
  · simp [h, Nat.testBit_succ, Nat.testBit_zero]
theorem zs_xor (a b : Nat) : zs (a ^^^ b) = zs a ^^^ zs b := by
  apply Nat.eq_of_testBit_eq
  intro i
  rw [Nat.testBit_xor, zs_bit, zs_bit, zs_bit, Nat.testBit_xor, Nat.testBit_xor]
  cases a.testBit (i + 1) <;> cases b.testBit (i + 1) <;> cases a.testBit 0 <;> cases b.testBit 0 <;> cases P32.testBit i <;> rfl
theorem zs_two (n : Nat) : zs (2 * n) = n := by
  unfold zs
  rw [if_neg (by omega)]
  omega
theorem zs_lt (n : Nat) (h : n < 4294967296) : zs n < 4294967296 := by
  unfold zs
  split
  · exact Nat.xor_lt_two_pow (n := 32) (by omega) (by unfold P32; omega)
  · omega
theorem zs_ne (n : Nat) (h : n < 4294967296) (h0 : n ≠ 0) : zs n ≠ 0 := by
  unfold zs
  split
  · intro e
    have := xor_zero e
    unfold P32 at this
    omega
  · omega
theorem zk_xor (k : Nat) : ∀ a b, zk k (a ^^^ b) = zk k a ^^^ zk k b := by
  induction k with
  | zero => intro a b; rfl
  | succ k ih => intro a b; rw [zk, zk, zk, zs_xor, ih]
theorem zk_two (k : Nat) : ∀ n, zk k (n * 2 ^ k) = n := by
  induction k with
  | zero => intro n; simp [zk]
  | succ k ih => intro n; rw [zk, show n * 2 ^ (k + 1) = 2 * (n * 2 ^ k) by rw [Nat.pow_succ, ← Nat.mul_assoc, Nat.mul_comm], zs_two, ih]
theorem zk_add (j k : Nat) : ∀ n, zk (j + k) n = zk k (zk j n) := by
  induction j with
  | zero => intro n; simp [zk]
  | succ j ih => intro n; rw [show j + 1 + k = (j + k) + 1 by omega, zk, ih, zk]
theorem zk_lt (k : Nat) : ∀ n, n < 4294967296 → zk k n < 4294967296 := by
  induction k with
  | zero => intro n h; exact h
  | succ k ih => intro n h; exact ih _ (zs_lt n h)
theorem zk_ne (k : Nat) : ∀ n, n < 4294967296 → n ≠ 0 → zk k n ≠ 0 := by
  induction k with
  | zero => intro n _ h; exact h
  | succ k ih => intro n h h0; exact ih _ (zs_lt n h) (zs_ne n h h0)
theorem zk_inj (k a b : Nat) (ha : a < 4294967296) (hb : b < 4294967296) (h : zk k a = zk k b) : a = b := by
  have hx : a ^^^ b < 4294967296 := Nat.xor_lt_two_pow (n := 32) ha hb
  have h0 : zk k (a ^^^ b) = 0 := by rw [zk_xor, h, Nat.xor_self]
  by_cases e : a ^^^ b = 0
  · exact xor_zero e
  · exact absurd h0 (zk_ne k _ hx e)

/-- The register behind some bytes. -/
def reg (n : Nat) (xs : List Nat) : Nat := xs.foldl (fun s x => zk 8 (s ^^^ x)) n
theorem reg_append (n : Nat) (xs ys : List Nat) : reg n (xs ++ ys) = reg (reg n xs) ys := by simp [reg]
theorem reg_snoc (n : Nat) (xs : List Nat) (x : Nat) : reg n (xs ++ [x]) = zk 8 (reg n xs ^^^ x) := by simp [reg]
theorem low_bit (x i : Nat) (h : x < 256) (hi : 8 ≤ i) : x.testBit i = false :=
  Nat.testBit_lt_two_pow (Nat.lt_of_lt_of_le h (by have := Nat.pow_le_pow_right (n := 2) (by omega) hi; simpa using this))
theorem add_xor (x e : Nat) (h : x < 256) : x + 256 * e = x ^^^ (256 * e) := by
  apply Nat.eq_of_testBit_eq
  intro i
  rw [Nat.testBit_xor, Nat.add_comm, show 256 * e = 2 ^ 8 * e by rfl, Nat.testBit_two_pow_mul_add e (i := 8) (by simpa using h), Nat.testBit_two_pow_mul]
  by_cases hi : i < 8
  · rw [if_pos hi]
    have : ¬ 8 ≤ i := by omega
    simp [this]
  · rw [if_neg hi, low_bit x i h (by omega)]
    have : 8 ≤ i := by omega
    simp [this]
theorem reg_le (xs : List Nat) : ∀ n, (∀ x ∈ xs, x < 256) → reg n xs = zk (8 * xs.length) (n ^^^ le xs) := by
  induction xs with
  | nil => intro n _; simp [reg, le, zk]
  | cons x xs ih =>
    intro n h
    have hx := h x (by simp)
    rw [show reg n (x :: xs) = reg (zk 8 (n ^^^ x)) xs by rfl, ih _ (fun y hy => h y (by simp [hy])), List.length_cons, show 8 * (xs.length + 1) = 8 + 8 * xs.length by omega, zk_add, le, add_xor x _ hx, ← Nat.xor_assoc, zk_xor 8 (n ^^^ x)]
    congr 2
    have := zk_two 8 (le xs)
    rw [show le xs * 2 ^ 8 = 256 * le xs by omega] at this
    rw [this]

theorem reg_lt (xs : List Nat) : ∀ n, n < 4294967296 → (∀ x ∈ xs, x < 256) → reg n xs < 4294967296 := by
  induction xs with
  | nil => intro n h _; exact h
  | cons x xs ih =>
    intro n h hx
    exact ih _ (zk_lt 8 _ (Nat.xor_lt_two_pow (n := 32) h (by have := hx x (by simp); omega))) (fun y hy => hx y (by simp [hy]))

/-- The sum of some bytes. -/
def crc (xs : List Nat) : Nat := reg O32 xs ^^^ O32
theorem crc_lt (xs : List Nat) (h : ∀ x ∈ xs, x < 256) : crc xs < 4294967296 := Nat.xor_lt_two_pow (n := 32) (reg_lt xs O32 (by unfold O32; omega) h) (by unfold O32; omega)

/-- The four bytes of a sum, the lowest first. -/
def four (n : Nat) : List Nat := [n % 256, n / 256 % 256, n / 65536 % 256, n / 16777216 % 256]
theorem four_bytes (n : Nat) : ∀ x ∈ four n, x < 256 := by
  intro x hx
  simp [four] at hx
  omega
theorem le_four (n : Nat) (h : n < 4294967296) : le (four n) = n := by
  simp [four, le]
  omega
theorem four_le (xs : List Nat) (hl : xs.length = 4) (h : ∀ x ∈ xs, x < 256) : four (le xs) = xs := by
  match xs, hl with
  | [a, b, c, d], _ =>
    have ha := h a (by simp)
    have hb := h b (by simp)
    have hc := h c (by simp)
    have hd := h d (by simp)
    simp only [le, four]
    have e1 : (a + 256 * (b + 256 * (c + 256 * (d + 256 * 0)))) % 256 = a := by omega
    have e2 : (a + 256 * (b + 256 * (c + 256 * (d + 256 * 0)))) / 256 % 256 = b := by omega
    have e3 : (a + 256 * (b + 256 * (c + 256 * (d + 256 * 0)))) / 65536 % 256 = c := by omega
    have e4 : (a + 256 * (b + 256 * (c + 256 * (d + 256 * 0)))) / 16777216 % 256 = d := by omega
    rw [e1, e2, e3, e4]

/-- What was sealed: some bytes, and their sum. -/
def sealB (xs : List Nat) : List Nat := xs ++ four (crc xs)

/-- Bytes were sealed just if the register behind all of them is what 32 ones come to. -/
theorem sealed_iff (m t : List Nat) (ht : t.length = 4) (hm : ∀ x ∈ m, x < 256) (hb : ∀ x ∈ t, x < 256) : reg O32 (m ++ t) = zk 32 O32 ↔ t = four (crc m) := by
  have hr := reg_lt m O32 (by unfold O32; omega) hm
  have hl : le t < 4294967296 := by have := le_lt t hb; rw [ht] at this; simpa using this
  rw [reg_append, reg_le t _ hb, ht, show 8 * 4 = 32 by rfl]
  constructor
  · intro h
    have e := zk_inj 32 _ _ (Nat.xor_lt_two_pow (n := 32) hr hl) (by unfold O32; omega) h
    have e2 : le t = crc m := by
      have e3 : reg O32 m ^^^ (reg O32 m ^^^ le t) = le t := by rw [← Nat.xor_assoc, Nat.xor_self, Nat.zero_xor]
      rw [e] at e3
      exact e3.symm
    rw [← e2, four_le t ht hb]
  · intro h
    rw [h, le_four _ (crc_lt m hm)]
    unfold crc
    rw [← Nat.xor_assoc, Nat.xor_self, Nat.zero_xor]

/-- A difference of up to 32 bits side by side is seen in the register. -/
theorem burst (xs ys : List Nat) (hl : xs.length = ys.length) (hx : ∀ x ∈ xs, x < 256) (hy : ∀ y ∈ ys, y < 256) (k t : Nat) (hk : k ≤ 8 * xs.length) (ht : t < 4294967296) (h0 : t ≠ 0) (h : le ys = le xs ^^^ (t * 2 ^ k)) (n : Nat) :
    reg n xs ≠ reg n ys := by
  intro e
  rw [reg_le xs n hx, reg_le ys n hy, ← hl, h, ← Nat.xor_assoc, zk_xor _ (n ^^^ le xs)] at e
  have e2 : zk (8 * xs.length) (t * 2 ^ k) = 0 := by
    have := congrArg (fun z => zk (8 * xs.length) (n ^^^ le xs) ^^^ z) e
    simp only [Nat.xor_self] at this
    rw [← Nat.xor_assoc, Nat.xor_self, Nat.zero_xor] at this
    exact this.symm
  rw [show 8 * xs.length = k + (8 * xs.length - k) by omega, zk_add, zk_two] at e2
  exact zk_ne _ t ht h0 e2

/-- Turning bits of one byte turns them in the number. -/
theorem le_turn (xs : List Nat) : ∀ (i y : Nat), i < xs.length → (∀ x ∈ xs, x < 256) → y < 256 → le (xs.set i ((xs[i]?.getD 0) ^^^ y)) = le xs ^^^ (y * 256 ^ i) := by
  induction xs with
  | nil => intro i y hi; simp at hi
  | cons x xs ih =>
    intro i y hi h hy
    have hx := h x (by simp)
    cases i with
    | zero =>
      have hxy : x ^^^ y < 256 := Nat.xor_lt_two_pow (n := 8) hx hy
      simp only [List.set_cons_zero, List.getElem?_cons_zero, Option.getD_some, le, Nat.pow_zero, Nat.mul_one]
      rw [add_xor _ _ hxy, add_xor _ _ hx, Nat.xor_assoc, Nat.xor_assoc, Nat.xor_comm y]
    | succ i =>
      have := ih i y (by simpa using hi) (fun z hz => h z (by simp [hz])) hy
      simp only [List.set_cons_succ, List.getElem?_cons_succ, le]
      rw [this, add_xor _ _ hx, add_xor _ _ hx, Nat.xor_assoc]
      congr 1
      have e : ∀ a b : Nat, 256 * (a ^^^ b) = 256 * a ^^^ 256 * b := fun a b => by
        apply Nat.eq_of_testBit_eq
        intro j
        rw [Nat.testBit_xor]
        simp only [show ∀ z : Nat, 256 * z = 2 ^ 8 * z from fun _ => rfl, Nat.testBit_two_pow_mul, Nat.testBit_xor]
        cases decide (8 ≤ j) <;> simp
      rw [e, Nat.pow_succ]
      congr 1
      rw [Nat.mul_comm 256, Nat.mul_assoc]
end Go.Proofs.YtngjnkkdhjholaaGreat
namespace Go.Proofs.YtngjnkkdhjholaaGreat
open Go.RowKit

theorem zk_succ (k n : Nat) : zk (k + 1) n = zs (zk k n) := by rw [zk_add]; rfl
theorem reg_take (n : Nat) (xs : List Nat) (i : Nat) (h : i < xs.length) : reg n (xs.take (i + 1)) = zk 8 (reg n (xs.take i) ^^^ (xs[i]?.getD 0)) := by
  rw [List.take_succ_eq_append_getElem h, reg_snoc]; simp [h]

theorem fb_four (m : Nat) : fb m 4 = four m := by simp [fb, four, List.range_succ]
theorem zs_odd (s : Nat) (h : s < 4294967296) (h1 : s % 2 = 1) : bits .xor .u32 ((s : Int) / 2) 3988292384 = ((zs s : Nat) : Int) := by
  have e := u32_xor_nat (s / 2) 3988292384 (by omega) (by omega)
  unfold zs
  rw [if_pos h1]
  exact e
theorem zs_even (s : Nat) (h1 : ¬ s % 2 = 1) : (s : Int) / 2 = ((zs s : Nat) : Int) := by
  unfold zs
  rw [if_neg h1]
  omega
theorem not32 (r : Nat) (h : r < 4294967296) : bits .xor .u32 IntKind.u32.max (r : Int) = ((r ^^^ O32 : Nat) : Int) := by
  have e := u32_xor_nat 4294967295 r (by omega) h
  rw [Nat.xor_comm]
  exact e
end Go.Proofs.YtngjnkkdhjholaaGreat
namespace Go.Proofs.YtngjnkkdhjholaaGreat
open Go.RowKit

theorem bit_split (x j : Nat) : x % 2 ^ (j + 1) = x % 2 ^ j ^^^ (x / 2 ^ j % 2) * 2 ^ j := by
  apply Nat.eq_of_testBit_eq
  intro i
  rw [Nat.testBit_xor, Nat.testBit_mod_two_pow, Nat.testBit_mod_two_pow, Nat.mul_comm, Nat.testBit_two_pow_mul]
  rcases Nat.lt_trichotomy i j with h | h | h
  · have h1 : i < j + 1 := by omega
    have h2 : ¬ j ≤ i := by omega
    simp [h, h1, h2]
  · subst h
    have h1 : i < i + 1 := by omega
    have h3 : (x / 2 ^ i % 2).testBit 0 = x.testBit i := by
      rw [Nat.testBit_zero, Nat.testBit_eq_decide_div_mod_eq]
      simp
    simp [h3]
  · have h1 : ¬ i < j + 1 := by omega
    have h2 : ¬ i < j := by omega
    have h3 : (x / 2 ^ j % 2).testBit (i - j) = false := by
      apply Nat.testBit_lt_two_pow
      have : 2 ^ 1 ≤ 2 ^ (i - j) := Nat.pow_le_pow_right (by omega) (by omega)
      omega
    simp [h1, h2, h3]
/-- One bit more of a byte that is fed. -/
theorem zk_bit (r x j : Nat) : zs (zk j (r ^^^ x % 2 ^ j) ^^^ (x / 2 ^ j % 2)) = zk (j + 1) (r ^^^ x % 2 ^ (j + 1)) := by
  rw [zk_succ, bit_split, ← Nat.xor_assoc, zk_xor j (r ^^^ x % 2 ^ j), zk_two]

/-- The step of the register by a bit. -/
theorem bit_half (r b : Nat) : (r ^^^ b % 2) / 2 = r / 2 := by
  apply Nat.eq_of_testBit_eq
  intro i
  rw [← Nat.testBit_succ, ← Nat.testBit_succ, Nat.testBit_xor]
  have : (b % 2).testBit (i + 1) = false := by
    rw [Nat.testBit_succ, show b % 2 / 2 = 0 by omega, Nat.zero_testBit]
  rw [this]
  simp
theorem bit_odd (r b : Nat) : (r ^^^ b % 2) % 2 = (r ^^^ b) % 2 := by
  have h : ∀ x : Nat, x % 2 = (x.testBit 0).toNat := fun x => by rw [Nat.testBit_zero]; rcases Nat.mod_two_eq_zero_or_one x with h | h <;> simp [h]
  rw [h, h (r ^^^ b), Nat.testBit_xor, Nat.testBit_xor, Nat.testBit_zero (b % 2), Nat.testBit_zero b]
  simp
theorem next_odd (r b : Nat) (h : (r ^^^ b) % 2 = 1) : zs (r ^^^ b % 2) = r / 2 ^^^ P32 := by
  unfold zs
  rw [if_pos (by rw [bit_odd]; exact h), bit_half]
theorem next_even (r b : Nat) (h : ¬ (r ^^^ b) % 2 = 1) : zs (r ^^^ b % 2) = r / 2 := by
  unfold zs
  rw [if_neg (by rw [bit_odd]; exact h), bit_half]

set_option maxRecDepth 100000 in
set_option maxHeartbeats 400000 in
theorem next_any (r b : Nat) (w : World) (hr : r < 4294967296) (hb : b < 4294967296) :
    Calls Tryz.prog 76 #[.int .u32 (r : Nat), .int .u32 (b : Nat)] w fun e w' => e = .returned (.int .u32 ((zs (r ^^^ b % 2) : Nat) : Int)) ∧ w = w' := by
  obtain ⟨m, hm⟩ : ∃ m, r ^^^ b = m := ⟨_, rfl⟩
  have em : bits .xor .u32 (r : Int) (b : Int) = (m : Int) := by rw [u32_xor_nat _ _ hr hb, hm]
  have hm32 : m < 4294967296 := by rw [← hm]; exact Nat.xor_lt_two_pow (n := 32) hr hb
  have ea : bits .and .u32 (m : Int) 1 = ((m % 2 : Nat) : Int) := by
    have := u32_and_nat m 1 hm32 (by omega)
    rw [Nat.and_one_is_mod] at this
    exact this
  have HM := Lib.hid hm
  clear hm
  by_cases h1 : m % 2 = 1
  · have t1 : (((m % 2 : Nat) : Int) == 0) = false := by simp; omega
    have t2 : ((m : Int) % 2 == 0) = false := by simp; omega
    have H1 := Lib.hid h1
    clear h1
    go_enter Tryz.func76, Tryz.ntmps76
    go_wp2
    go_ret
    refine ⟨ret_int ?_, rfl⟩
    rw [next_odd r b (by rw [HM.out]; exact H1.out)]
    exact u32_xor_nat (r / 2) 3988292384 (by omega) (by omega)
  · have t1 : (((m % 2 : Nat) : Int) == 0) = true := by simp; omega
    have t2 : ((m : Int) % 2 == 0) = true := by simp; omega
    have H1 := Lib.hid h1
    clear h1
    go_enter Tryz.func76, Tryz.ntmps76
    go_wp2
    go_ret
    refine ⟨ret_int ?_, rfl⟩
    rw [next_even r b (by rw [HM.out]; exact H1.out)]
    omega

theorem shr_bits (x j : Nat) : (x : Int) / 2 ^ j = ((x / 2 ^ j : Nat) : Int) := by simp
theorem ones32 (r : Nat) (h : r < 4294967296) : bits .xor .u32 (r : Int) 4294967295 = ((r ^^^ O32 : Nat) : Int) := u32_xor_nat r 4294967295 h (by omega)

set_option maxRecDepth 100000 in
set_option maxHeartbeats 1000000 in
theorem of_any (A : Option Addr) (n c : Nat) (xs : List Nat) (w : World) (S : Nat → Prop) (hl : xs.length = n) (hb : ∀ x ∈ xs, x < 256) (hB : Byt S w A xs) (hn : n ≤ 140737488355328) :
    Calls Tryz.prog 35 #[.slice A n c] w fun e w' => e = .returned (.int .u32 ((crc xs : Nat) : Int)) ∧ w = w' := by
  have HL := Lib.hid hl
  have HY := Lib.hid hb
  have HB := Lib.hid hB
  clear hl hb hB
  go_enter Tryz.func35, Tryz.ntmps35
  go_wp2_with fail
  go_loop [3, 9] (fun r i => ∃ k : Nat, k ≤ n ∧ i = .int .i64 (k : Nat) ∧ r = .int .u32 ((reg O32 (xs.take k) : Nat) : Int)) (fun _ i => n - (intOf i).toNat)
  case atStart => exact ⟨0, Nat.zero_le _, rfl, by simp [reg, O32]⟩
  case round =>
    obtain ⟨k, hk, rfl, rfl⟩ := hrel
    obtain ⟨r, hr⟩ : ∃ r, reg O32 (xs.take k) = r := ⟨_, rfl⟩
    have hr32 : r < 4294967296 := by rw [← hr]; exact reg_lt _ _ (by unfold O32; omega) (fun x hx => HY.out x (List.mem_of_mem_take hx))
    rw [hr]
    have HR := Lib.hid hr
    clear hr
    by_cases hlt : k < n
    · obtain ⟨a, rfl, _, hcell⟩ := HB.out.at (k := k) (by rw [HL.out]; exact hlt)
      obtain ⟨x, hx⟩ : ∃ x, xs[k]?.getD 0 = x := ⟨_, rfl⟩
      rw [hx] at hcell
      have HX := Lib.hid hx
      clear hx
      have hx256 : x < 256 := by
        rw [← HX.out]
        simp only [show k < xs.length by rw [HL.out]; exact hlt, List.getElem?_eq_getElem, Option.getD_some]
        exact HY.out _ (List.getElem_mem _)
      go_wp2_with fail
      go_loop [3, 13] (fun r' i => ∃ j : Nat, j ≤ 8 ∧ i = .int .i64 (j : Nat) ∧ r' = .int .u32 ((zk j (r ^^^ x % 2 ^ j) : Nat) : Int)) (fun _ i => 8 - (intOf i).toNat)
      case atStart => exact ⟨0, by omega, rfl, by simp [zk, Nat.mod_one]⟩
      case round =>
        obtain ⟨j, hj, rfl, rfl⟩ := hrel
        obtain ⟨s, hs⟩ : ∃ s, zk j (r ^^^ x % 2 ^ j) = s := ⟨_, rfl⟩
        have hxj : x % 2 ^ j < 4294967296 := Nat.lt_of_le_of_lt (Nat.mod_le _ _) (by omega)
        have hs32 : s < 4294967296 := by rw [← hs]; exact zk_lt j _ (Nat.xor_lt_two_pow (n := 32) hr32 hxj)
        rw [hs]
        have HS := Lib.hid hs
        clear hs
        by_cases hj8 : j < 8
        · have hd : x / 2 ^ j < 256 := Nat.lt_of_le_of_lt (Nat.div_le_self _ _) hx256
          obtain ⟨b, hb⟩ : ∃ b, x / 2 ^ j = b := ⟨_, rfl⟩
          have e1 : (x : Int) / 2 ^ j = (b : Int) := by rw [shr_bits, hb]
          rw [hb] at hd
          have HB' := Lib.hid hb
          clear hb
          go_wp2_with fail
          refine (next_any s b w hs32 (by omega)).mono ?_
          rintro e w' ⟨rfl, rfl⟩
          clear e1
          go_wp2
          refine ⟨⟨j + 1, by omega, by simp, ?_⟩, by simp [intOf]; omega⟩
          rw [← zk_bit, HS.out, HB'.out]
        · obtain rfl : j = 8 := by omega
          go_wp2
          refine ⟨⟨k + 1, by omega, by simp, ?_⟩, by simp [intOf]; omega⟩
          rw [reg_take _ _ _ (by rw [HL.out]; exact hlt), HR.out, HX.out, ← HS.out, Nat.mod_eq_of_lt (by omega : x < 2 ^ 8)]
    · obtain rfl : k = n := by omega
      go_wp2
      go_ret
      refine ⟨ret_int ?_, rfl⟩
      rw [ones32 r hr32]
      unfold crc
      rw [← HR.out, List.take_of_length_le (by rw [HL.out]; exact Nat.le_refl _)]
end Go.Proofs.YtngjnkkdhjholaaGreat
namespace Go.Proofs.YtngjnkkdhjholaaGreat
open Go.RowKit
set_option linter.unusedSimpArgs false
set_option linter.unusedVariables false

theorem rws_five (w : World) (A0 A1 A2 A3 A4 : Option Addr) (c0 c1 c2 c3 c4 : Nat) (x0 x1 x2 x3 x4 : List Nat) (h0 : Yb w A0 c0 x0) (h1 : Yb w A1 c1 x1) (h2 : Yb w A2 c2 x2) (h3 : Yb w A3 c3 x3) (h4 : Yb w A4 c4 x4) :
    Rws (· < (w.alloc (.cells #[.slice A0 x0.length c0, .slice A1 x1.length c1, .slice A2 x2.length c2, .slice A3 x3.length c3, .slice A4 x4.length c4] 31)).heap.size)
      (w.alloc (.cells #[.slice A0 x0.length c0, .slice A1 x1.length c1, .slice A2 x2.length c2, .slice A3 x3.length c3, .slice A4 x4.length c4] 31)) (some ⟨w.heap.size, 0, none⟩) [x0, x1, x2, x3, x4] := fun _ => by
  refine ⟨_, rfl, by simp, fun j hj => ?_⟩
  have hk : ∀ o : Obj, ∀ b, b < w.heap.size → (w.alloc o).heap[b]? = w.heap[b]? := fun o b hb => Below.heap_alloc w _ b hb
  have e : (⟨w.heap.size, 0, none⟩ : Addr).add j = ⟨w.heap.size, j, none⟩ := by unfold Addr.add; split <;> simp_all
  rw [e, World.cell?_alloc_mark]
  match j, hj with
  | 0, _ => exact ⟨A0, c0, rfl, h0.1, (h0.2.keep (hk _)).wide fun b hb => by simp; omega⟩
  | 1, _ => exact ⟨A1, c1, rfl, h1.1, (h1.2.keep (hk _)).wide fun b hb => by simp; omega⟩
  | 2, _ => exact ⟨A2, c2, rfl, h2.1, (h2.2.keep (hk _)).wide fun b hb => by simp; omega⟩
  | 3, _ => exact ⟨A3, c3, rfl, h3.1, (h3.2.keep (hk _)).wide fun b hb => by simp; omega⟩
  | 4, _ => exact ⟨A4, c4, rfl, h4.1, (h4.2.keep (hk _)).wide fun b hb => by simp; omega⟩
  | j + 5, hj => exact absurd hj (by simp)

/-- What Encode answers. -/
def Encodes (m : Mod) (w : World) (e : Ending) (w' : World) : Prop :=
  Below w.heap.size w w' ∧ ((fitB m = false ∧ e = .returned (.tuple #[.slice none 0 0, .int .i64 2])) ∨
    (fitB m = true ∧ ∃ u, e = .returned (.tuple #[u, .int .i64 0]) ∧ w'.ownsRow w.heap.size 5 1 u (modB m).length (Bs (modB m))))

set_option maxRecDepth 100000 in
set_option maxHeartbeats 4000000 in
theorem encode_any (cs : List Value) (x : Mod) (w : World) (h : modL.R (· < w.heap.size) w cs x) : Calls Tryz.prog 8 #[vAgg cs] w (Encodes x w) := by
  have TF : Hid (∀ w1, Below w.heap.size w w1 → Calls Tryz.prog 16 #[vAgg cs] w1 (Tells (fitB x) w1)) := fun w1 hb => fits_any cs x w1 (modL.wide (modL.keep h fun b hb1 => hb.block b hb1) fun b hb1 => Nat.lt_of_lt_of_le hb1 hb.size)
  obtain ⟨_, _, _, _, _, rfl, ⟨A0, d0, e0, l0, m0, s0⟩, ⟨A1, d1, e1, l1, m1, s1⟩, ⟨A2, d2, e2, l2, m2, s2⟩, ⟨A3, d3, e3, l3, m3, s3⟩, ⟨A4, d4, e4, l4, m4, s4⟩⟩ := h
  simp only [List.cons.injEq, and_true] at e0 e1 e2 e3 e4
  subst e0 e1 e2 e3 e4
  have TF2 : Hid (∀ w1, Below w.heap.size w w1 → Calls Tryz.prog 16 #[.agg #[.slice A0 x.recs.length d0, .slice A1 x.funcs.length d1, .slice A2 x.imps.length d2, .slice A3 x.ints.length d3, .slice A4 x.texts.length d4]] w1 (Tells (fitB x) w1)) := TF.out
  clear TF
  show Calls Tryz.prog 8 #[.agg #[.slice A0 x.recs.length d0, .slice A1 x.funcs.length d1, .slice A2 x.imps.length d2, .slice A3 x.ints.length d3, .slice A4 x.texts.length d4]] w (Encodes x w)
  have HB0 : Hid (∀ o : Obj, Below w.heap.size w (w.alloc o)) := fun o => (Below.refl _ _).alloc (Nat.le_refl _) _
  cases hf : fitB x
  · rw [hf] at TF2
    have HF := Lib.hid hf
    generalize x.recs.length = n0 at *
    generalize x.funcs.length = n1 at *
    generalize x.imps.length = n2 at *
    generalize x.ints.length = n3 at *
    generalize x.texts.length = n4 at *
    clear hf s0 s1 s2 s3 s4 m0 m1 m2 m3 m4
    go_enter Tryz.func8, Tryz.ntmps8
    go_wp2_with (first
      | (go_at_call 16
         refine (TF2.out _ (HB0.out _)).mono ?_
         rintro e w1 ⟨rfl, hb1⟩
         have HB1 := Lib.hid ((HB0.out _).trans (hb1.mono (by simp)))
         clear hb1))
    go_ret2
    exact ⟨HB1.out, .inl ⟨HF.out, rfl⟩⟩
  · rw [hf] at TF2
    have hF := fitB_iff.1 hf
    have HF := Lib.hid hf
    have hpl := hF.parts_len
    have p0 := hpl 0 (by simp [partsB])
    have p1 := hpl 1 (by simp [partsB])
    have p2 := hpl 2 (by simp [partsB])
    have p3 := hpl 3 (by simp [partsB])
    have p4 := hpl 4 (by simp [partsB])
    simp [partsB] at p0 p1 p2 p3 p4
    have r8 := hF.r8
    have f8 := hF.f8
    have i8 := hF.i8
    have n16 := hF.n16
    have t16 := hF.t16
    obtain ⟨n0, h0⟩ : ∃ n, x.recs.length = n := ⟨_, rfl⟩
    obtain ⟨n1, h1⟩ : ∃ n, x.funcs.length = n := ⟨_, rfl⟩
    obtain ⟨n2, h2⟩ : ∃ n, x.imps.length = n := ⟨_, rfl⟩
    obtain ⟨n3, h3⟩ : ∃ n, x.ints.length = n := ⟨_, rfl⟩
    obtain ⟨n4, h4⟩ : ∃ n, x.texts.length = n := ⟨_, rfl⟩
    obtain ⟨y0, hy0⟩ : ∃ y, lB (lB tB) x.recs = y := ⟨_, rfl⟩
    obtain ⟨y1, hy1⟩ : ∃ y, lB fnB x.funcs = y := ⟨_, rfl⟩
    obtain ⟨y2, hy2⟩ : ∃ y, lB impB x.imps = y := ⟨_, rfl⟩
    obtain ⟨y3, hy3⟩ : ∃ y, lB numB x.ints = y := ⟨_, rfl⟩
    obtain ⟨y4, hy4⟩ : ∃ y, lB pt x.texts = y := ⟨_, rfl⟩
    have P0 : Hid (∀ w1, Below w.heap.size w w1 → Calls Tryz.prog 18 #[.slice A0 n0 d0, .func (.func 19) #[] #[]] w1 (Puts y0 w1)) := fun w1 hb => by
      rw [← hy0]
      refine putList_rec A0 n0 d0 x.recs w1 h0 ((s0.keep fun b hb1 => hb.block b hb1).wide fun b hb1 => Nat.lt_of_lt_of_le hb1 hb.size) (by omega) (by omega) fun w2 cs y hy hr => ?_
      obtain ⟨A, c, rfl, l1, l2, l3⟩ := hr
      have hz := rec_sizes (hF.recs y hy)
      have hzl := tys_len hF.r8 (by omega) hz.2
      exact putTypes_any A y.length c y w2 rfl l3 (by omega) (by omega)
    have P1 : Hid (∀ w1, Below w.heap.size w w1 → Calls Tryz.prog 20 #[.slice A1 n1 d1, .func (.func 21) #[] #[]] w1 (Puts y1 w1)) := fun w1 hb => by
      rw [← hy1]
      exact putList_fn A1 n1 d1 x.funcs w1 h1 ((s1.keep fun b hb1 => hb.block b hb1).wide fun b hb1 => Nat.lt_of_lt_of_le hb1 hb.size) (by omega) (by omega) fun w2 cs y hy hr => putFunction_any cs y _ w2 hF.r8 (hF.funcs y hy) hr
    have P2 : Hid (∀ w1, Below w.heap.size w w1 → Calls Tryz.prog 22 #[.slice A2 n2 d2, .func (.func 23) #[] #[]] w1 (Puts y2 w1)) := fun w1 hb => by
      rw [← hy2]
      exact putList_imp A2 n2 d2 x.imps w1 h2 ((s2.keep fun b hb1 => hb.block b hb1).wide fun b hb1 => Nat.lt_of_lt_of_le hb1 hb.size) (by omega) (by omega) fun w2 cs y hy hr => putImport_any cs y _ w2 hF.r8 (hF.imps y hy) hr
    have P3 : Hid (∀ w1, Below w.heap.size w w1 → Calls Tryz.prog 24 #[.slice A3 n3 d3, .func (.func 25) #[] #[]] w1 (Puts y3 w1)) := fun w1 hb => by
      rw [← hy3]
      refine putList_num A3 n3 d3 x.ints w1 h3 ((s3.keep fun b hb1 => hb.block b hb1).wide fun b hb1 => Nat.lt_of_lt_of_le hb1 hb.size) (by omega) (by omega) fun w2 cs y hy hr => ?_
      obtain ⟨rfl, hy64⟩ := hr
      exact putNumber_w y w2 hy64
    have P4 : Hid (∀ w1, Below w.heap.size w w1 → Calls Tryz.prog 26 #[.slice A4 n4 d4, .func (.func 27) #[] #[]] w1 (Puts y4 w1)) := fun w1 hb => by
      rw [← hy4]
      refine putList_str A4 n4 d4 x.texts w1 h4 ((s4.keep fun b hb1 => hb.block b hb1).wide fun b hb1 => Nat.lt_of_lt_of_le hb1 hb.size) (by omega) (by omega) fun w2 cs y hy hr => ?_
      obtain ⟨s, rfl, rfl⟩ := hr
      exact putText_w s w2 (by have := hF.texts _ hy; omega)
    have hlen := hF.len
    have HI : Hid (modB x = joinB [y0, y1, y2, y3, y4]) := by show modB x = _; rw [← hy0, ← hy1, ← hy2, ← hy3, ← hy4]; rfl
    have HZ : Hid ((joinB [y0, y1, y2, y3, y4]).length ≤ 1000000) := by show (joinB _).length ≤ _; rw [← HI.out]; omega
    rw [h0, h1, h2, h3, h4] at TF2 ⊢
    clear hF hf hpl p0 p1 p2 p3 p4 r8 f8 i8 n16 t16 h0 h1 h2 h3 h4 hy0 hy1 hy2 hy3 hy4 s0 s1 s2 s3 s4 l0 l1 l2 l3 l4 m0 m1 m2 m3 m4 hlen
    go_enter Tryz.func8, Tryz.ntmps8
    have HC : Hid (C5 w.heap.size (.slice A0 n0 d0) (.slice A1 n1 d1) (.slice A2 n2 d2) (.slice A3 n3 d3) (.slice A4 n4 d4) (w.alloc (.cells #[.slice A0 n0 d0, .slice A1 n1 d1, .slice A2 n2 d2, .slice A3 n3 d3, .slice A4 n4 d4] 28))) := by show C5 _ _ _ _ _ _ _; simp [C5, go_sem]
    go_wp2_with (first
      | (go_at_call 16
         refine (TF2.out _ (HB0.out _)).mono ?_
         rintro e W ⟨rfl, hb1⟩
         have HB := Lib.hid ((HB0.out _).trans (hb1.mono (by simp)))
         have HC0 := Lib.hid (HC.out.below hb1 (by simp))
         have hs : w.heap.size < W.heap.size := (by have := hb1.size; simp at this; omega)
         clear hb1))
    obtain ⟨z0, z1, z2, z3, z4⟩ := HC0.out
    go_region_held3 (fun w' => w'.cell? ⟨w.heap.size, 0, none⟩ = some (.slice A0 n0 d0) ∧ w'.cell? ⟨w.heap.size, 1, none⟩ = some (.slice A1 n1 d1) ∧ w'.cell? ⟨w.heap.size, 2, none⟩ = some (.slice A2 n2 d2) ∧ w'.cell? ⟨w.heap.size, 3, none⟩ = some (.slice A3 n3 d3) ∧ w'.cell? ⟨w.heap.size, 4, none⟩ = some (.slice A4 n4 d4))
      (first | exact HC6.out | exact HC5.out | exact HC5.out.below (Below.alloc (Below.refl _ _) (Nat.le_refl _) _) HS5.out | exact HC4.out | exact HC3.out | exact HC2.out | exact HC1.out | exact HC0.out)
      (first
        | (go_at_call 18
           refine (P0.out _ HB.out.drew).mono ?_
           rintro e w1 ⟨u1, rfl, hown1, hb1⟩
           obtain ⟨B0, f0, rfl, hy0⟩ := Yb.of hown1
           have Y0a := Lib.hid hy0
           have HB1 := Lib.hid (HB.out.drew.trans (hb1.mono HB.out.size))
           have HC1 := Lib.hid (C5.below (w := W.drew) HC0.out hb1 hs)
           have HS1 := Lib.hid (Nat.lt_of_lt_of_le hs hb1.size)
           clear hown1 hb1 hy0)
        | (go_at_call 20
           refine (P1.out _ HB1.out).mono ?_
           rintro e w2 ⟨u2, rfl, hown2, hb2⟩
           obtain ⟨B1, f1, rfl, hy1⟩ := Yb.of hown2
           have Y0b := Lib.hid (Y0a.out.below hb2)
           have Y1a := Lib.hid hy1
           have HB2 := Lib.hid (HB1.out.trans (hb2.mono HB1.out.size))
           have HC2 := Lib.hid (HC1.out.below hb2 HS1.out)
           have HS2 := Lib.hid (Nat.lt_of_lt_of_le HS1.out hb2.size)
           clear hown2 hb2 hy1)
        | (go_at_call 22
           refine (P2.out _ HB2.out).mono ?_
           rintro e w3 ⟨u3, rfl, hown3, hb3⟩
           obtain ⟨B2, f2, rfl, hy2⟩ := Yb.of hown3
           have Y0c := Lib.hid (Y0b.out.below hb3)
           have Y1b := Lib.hid (Y1a.out.below hb3)
           have Y2a := Lib.hid hy2
           have HB3 := Lib.hid (HB2.out.trans (hb3.mono HB2.out.size))
           have HC3 := Lib.hid (HC2.out.below hb3 HS2.out)
           have HS3 := Lib.hid (Nat.lt_of_lt_of_le HS2.out hb3.size)
           clear hown3 hb3 hy2)
        | (go_at_call 24
           refine (P3.out _ HB3.out).mono ?_
           rintro e w4 ⟨u4, rfl, hown4, hb4⟩
           obtain ⟨B3, f3, rfl, hy3⟩ := Yb.of hown4
           have Y0d := Lib.hid (Y0c.out.below hb4)
           have Y1c := Lib.hid (Y1b.out.below hb4)
           have Y2b := Lib.hid (Y2a.out.below hb4)
           have Y3a := Lib.hid hy3
           have HB4 := Lib.hid (HB3.out.trans (hb4.mono HB3.out.size))
           have HC4 := Lib.hid (HC3.out.below hb4 HS3.out)
           have HS4 := Lib.hid (Nat.lt_of_lt_of_le HS3.out hb4.size)
           clear hown4 hb4 hy3)
        | (go_at_call 26
           refine (P4.out _ HB4.out).mono ?_
           rintro e w5 ⟨u5, rfl, hown5, hb5⟩
           obtain ⟨B4, f4, rfl, hy4⟩ := Yb.of hown5
           have Y0 := Lib.hid (Y0d.out.below hb5)
           have Y1 := Lib.hid (Y1c.out.below hb5)
           have Y2 := Lib.hid (Y2b.out.below hb5)
           have Y3 := Lib.hid (Y3a.out.below hb5)
           have Y4 := Lib.hid hy4
           have HB5 := Lib.hid (HB4.out.trans (hb5.mono HB4.out.size))
           have HC5 := Lib.hid (HC4.out.below hb5 HS4.out)
           have HS5 := Lib.hid (Nat.lt_of_lt_of_le HS4.out hb5.size)
           clear hown5 hb5 hy4)
        | (go_at_call 17
           refine (join_any _ _ _ [y0, y1, y2, y3, y4] _ rfl (rws_five w5 B0 B1 B2 B3 B4 f0 f1 f2 f3 f4 y0 y1 y2 y3 y4 Y0.out Y1.out Y2.out Y3.out Y4.out) HZ.out).mono ?_
           rintro e w6 ⟨u6, rfl, hown6, hb6⟩
           have HO6 := Lib.hid hown6
           have Hb6 := Lib.hid hb6
           have HC6 := Lib.hid ((HC5.out.below (Below.alloc (Below.refl _ _) (Nat.le_refl _) _) HS5.out).below hb6 (by simp; have := HS5.out; omega))
           clear hown6 hb6))
    go_wp2_with fail
    go_ret2
    refine ⟨(HB5.out.alloc HB5.out.size _).trans (Hb6.out.mono (by simp; have := HB5.out.size; omega)), .inr ⟨HF.out, _, rfl, ?_⟩⟩
    rw [HI.out]
    exact own_wide HO6.out (by simp; have := HB5.out.size; omega)

/-- The sum of a module's bytes, or 0. -/
def printN (m : Mod) : Nat := if fitB m = true then crc (modB m) else 0

set_option maxRecDepth 100000 in
theorem print_any (cs : List Value) (x : Mod) (w : World) (h : modL.R (· < w.heap.size) w cs x) (hb : ∀ s ∈ x.texts, ∀ z ∈ s, z < 256) :
    Calls Tryz.prog 10 #[vAgg cs] w fun e w' => e = .returned (.int .u32 ((printN x : Nat) : Int)) ∧ Below w.heap.size w w' := by
  have TE : Hid (∀ w1, Below w.heap.size w w1 → Calls Tryz.prog 8 #[vAgg cs] w1 (Encodes x w1)) := fun w1 hb => encode_any cs x w1 (modL.wide (modL.keep h fun b hb1 => hb.block b hb1) fun b hb1 => Nat.lt_of_lt_of_le hb1 hb.size)
  obtain ⟨_, _, _, _, _, rfl, ⟨A0, d0, e0, -⟩, ⟨A1, d1, e1, -⟩, ⟨A2, d2, e2, -⟩, ⟨A3, d3, e3, -⟩, ⟨A4, d4, e4, -⟩⟩ := h
  simp only [List.cons.injEq, and_true] at e0 e1 e2 e3 e4
  subst e0 e1 e2 e3 e4
  have TE2 : Hid (∀ w1, Below w.heap.size w w1 → Calls Tryz.prog 8 #[.agg #[.slice A0 x.recs.length d0, .slice A1 x.funcs.length d1, .slice A2 x.imps.length d2, .slice A3 x.ints.length d3, .slice A4 x.texts.length d4]] w1 (Encodes x w1)) := TE.out
  clear TE
  show Calls Tryz.prog 10 #[.agg #[.slice A0 x.recs.length d0, .slice A1 x.funcs.length d1, .slice A2 x.imps.length d2, .slice A3 x.ints.length d3, .slice A4 x.texts.length d4]] w _
  have HB0 : Hid (∀ o : Obj, Below w.heap.size w (w.alloc o)) := fun o => (Below.refl _ _).alloc (Nat.le_refl _) _
  have Hy := Lib.hid (modB_bytes x hb)
  have HL : Hid (fitB x = true → (modB x).length ≤ 30000) := fun h => (fitB_iff.1 h).len
  obtain ⟨b, hfb⟩ : ∃ b, fitB x = b := ⟨_, rfl⟩
  have HP : Hid (printN x = if b = true then crc (modB x) else 0) := by show printN x = _; rw [printN, hfb]
  obtain ⟨N, hN⟩ : ∃ N, printN x = N := ⟨_, rfl⟩
  rw [hN] at HP ⊢
  have HF := Lib.hid hfb
  clear hfb hN hb
  generalize x.recs.length = n0 at *
  generalize x.funcs.length = n1 at *
  generalize x.imps.length = n2 at *
  generalize x.ints.length = n3 at *
  generalize x.texts.length = n4 at *
  cases b
  · go_enter Tryz.func10, Tryz.ntmps10
    go_wp2_with (first
      | (go_at_call 8
         refine (TE2.out _ (HB0.out _)).mono ?_
         rintro e w1 ⟨hb1, ⟨h1, rfl⟩ | ⟨h1, h2⟩⟩
         rotate_left
         · rw [HF.out] at h1
           cases h1
         have HB1 := Lib.hid ((HB0.out _).trans (hb1.mono (by simp)))
         clear hb1 h1))
    go_ret
    exact ⟨by rw [HP.out]; rfl, HB1.out⟩
  · go_enter Tryz.func10, Tryz.ntmps10
    go_wp2_with (first
      | (go_at_call 8
         refine (TE2.out _ (HB0.out _)).mono ?_
         rintro e w1 ⟨hb1, ⟨h1, h2⟩ | ⟨h1, u, rfl, hown⟩⟩
         · rw [HF.out] at h1
           cases h1
         obtain ⟨A5, c5, rfl, hl5, -, -, hY5⟩ := own_slice hown
         have HB1 := Lib.hid ((HB0.out _).trans (hb1.mono (by simp)))
         have HY := Lib.hid hY5
         clear hb1 hown hY5 hl5 h1)
      | (go_at_call 35
         refine (of_any A5 _ c5 (modB x) w1 _ rfl Hy.out HY.out (by have := HL.out HF.out; omega)).mono ?_
         rintro e w2 ⟨rfl, rfl⟩))
    go_ret
    exact ⟨by rw [HP.out]; rfl, HB1.out⟩
end Go.Proofs.YtngjnkkdhjholaaGreat
