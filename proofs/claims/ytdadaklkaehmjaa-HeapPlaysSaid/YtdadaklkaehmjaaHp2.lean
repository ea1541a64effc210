/-
  Words for the law HeapPlays: the law's own objects beside a heap, and what each act does to both.
  Conditions: as each theorem says.
-/
import Derived.Test.YtdadaklkaehmjaaHan
import Derived.Test.YtdadaklkaehmjaaHs
import Derived.Test.YtdadaklkaehmjaaHp1
import Derived.Test.YtdadaklkaehmjaaOac
namespace Go.Proofs.Ytdadaklkaehmjaa
open Go.RowKit
set_option linter.unusedSimpArgs false
set_option linter.unusedVariables false

/-- The law's own objects Om in the slice .slice A n c, and a heap at g of the objects Oh: apart, in blocks from n0 on; below n0, and in the blocks of D since wd, nothing has turned. -/
def Pl (D : Nat → Prop) (wd : World) (n0 : Nat) (w : World) (g : Nat) (q U : Int) (A : Option Addr) (n c : Nat) (Om Oh : List Ob) (X : World) : Prop :=
  Below n0 w X ∧ n0 ≤ X.heap.size ∧ Om.length = n ∧ n ≤ 1000 ∧ Oh.length ≤ 1000 ∧ (∀ o ∈ Om, o.small) ∧ (∀ o ∈ Oh, o.small) ∧
  ∃ Sm Sh tag css, Row Sm tag X (.slice A n c) css Om ∧ IsHp Sh X g Oh q U ∧ (∀ b, Sm b → n0 ≤ b ∧ b < X.heap.size) ∧ (∀ b, Sh b → n0 ≤ b ∧ b < X.heap.size) ∧ (∀ b, Sm b → ¬ Sh b) ∧ ∀ b, D b → b < X.heap.size ∧ X.heap[b]? = wd.heap[b]? ∧ ¬ Sm b ∧ ¬ Sh b
section
variable {D : Nat → Prop} {wd : World} {n0 : Nat} {w X Y : World} {g : Nat} {q U : Int} {A : Option Addr} {n c : Nat} {Om Oh : List Ob}
theorem Pl.below (h : Pl D wd n0 w g q U A n c Om Oh X) (hb : Below X.heap.size X Y) : Pl D wd n0 w g q U A n c Om Oh Y := by
  obtain ⟨h1, h2, h3, h4, h5, h6, h7, Sm, Sh, tag, css, hr, hp, hm, hh, hd⟩ := h
  exact ⟨h1.trans (hb.mono h2), Nat.le_trans h2 hb.size, h3, h4, h5, h6, h7, Sm, Sh, tag, css, hr.keep fun b hb1 _ => hb.block b (hm b hb1).2, hp.keep (fun b hb1 _ => hb.block b hb1) fun b hb1 => (hh b hb1).2, fun b hb1 => ⟨(hm b hb1).1, Nat.lt_of_lt_of_le (hm b hb1).2 hb.size⟩, fun b hb1 => ⟨(hh b hb1).1, Nat.lt_of_lt_of_le (hh b hb1).2 hb.size⟩, hd.1, fun b hb1 => ⟨Nat.lt_of_lt_of_le (hd.2 b hb1).1 hb.size, (hb.block b (hd.2 b hb1).1).trans (hd.2 b hb1).2.1, (hd.2 b hb1).2.2⟩⟩
/-- A block made behind it. -/
theorem Pl.box {b : Nat} (h : Pl D wd n0 w g q U A n c Om Oh X) (hb : Below X.heap.size X Y) (hlt : X.heap.size ≤ b ∧ b < Y.heap.size) : Pl (· = b) Y n0 w g q U A n c Om Oh Y := by
  obtain ⟨h1, h2, h3, h4, h5, h6, h7, Sm, Sh, tag, css, hr, hp, hm, hh, hd⟩ := h.below hb
  obtain ⟨-, -, -, -, -, -, -, Sm, Sh, tag, css, hr, hp, hm, hh, hd⟩ := h
  refine ⟨h1, h2, h3, h4, h5, h6, h7, Sm, Sh, tag, css, hr.keep fun b hb1 _ => hb.block b (hm b hb1).2, hp.keep (fun b hb1 _ => hb.block b hb1) fun b hb1 => (hh b hb1).2, fun b hb1 => ⟨(hm b hb1).1, Nat.lt_of_lt_of_le (hm b hb1).2 hb.size⟩, fun b hb1 => ⟨(hh b hb1).1, Nat.lt_of_lt_of_le (hh b hb1).2 hb.size⟩, hd.1, ?_⟩
  rintro b' rfl
  exact ⟨hlt.2, rfl, fun q => by have := (hm _ q).2; omega, fun q => by have := (hh _ q).2; omega⟩
theorem Pl.at {b ty : Nat} {cs : Array Value} (h : Pl (· = b) wd n0 w g q U A n c Om Oh X) (hb : Blk wd b ty cs) : Blk X b ty cs := by
  obtain ⟨-, -, -, -, -, -, -, Sm, Sh, tag, css, -, -, -, -, -, hd⟩ := h
  exact (hd b rfl).2.1.trans hb
theorem Pl.lt {b : Nat} (h : Pl (· = b) wd n0 w g q U A n c Om Oh X) : b < X.heap.size := by
  obtain ⟨-, -, -, -, -, -, -, Sm, Sh, tag, css, -, -, -, -, -, hd⟩ := h
  exact (hd b rfl).1
theorem Pl.free {wd' : World} (h : Pl D wd n0 w g q U A n c Om Oh X) : Pl (fun _ => False) wd' n0 w g q U A n c Om Oh X := by
  obtain ⟨h1, h2, h3, h4, h5, h6, h7, Sm, Sh, tag, css, hr, hp, hm, hh, hd⟩ := h
  exact ⟨h1, h2, h3, h4, h5, h6, h7, Sm, Sh, tag, css, hr, hp, hm, hh, hd.1, fun b hb => hb.elim⟩
theorem set_small {O : List Ob} {r i x : Nat} (h : ∀ o ∈ O, o.small) : (∀ o ∈ (setWordA O r i x).1, o.small) ∧ (setWordA O r i x).1.length = O.length := by
  unfold setWordA
  cases ha : atO O r with
  | none => exact ⟨h, rfl⟩
  | some o =>
    obtain ⟨-, -, ho⟩ := atO_some ha
    have hs := h o (List.mem_of_getElem? ho)
    dsimp only
    split
    · refine ⟨fun p hp => ?_, by simp⟩
      rcases List.mem_or_eq_of_mem_set hp with h1 | h1
      · exact h p h1
      · rw [h1]
        exact ⟨by show (o.words.set i x).length ≤ _; rw [List.length_set]; exact hs.1, hs.2⟩
    · exact ⟨h, rfl⟩
theorem setB_small {O : List Ob} {r i x : Nat} (h : ∀ o ∈ O, o.small) : (∀ o ∈ (setByteA O r i x).1, o.small) ∧ (setByteA O r i x).1.length = O.length := by
  unfold setByteA
  cases ha : atO O r with
  | none => exact ⟨h, rfl⟩
  | some o =>
    obtain ⟨-, -, ho⟩ := atO_some ha
    have hs := h o (List.mem_of_getElem? ho)
    dsimp only
    split
    · refine ⟨fun p hp => ?_, by simp⟩
      rcases List.mem_or_eq_of_mem_set hp with h1 | h1
      · exact h p h1
      · rw [h1]
        exact ⟨hs.1, by show (o.bytes.set i x).length ≤ _; rw [List.length_set]; exact hs.2⟩
    · exact ⟨h, rfl⟩
theorem pl_word (r i : Nat) (h : Pl D wd n0 w g q U A n c Om Oh X) (h64 : r < B64) (hi : i < B64) : Calls Try.prog 14 #[.pointer (some ⟨g, 0, none⟩), .int .u64 (r : Int), .int .u64 (i : Int)] X fun e w' => e = .returned (.tuple #[.int .u64 ((wordA Oh r i).1 : Int), .int .i64 (wordA Oh r i).2]) ∧ Pl D wd n0 w g q U A n c Om Oh w' := by
  have h' := h
  obtain ⟨-, -, -, -, h5, -, h7, Sm, Sh, tag, css, -, hp, -⟩ := h'
  exact (word_any g r i X hp h64 hi (by omega) h7).mono fun e w' q => ⟨q.1, h.below q.2⟩
theorem pl_byte (r i : Nat) (h : Pl D wd n0 w g q U A n c Om Oh X) (h64 : r < B64) (hi : i < B64) : Calls Try.prog 17 #[.pointer (some ⟨g, 0, none⟩), .int .u64 (r : Int), .int .u64 (i : Int)] X fun e w' => e = .returned (.tuple #[.int .u64 ((byteA Oh r i).1 : Int), .int .i64 (byteA Oh r i).2]) ∧ Pl D wd n0 w g q U A n c Om Oh w' := by
  have h' := h
  obtain ⟨-, -, -, -, h5, -, h7, Sm, Sh, tag, css, -, hp, -⟩ := h'
  exact (byte_any g r i X hp h64 hi (by omega) h7).mono fun e w' q => ⟨q.1, h.below q.2⟩
theorem pl_len (r : Nat) (h : Pl D wd n0 w g q U A n c Om Oh X) (h64 : r < B64) : Calls Try.prog 19 #[.pointer (some ⟨g, 0, none⟩), .int .u64 (r : Int)] X fun e w' => e = .returned (.tuple #[.int .i64 (lenA Oh r).1, .int .i64 (lenA Oh r).2]) ∧ Pl D wd n0 w g q U A n c Om Oh w' := by
  have h' := h
  obtain ⟨-, -, -, -, h5, -, h7, Sm, Sh, tag, css, -, hp, -⟩ := h'
  exact (len_any g r X hp h64 (by omega) h7).mono fun e w' q => ⟨q.1, h.below q.2⟩
theorem Pl.trnH {Oh' : List Ob} {U' : Int} {Sh : Nat → Prop} {Sm : Nat → Prop} {tag : Nat → Nat} {css : List (List Value)} (h1 : Below n0 w X) (h2 : n0 ≤ X.heap.size) (hm : ∀ b, Sm b → n0 ≤ b ∧ b < X.heap.size) (hh : ∀ b, Sh b → n0 ≤ b ∧ b < X.heap.size) (hd : (∀ b, Sm b → ¬ Sh b) ∧ ∀ b, D b → b < X.heap.size ∧ X.heap[b]? = wd.heap[b]? ∧ ¬ Sm b ∧ ¬ Sh b) (hr : Row Sm tag X (.slice A n c) css Om) (h3 : Om.length = n) (h4 : n ≤ 1000) (h6 : ∀ o ∈ Om, o.small)
    (h5 : Oh'.length ≤ 1000) (h7 : ∀ o ∈ Oh', o.small) (hp : IsHp (fun b => Sh b ∨ (X.heap.size ≤ b ∧ b < Y.heap.size)) Y g Oh' q U') (ht : Trn Sh X Y) : Pl D wd n0 w g q U' A n c Om Oh' Y := by
  have hs := ht.size
  refine ⟨h1.trans (ht.below h2 fun b hb => (hh b hb).1), by omega, h3, h4, h5, h6, h7, Sm, _, tag, css, hr.keep fun b hb _ => ht.block b (hm b hb).2 (hd.1 b hb), hp, fun b hb => ⟨(hm b hb).1, by have := (hm b hb).2; omega⟩, fun b hb => ?_, fun b hb hb2 => ?_, fun b hb => ?_⟩
  · rcases hb with hb | hb
    · exact ⟨(hh b hb).1, by have := (hh b hb).2; omega⟩
    · exact ⟨by omega, hb.2⟩
  · rcases hb2 with hb2 | hb2
    · exact hd.1 b hb hb2
    · have := (hm b hb).2; omega
  · obtain ⟨d1, d2, d3, d4⟩ := hd.2 b hb
    exact ⟨by omega, (ht.block b d1 d4).trans d2, d3, fun q => by rcases q with q | q; exact d4 q; omega⟩
theorem pl_setWord (r i x : Nat) (h : Pl D wd n0 w g q U A n c Om Oh X) (h64 : r < B64) (hi : i < B64) (hx : x < B64) : Calls Try.prog 16 #[.pointer (some ⟨g, 0, none⟩), .int .u64 (r : Int), .int .u64 (i : Int), .int .u64 (x : Int)] X fun e w' => e = .returned (.int .i64 (setWordA Oh r i x).2) ∧ Pl D wd n0 w g q U A n c Om (setWordA Oh r i x).1 w' := by
  obtain ⟨h1, h2, h3, h4, h5, h6, h7, Sm, Sh, tag, css, hr, hp, hm, hh, hd⟩ := h
  refine (setWord_any g r i x X hp h64 hi hx (by omega) h7 fun b hb => (hh b hb).2).mono fun e w' q => ⟨q.1, ?_⟩
  have hz := set_small (r := r) (i := i) (x := x) h7
  exact Pl.trnH h1 h2 hm hh hd hr h3 h4 h6 (by rw [hz.2]; exact h5) hz.1 (q.2.1.wide fun b hb => .inl hb) q.2.2
theorem pl_setByte (r i x : Nat) (h : Pl D wd n0 w g q U A n c Om Oh X) (h64 : r < B64) (hi : i < B64) (hx : x < B64) : Calls Try.prog 18 #[.pointer (some ⟨g, 0, none⟩), .int .u64 (r : Int), .int .u64 (i : Int), .int .u64 (x : Int)] X fun e w' => e = .returned (.int .i64 (setByteA Oh r i (x % 256)).2) ∧ Pl D wd n0 w g q U A n c Om (setByteA Oh r i (x % 256)).1 w' := by
  obtain ⟨h1, h2, h3, h4, h5, h6, h7, Sm, Sh, tag, css, hr, hp, hm, hh, hd⟩ := h
  refine (setByte_any g r i x X hp h64 hi hx (by omega) h7 fun b hb => (hh b hb).2).mono fun e w' q => ⟨q.1, ?_⟩
  have hz := setB_small (r := r) (i := i) (x := x % 256) h7
  exact Pl.trnH h1 h2 hm hh hd hr h3 h4 h6 (by rw [hz.2]; exact h5) hz.1 (q.2.1.wide fun b hb => .inl hb) q.2.2
/-- The law's own answers. -/
theorem pl_same_word (r i x : Nat) (z0 z1 z2 z3 : Value) (h : Pl D wd n0 w g q U A n c Om Oh X) (h64 : r < B64) (hi : i < B64) (hx : x < B64) : Calls Try.prog 15 #[.slice A n c, .agg #[.int .i64 1, z0, z1, z2, z3, .int .u64 (r : Int), .int .u64 (i : Int), .int .u64 (x : Int)]] X fun e w' => e = .returned (.tuple #[.int .u64 ((wordA Om r i).1 : Int), .int .i64 (wordA Om r i).2]) ∧ Pl D wd n0 w g q U A n c Om Oh w' := by
  have h' := h
  obtain ⟨-, -, h3, h4, h5, h6, h7, Sm, Sh, tag, css, hr, -⟩ := h'
  exact (same_word A n c r i x z0 z1 z2 z3 X hr h3 h64 hi hx (by omega) h6).mono fun e w' q => ⟨q.1, h.below q.2⟩
theorem pl_same_byte (r i x : Nat) (z0 z1 z2 z3 : Value) (h : Pl D wd n0 w g q U A n c Om Oh X) (h64 : r < B64) (hi : i < B64) (hx : x < B64) : Calls Try.prog 15 #[.slice A n c, .agg #[.int .i64 3, z0, z1, z2, z3, .int .u64 (r : Int), .int .u64 (i : Int), .int .u64 (x : Int)]] X fun e w' => e = .returned (.tuple #[.int .u64 ((byteA Om r i).1 : Int), .int .i64 (byteA Om r i).2]) ∧ Pl D wd n0 w g q U A n c Om Oh w' := by
  have h' := h
  obtain ⟨-, -, h3, h4, h5, h6, h7, Sm, Sh, tag, css, hr, -⟩ := h'
  exact (same_byte A n c r i x z0 z1 z2 z3 X hr h3 h64 hi hx (by omega) h6).mono fun e w' q => ⟨q.1, h.below q.2⟩
theorem pl_same_len (r i x : Nat) (z0 z1 z2 z3 : Value) (h : Pl D wd n0 w g q U A n c Om Oh X) (h64 : r < B64) (hi : i < B64) (hx : x < B64) : Calls Try.prog 15 #[.slice A n c, .agg #[.int .i64 5, z0, z1, z2, z3, .int .u64 (r : Int), .int .u64 (i : Int), .int .u64 (x : Int)]] X fun e w' => e = .returned (.tuple #[.int .u64 (lenA Om r).1, .int .i64 (lenA Om r).2]) ∧ Pl D wd n0 w g q U A n c Om Oh w' := by
  have h' := h
  obtain ⟨-, -, h3, h4, h5, h6, h7, Sm, Sh, tag, css, hr, -⟩ := h'
  exact (same_len A n c r i x z0 z1 z2 z3 X hr h3 h64 hi hx (by omega) h6).mono fun e w' q => ⟨q.1, h.below q.2⟩
theorem Pl.trnM {Om' : List Ob} {Sm Sh : Nat → Prop} {tag : Nat → Nat} {css : List (List Value)} (h1 : Below n0 w X) (h2 : n0 ≤ X.heap.size) (hm : ∀ b, Sm b → n0 ≤ b ∧ b < X.heap.size) (hh : ∀ b, Sh b → n0 ≤ b ∧ b < X.heap.size) (hd : (∀ b, Sm b → ¬ Sh b) ∧ ∀ b, D b → b < X.heap.size ∧ X.heap[b]? = wd.heap[b]? ∧ ¬ Sm b ∧ ¬ Sh b) (hp : IsHp Sh X g Oh q U) (h5 : Oh.length ≤ 1000) (h7 : ∀ o ∈ Oh, o.small)
    (h3 : Om'.length = n) (h4 : n ≤ 1000) (h6 : ∀ o ∈ Om', o.small) (hr : Row Sm tag Y (.slice A n c) css Om') (ht : Trn Sm X Y) : Pl D wd n0 w g q U A n c Om' Oh Y := by
  have hs := ht.size
  exact ⟨h1.trans (ht.below h2 fun b hb => (hm b hb).1), by omega, h3, h4, h5, h6, h7, Sm, Sh, tag, css, hr, hp.keep (fun b hb hb2 => ht.block b hb fun hb3 => hd.1 b hb3 hb2) (fun b hb => (hh b hb).2), fun b hb => ⟨(hm b hb).1, by have := (hm b hb).2; omega⟩, fun b hb => ⟨(hh b hb).1, by have := (hh b hb).2; omega⟩, hd.1, fun b hb => ⟨by have := (hd.2 b hb).1; omega, (ht.block b (hd.2 b hb).1 (hd.2 b hb).2.2.1).trans (hd.2 b hb).2.1, (hd.2 b hb).2.2⟩⟩
theorem pl_same_setWord (r i x : Nat) (z0 z1 z2 z3 : Value) (h : Pl D wd n0 w g q U A n c Om Oh X) (h64 : r < B64) (hi : i < B64) (hx : x < B64) : Calls Try.prog 15 #[.slice A n c, .agg #[.int .i64 2, z0, z1, z2, z3, .int .u64 (r : Int), .int .u64 (i : Int), .int .u64 (x : Int)]] X fun e w' => ∃ y, e = .returned (.tuple #[.int .u64 y, .int .i64 (setWordA Om r i x).2]) ∧ Pl D wd n0 w g q U A n c (setWordA Om r i x).1 Oh w' := by
  obtain ⟨h1, h2, h3, h4, h5, h6, h7, Sm, Sh, tag, css, hr, hp, hm, hh, hd⟩ := h
  refine (same_setWord A n c r i x z0 z1 z2 z3 X hr h3 h64 hi hx (by omega) h6 fun b hb => (hm b hb).2).mono fun e w' ⟨y, e1, e2, e3⟩ => ⟨y, e1, ?_⟩
  have hz := set_small (r := r) (i := i) (x := x) h6
  exact Pl.trnM h1 h2 hm hh hd hp h5 h7 (hz.2.trans h3) h4 hz.1 e2 e3
theorem pl_same_setByte (r i x : Nat) (z0 z1 z2 z3 : Value) (h : Pl D wd n0 w g q U A n c Om Oh X) (h64 : r < B64) (hi : i < B64) (hx : x < B64) : Calls Try.prog 15 #[.slice A n c, .agg #[.int .i64 4, z0, z1, z2, z3, .int .u64 (r : Int), .int .u64 (i : Int), .int .u64 (x : Int)]] X fun e w' => ∃ y, e = .returned (.tuple #[.int .u64 y, .int .i64 (setByteA Om r i (x % 256)).2]) ∧ Pl D wd n0 w g q U A n c (setByteA Om r i (x % 256)).1 Oh w' := by
  obtain ⟨h1, h2, h3, h4, h5, h6, h7, Sm, Sh, tag, css, hr, hp, hm, hh, hd⟩ := h
  refine (same_setByte A n c r i x z0 z1 z2 z3 X hr h3 h64 hi hx (by omega) h6 fun b hb => (hm b hb).2).mono fun e w' ⟨y, e1, e2, e3⟩ => ⟨y, e1, ?_⟩
  have hz := setB_small (r := r) (i := i) (x := x % 256) h6
  exact Pl.trnM h1 h2 hm hh hd hp h5 h7 (hz.2.trans h3) h4 hz.1 e2 e3
/-- One object more in the heap, or none. -/
theorem pl_add_full (cs : List Value) (o : Ob) (h : Pl D wd n0 w g q U A n c Om Oh X) (ho : obL.R (· < X.heap.size) X cs o) (hz : o.small) (hq : -4000000000000 ≤ q ∧ q ≤ 4000000000000) (hu : -4000000000000 ≤ U ∧ U ≤ 4000000000000) (hf : q - o.cost < U) :
    Calls Try.prog 11 #[.pointer (some ⟨g, 0, none⟩), vAgg cs] X fun e w' => e = .returned (.tuple #[.int .u64 0, .bool false]) ∧ Pl D wd n0 w g q U A n c Om Oh w' := by
  have h' := h
  obtain ⟨-, -, -, -, h5, -, h7, Sm, Sh, tag, css, -, hp, -, hh, -⟩ := h'
  exact (add_full cs o g X hp ho hz (by omega) hq hu (fun b hb => (hh b hb).2) (.inl hf)).mono fun e w' q => ⟨q.1, h.below q.2⟩
theorem pl_add_fits (cs : List Value) (o : Ob) (h : Pl D wd n0 w g q U A n c Om Oh X) (ho : obL.R (· < X.heap.size) X cs o) (hz : o.small) (hq : -4000000000000 ≤ q ∧ q ≤ 4000000000000) (hu : -4000000000000 ≤ U ∧ U ≤ 4000000000000) (hf : ¬ (q - o.cost < U)) (hlt : Oh.length < 1000) :
    Calls Try.prog 11 #[.pointer (some ⟨g, 0, none⟩), vAgg cs] X fun e w' => e = .returned (.tuple #[.int .u64 ((Oh.length : Int) + 1), .bool true]) ∧ Pl D wd n0 w g q (U + o.cost) A n c Om (Oh ++ [o]) w' := by
  obtain ⟨h1, h2, h3, h4, h5, h6, h7, Sm, Sh, tag, css, hr, hp, hm, hh, hd⟩ := h
  refine (add_fits cs o g X hp ho hz hq hu (fun b hb => (hh b hb).2) fun hF => by rcases hF with hF | hF; exact hf hF; omega).mono fun e w' q => ⟨q.1, ?_⟩
  exact Pl.trnH h1 h2 hm hh hd hr h3 h4 h6 (by simp; omega) (fun p hp' => by
    rcases List.mem_append.1 hp' with h | h
    · exact h7 p h
    · simp at h; rw [h]; exact hz) q.2.1 q.2.2
end
/-- A copied object behind the law's own. -/
theorem push_copy {S0 : Nat → Prop} {tag0 tag1 : Nat → Nat} {wr w1 w2 : World} {v0 v1 v2 : Value} {css css1 : List (List Value)} {cs : List Value} {O : List Ob} {o : Ob} {ob : Obj} (h0 : Row S0 tag0 wr v0 css O) (hS : ∀ b, S0 b → b < wr.heap.size) (hb : Below wr.heap.size wr w1) (h1 : Row (fun b => wr.heap.size ≤ b ∧ b < w1.heap.size) tag1 w1 v1 css1 [o]) (hc : css1[0]? = some cs)
    (hown : w2.ownsRow 0 28 4 v2 (O.length + 1) (css.flatten ++ cs)) (hg : (w1.alloc ob).grownBy w2 v0.ownBlock) (hv : v2.ownBlock = v0.ownBlock ∨ v2.ownBlock = some (w1.alloc ob).heap.size) :
    (∃ tag, Row (fun b => S0 b ∨ (wr.heap.size ≤ b ∧ b < w2.heap.size)) tag w2 v2 (css ++ [cs]) (O ++ [o])) ∧ Trn S0 wr w2 := by
  have hs1 := hb.size
  have sa : (w1.alloc ob).heap.size = w1.heap.size + 1 := by simp
  have s2 : w1.heap.size + 1 ≤ w2.heap.size := by have := hg.size; omega
  have hba : Below wr.heap.size wr (w1.alloc ob) := hb.alloc hs1 _
  have hr := h0.keep (w' := w1.alloc ob) fun b hb1 _ => hba.block b (hS b hb1)
  have ho := h1.2.2.2 0 o cs rfl hc
  have ho' : Obj1 (fun b => (wr.heap.size ≤ b ∧ b < w1.heap.size) ∧ tag1 b = 2 * 0 + 2) (fun b => (wr.heap.size ≤ b ∧ b < w1.heap.size) ∧ tag1 b = 2 * 0 + 3) (w1.alloc ob) cs o := ho.keep (fun b hb => Below.heap_alloc _ _ _ hb.1.2) fun b hb => Below.heap_alloc _ _ _ hb.1.2
  obtain ⟨tag, hrow, -⟩ := hr.push (fun b hb1 => by have := hS b hb1; omega) ho' (fun b hb1 => ⟨by omega, fun q => by have := hS b q; omega⟩) (fun b hb1 => ⟨by omega, fun q => by have := hS b q; omega⟩) (fun b hb1 hb2 => by omega) hown hg hv
  refine ⟨⟨tag, hrow.wide fun b hb1 => ?_⟩, (Trn.of_below hba).trans (T := S0) ⟨hg.os, hg.tape, hg.output, hg.size, fun b hb1 hn => hg.block b hb1 fun e => hn (hr.2.2.1 b e.symm).1⟩ fun _ _ q => q⟩
  rcases hb1 with h | h | h | h
  · exact .inl h
  · exact .inr (by omega)
  · exact .inr (by omega)
  · exact .inr (by omega)
theorem Pl.push {D : Nat → Prop} {wd : World} {n0 : Nat} {w X w1 w2 : World} {g : Nat} {q U : Int} {A : Option Addr} {n c : Nat} {Om Oh : List Ob} {Sm Sh : Nat → Prop} {tag tag1 : Nat → Nat} {v1 v2 : Value} {css css1 : List (List Value)} {cs : List Value} {o : Ob} {ob : Obj}
    (h1 : Below n0 w X) (h2 : n0 ≤ X.heap.size) (h3 : Om.length = n) (h4 : n < 1000) (h5 : Oh.length ≤ 1000) (h6 : ∀ o ∈ Om, o.small) (h7 : ∀ o ∈ Oh, o.small) (hr : Row Sm tag X (.slice A n c) css Om) (hp : IsHp Sh X g Oh q U) (hm : ∀ b, Sm b → n0 ≤ b ∧ b < X.heap.size) (hh : ∀ b, Sh b → n0 ≤ b ∧ b < X.heap.size)
    (hd : (∀ b, Sm b → ¬ Sh b) ∧ ∀ b, D b → b < X.heap.size ∧ X.heap[b]? = wd.heap[b]? ∧ ¬ Sm b ∧ ¬ Sh b) (hz : o.small) (hb : Below X.heap.size X w1) (hr1 : Row (fun b => X.heap.size ≤ b ∧ b < w1.heap.size) tag1 w1 v1 css1 [o]) (hc : css1[0]? = some cs)
    (hown : w2.ownsRow 0 28 4 v2 (n + 1) (css.flatten ++ cs)) (hg : (w1.alloc ob).grownBy w2 (Value.slice A n c).ownBlock) (hv : v2.ownBlock = (Value.slice A n c).ownBlock ∨ v2.ownBlock = some (w1.alloc ob).heap.size) :
    ∃ A2 c2, v2 = .slice A2 (n + 1) c2 ∧ Pl D wd n0 w g q U A2 (n + 1) c2 (Om ++ [o]) Oh w2 := by
  obtain ⟨⟨tag2, hrow⟩, ht⟩ := push_copy hr (fun b hb => (hm b hb).2) hb hr1 hc (by rw [h3]; exact hown) hg hv
  have hs := ht.size
  obtain ⟨A2, c2, rfl, -, -⟩ := hrow.shape
  have el : (Om ++ [o]).length = n + 1 := by rw [List.length_append, h3]; rfl
  rw [el] at hrow
  refine ⟨A2, c2, by rw [el], h1.trans (ht.below h2 fun b hb => (hm b hb).1), by omega, el, by omega, h5, fun p hp' => ?_, h7, _, Sh, tag2, _, hrow, hp.keep (fun b hb hb2 => ht.block b hb fun hb3 => hd.1 b hb3 hb2) (fun b hb => (hh b hb).2), fun b hb => ?_, fun b hb => ⟨(hh b hb).1, by have := (hh b hb).2; omega⟩, fun b hb hb2 => ?_, fun b hb => ?_⟩
  · rcases List.mem_append.1 hp' with h | h
    · exact h6 p h
    · simp at h; rw [h]; exact hz
  · rcases hb with hb | hb
    · exact ⟨(hm b hb).1, by have := (hm b hb).2; omega⟩
    · exact ⟨by omega, hb.2⟩
  · rcases hb with hb | hb
    · exact hd.1 b hb hb2
    · have := (hh b hb2).2; omega
  · obtain ⟨d1, d2, d3, d4⟩ := hd.2 b hb
    exact ⟨by omega, (ht.block b d1 d3).trans d2, fun q => by rcases q with q | q; exact d3 q; omega, d4⟩
section
variable {D : Nat → Prop} {wd : World} {n0 : Nat} {w X : World} {g : Nat} {q U : Int} {A : Option Addr} {n c : Nat} {Om Oh : List Ob}
theorem pl_used (h : Pl D wd n0 w g q U A n c Om Oh X) : Calls Try.prog 20 #[.pointer (some ⟨g, 0, none⟩)] X fun e w' => e = .returned (.int .i64 U) ∧ X = w' := by
  obtain ⟨-, -, -, -, -, -, -, Sm, Sh, tag, css, -, hp, -⟩ := h
  exact used_any g X hp
theorem row_sq {S : Nat → Prop} {tag : Nat → Nat} {X : World} {A : Option Addr} {n c : Nat} {css : List (List Value)} {O : List Ob} (h : Row S tag X (.slice A n c) css O) (hS : ∀ b, S b → b < X.heap.size) : Sq obL (· < X.heap.size) X A O := by
  obtain ⟨A1, c1, e, -, -, h1⟩ := h.sl
  simp only [List.cons.injEq, Value.slice.injEq, and_true] at e
  rw [e.1]
  exact h1.wide hS
theorem pl_sq (h : Pl D wd n0 w g q U A n c Om Oh X) : Sq obL (· < X.heap.size) X A Om := by
  obtain ⟨-, -, -, -, -, -, -, Sm, Sh, tag, css, hr, -, hm, -⟩ := h
  exact row_sq hr fun b hb => (hm b hb).2
theorem pl_objs (h : Pl D wd n0 w g q U A n c Om Oh X) : Calls Try.prog 22 #[.pointer (some ⟨g, 0, none⟩)] X fun e w' => ∃ A2 c2, e = .returned (.slice A2 Oh.length c2) ∧ Sq obL (· < w'.heap.size) w' A2 Oh ∧ Pl D wd n0 w g q U A n c Om Oh w' := by
  have h' := h
  obtain ⟨-, -, -, -, h5, -, h7, Sm, Sh, tag, css, -, hp, -, hh, -⟩ := h'
  refine (objs_any g X hp (by omega) h7 fun b hb => (hh b hb).2).mono ?_
  rintro e w' ⟨v, css', tag', rfl, hr, hb⟩
  obtain ⟨A2, c2, rfl, -, -⟩ := hr.shape
  exact ⟨A2, c2, rfl, row_sq hr fun b hb => hb.2, h.below hb⟩
end
theorem len_range {O : List Ob} {r : Nat} (h : ∀ o ∈ O, o.small) : 0 ≤ (lenA O r).1 ∧ (lenA O r).1 ≤ 100000 := by
  unfold lenA
  cases ha : atO O r with
  | none => exact ⟨by simp, by simp⟩
  | some o =>
    obtain ⟨-, -, ho⟩ := atO_some ha
    have hs := h o (List.mem_of_getElem? ho)
    unfold Ob.small at hs
    dsimp only
    split
    · exact ⟨by omega, by omega⟩
    · exact ⟨by omega, by omega⟩
theorem take_app {O : List Ob} {k : Nat} {o : Ob} (h : O[k]? = some o) : O.take k ++ [o] = O.take (k + 1) := by
  obtain ⟨hk, rfl⟩ := List.getElem?_eq_some_iff.1 h
  rw [List.take_succ_eq_append_getElem hk]
theorem sq_one {α : Type} {L : Lay α} {S : Nat → Prop} {w : World} {a : Addr} {xs : List α} {k : Nat} {x : α} (h : Sq L S w (some a) xs) (hk : xs[k]? = some x) : Sq L S w (some (a.add (k * L.k))) [x] := fun _ => by
  obtain ⟨a', cs, e, hs, hc, hR⟩ := h.at hk
  injection e with e
  subst e
  refine ⟨_, rfl, by rw [addBlock]; exact hs, fun j y hj => ?_⟩
  match j, hj with
  | 0, hj =>
    simp at hj
    subst hj
    exact ⟨cs, fun i u hu => by rw [addAdd, Nat.zero_mul, Nat.zero_add]; exact hc i u hu, hR⟩
  | j + 1, hj => simp at hj
theorem sq_new {X : World} {cs : List Value} {o : Ob} (h : obL.R (· < X.heap.size) X cs o) : Sq obL (· < (X.alloc (.cells cs.toArray 28)).heap.size) (X.alloc (.cells cs.toArray 28)) (some ⟨X.heap.size, 0, none⟩) [o] := fun _ => by
  refine ⟨_, rfl, by simp, fun j y hj => ?_⟩
  match j, hj with
  | 0, hj =>
    simp at hj
    subst hj
    exact ⟨cs, fun i u hu => by rw [Nat.zero_mul, Nat.zero_add]; exact cell_new X _ cs i u hu, obL.wide (obL.keep h fun b hb => Below.heap_alloc _ _ _ hb) fun b hb => by simp; omega⟩
  | j + 1, hj => simp at hj
set_option maxRecDepth 100000 in
theorem rcost_shape (o : Ob) (A B : Option Addr) (c d : Nat) (w : World) (hz : o.small) : Calls Try.prog 12 #[.agg #[.int .i64 o.kind, .int .i64 o.n, .slice A o.words.length c, .slice B o.bytes.length d]] w fun e w' => e = .returned (.int .i64 o.cost) ∧ Below w.heap.size w w' := by
  obtain ⟨z0, z1⟩ := hz
  unfold Ob.cost
  generalize o.words.length = p at *
  generalize o.bytes.length = q at *
  generalize o.kind = kk at *
  generalize o.n = nn at *
  go_enter Try.func12, Try.ntmps12
  go_wp2
  go_ret
  exact ⟨ret_int (k := .i64) (by omega), (Below.refl _ _).alloc (Nat.le_refl _) _⟩
theorem field_st (x0 x1 x2 : Value) (v : World) (h0 : x0.cells.size = 1) : Sem.run Try.prog (Instr.field 33 (Value.agg #[x0, x1, x2, .int .i64 0, .int .i64 0, .int .i64 0, .int .u64 0]) 1) v = .ok x1 v := by
  have ht := run_underlying (P := Try.prog) (w := v) Try.underlying33
  obtain ⟨i0, hi0, hz0, hz1, hz2⟩ := info_parts (show (Try.prog.info? 22).map (fun i => (i.zero, i.size, i.bytes)) = some (some (.slice none 0 0), 1, 24) by kernel_rfl)
  simp [Instr.field, ht, asAgg, part, sizeOf, typeInfo, hi0, hz1]
end Go.Proofs.Ytdadaklkaehmjaa
