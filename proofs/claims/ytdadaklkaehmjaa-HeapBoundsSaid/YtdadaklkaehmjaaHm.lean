/-
  Words for the laws on heaps: a heap of which all that is new may be a part, and what its methods leave.
  Conditions: as each theorem says.
-/
import Derived.Test.YtdadaklkaehmjaaHan
namespace Go.Proofs.Ytdadaklkaehmjaa
open Go.RowKit
set_option linter.unusedSimpArgs false
set_option linter.unusedVariables false

theorem blk_drw {v : World} {b t : Nat} {c : Array Value} (h : Blk v b t c) : Blk v.drew b t c := h
/-- A heap in blocks from n0 on; below n0 nothing has turned. -/
def Hq (n0 : Nat) (w V : World) (g : Nat) (O : List Ob) (q u : Int) : Prop := Below n0 w V ∧ IsHp (fun b => n0 ≤ b ∧ b < V.heap.size) V g O q u
theorem Hq.keep {n0 : Nat} {w V V' : World} {g : Nat} {O : List Ob} {q u : Int} (h : Hq n0 w V g O q u) (hb : Below V.heap.size V V') (hn : n0 ≤ V.heap.size) : Hq n0 w V' g O q u :=
  ⟨h.1.trans (hb.mono hn), (h.2.keep (fun b hb' _ => hb.block b hb') fun b hb' => hb'.2).wide fun b hb' => ⟨hb'.1, Nat.lt_of_lt_of_le hb'.2 hb.size⟩⟩
theorem hq_word {n0 : Nat} {O : List Ob} {q u : Int} (g r n : Nat) (w V : World) (h : Hq n0 w V g O q u) (h64 : r < B64) (hn : n < B64) (hO : O.length ≤ 1000000) (hz : ∀ o ∈ O, o.small) (hn0 : n0 ≤ V.heap.size) {p : Nat × Int} (he : wordA O r n = p) :
    Calls Try.prog 14 #[.pointer (some ⟨g, 0, none⟩), .int .u64 (r : Int), .int .u64 (n : Int)] V fun e w' => e = .returned (.tuple #[.int .u64 (p.1 : Int), .int .i64 p.2]) ∧ Hq n0 w w' g O q u ∧ n0 ≤ w'.heap.size := by
  subst he
  exact (word_any g r n V h.2 h64 hn hO hz).mono fun e w' q => ⟨q.1, h.keep q.2 hn0, Nat.le_trans hn0 q.2.size⟩
theorem hq_byte {n0 : Nat} {O : List Ob} {q u : Int} (g r n : Nat) (w V : World) (h : Hq n0 w V g O q u) (h64 : r < B64) (hn : n < B64) (hO : O.length ≤ 1000000) (hz : ∀ o ∈ O, o.small) (hn0 : n0 ≤ V.heap.size) {p : Nat × Int} (he : byteA O r n = p) :
    Calls Try.prog 17 #[.pointer (some ⟨g, 0, none⟩), .int .u64 (r : Int), .int .u64 (n : Int)] V fun e w' => e = .returned (.tuple #[.int .u64 (p.1 : Int), .int .i64 p.2]) ∧ Hq n0 w w' g O q u ∧ n0 ≤ w'.heap.size := by
  subst he
  exact (byte_any g r n V h.2 h64 hn hO hz).mono fun e w' q => ⟨q.1, h.keep q.2 hn0, Nat.le_trans hn0 q.2.size⟩
theorem hq_len {n0 : Nat} {O : List Ob} {q u : Int} (g r : Nat) (w V : World) (h : Hq n0 w V g O q u) (h64 : r < B64) (hO : O.length ≤ 1000000) (hz : ∀ o ∈ O, o.small) (hn0 : n0 ≤ V.heap.size) {p : Int × Int} (he : lenA O r = p) :
    Calls Try.prog 19 #[.pointer (some ⟨g, 0, none⟩), .int .u64 (r : Int)] V fun e w' => e = .returned (.tuple #[.int .i64 p.1, .int .i64 p.2]) ∧ Hq n0 w w' g O q u ∧ n0 ≤ w'.heap.size := by
  subst he
  exact (len_any g r V h.2 h64 hO hz).mono fun e w' q => ⟨q.1, h.keep q.2 hn0, Nat.le_trans hn0 q.2.size⟩
theorem Hq.trn {n0 : Nat} {w V w' : World} {g : Nat} {O O' : List Ob} {q u q' u' : Int} (h : Hq n0 w V g O q u) (hn0 : n0 ≤ V.heap.size) (hp : IsHp (fun b => n0 ≤ b ∧ b < V.heap.size) w' g O' q' u') (ht : Trn (fun b => n0 ≤ b ∧ b < V.heap.size) V w') : Hq n0 w w' g O' q' u' :=
  ⟨h.1.trans (ht.below hn0 fun b hb => hb.1), hp.wide fun b hb => ⟨hb.1, Nat.lt_of_lt_of_le hb.2 ht.size⟩⟩
theorem hq_setWord {n0 : Nat} {O : List Ob} {q u : Int} (g r n x : Nat) (w V : World) (h : Hq n0 w V g O q u) (h64 : r < B64) (hn : n < B64) (hx : x < B64) (hO : O.length ≤ 1000000) (hz : ∀ o ∈ O, o.small) (hn0 : n0 ≤ V.heap.size) {p : List Ob × Int} (he : setWordA O r n x = p) :
    Calls Try.prog 16 #[.pointer (some ⟨g, 0, none⟩), .int .u64 (r : Int), .int .u64 (n : Int), .int .u64 (x : Int)] V fun e w' => e = .returned (.int .i64 p.2) ∧ Hq n0 w w' g p.1 q u ∧ n0 ≤ w'.heap.size := by
  subst he
  exact (setWord_any g r n x V h.2 h64 hn hx hO hz fun b hb => hb.2).mono fun e w' q => ⟨q.1, h.trn hn0 q.2.1 q.2.2, Nat.le_trans hn0 q.2.2.size⟩
theorem hq_setByte {n0 : Nat} {O : List Ob} {q u : Int} (g r n x : Nat) (w V : World) (h : Hq n0 w V g O q u) (h64 : r < B64) (hn : n < B64) (hx : x < B64) (hO : O.length ≤ 1000000) (hz : ∀ o ∈ O, o.small) (hn0 : n0 ≤ V.heap.size) {p : List Ob × Int} (he : setByteA O r n (x % 256) = p) :
    Calls Try.prog 18 #[.pointer (some ⟨g, 0, none⟩), .int .u64 (r : Int), .int .u64 (n : Int), .int .u64 (x : Int)] V fun e w' => e = .returned (.int .i64 p.2) ∧ Hq n0 w w' g p.1 q u ∧ n0 ≤ w'.heap.size := by
  subst he
  exact (setByte_any g r n x V h.2 h64 hn hx hO hz fun b hb => hb.2).mono fun e w' q => ⟨q.1, h.trn hn0 q.2.1 q.2.2, Nat.le_trans hn0 q.2.2.size⟩
end Go.Proofs.Ytdadaklkaehmjaa
