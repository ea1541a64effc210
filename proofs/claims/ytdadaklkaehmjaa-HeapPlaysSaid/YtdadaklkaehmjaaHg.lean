/-
  What the methods of a heap that read and write one object do: Word, Byte, SetWord, SetByte, Len.
  Conditions: as each theorem says.
-/
import Derived.Test.YtdadaklkaehmjaaHf
namespace Go.Proofs.Ytdadaklkaehmjaa
open Go.RowKit
set_option linter.unusedSimpArgs false
set_option linter.unusedVariables false

/-- The object of a reference. -/
def atO (O : List Ob) (r : Nat) : Option Ob := if r = 0 then none else O[r - 1]?
theorem atO_none {O : List Ob} {r : Nat} (h : atO O r = none) : r = 0 ∨ O.length < r := by
  unfold atO at h
  by_cases h0 : r = 0
  · exact .inl h0
  · rw [if_neg h0, List.getElem?_eq_none_iff] at h
    omega
theorem atO_some {O : List Ob} {r : Nat} {o : Ob} (h : atO O r = some o) : 0 < r ∧ r ≤ O.length ∧ O[r - 1]? = some o := by
  unfold atO at h
  by_cases h0 : r = 0
  · rw [if_pos h0] at h
    cases h
  · rw [if_neg h0] at h
    have := (List.getElem?_eq_some_iff.1 h).1
    exact ⟨by omega, by omega, h⟩
def wordA (O : List Ob) (r n : Nat) : Nat × Int :=
  match atO O r with
  | none => (0, 4)
  | some o => match o.words[n]? with
    | none => (0, 3)
    | some x => (x, 0)
def byteA (O : List Ob) (r n : Nat) : Nat × Int :=
  match atO O r with
  | none => (0, 4)
  | some o => match o.bytes[n]? with
    | none => (0, 3)
    | some x => (x, 0)
def setWordA (O : List Ob) (r n x : Nat) : List Ob × Int :=
  match atO O r with
  | none => (O, 4)
  | some o => if n < o.words.length then (O.set (r - 1) { o with words := o.words.set n x }, 0) else (O, 3)
def setByteA (O : List Ob) (r n x : Nat) : List Ob × Int :=
  match atO O r with
  | none => (O, 4)
  | some o => if n < o.bytes.length then (O.set (r - 1) { o with bytes := o.bytes.set n x }, 0) else (O, 3)
def lenA (O : List Ob) (r : Nat) : Int × Int :=
  match atO O r with
  | none => (0, 4)
  | some o => (if o.kind = 2 then (o.bytes.length : Int) else (o.words.length : Int), 0)

theorem find_none {S : Nat → Prop} {tag : Nat → Nat} {v : Value} {css : List (List Value)} {O : List Ob} {q u : Int} (g r : Nat) (w : World) (hb : Blk w g 62 #[v, .int .i64 q, .int .i64 u]) (hr : Row S tag w v css O) (h64 : r < B64) (hO : O.length ≤ 1000000) (h : r = 0 ∨ O.length < r) :
    Calls Try.prog 26 #[.pointer (some ⟨g, 0, none⟩), .int .u64 (r : Int)] w fun e w' => e = .returned (.tuple #[.agg #[.int .i64 0, .int .i64 0, .slice none 0 0, .slice none 0 0], .bool false]) ∧ Below w.heap.size w w' := by
  refine (find_any g r w hb hr h64 hO).mono ?_
  rintro e w' ⟨hb, ⟨-, e⟩ | ⟨h2, -⟩⟩
  · exact ⟨e, hb⟩
  · omega
theorem find_some {S : Nat → Prop} {tag : Nat → Nat} {v : Value} {css : List (List Value)} {O : List Ob} {q u : Int} (g r : Nat) (w : World) (hb : Blk w g 62 #[v, .int .i64 q, .int .i64 u]) (hr : Row S tag w v css O) (h64 : r < B64) (hO : O.length ≤ 1000000) (h0 : 0 < r) (h1 : r ≤ O.length)
    {k m : Int} {A B : Option Addr} {p c q' d : Nat} (hcs : css[r - 1]? = some [.int .i64 k, .int .i64 m, .slice A p c, .slice B q' d]) :
    Calls Try.prog 26 #[.pointer (some ⟨g, 0, none⟩), .int .u64 (r : Int)] w fun e w' => e = .returned (.tuple #[.agg #[.int .i64 k, .int .i64 m, .slice A p c, .slice B q' d], .bool true]) ∧ Below w.heap.size w w' := by
  refine (find_any g r w hb hr h64 hO).mono ?_
  rintro e w' ⟨hb, ⟨h2, -⟩ | ⟨-, k', m', A', p', c', B', q2, d', hc, e⟩⟩
  · omega
  · rw [hcs] at hc
    simp only [Option.some.injEq, List.cons.injEq, Value.int.injEq, Value.slice.injEq, and_true, true_and] at hc
    obtain ⟨rfl, rfl, ⟨rfl, rfl, rfl⟩, rfl, rfl, rfl⟩ := hc
    exact ⟨e, hb⟩
theorem ask_null (n m : Nat) (w : World) (hn : n < B64) (hm : m ≤ 1000000000) : Calls Try.prog 27 #[.bool false, .int .u64 (n : Int), .int .i64 (m : Int)] w fun e w' => e = .returned (.int .i64 4) ∧ w = w' := (ask_any false n m w hn hm).mono fun e w' h => h
theorem ask_bounds (n m : Nat) (w : World) (hn : n < B64) (hm : m ≤ 1000000000) (h : m ≤ n) : Calls Try.prog 27 #[.bool true, .int .u64 (n : Int), .int .i64 (m : Int)] w fun e w' => e = .returned (.int .i64 3) ∧ w = w' := (ask_any true n m w hn hm).mono fun e w' q => by
  rw [if_neg (by simp), if_pos h] at q
  exact q
theorem ask_yes (n m : Nat) (w : World) (hn : n < B64) (hm : m ≤ 1000000000) (h : n < m) : Calls Try.prog 27 #[.bool true, .int .u64 (n : Int), .int .i64 (m : Int)] w fun e w' => e = .returned (.int .i64 0) ∧ w = w' := (ask_any true n m w hn hm).mono fun e w' q => by
  rw [if_neg (by simp), if_neg (by omega)] at q
  exact q
/-- What stands in one object's place in the row. -/
theorem Row.flat {S : Nat → Prop} {tag : Nat → Nat} {w : World} {v : Value} {css : List (List Value)} {O : List Ob} (h : Row S tag w v css O) {j : Nat} {o : Ob} (ho : O[j]? = some o) :
    ∃ A c B d, css[j]? = some [.int .i64 o.kind, .int .i64 o.n, .slice A o.words.length c, .slice B o.bytes.length d] := by
  have hj : j < css.length := by rw [h.1]; exact (List.getElem?_eq_some_iff.1 ho).1
  have hc : css[j]? = some (css[j]'hj) := List.getElem?_eq_getElem _
  obtain ⟨A, c, B, d, e, -, -⟩ := (h.2.2.2 j o _ ho hc).parts
  rw [e] at hc
  exact ⟨A, c, B, d, hc⟩
theorem Row.bounds {S : Nat → Prop} {tag : Nat → Nat} {w : World} {v : Value} {css : List (List Value)} {O : List Ob} (h : Row S tag w v css O) {o : Ob} (ho : o ∈ O) : (∀ x ∈ o.words, x < B64) ∧ (∀ x ∈ o.bytes, x < 256) ∧ I64 o.kind ∧ I64 o.n := by
  obtain ⟨j, hj⟩ := List.mem_iff_getElem?.1 ho
  have hjl : j < css.length := by rw [h.1]; exact (List.getElem?_eq_some_iff.1 hj).1
  obtain ⟨v0, v1, -, h1, h2, h3, h4, -⟩ := h.2.2.2 j o _ hj (List.getElem?_eq_getElem hjl)
  exact ⟨h3, h4, h1, h2⟩

set_option maxRecDepth 100000 in
set_option maxHeartbeats 1000000 in
theorem word_any {S : Nat → Prop} {O : List Ob} {q u : Int} (g r n : Nat) (w : World) (h : IsHp S w g O q u) (h64 : r < B64) (hn : n < B64) (hO : O.length ≤ 1000000) (hz : ∀ o ∈ O, o.small) :
    Calls Try.prog 14 #[.pointer (some ⟨g, 0, none⟩), .int .u64 (r : Int), .int .u64 (n : Int)] w fun e w' => e = .returned (.tuple #[.int .u64 ((wordA O r n).1 : Int), .int .i64 (wordA O r n).2]) ∧ Below w.heap.size w w' := by
  obtain ⟨v, css, tag, hb, hg, htg, hr⟩ := h
  have HR := Lib.hid hr
  have HH := Lib.hid (show S g ∧ tag g = 0 from ⟨hg, htg⟩)
  clear hr hg htg
  unfold wordA
  cases ha : atO O r with
  | none =>
    have hno := atO_none ha
    clear ha
    go_enter Try.func14, Try.ntmps14
    go_wp2_with (first
      | (go_at_call 26
         refine (find_none g r w hb HR.out h64 hO hno).mono ?_
         rintro e w1 ⟨rfl, hb1⟩
         have HB1 := Lib.hid hb1
         clear hb1)
      | (go_at_call 27
         refine (ask_null n 0 _ hn (by omega)).mono ?_
         rintro e w2 ⟨rfl, rfl⟩))
    go_ret2
    exact ⟨rfl, HB1.out.alloc HB1.out.size _⟩
  | some o =>
    obtain ⟨h0, h1, ho⟩ := atO_some ha
    have hsm := hz o (List.mem_of_getElem? ho)
    obtain ⟨A, c, B, d, hcs⟩ := HR.out.flat ho
    have HC := Lib.hid hcs
    have HO := Lib.hid ho
    have hl1 : o.words.length ≤ 1000000000 := by have := hsm.1; omega
    clear ha hcs ho hsm hz
    dsimp only
    cases hx : o.words[n]? with
    | none =>
      have hm : o.words.length ≤ n := by rwa [List.getElem?_eq_none_iff] at hx
      clear hx
      generalize o.kind = kk at *
      generalize o.n = nn at *
      generalize o.words.length = pp at *
      generalize o.bytes.length = qq at *
      go_enter Try.func14, Try.ntmps14
      go_wp2_with (first
        | (go_at_call 26
           refine (find_some g r w hb HR.out h64 hO h0 h1 HC.out).mono ?_
           rintro e w1 ⟨rfl, hb1⟩
           have HB1 := Lib.hid hb1
           clear hb1)
        | (go_at_call 27
           refine (ask_bounds n pp _ hn hl1 hm).mono ?_
           rintro e w2 ⟨rfl, rfl⟩))
      go_ret2
      exact ⟨rfl, HB1.out.alloc HB1.out.size _⟩
    | some x =>
      have hm : n < o.words.length := (List.getElem?_eq_some_iff.1 hx).1
      obtain ⟨-, gw, e, -, -, hgl, -, hcell⟩ := HR.out.word_at HO.out HC.out (by omega)
      have hcx := hcell n x hx
      have hxb : (x : Int) < 18446744073709551616 := by have := (HR.out.bounds (List.mem_of_getElem? HO.out)).1 x (List.mem_of_getElem? hx); unfold B64 at this; omega
      have HN : Hid (∀ V, Below w.heap.size w V → V.cell? ⟨gw, n, none⟩ = some (.int .u64 (x : Int))) := fun V hV => (hV.cell (p := ⟨gw, n, none⟩) hgl).trans hcx
      clear hx hcell hcx
      obtain rfl : A = some ⟨gw, 0, none⟩ := e
      generalize o.kind = kk at *
      generalize o.n = nn at *
      generalize o.words.length = pp at *
      generalize o.bytes.length = qq at *
      have hm' : (n : Int) < (pp : Int) := by omega
      go_enter Try.func14, Try.ntmps14
      go_wp2_with (first
        | (go_at_call 26
           refine (find_some g r w hb HR.out h64 hO h0 h1 HC.out).mono ?_
           rintro e w1 ⟨rfl, hb1⟩
           have HB1 := Lib.hid hb1
           have cx := HN.out w1 hb1
           have cy := fun ob => HN.out (w1.alloc ob) (hb1.alloc hb1.size ob)
           have hz1 := hb1.size
           clear hb1)
        | (go_at_call 27
           refine (ask_yes n pp _ hn hl1 hm).mono ?_
           rintro e w2 ⟨rfl, rfl⟩))
      go_ret2
      exact ⟨rfl, HB1.out.alloc HB1.out.size _⟩

set_option maxRecDepth 100000 in
set_option maxHeartbeats 1000000 in
theorem byte_any {S : Nat → Prop} {O : List Ob} {q u : Int} (g r n : Nat) (w : World) (h : IsHp S w g O q u) (h64 : r < B64) (hn : n < B64) (hO : O.length ≤ 1000000) (hz : ∀ o ∈ O, o.small) :
    Calls Try.prog 17 #[.pointer (some ⟨g, 0, none⟩), .int .u64 (r : Int), .int .u64 (n : Int)] w fun e w' => e = .returned (.tuple #[.int .u64 ((byteA O r n).1 : Int), .int .i64 (byteA O r n).2]) ∧ Below w.heap.size w w' := by
  obtain ⟨v, css, tag, hb, hg, htg, hr⟩ := h
  have HR := Lib.hid hr
  have HH := Lib.hid (show S g ∧ tag g = 0 from ⟨hg, htg⟩)
  clear hr hg htg
  unfold byteA
  cases ha : atO O r with
  | none =>
    have hno := atO_none ha
    clear ha
    go_enter Try.func17, Try.ntmps17
    go_wp2_with (first
      | (go_at_call 26
         refine (find_none g r w hb HR.out h64 hO hno).mono ?_
         rintro e w1 ⟨rfl, hb1⟩
         have HB1 := Lib.hid hb1
         clear hb1)
      | (go_at_call 27
         refine (ask_null n 0 _ hn (by omega)).mono ?_
         rintro e w2 ⟨rfl, rfl⟩))
    go_ret2
    exact ⟨rfl, HB1.out.alloc HB1.out.size _⟩
  | some o =>
    obtain ⟨h0, h1, ho⟩ := atO_some ha
    have hsm := hz o (List.mem_of_getElem? ho)
    obtain ⟨A, c, B, d, hcs⟩ := HR.out.flat ho
    have HC := Lib.hid hcs
    have HO := Lib.hid ho
    have hl1 : o.bytes.length ≤ 1000000000 := by have := hsm.2; omega
    clear ha hcs ho hsm hz
    dsimp only
    cases hx : o.bytes[n]? with
    | none =>
      have hm : o.bytes.length ≤ n := by rwa [List.getElem?_eq_none_iff] at hx
      clear hx
      generalize o.kind = kk at *
      generalize o.n = nn at *
      generalize o.words.length = pp at *
      generalize o.bytes.length = qq at *
      go_enter Try.func17, Try.ntmps17
      go_wp2_with (first
        | (go_at_call 26
           refine (find_some g r w hb HR.out h64 hO h0 h1 HC.out).mono ?_
           rintro e w1 ⟨rfl, hb1⟩
           have HB1 := Lib.hid hb1
           clear hb1)
        | (go_at_call 27
           refine (ask_bounds n qq _ hn hl1 hm).mono ?_
           rintro e w2 ⟨rfl, rfl⟩))
      go_ret2
      exact ⟨rfl, HB1.out.alloc HB1.out.size _⟩
    | some x =>
      have hm : n < o.bytes.length := (List.getElem?_eq_some_iff.1 hx).1
      obtain ⟨-, gw, e, -, -, hgl, -, hcell⟩ := HR.out.byte_at HO.out HC.out (by omega)
      have hcx := hcell n x hx
      have hxb : (x : Int) < 256 := by have := (HR.out.bounds (List.mem_of_getElem? HO.out)).2.1 x (List.mem_of_getElem? hx); omega
      have HN : Hid (∀ V, Below w.heap.size w V → V.cell? ⟨gw, n, none⟩ = some (.int .u8 (x : Int))) := fun V hV => (hV.cell (p := ⟨gw, n, none⟩) hgl).trans hcx
      clear hx hcell hcx
      obtain rfl : B = some ⟨gw, 0, none⟩ := e
      generalize o.kind = kk at *
      generalize o.n = nn at *
      generalize o.words.length = pp at *
      generalize o.bytes.length = qq at *
      have hm' : (n : Int) < (qq : Int) := by omega
      go_enter Try.func17, Try.ntmps17
      go_wp2_with (first
        | (go_at_call 26
           refine (find_some g r w hb HR.out h64 hO h0 h1 HC.out).mono ?_
           rintro e w1 ⟨rfl, hb1⟩
           have HB1 := Lib.hid hb1
           have cx := HN.out w1 hb1
           have cy := fun ob => HN.out (w1.alloc ob) (hb1.alloc hb1.size ob)
           have hz1 := hb1.size
           clear hb1)
        | (go_at_call 27
           refine (ask_yes n qq _ hn hl1 hm).mono ?_
           rintro e w2 ⟨rfl, rfl⟩))
      go_ret2
      exact ⟨rfl, HB1.out.alloc HB1.out.size _⟩

set_option maxRecDepth 100000 in
set_option maxHeartbeats 1000000 in
theorem setWord_any {S : Nat → Prop} {O : List Ob} {q u : Int} (g r n x : Nat) (w : World) (h : IsHp S w g O q u) (h64 : r < B64) (hn : n < B64) (hx64 : x < B64) (hO : O.length ≤ 1000000) (hz : ∀ o ∈ O, o.small) (hS : ∀ b, S b → b < w.heap.size) :
    Calls Try.prog 16 #[.pointer (some ⟨g, 0, none⟩), .int .u64 (r : Int), .int .u64 (n : Int), .int .u64 (x : Int)] w fun e w' => e = .returned (.int .i64 (setWordA O r n x).2) ∧ IsHp S w' g (setWordA O r n x).1 q u ∧ Trn S w w' := by
  obtain ⟨v, css, tag, hb, hg, htg, hr⟩ := h
  have HR := Lib.hid hr
  have HH := Lib.hid (show S g ∧ tag g = 0 from ⟨hg, htg⟩)
  clear hr hg htg
  unfold setWordA
  have HK : Hid (∀ V, Below w.heap.size w V → IsHp S V g O q u) := fun V hV => ⟨v, css, tag, blk_below hb hV hb.lt, HH.out.1, HH.out.2, HR.out.keep fun b h1 _ => hV.block b (hS b h1)⟩
  cases ha : atO O r with
  | none =>
    have hno := atO_none ha
    clear ha
    go_enter Try.func16, Try.ntmps16
    go_wp2_with (first
      | (go_at_call 26
         refine (find_none g r w hb HR.out h64 hO hno).mono ?_
         rintro e w1 ⟨rfl, hb1⟩
         have HB1 := Lib.hid hb1
         clear hb1)
      | (go_at_call 27
         refine (ask_null n 0 _ hn (by omega)).mono ?_
         rintro e w2 ⟨rfl, rfl⟩))
    go_ret
    exact ⟨rfl, HK.out _ (HB1.out.alloc HB1.out.size _), Trn.of_below (HB1.out.alloc HB1.out.size _)⟩
  | some o =>
    obtain ⟨h0, h1, ho⟩ := atO_some ha
    have hsm := hz o (List.mem_of_getElem? ho)
    obtain ⟨A, c, B, d, hcs⟩ := HR.out.flat ho
    have HC := Lib.hid hcs
    have HO := Lib.hid ho
    have hl1 : o.words.length ≤ 1000000000 := by have := hsm.1; omega
    clear ha hcs ho hsm hz
    dsimp only
    by_cases hm : n < o.words.length
    rotate_left
    · rw [if_neg hm]
      have hm2 : o.words.length ≤ n := by omega
      clear hm
      generalize o.kind = kk at *
      generalize o.n = nn at *
      generalize o.words.length = pp at *
      generalize o.bytes.length = qq at *
      go_enter Try.func16, Try.ntmps16
      go_wp2_with (first
        | (go_at_call 26
           refine (find_some g r w hb HR.out h64 hO h0 h1 HC.out).mono ?_
           rintro e w1 ⟨rfl, hb1⟩
           have HB1 := Lib.hid hb1
           clear hb1)
        | (go_at_call 27
           refine (ask_bounds n pp _ hn hl1 hm2).mono ?_
           rintro e w2 ⟨rfl, rfl⟩))
      go_ret
      exact ⟨rfl, HK.out _ (HB1.out.alloc HB1.out.size _), Trn.of_below (HB1.out.alloc HB1.out.size _)⟩
    · rw [if_pos hm]
      obtain ⟨-, gw, e, hsw, htw, hgl, hfr, hcell⟩ := HR.out.word_at HO.out HC.out (by omega)
      have hcx := hcell n _ (List.getElem?_eq_getElem hm)
      generalize o.words[n] = old at hcx
      have HN : Hid (∀ V, Below w.heap.size w V → V.cell? ⟨gw, n, none⟩ = some (.int .u64 (old : Int)) ∧ V.frozen? ⟨gw, n, none⟩ = false) := fun V hV => ⟨(hV.cell (p := ⟨gw, n, none⟩) hgl).trans hcx, (hV.frozen (p := ⟨gw, n, none⟩) hgl).trans (hfr n)⟩
      have HW := Lib.hid (show S gw ∧ tag gw = _ from ⟨hsw, htw⟩)
      obtain rfl : A = some ⟨gw, 0, none⟩ := e
      have HE : Hid (∀ V, Below w.heap.size w V → IsHp S (V.setCell ⟨gw, n, none⟩ (.int .u64 ((x : Nat) : Int))) g (O.set (r - 1) { o with words := o.words.set n x }) q u ∧ Trn S w (V.setCell ⟨gw, n, none⟩ (.int .u64 ((x : Nat) : Int)))) := fun V hV => by
        have hne : g ≠ gw := fun e => by have := HH.out.2; have := HW.out.2; subst e; omega
        exact ⟨⟨v, css, tag, blk_other (blk_below hb hV hb.lt) hne, HH.out.1, HH.out.2, (HR.out.keep fun b h1 _ => hV.block b (hS b h1)).setWord HO.out HC.out (by omega) hx64⟩, (Trn.of_below hV).set HW.out.1 _⟩
      clear hcell hcx hfr hsw htw HH
      obtain ⟨O', eO⟩ : ∃ O', O.set (r - 1) { o with words := o.words.set n x } = O' := ⟨_, rfl⟩
      rw [eO] at HE ⊢
      clear eO
      generalize o.kind = kk at *
      generalize o.n = nn at *
      generalize o.words.length = pp at *
      generalize o.bytes.length = qq at *
      have hm' : (n : Int) < (pp : Int) := by omega
      go_enter Try.func16, Try.ntmps16
      go_wp2_with (first
        | (go_at_call 26
           refine (find_some g r w hb HR.out h64 hO h0 h1 HC.out).mono ?_
           rintro e w1 ⟨rfl, hb1⟩
           have HB1 := Lib.hid hb1
           obtain ⟨cx, fx⟩ := HN.out w1 hb1
           have cy := fun ob => (HN.out (w1.alloc ob) (hb1.alloc hb1.size ob)).1
           have fy := fun ob => (HN.out (w1.alloc ob) (hb1.alloc hb1.size ob)).2
           have hz1 := hb1.size
           clear hb1)
        | (go_at_call 27
           refine (ask_yes n pp _ hn hl1 hm).mono ?_
           rintro e w2 ⟨rfl, rfl⟩))
      go_ret
      exact ⟨rfl, HE.out _ (HB1.out.alloc HB1.out.size _)⟩

set_option maxRecDepth 100000 in
set_option maxHeartbeats 1000000 in
theorem setByte_any {S : Nat → Prop} {O : List Ob} {q u : Int} (g r n x : Nat) (w : World) (h : IsHp S w g O q u) (h64 : r < B64) (hn : n < B64) (hx64 : x < B64) (hO : O.length ≤ 1000000) (hz : ∀ o ∈ O, o.small) (hS : ∀ b, S b → b < w.heap.size) :
    Calls Try.prog 18 #[.pointer (some ⟨g, 0, none⟩), .int .u64 (r : Int), .int .u64 (n : Int), .int .u64 (x : Int)] w fun e w' => e = .returned (.int .i64 (setByteA O r n (x % 256)).2) ∧ IsHp S w' g (setByteA O r n (x % 256)).1 q u ∧ Trn S w w' := by
  obtain ⟨v, css, tag, hb, hg, htg, hr⟩ := h
  have HR := Lib.hid hr
  have HH := Lib.hid (show S g ∧ tag g = 0 from ⟨hg, htg⟩)
  clear hr hg htg
  unfold setByteA
  have HK : Hid (∀ V, Below w.heap.size w V → IsHp S V g O q u) := fun V hV => ⟨v, css, tag, blk_below hb hV hb.lt, HH.out.1, HH.out.2, HR.out.keep fun b h1 _ => hV.block b (hS b h1)⟩
  cases ha : atO O r with
  | none =>
    have hno := atO_none ha
    clear ha
    go_enter Try.func18, Try.ntmps18
    go_wp2_with (first
      | (go_at_call 26
         refine (find_none g r w hb HR.out h64 hO hno).mono ?_
         rintro e w1 ⟨rfl, hb1⟩
         have HB1 := Lib.hid hb1
         clear hb1)
      | (go_at_call 27
         refine (ask_null n 0 _ hn (by omega)).mono ?_
         rintro e w2 ⟨rfl, rfl⟩))
    go_ret
    exact ⟨rfl, HK.out _ (HB1.out.alloc HB1.out.size _), Trn.of_below (HB1.out.alloc HB1.out.size _)⟩
  | some o =>
    obtain ⟨h0, h1, ho⟩ := atO_some ha
    have hsm := hz o (List.mem_of_getElem? ho)
    obtain ⟨A, c, B, d, hcs⟩ := HR.out.flat ho
    have HC := Lib.hid hcs
    have HO := Lib.hid ho
    have hl1 : o.bytes.length ≤ 1000000000 := by have := hsm.2; omega
    clear ha hcs ho hsm hz
    dsimp only
    by_cases hm : n < o.bytes.length
    rotate_left
    · rw [if_neg hm]
      have hm2 : o.bytes.length ≤ n := by omega
      clear hm
      generalize o.kind = kk at *
      generalize o.n = nn at *
      generalize o.words.length = pp at *
      generalize o.bytes.length = qq at *
      go_enter Try.func18, Try.ntmps18
      go_wp2_with (first
        | (go_at_call 26
           refine (find_some g r w hb HR.out h64 hO h0 h1 HC.out).mono ?_
           rintro e w1 ⟨rfl, hb1⟩
           have HB1 := Lib.hid hb1
           clear hb1)
        | (go_at_call 27
           refine (ask_bounds n qq _ hn hl1 hm2).mono ?_
           rintro e w2 ⟨rfl, rfl⟩))
      go_ret
      exact ⟨rfl, HK.out _ (HB1.out.alloc HB1.out.size _), Trn.of_below (HB1.out.alloc HB1.out.size _)⟩
    · rw [if_pos hm]
      obtain ⟨-, gw, e, hsw, htw, hgl, hfr, hcell⟩ := HR.out.byte_at HO.out HC.out (by omega)
      have hcx := hcell n _ (List.getElem?_eq_getElem hm)
      generalize o.bytes[n] = old at hcx
      have HN : Hid (∀ V, Below w.heap.size w V → V.cell? ⟨gw, n, none⟩ = some (.int .u8 (old : Int)) ∧ V.frozen? ⟨gw, n, none⟩ = false) := fun V hV => ⟨(hV.cell (p := ⟨gw, n, none⟩) hgl).trans hcx, (hV.frozen (p := ⟨gw, n, none⟩) hgl).trans (hfr n)⟩
      have HW := Lib.hid (show S gw ∧ tag gw = _ from ⟨hsw, htw⟩)
      obtain rfl : B = some ⟨gw, 0, none⟩ := e
      have HE : Hid (∀ V, Below w.heap.size w V → IsHp S (V.setCell ⟨gw, n, none⟩ (.int .u8 (((x % 256) : Nat) : Int))) g (O.set (r - 1) { o with bytes := o.bytes.set n (x % 256) }) q u ∧ Trn S w (V.setCell ⟨gw, n, none⟩ (.int .u8 (((x % 256) : Nat) : Int)))) := fun V hV => by
        have hne : g ≠ gw := fun e => by have := HH.out.2; have := HW.out.2; subst e; omega
        exact ⟨⟨v, css, tag, blk_other (blk_below hb hV hb.lt) hne, HH.out.1, HH.out.2, (HR.out.keep fun b h1 _ => hV.block b (hS b h1)).setByte HO.out HC.out (by omega) (Nat.mod_lt _ (by omega))⟩, (Trn.of_below hV).set HW.out.1 _⟩
      clear hcell hcx hfr hsw htw HH
      obtain ⟨O', eO⟩ : ∃ O', O.set (r - 1) { o with bytes := o.bytes.set n (x % 256) } = O' := ⟨_, rfl⟩
      rw [eO] at HE ⊢
      clear eO
      generalize o.kind = kk at *
      generalize o.n = nn at *
      generalize o.words.length = pp at *
      generalize o.bytes.length = qq at *
      have hm' : (n : Int) < (qq : Int) := by omega
      go_enter Try.func18, Try.ntmps18
      go_wp2_with (first
        | (go_at_call 26
           refine (find_some g r w hb HR.out h64 hO h0 h1 HC.out).mono ?_
           rintro e w1 ⟨rfl, hb1⟩
           have HB1 := Lib.hid hb1
           obtain ⟨cx, fx⟩ := HN.out w1 hb1
           have cy := fun ob => (HN.out (w1.alloc ob) (hb1.alloc hb1.size ob)).1
           have fy := fun ob => (HN.out (w1.alloc ob) (hb1.alloc hb1.size ob)).2
           have hz1 := hb1.size
           clear hb1)
        | (go_at_call 27
           refine (ask_yes n qq _ hn hl1 hm).mono ?_
           rintro e w2 ⟨rfl, rfl⟩))
      go_ret
      exact ⟨rfl, HE.out _ (HB1.out.alloc HB1.out.size _)⟩
end Go.Proofs.Ytdadaklkaehmjaa
