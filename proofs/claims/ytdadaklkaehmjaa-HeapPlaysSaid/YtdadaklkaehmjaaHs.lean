/-
  What the law's own answer to an act is: Word, SetWord, Byte, SetByte, Len.
  Conditions: as each theorem says.
-/
import Derived.Test.YtdadaklkaehmjaaHg
namespace Go.Proofs.Ytdadaklkaehmjaa
open Go.RowKit
set_option linter.unusedSimpArgs false
set_option linter.unusedVariables false

set_option maxRecDepth 100000 in
set_option maxHeartbeats 2000000 in
theorem same_word {S : Nat → Prop} {tag : Nat → Nat} {css : List (List Value)} {O : List Ob} (A : Option Addr) (n c r i x : Nat) (z0 z1 z2 z3 : Value) (w : World) (hr : Row S tag w (.slice A n c) css O) (hl : O.length = n) (h64 : r < B64) (hi : i < B64) (hx64 : x < B64) (hO : n ≤ 1000000) (hz : ∀ o ∈ O, o.small) :
    Calls Try.prog 15 #[.slice A n c, .agg #[.int .i64 1, z0, z1, z2, z3, .int .u64 (r : Int), .int .u64 (i : Int), .int .u64 (x : Int)]] w fun e w' => e = .returned (.tuple #[.int .u64 ((wordA O r i).1 : Int), .int .i64 (wordA O r i).2]) ∧ Below w.heap.size w w' := by
  unfold B64 at h64 hi hx64
  have HR := Lib.hid hr
  have HL := Lib.hid hl
  clear hr
  unfold wordA
  cases ha : atO O r with
  | none =>
    have hno := atO_none ha
    rw [hl] at hno
    clear ha hz hl
    rcases hno with rfl | hno
    · go_enter Try.func15, Try.ntmps15
      go_wp2_with fail
      go_ret2
      exact ⟨rfl, (Below.refl _ _).alloc (Nat.le_refl _) _⟩
    · have hno' : (n : Int) < (r : Int) := by omega
      go_enter Try.func15, Try.ntmps15
      go_wp2_with fail
      go_ret2
      exact ⟨rfl, (Below.refl _ _).alloc (Nat.le_refl _) _⟩
  | some o =>
    subst hl
    have HL2 := HL.out
    clear HL2
    obtain ⟨n, en⟩ : ∃ n, O.length = n := ⟨_, rfl⟩
    rw [en] at HR hO ⊢
    dsimp only
    obtain ⟨h0, h1, ho⟩ := atO_some ha
    rw [en] at h1
    have hsm := hz o (List.mem_of_getElem? ho)
    obtain ⟨gr, cs, rfl, -, -, hlr, hcs, hcell, -, hob⟩ := HR.out.cells ho
    obtain ⟨A1, c1, B1, d1, rfl, -, -⟩ := hob.parts
    have k0 := hcell 0 _ rfl
    have k1 := hcell 1 _ rfl
    have k2 := hcell 2 _ rfl
    have k3 := hcell 3 _ rfl
    have HC := Lib.hid hcs
    have HO := Lib.hid ho
    have hsz0 := hsm.1
    have hsz1 := hsm.2
    clear hcell hob hcs ho hsm ha hz
    obtain ⟨k, rfl⟩ : ∃ k, r = k + 1 := ⟨r - 1, by omega⟩
    rw [Nat.add_sub_cancel] at k0 k1 k2 k3 HC HO
    rw [Nat.add_zero] at k0
    have h1' : ((k : Int) + 1) ≤ (n : Int) := by omega
    have hzz : (((k : Int) + 1) == 0) = false := by simp; omega
    have hd : decide ((n : Int) < (k : Int) + 1) = false := by simp; omega
    cases hx : o.words[i]? with
    | none =>
      have hm : (o.words.length : Int) ≤ (i : Int) := by rw [List.getElem?_eq_none_iff] at hx; omega
      clear hx en HL
      generalize o.kind = kk at *
      generalize o.n = nn at *
      generalize o.words.length = pp at *
      generalize o.bytes.length = qq at *
      go_enter Try.func15, Try.ntmps15
      go_wp2_with fail
      go_ret2
      exact ⟨rfl, ((Below.refl _ _).alloc (Nat.le_refl _) _).alloc (by simp) _⟩
    | some y =>
      have hm : i < o.words.length := (List.getElem?_eq_some_iff.1 hx).1
      obtain ⟨-, gw, e, -, -, hgl, -, hcell⟩ := HR.out.word_at HO.out HC.out (by omega)
      have hcx := hcell i y hx
      clear hx hcell en HL
      obtain rfl : A1 = some ⟨gw, 0, none⟩ := e
      generalize o.kind = kk at *
      generalize o.n = nn at *
      generalize o.words.length = pp at *
      generalize o.bytes.length = qq at *
      have hm' : (i : Int) < (pp : Int) := by omega
      go_enter Try.func15, Try.ntmps15
      go_wp2_with fail
      go_ret2
      exact ⟨rfl, ((Below.refl _ _).alloc (Nat.le_refl _) _).alloc (by simp) _⟩

set_option maxRecDepth 100000 in
set_option maxHeartbeats 2000000 in
theorem same_setWord {S : Nat → Prop} {tag : Nat → Nat} {css : List (List Value)} {O : List Ob} (A : Option Addr) (n c r i x : Nat) (z0 z1 z2 z3 : Value) (w : World) (hr : Row S tag w (.slice A n c) css O) (hl : O.length = n) (h64 : r < B64) (hi : i < B64) (hx64 : x < B64) (hO : n ≤ 1000000) (hz : ∀ o ∈ O, o.small) (hS : ∀ b, S b → b < w.heap.size) :
    Calls Try.prog 15 #[.slice A n c, .agg #[.int .i64 2, z0, z1, z2, z3, .int .u64 (r : Int), .int .u64 (i : Int), .int .u64 (x : Int)]] w fun e w' => ∃ y, e = .returned (.tuple #[.int .u64 y, .int .i64 (setWordA O r i x).2]) ∧ Row S tag w' (.slice A n c) css (setWordA O r i x).1 ∧ Trn S w w' := by
  unfold B64 at h64 hi hx64
  have HR := Lib.hid hr
  have HL := Lib.hid hl
  have HK : Hid (∀ V, Below w.heap.size w V → Row S tag V (.slice A n c) css O) := fun V hV => hr.keep fun b h1 _ => hV.block b (hS b h1)
  clear hr
  unfold setWordA
  cases ha : atO O r with
  | none =>
    have hno := atO_none ha
    rw [hl] at hno
    clear ha hz hl
    rcases hno with rfl | hno
    · go_enter Try.func15, Try.ntmps15
      go_wp2_with fail
      go_ret2
      exact ⟨_, rfl, HK.out _ ((Below.refl _ _).alloc (Nat.le_refl _) _), Trn.of_below ((Below.refl _ _).alloc (Nat.le_refl _) _)⟩
    · have hno' : (n : Int) < (r : Int) := by omega
      go_enter Try.func15, Try.ntmps15
      go_wp2_with fail
      go_ret2
      exact ⟨_, rfl, HK.out _ ((Below.refl _ _).alloc (Nat.le_refl _) _), Trn.of_below ((Below.refl _ _).alloc (Nat.le_refl _) _)⟩
  | some o =>
    subst hl
    have HL2 := HL.out
    clear HL2
    obtain ⟨n, en⟩ : ∃ n, O.length = n := ⟨_, rfl⟩
    rw [en] at HR HK hO ⊢
    dsimp only
    obtain ⟨h0, h1, ho⟩ := atO_some ha
    rw [en] at h1
    have hsm := hz o (List.mem_of_getElem? ho)
    obtain ⟨gr, cs, rfl, -, -, hlr, hcs, hcell, -, hob⟩ := HR.out.cells ho
    obtain ⟨A1, c1, B1, d1, rfl, -, -⟩ := hob.parts
    have k0 := hcell 0 _ rfl
    have k1 := hcell 1 _ rfl
    have k2 := hcell 2 _ rfl
    have k3 := hcell 3 _ rfl
    have HC := Lib.hid hcs
    have HO := Lib.hid ho
    have hsz0 := hsm.1
    have hsz1 := hsm.2
    clear hcell hob hcs ho hsm ha hz
    obtain ⟨k, rfl⟩ : ∃ k, r = k + 1 := ⟨r - 1, by omega⟩
    rw [Nat.add_sub_cancel] at k0 k1 k2 k3 HC HO
    rw [Nat.add_zero] at k0
    have h1' : ((k : Int) + 1) ≤ (n : Int) := by omega
    have hzz : (((k : Int) + 1) == 0) = false := by simp; omega
    have hd : decide ((n : Int) < (k : Int) + 1) = false := by simp; omega
    rw [Nat.add_sub_cancel]
    by_cases hm : i < o.words.length
    rotate_left
    · rw [if_neg hm]
      have hm2 : (o.words.length : Int) ≤ (i : Int) := by omega
      clear hm en HL
      generalize o.kind = kk at *
      generalize o.n = nn at *
      generalize o.words.length = pp at *
      generalize o.bytes.length = qq at *
      go_enter Try.func15, Try.ntmps15
      go_wp2_with fail
      go_ret2
      exact ⟨_, rfl, HK.out _ (((Below.refl _ _).alloc (Nat.le_refl _) _).alloc (by simp) _), Trn.of_below (((Below.refl _ _).alloc (Nat.le_refl _) _).alloc (by simp) _)⟩
    · rw [if_pos hm]
      obtain ⟨-, gw, e, hsw, htw, hgl, hfr, hcell⟩ := HR.out.word_at HO.out HC.out (by omega)
      have hcx := hcell i _ (List.getElem?_eq_getElem hm)
      generalize o.words[i] = old at hcx
      obtain rfl : A1 = some ⟨gw, 0, none⟩ := e
      have HE : Hid (∀ V, Below w.heap.size (w.setCell ⟨gw, i, none⟩ (.int .u64 ((x : Nat) : Int))) V → Row S tag V (.slice (some ⟨gr, 0, none⟩) n c) css (O.set k { o with words := o.words.set i x }) ∧ Trn S w V) := fun V hV => by
        have hsz : (w.setCell ⟨gw, i, none⟩ (.int .u64 ((x : Nat) : Int))).heap.size = w.heap.size := by simp [World.setCell]
        exact ⟨(HR.out.setWord HO.out HC.out (by omega) (by unfold B64; omega)).keep fun b h1 _ => hV.block b (hS b h1), ((Trn.refl S w).set hsw _).then (by rw [hsz]; exact hV)⟩
      have fx := hfr i
      clear hcell hfr hsw htw en HL HK
      obtain ⟨O', eO⟩ : ∃ O', O.set k { o with words := o.words.set i x } = O' := ⟨_, rfl⟩
      rw [eO] at HE ⊢
      clear eO
      generalize o.kind = kk at *
      generalize o.n = nn at *
      generalize o.words.length = pp at *
      generalize o.bytes.length = qq at *
      have hm' : (i : Int) < (pp : Int) := by omega
      go_enter Try.func15, Try.ntmps15
      go_wp2_with fail
      go_ret2
      exact ⟨_, rfl, HE.out _ (((Below.refl _ _).alloc (by simp [World.setCell]) _).alloc (by simp [World.setCell]) _)⟩

set_option maxRecDepth 100000 in
set_option maxHeartbeats 2000000 in
theorem same_byte {S : Nat → Prop} {tag : Nat → Nat} {css : List (List Value)} {O : List Ob} (A : Option Addr) (n c r i x : Nat) (z0 z1 z2 z3 : Value) (w : World) (hr : Row S tag w (.slice A n c) css O) (hl : O.length = n) (h64 : r < B64) (hi : i < B64) (hx64 : x < B64) (hO : n ≤ 1000000) (hz : ∀ o ∈ O, o.small) :
    Calls Try.prog 15 #[.slice A n c, .agg #[.int .i64 3, z0, z1, z2, z3, .int .u64 (r : Int), .int .u64 (i : Int), .int .u64 (x : Int)]] w fun e w' => e = .returned (.tuple #[.int .u64 ((byteA O r i).1 : Int), .int .i64 (byteA O r i).2]) ∧ Below w.heap.size w w' := by
  unfold B64 at h64 hi hx64
  have HR := Lib.hid hr
  have HL := Lib.hid hl
  clear hr
  unfold byteA
  cases ha : atO O r with
  | none =>
    have hno := atO_none ha
    rw [hl] at hno
    clear ha hz hl
    rcases hno with rfl | hno
    · go_enter Try.func15, Try.ntmps15
      go_wp2_with fail
      go_ret2
      exact ⟨rfl, (Below.refl _ _).alloc (Nat.le_refl _) _⟩
    · have hno' : (n : Int) < (r : Int) := by omega
      go_enter Try.func15, Try.ntmps15
      go_wp2_with fail
      go_ret2
      exact ⟨rfl, (Below.refl _ _).alloc (Nat.le_refl _) _⟩
  | some o =>
    subst hl
    have HL2 := HL.out
    clear HL2
    obtain ⟨n, en⟩ : ∃ n, O.length = n := ⟨_, rfl⟩
    rw [en] at HR hO ⊢
    dsimp only
    obtain ⟨h0, h1, ho⟩ := atO_some ha
    rw [en] at h1
    have hsm := hz o (List.mem_of_getElem? ho)
    obtain ⟨gr, cs, rfl, -, -, hlr, hcs, hcell, -, hob⟩ := HR.out.cells ho
    obtain ⟨A1, c1, B1, d1, rfl, -, -⟩ := hob.parts
    have k0 := hcell 0 _ rfl
    have k1 := hcell 1 _ rfl
    have k2 := hcell 2 _ rfl
    have k3 := hcell 3 _ rfl
    have HC := Lib.hid hcs
    have HO := Lib.hid ho
    have hsz0 := hsm.1
    have hsz1 := hsm.2
    clear hcell hob hcs ho hsm ha hz
    obtain ⟨k, rfl⟩ : ∃ k, r = k + 1 := ⟨r - 1, by omega⟩
    rw [Nat.add_sub_cancel] at k0 k1 k2 k3 HC HO
    rw [Nat.add_zero] at k0
    have h1' : ((k : Int) + 1) ≤ (n : Int) := by omega
    have hzz : (((k : Int) + 1) == 0) = false := by simp; omega
    have hd : decide ((n : Int) < (k : Int) + 1) = false := by simp; omega
    cases hx : o.bytes[i]? with
    | none =>
      have hm : (o.bytes.length : Int) ≤ (i : Int) := by rw [List.getElem?_eq_none_iff] at hx; omega
      clear hx en HL
      generalize o.kind = kk at *
      generalize o.n = nn at *
      generalize o.words.length = pp at *
      generalize o.bytes.length = qq at *
      go_enter Try.func15, Try.ntmps15
      go_wp2_with fail
      go_ret2
      exact ⟨rfl, ((Below.refl _ _).alloc (Nat.le_refl _) _).alloc (by simp) _⟩
    | some y =>
      have hm : i < o.bytes.length := (List.getElem?_eq_some_iff.1 hx).1
      obtain ⟨-, gw, e, -, -, hgl, -, hcell⟩ := HR.out.byte_at HO.out HC.out (by omega)
      have hcx := hcell i y hx
      have hyb : (y : Int) < 256 := by have := (HR.out.bounds (List.mem_of_getElem? HO.out)).2.1 y (List.mem_of_getElem? hx); omega
      clear hx hcell en HL
      obtain rfl : B1 = some ⟨gw, 0, none⟩ := e
      generalize o.kind = kk at *
      generalize o.n = nn at *
      generalize o.words.length = pp at *
      generalize o.bytes.length = qq at *
      have hm' : (i : Int) < (qq : Int) := by omega
      go_enter Try.func15, Try.ntmps15
      go_wp2_with fail
      go_ret2
      exact ⟨rfl, ((Below.refl _ _).alloc (Nat.le_refl _) _).alloc (by simp) _⟩

set_option maxRecDepth 100000 in
set_option maxHeartbeats 2000000 in
theorem same_setByte {S : Nat → Prop} {tag : Nat → Nat} {css : List (List Value)} {O : List Ob} (A : Option Addr) (n c r i x : Nat) (z0 z1 z2 z3 : Value) (w : World) (hr : Row S tag w (.slice A n c) css O) (hl : O.length = n) (h64 : r < B64) (hi : i < B64) (hx64 : x < B64) (hO : n ≤ 1000000) (hz : ∀ o ∈ O, o.small) (hS : ∀ b, S b → b < w.heap.size) :
    Calls Try.prog 15 #[.slice A n c, .agg #[.int .i64 4, z0, z1, z2, z3, .int .u64 (r : Int), .int .u64 (i : Int), .int .u64 (x : Int)]] w fun e w' => ∃ y, e = .returned (.tuple #[.int .u64 y, .int .i64 (setByteA O r i (x % 256)).2]) ∧ Row S tag w' (.slice A n c) css (setByteA O r i (x % 256)).1 ∧ Trn S w w' := by
  unfold B64 at h64 hi hx64
  have HR := Lib.hid hr
  have HL := Lib.hid hl
  have HK : Hid (∀ V, Below w.heap.size w V → Row S tag V (.slice A n c) css O) := fun V hV => hr.keep fun b h1 _ => hV.block b (hS b h1)
  clear hr
  unfold setByteA
  cases ha : atO O r with
  | none =>
    have hno := atO_none ha
    rw [hl] at hno
    clear ha hz hl
    rcases hno with rfl | hno
    · go_enter Try.func15, Try.ntmps15
      go_wp2_with fail
      go_ret2
      exact ⟨_, rfl, HK.out _ ((Below.refl _ _).alloc (Nat.le_refl _) _), Trn.of_below ((Below.refl _ _).alloc (Nat.le_refl _) _)⟩
    · have hno' : (n : Int) < (r : Int) := by omega
      go_enter Try.func15, Try.ntmps15
      go_wp2_with fail
      go_ret2
      exact ⟨_, rfl, HK.out _ ((Below.refl _ _).alloc (Nat.le_refl _) _), Trn.of_below ((Below.refl _ _).alloc (Nat.le_refl _) _)⟩
  | some o =>
    subst hl
    have HL2 := HL.out
    clear HL2
    obtain ⟨n, en⟩ : ∃ n, O.length = n := ⟨_, rfl⟩
    rw [en] at HR HK hO ⊢
    dsimp only
    obtain ⟨h0, h1, ho⟩ := atO_some ha
    rw [en] at h1
    have hsm := hz o (List.mem_of_getElem? ho)
    obtain ⟨gr, cs, rfl, -, -, hlr, hcs, hcell, -, hob⟩ := HR.out.cells ho
    obtain ⟨A1, c1, B1, d1, rfl, -, -⟩ := hob.parts
    have k0 := hcell 0 _ rfl
    have k1 := hcell 1 _ rfl
    have k2 := hcell 2 _ rfl
    have k3 := hcell 3 _ rfl
    have HC := Lib.hid hcs
    have HO := Lib.hid ho
    have hsz0 := hsm.1
    have hsz1 := hsm.2
    clear hcell hob hcs ho hsm ha hz
    obtain ⟨k, rfl⟩ : ∃ k, r = k + 1 := ⟨r - 1, by omega⟩
    rw [Nat.add_sub_cancel] at k0 k1 k2 k3 HC HO
    rw [Nat.add_zero] at k0
    have h1' : ((k : Int) + 1) ≤ (n : Int) := by omega
    have hzz : (((k : Int) + 1) == 0) = false := by simp; omega
    have hd : decide ((n : Int) < (k : Int) + 1) = false := by simp; omega
    rw [Nat.add_sub_cancel]
    by_cases hm : i < o.bytes.length
    rotate_left
    · rw [if_neg hm]
      have hm2 : (o.bytes.length : Int) ≤ (i : Int) := by omega
      clear hm en HL
      generalize o.kind = kk at *
      generalize o.n = nn at *
      generalize o.words.length = pp at *
      generalize o.bytes.length = qq at *
      go_enter Try.func15, Try.ntmps15
      go_wp2_with fail
      go_ret2
      exact ⟨_, rfl, HK.out _ (((Below.refl _ _).alloc (Nat.le_refl _) _).alloc (by simp) _), Trn.of_below (((Below.refl _ _).alloc (Nat.le_refl _) _).alloc (by simp) _)⟩
    · rw [if_pos hm]
      obtain ⟨-, gw, e, hsw, htw, hgl, hfr, hcell⟩ := HR.out.byte_at HO.out HC.out (by omega)
      have hcx := hcell i _ (List.getElem?_eq_getElem hm)
      generalize o.bytes[i] = old at hcx
      obtain rfl : B1 = some ⟨gw, 0, none⟩ := e
      have HE : Hid (∀ V, Below w.heap.size (w.setCell ⟨gw, i, none⟩ (.int .u8 (((x % 256) : Nat) : Int))) V → Row S tag V (.slice (some ⟨gr, 0, none⟩) n c) css (O.set k { o with bytes := o.bytes.set i (x % 256) }) ∧ Trn S w V) := fun V hV => by
        have hsz : (w.setCell ⟨gw, i, none⟩ (.int .u8 (((x % 256) : Nat) : Int))).heap.size = w.heap.size := by simp [World.setCell]
        exact ⟨(HR.out.setByte HO.out HC.out (by omega) (Nat.mod_lt _ (by omega))).keep fun b h1 _ => hV.block b (hS b h1), ((Trn.refl S w).set hsw _).then (by rw [hsz]; exact hV)⟩
      have fx := hfr i
      clear hcell hfr hsw htw en HL HK
      obtain ⟨O', eO⟩ : ∃ O', O.set k { o with bytes := o.bytes.set i (x % 256) } = O' := ⟨_, rfl⟩
      rw [eO] at HE ⊢
      clear eO
      generalize o.kind = kk at *
      generalize o.n = nn at *
      generalize o.words.length = pp at *
      generalize o.bytes.length = qq at *
      have hm' : (i : Int) < (qq : Int) := by omega
      go_enter Try.func15, Try.ntmps15
      go_wp2_with fail
      go_ret2
      exact ⟨_, rfl, HE.out _ (((Below.refl _ _).alloc (by simp [World.setCell]) _).alloc (by simp [World.setCell]) _)⟩

set_option maxRecDepth 100000 in
set_option maxHeartbeats 2000000 in
theorem same_len {S : Nat → Prop} {tag : Nat → Nat} {css : List (List Value)} {O : List Ob} (A : Option Addr) (n c r i x : Nat) (z0 z1 z2 z3 : Value) (w : World) (hr : Row S tag w (.slice A n c) css O) (hl : O.length = n) (h64 : r < B64) (hi : i < B64) (hx64 : x < B64) (hO : n ≤ 1000000) (hz : ∀ o ∈ O, o.small) :
    Calls Try.prog 15 #[.slice A n c, .agg #[.int .i64 5, z0, z1, z2, z3, .int .u64 (r : Int), .int .u64 (i : Int), .int .u64 (x : Int)]] w fun e w' => e = .returned (.tuple #[.int .u64 (lenA O r).1, .int .i64 (lenA O r).2]) ∧ Below w.heap.size w w' := by
  unfold B64 at h64 hi hx64
  have HR := Lib.hid hr
  have HL := Lib.hid hl
  clear hr
  unfold lenA
  cases ha : atO O r with
  | none =>
    have hno := atO_none ha
    rw [hl] at hno
    clear ha hz hl
    rcases hno with rfl | hno
    · go_enter Try.func15, Try.ntmps15
      go_wp2_with fail
      go_ret2
      exact ⟨rfl, (Below.refl _ _).alloc (Nat.le_refl _) _⟩
    · have hno' : (n : Int) < (r : Int) := by omega
      go_enter Try.func15, Try.ntmps15
      go_wp2_with fail
      go_ret2
      exact ⟨rfl, (Below.refl _ _).alloc (Nat.le_refl _) _⟩
  | some o =>
    subst hl
    have HL2 := HL.out
    clear HL2
    obtain ⟨n, en⟩ : ∃ n, O.length = n := ⟨_, rfl⟩
    rw [en] at HR hO ⊢
    dsimp only
    obtain ⟨h0, h1, ho⟩ := atO_some ha
    rw [en] at h1
    have hsm := hz o (List.mem_of_getElem? ho)
    obtain ⟨gr, cs, rfl, -, -, hlr, hcs, hcell, -, hob⟩ := HR.out.cells ho
    obtain ⟨A1, c1, B1, d1, rfl, -, -⟩ := hob.parts
    have k0 := hcell 0 _ rfl
    have k1 := hcell 1 _ rfl
    have k2 := hcell 2 _ rfl
    have k3 := hcell 3 _ rfl
    have HC := Lib.hid hcs
    have HO := Lib.hid ho
    have hsz0 := hsm.1
    have hsz1 := hsm.2
    clear hcell hob hcs ho hsm ha hz
    obtain ⟨k, rfl⟩ : ∃ k, r = k + 1 := ⟨r - 1, by omega⟩
    rw [Nat.add_sub_cancel] at k0 k1 k2 k3 HC HO
    rw [Nat.add_zero] at k0
    have h1' : ((k : Int) + 1) ≤ (n : Int) := by omega
    have hzz : (((k : Int) + 1) == 0) = false := by simp; omega
    have hd : decide ((n : Int) < (k : Int) + 1) = false := by simp; omega
    clear en HL HO HC
    obtain ⟨kk, ek⟩ : ∃ k, o.kind = k := ⟨_, rfl⟩
    rw [ek] at k0 ⊢
    clear ek
    generalize o.n = nn at *
    generalize o.words.length = pp at *
    generalize o.bytes.length = qq at *
    by_cases hk : kk = 2
    · subst hk
      rw [if_pos rfl]
      go_enter Try.func15, Try.ntmps15
      go_wp2_with fail
      go_ret2
      exact ⟨rfl, ((Below.refl _ _).alloc (Nat.le_refl _) _).alloc (by simp) _⟩
    · rw [if_neg hk]
      have hk2 : (kk == 2) = false := by simp; exact hk
      go_enter Try.func15, Try.ntmps15
      go_wp2_with fail
      go_ret2
      exact ⟨rfl, ((Below.refl _ _).alloc (Nat.le_refl _) _).alloc (by simp) _⟩
end Go.Proofs.Ytdadaklkaehmjaa
