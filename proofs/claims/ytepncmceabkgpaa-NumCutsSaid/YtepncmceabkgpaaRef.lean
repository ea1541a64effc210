/-
  What the document's own answers for layer 1 do: Var, Same.
  Conditions: as each theorem says.
-/
import Derived.Test.YtepncmceabkgpaaAns
import Derived.Deep.QuietTactic
import Derived.BigQuiet
import Derived.OpenShut
namespace Go.Proofs.Ytepncmceabkgpaa
open Go.RowKit

theorem own_one (w : World) (z : Int) (x : Nat) (h : z = (x : Int)) : (w.alloc (.cells #[.int .u8 z] 5)).ownsRow w.heap.size 5 1 (.slice (some ⟨w.heap.size, 0, none⟩) 1 1) 1 (Bs [x]) := by
  subst h
  exact ⟨rfl, .inr ⟨w.heap.size, 1, _, rfl, Nat.le_refl _, heap_alloc_new w _, Nat.le_refl _, by simp [maxLen], rfl, rfl⟩⟩

theorem own_below {w w' : World} {base B : Nat} {v : Value} {n : Nat} {xs : List Value} (h : w.ownsRow base 5 1 v n xs) (hb : Below B w w') (hB : w.heap.size ≤ B) : w'.ownsRow base 5 1 v n xs :=
  h.kept (w' := w') (row := none) ⟨hb.os, hb.tape, hb.output, hb.size, fun k hk _ => hb.block k (by omega)⟩ (by cases v.ownBlock <;> simp)

set_option maxHeartbeats 1000000 in
theorem refVar_any (v : Nat) : ∀ (w : World), v < B64 →
    Calls Try.prog 17 #[.int .u64 (v : Nat)] w fun e w' => ∃ u, e = .returned u ∧ w'.ownsRow w.heap.size 5 1 u (vb v).length (Bs (vb v)) ∧ Below w.heap.size w w' := by
  induction v using Nat.strongRecOn with
  | _ v ih =>
    intro w hv
    by_cases hlt : v < 128
    · have h1 : decide ((v : Int) < 128) = true := by simp; omega
      clear ih
      go_enter Try.func17, Try.ntmps17
      go_wp2
      go_ret
      refine ⟨_, rfl, ?_, (Below.refl _ w).alloc (Nat.le_refl _) _⟩
      rw [vb_small v hlt]
      exact own_one w _ v rfl
    · have h1 : decide ((v : Int) < 128) = false := by simp; omega
      have IH := Lib.hid (fun w' => ih (v / 128) (by omega) w' (by omega))
      have HV := Lib.hid hv
      clear ih hv
      go_enter Try.func17, Try.ntmps17
      go_wp2_with fail
      have e1 : IntKind.u64.wrap ((v : Int) / 128) = ((v / 128 : Nat) : Int) := by have := HV.out; unfold B64 at this; rw [IntKind.wrap_u64]; omega
      rw [e1]
      clear e1
      refine (IH.out _).mono ?_
      rintro e w2 ⟨u, rfl, hown, hbel⟩
      obtain ⟨A, c, rfl, hl, hlc, hcm, hB⟩ := own_slice hown
      have hlen : (vb (v / 128)).length ≤ 10 := vb_len 9 _ (by have := HV.out; unfold B64 at this; omega)
      have HB := Lib.hid hB
      have hsz := hbel.size
      have HO := Lib.hid (own_below (own_one w (128 + (v : Int) % 128) (v % 128 + 128) (by omega)) hbel (Nat.le_refl _))
      simp at hsz
      clear hown hl hB
      go_wp2_with (at_builtin
                   refine walk_append _ rfl (.tmp 12) (.tmp 15) rfl w.heap.size (.slice (some ⟨w.heap.size, 0, none⟩) 1 1) 1 [v % 128 + 128] rfl HO.out A _ c (vb (v / 128)) rfl rfl _ HB.out (by omega) (by omega) ?_
                   intro v1 w1 hown1 hg1 _)
      go_ret
      refine ⟨v1, rfl, ?_, ?_⟩
      · rw [vb_big v hlt]
        have e : (vb (v / 128)).length + 1 = 1 + (vb (v / 128)).length := by omega
        rw [List.length_cons, e]
        exact hown1
      · refine (((Below.refl _ w).alloc (Nat.le_refl _) _).trans (hbel.mono (by simp))).grown hg1 (by omega) (fun k hk => ?_)
        simp [Value.ownBlock] at hk
        omega

theorem nat_u64 (a : Int) (h : (Lit.int .u64 a).wf = true) : ∃ v : Nat, a = (v : Int) ∧ v < B64 := by
  obtain ⟨h1, h2⟩ := bounds_u64 h
  exact ⟨a.toNat, by omega, by unfold B64; omega⟩
theorem nat_u8 (a : Int) (h : (Lit.int .u8 a).wf = true) : ∃ v : Nat, a = (v : Int) ∧ v < 256 := by
  obtain ⟨h1, h2⟩ := bounds_u8 h
  exact ⟨a.toNat, by omega, by omega⟩

/-- Same: whether two rows of bytes are the same. -/
def sameB (xs ys : List Nat) : Bool := decide (xs = ys)

set_option maxHeartbeats 1000000 in
theorem same_any (A B : Option Addr) (c d : Nat) (xs ys : List Nat) (w : World) (S T : Nat → Prop) (hA : Byt S w A xs) (hB : Byt T w B ys) (hx : xs.length ≤ 140737488355328) (hy : ys.length ≤ 140737488355328) :
    Calls Try.prog 15 #[.slice A xs.length c, .slice B ys.length d] w fun e w' => e = .returned (.bool (sameB xs ys)) ∧ ∃ n, w' = w.drewN n := by
  have HA := Lib.hid hA
  have HB := Lib.hid hB
  clear hA hB
  by_cases hl : xs.length = ys.length
  · have HL := Lib.hid hl
    have h1 : ((xs.length : Int) != (ys.length : Int)) = false := by simp; omega
    have h2 : ((xs.length) != (ys.length)) = false := by simp; omega
    clear hl
    go_enter Try.func15, Try.ntmps15
    go_wp2_with fail
    go_loopw [5] (fun i wr => ∃ k n : Nat, k ≤ xs.length ∧ i = .int .i64 (k : Nat) ∧ (∀ j, j < k → xs[j]?.getD 0 = ys[j]?.getD 0) ∧ wr = w.drewN n) (fun i _ => xs.length - (intOf i).toNat)
    case atStart => exact ⟨0, 0, Nat.zero_le _, rfl, fun j hj => absurd hj (by omega), rfl⟩
    case round =>
      obtain ⟨k, n, hk, rfl, heq, rfl⟩ := hrel
      have HE := Lib.hid heq
      clear heq
      by_cases hlt : k < xs.length
      · have hlt2 : k < ys.length := by have := HL.out; omega
        obtain ⟨a, rfl, _, ha⟩ := HA.out.at (k := k) hlt
        obtain ⟨b, rfl, _, hb⟩ := HB.out.at (k := k) hlt2
        obtain ⟨x, hx⟩ : ∃ x, xs[k]?.getD 0 = x := ⟨_, rfl⟩
        obtain ⟨y, hy⟩ : ∃ y, ys[k]?.getD 0 = y := ⟨_, rfl⟩
        rw [hx] at ha
        rw [hy] at hb
        have HX := Lib.hid hx
        have HY := Lib.hid hy
        have k0 : 0 ≤ (k : Int) := by omega
        have k1 : (k : Int) < (xs.length : Int) := by omega
        have k2 : (k : Int) < (ys.length : Int) := by omega
        clear hx hy
        by_cases hxy : x = y
        · have t1 : ((x : Int) != (y : Int)) = false := by simp; omega
          have hXY := Lib.hid hxy
          clear hxy
          go_wp2
          go_quiet (fail)
          go_wp2
          refine ⟨⟨k + 1, _, by omega, by simp, fun j hj => ?_, rfl⟩, by simp [intOf]; omega⟩
          rcases Nat.lt_or_ge j k with h | h
          · exact HE.out j h
          · obtain rfl : j = k := by omega
            rw [HX.out, HY.out]
            exact hXY.out
        · have t1 : ((x : Int) != (y : Int)) = true := by simp; omega
          have hXY := Lib.hid hxy
          clear hxy
          go_wp2
          go_quiet (fail)
          go_wp2
          go_ret
          have h3 : sameB xs ys = false := by
            simp only [sameB, decide_eq_false_iff_not]
            rintro rfl
            exact hXY.out (HX.out.symm.trans HY.out)
          exact ⟨by rw [h3]; rfl, _, World.drewN_drewN _ _ _⟩
      · go_wp2
        go_ret
        have h3 : sameB xs ys = true := by
          simp only [sameB, decide_eq_true_eq]
          refine List.ext_getElem HL.out fun j h1 h2 => ?_
          have := HE.out j (by omega)
          simpa [h1, h2] using this
        exact ⟨by rw [h3]; rfl, _, rfl⟩
  · have h1 : ((xs.length : Int) != (ys.length : Int)) = true := by simp; omega
    have h2 : ((xs.length) != (ys.length)) = true := by simp; omega
    have h3 : sameB xs ys = false := by
      simp only [sameB, decide_eq_false_iff_not]
      rintro rfl
      exact hl rfl
    have HL := Lib.hid hl
    clear hl
    go_enter Try.func15, Try.ntmps15
    go_wp2
    go_ret
    exact ⟨by rw [h3]; rfl, 0, rfl⟩

theorem same_yes (A B : Option Addr) (n m c d : Nat) (xs ys : List Nat) (w : World) (S T : Nat → Prop) (hn : xs.length = n) (hm : ys.length = m) (he : xs = ys) (hA : Byt S w A xs) (hB : Byt T w B ys) (hx : n ≤ 140737488355328) :
    Calls Try.prog 15 #[.slice A n c, .slice B m d] w fun e w' => e = .returned (.bool true) ∧ ∃ q, w' = w.drewN q := by
  subst he hn hm
  refine (same_any A B c d xs xs w S T hA hB hx hx).mono ?_
  rintro e w' ⟨rfl, h⟩
  exact ⟨by simp [sameB], h⟩

theorem Byt.below {B B' : Nat} {w w' : World} {A : Option Addr} {xs : List Nat} (h : Byt (· < B) w A xs) (hb : Below B' w w') (hB : B ≤ B') : Byt (· < B) w' A xs := h.keep fun b h1 => hb.block b (Nat.lt_of_lt_of_le h1 hB)

/-- A slice of integers that came in: nil, or a row of 'cap' cells that hold the numbers zs. -/
def IsRow (k : IntKind) (w : World) (a : Option Addr) (len cap : Nat) (zs : List Int) : Prop :=
  (a = none ∧ len = 0 ∧ cap = 0 ∧ zs = []) ∨
  ∃ x, a = some x ∧ len ≤ cap ∧ cap ≤ maxLen ∧ zs.length = cap ∧ (∀ i, i < zs.length → w.cell? (x.add i) = some (.int k (zs.getD i 0))) ∧ ∀ n ∈ zs, (Lit.int k n).wf = true

theorem row_bytes {w : World} {a : Option Addr} {len cap : Nat} {zs : List Int} (h : IsRow .u8 w a len cap zs) :
    ∃ xs : List Nat, xs.length = len ∧ (∀ x ∈ xs, x < 256) ∧ Byt (· < w.heap.size) w a xs ∧ len ≤ cap ∧ cap ≤ maxLen := by
  rcases h with ⟨rfl, rfl, rfl, rfl⟩ | ⟨x, rfl, hl, hm, hz, hc, hw⟩
  · exact ⟨[], rfl, by simp, Byt.nil _ _ _, Nat.le_refl _, by simp [maxLen]⟩
  · refine ⟨(zs.take len).map Int.toNat, by simp; omega, fun y hy => ?_, fun hpos => ⟨x, rfl, ?_, fun j hj => ?_⟩, hl, hm⟩
    · obtain ⟨z, hz', rfl⟩ := List.mem_map.1 hy
      have := bounds_u8 (hw z (List.mem_of_mem_take hz'))
      omega
    · have h0 : 0 < zs.length := by simp at hpos; omega
      have := World.block_lt_of_cell? w _ (hc 0 h0)
      rwa [addBlock] at this
    · have hj' : j < len := by simp at hj; omega
      have hjz : j < zs.length := by omega
      rw [hc j hjz]
      have hb := bounds_u8 (hw zs[j] (List.getElem_mem hjz))
      simp [hj', hjz, List.getD]
      omega
end Go.Proofs.Ytepncmceabkgpaa
