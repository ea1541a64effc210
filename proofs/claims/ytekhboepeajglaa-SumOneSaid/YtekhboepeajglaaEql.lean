/-
  What bytes.Equal does.
  Conditions: the numbers are bytes.
-/
import Derived.Test.YtekhboepeajglaaWds
import Derived.Shelf.Bytes.SlEqualAll
namespace Go.Proofs.Ytekhboepeajglaa
open Go.RowKit

theorem byt_in {S : Nat → Prop} {w : World} {A : Option Addr} {xs : List Nat} (h : Byt S w A xs) : Lib.BytesIn w A xs.length (xs.map fun x : Nat => (x : Int)) := by
  rcases Nat.eq_zero_or_pos xs.length with h0 | h0
  · rw [h0]
    exact Lib.BytesIn.nil _ _ _
  · obtain ⟨a, rfl, _, hc⟩ := h h0
    refine Lib.BytesIn.of_cells fun i hi => ?_
    rw [hc i hi]
    simp [hi, List.getD]
theorem str_inj : ∀ (xs ys : List Nat), (∀ x ∈ xs, x < 256) → (∀ y ∈ ys, y < 256) → (strOfNums (xs.map fun x : Nat => (x : Int))).toList = (strOfNums (ys.map fun x : Nat => (x : Int))).toList → xs = ys := by
  intro xs ys hx hy h
  rw [ByteArray.toList_eq, ByteArray.toList_eq] at h
  have h2 := congrArg (fun s : List UInt8 => s.map UInt8.toNat) h
  simp only [strOfNums_data, List.map_map] at h2
  have e : ∀ zs : List Nat, (∀ z ∈ zs, z < 256) → zs.map (UInt8.toNat ∘ (fun n : Int => UInt8.ofNat n.toNat) ∘ fun x : Nat => (x : Int)) = zs := by
    intro zs hz
    conv => rhs; rw [← List.map_id zs]
    refine List.map_congr_left fun z h => ?_
    have := hz z h
    simp
    omega
  rwa [e xs hx, e ys hy] at h2

set_option maxHeartbeats 400000 in
theorem equal_any (A B : Option Addr) (n m c d : Nat) (xs ys : List Nat) (w : World) (S T : Nat → Prop) (hn : xs.length = n) (hm : ys.length = m) (hA : Byt S w A xs) (hB : Byt T w B ys) (b : Bool)
    (hb : ((strOfNums (xs.map fun x : Nat => (x : Int))).toList == (strOfNums (ys.map fun x : Nat => (x : Int))).toList) = b) :
    Calls Try.prog 18 #[.slice A n c, .slice B m d] w fun e w' => e = .returned (.bool b) ∧ w = w' := by
  subst hn hm
  have k1 := (byt_in hA).convert (P := Try.prog) (by simp) c 22 5 9 Try.underlying22 Try.underlying5 Try.underlying9
  have k2 := (byt_in hB).convert (P := Try.prog) (by simp) d 22 5 9 Try.underlying22 Try.underlying5 Try.underlying9
  generalize strOfNums (xs.map fun x : Nat => (x : Int)) = s1 at hb k1
  generalize strOfNums (ys.map fun x : Nat => (x : Int)) = s2 at hb k2
  clear hA hB
  go_enter Try.func18, Try.ntmps18
  go_wp2
  go_ret
  exact ⟨rfl, rfl⟩
theorem equal_yes (A B : Option Addr) (n m c d : Nat) (xs : List Nat) (w : World) (S T : Nat → Prop) (hn : xs.length = n) (hm : xs.length = m) (hA : Byt S w A xs) (hB : Byt T w B xs) :
    Calls Try.prog 18 #[.slice A n c, .slice B m d] w fun e w' => e = .returned (.bool true) ∧ w = w' :=
  equal_any A B n m c d xs xs w S T hn hm hA hB true (by simp)
theorem equal_no (A B : Option Addr) (n m c d : Nat) (xs ys : List Nat) (w : World) (S T : Nat → Prop) (hn : xs.length = n) (hm : ys.length = m) (hx : ∀ x ∈ xs, x < 256) (hy : ∀ y ∈ ys, y < 256) (hne : ¬ xs = ys) (hA : Byt S w A xs) (hB : Byt T w B ys) :
    Calls Try.prog 18 #[.slice A n c, .slice B m d] w fun e w' => e = .returned (.bool false) ∧ w = w' :=
  equal_any A B n m c d xs ys w S T hn hm hA hB false (by simpa using fun h => hne (str_inj xs ys hx hy h))
end Go.Proofs.Ytekhboepeajglaa
