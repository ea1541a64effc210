/-
  Words that layer 11's laws share.
  Conditions: none.
-/
import Derived.Test.YthficladloeknaaAan
import Derived.Deep.Draws
import Derived.RowKit3
import Derived.OpenShut
namespace Go.Proofs.Ythficladloeknaa
open Go.RowKit
theorem grown_drewN (w : World) (q : Nat) : Grown w (w.drewN q) := Grown.refl w
theorem nat_of {x : Int} {m : Nat} (h : 0 ≤ x ∧ x ≤ (m : Int)) : ∃ k : Nat, x = (k : Int) ∧ k < m + 1 := ⟨x.toNat, by omega, by omega⟩
theorem nat_u64 {x : Int} (h : (Lit.int .u64 x).wf = true) : ∃ k : Nat, x = (k : Int) ∧ k < 18446744073709551616 := ⟨x.toNat, by have := bounds_u64 h; omega, by have := bounds_u64 h; omega⟩
theorem nat_u32 {x : Int} (h : (Lit.int .u32 x).wf = true) : ∃ k : Nat, x = (k : Int) ∧ k < 4294967296 := ⟨x.toNat, by have := bounds_u32 h; omega, by have := bounds_u32 h; omega⟩
theorem nat_u8 {x : Int} (h : (Lit.int .u8 x).wf = true) : ∃ k : Nat, x = (k : Int) ∧ k < 256 := ⟨x.toNat, by have := bounds_u8 h; omega, by have := bounds_u8 h; omega⟩
end Go.Proofs.Ythficladloeknaa
