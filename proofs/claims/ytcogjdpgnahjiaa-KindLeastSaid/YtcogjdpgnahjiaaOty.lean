/-
  Arguments opened: what a type (a Kind and an N) that came in holds.
  Conditions: none.
-/
import Derived.Test.YtcogjdpgnahjiaaOpn
import Derived.Lib.SmallJoins
namespace Go.Proofs.Ytcogjdpgnahjiaa
open Go.ChangeShapes Go.WideShapes Go.ChangeAt Go.RowKit

theorem open_typ {H : Type} {enc : TypeId × Value → H} {W : World} {r : Reach} {b0 : Nat} {v : Value} {d : DataW H} {p : List MemPlace} (hv : Value.okWide Try.prog W r b0 23 v) (h : DataW.Trod enc Try.prog W 0 (fun _ => true) true 23 v d p) :
    ∃ k n : Int, v = .agg #[.int .i64 k, .int .i64 n] ∧ (Lit.int .i64 k).wf = true ∧ (Lit.int .i64 n).wf = true := by
  obtain ⟨v0, v1, y0, y1, m, rfl, _, _, h0, h1⟩ := Go.Joins.open_agg2 Try.underlying23 (by kernel_rfl) (by kernel_rfl) hv h
  obtain ⟨k, hk, _, wk⟩ := DataW.trod_int Try.underlying3 h0
  obtain ⟨n, hn, _, wn⟩ := DataW.trod_int Try.underlying3 h1
  injection hk with hk _
  injection hn with hn _
  subst hk hn
  exact ⟨k, n, rfl, wk, wn⟩
end Go.Proofs.Ytcogjdpgnahjiaa
