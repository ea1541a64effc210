/-
  Arguments opened: what an instruction (Op, A and B) that came in holds.
  Conditions: none.
-/
import Derived.Test.YtolofgifcjkaaaaOpn
import Derived.Lib.SmallJoins
namespace Go.Proofs.Ytolofgifcjkaaaa
open Go.ChangeShapes Go.WideShapes Go.ChangeAt Go.RowKit

theorem open_ins {H : Type} {enc : TypeId × Value → H} {W : World} {r : Reach} {b0 : Nat} {v : Value} {d : DataW H} {p : List MemPlace} (hv : Value.okWide Try.prog W r b0 23 v) (h : DataW.Trod enc Try.prog W 0 (fun _ => true) true 23 v d p) :
    ∃ o x y : Int, v = .agg #[.int .i64 o, .int .i64 x, .int .i64 y] ∧ (Lit.int .i64 o).wf = true ∧ (Lit.int .i64 x).wf = true ∧ (Lit.int .i64 y).wf = true := by
  obtain ⟨v0, v1, v2, y0, y1, y2, m, rfl, _, _, h0, h1, h2⟩ := Go.Joins.open_agg3 Try.underlying23 (by kernel_rfl) (by kernel_rfl) hv h
  obtain ⟨k, hk, _, wk⟩ := DataW.trod_int Try.underlying3 h0
  obtain ⟨n, hn, _, wn⟩ := DataW.trod_int Try.underlying3 h1
  obtain ⟨l, hl, _, wl⟩ := DataW.trod_int Try.underlying3 h2
  injection hk with hk _
  injection hn with hn _
  injection hl with hl _
  subst hk hn hl
  exact ⟨k, n, l, rfl, wk, wn, wl⟩
end Go.Proofs.Ytolofgifcjkaaaa
