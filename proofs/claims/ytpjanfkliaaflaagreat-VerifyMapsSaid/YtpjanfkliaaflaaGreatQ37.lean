/-
  Rfy
-/
import Derived.Test.YtpjanfkliaaflaaGreatQ34
import Derived.Test.YtpjanfkliaaflaaGreatQ35
import Derived.Test.YtpjanfkliaaflaaGreatQ36
set_option linter.unusedSimpArgs false
set_option linter.unusedVariables false
namespace Go.Proofs.YtpjanfkliaaflaaGreat
open Go.RowKit

theorem rflow_at (RU : RuleAny) (cs : List Value) (x : Mod) (j p : Nat) (D : Option Addr) (k g : Nat) (ts : List Typ) (w : World) (h : modL.R (· < w.heap.size) w cs x) (fn : Fn) (o ia ib : Int) (hc : checkN x = 0) (hfn : x.funcs[j]? = some fn) (hin : fn.code[p]? = some (o, ia, ib)) (hk : ts.length = k) (sk : Sq typL (· < w.heap.size) w D ts) (bk : k ≤ 1000) (bg : k ≤ g) (bg2 : g ≤ 9223372036854775807) (hnil : D = none → g = 0) : Calls Tryz.prog 21 #[vAgg cs, .int .i64 (j : Int), .int .i64 (p : Int), .slice D k g] w (RFlows (insB8 x fn (o, ia, ib) p ts) w) := by
  cases hrb : ruleB x fn (o, ia, ib) ts with
  | none => exact rflow_none RU cs x j p D k g ts w h fn o ia ib hc hfn hin hk sk bk bg bg2 hrb
  | some io =>
    obtain ⟨ins, outs⟩ := io
    by_cases h1 : k < ins.length
    · exact rflow_few RU cs x j p D k g ts w h fn o ia ib hc hfn hin hk sk bk bg bg2 ins outs hrb h1
    by_cases h2 : 8 < k - ins.length + outs.length
    · exact rflow_many RU cs x j p D k g ts w h fn o ia ib hc hfn hin hk sk bk bg bg2 ins outs hrb (by omega) h2
    cases D with
    | none => exact rflow_nil RU cs x j p k g ts w h fn o ia ib hc hfn hin hk sk bk bg bg2 (hnil rfl) ins outs hrb (by omega) (by omega)
    | some aD => exact rflow_main RU cs x j p aD k g ts w h fn o ia ib hc hfn hin hk sk bk bg bg2 ins outs hrb (by omega) (by omega)
end Go.Proofs.YtpjanfkliaaflaaGreat
