/-
Rrw
-/
import Derived.Test.YtelceoecekfamaaGreatQ15
import Derived.Test.YtelceoecekfamaaGreatQ22
import Derived.OwnWalk
import Derived.Deep.RegionHeld3
import Derived.Deep.DeepCutAuto
set_option linter.unusedSimpArgs false
set_option linter.unusedVariables false
namespace Go.Proofs.YtelceoecekfamaaGreat
open Go.RowKit
variable {b:Nat}{t:Typ}{ts:List Typ}
def Ruled (r:Option (List Typ×List Typ)) (w:World) (e:Ending) (w':World):Prop:=
 Below w.heap.size w w'∧((r=none∧e= .returned (.tuple #[.slice none 0 0,.slice none 0 0,.bool false]))∨∃ins outs A n c B m d,r=some (ins,outs)∧e= .returned (.tuple #[.slice A n c,.slice B m d,.bool true])∧tysL.R (·<w'.heap.size) w' [.slice A n c] ins∧tysL.R (·<w'.heap.size) w' [.slice B m d] outs)
theorem rtail {w V:World} {a:Addr} {us:List Typ} {n c:Nat} (h:Sq typL (·<w.heap.size) w (some a) ts) (hb:Below w.heap.size w V) (hd:ts.drop b=us) (hn:us.length=n) (hc:n≤c) (hm:c≤9223372036854775807):tysL.R (·<V.heap.size) V [.slice (some (a.add (b*2))) n c] us:=by
 subst hd hn;exact⟨_,c,rfl,hc,by unfold maxLen;omega,((h.below hb (qAi _)).wide fun i h1=>qAh h1 hb.size).drop b⟩
theorem qFD (hl:ts.length=b+1) (h:ts[b]? =some t):ts.drop b=[t]:=by
 obtain⟨hb,rfl⟩:=qAj.1 h;rw[List.drop_eq_getElem_cons hb,List.drop_of_length_le (by omega)]
theorem qJl {y:Typ} (hl:ts.length=b+2) (h:ts[b]? =some y) (h':ts[b+1]? =some t):ts.drop b=[y,t]:=by
 obtain⟨hb,rfl⟩:=qAj.1 h;rw[List.drop_eq_getElem_cons hb,qFD (by omega) h']
theorem rev_1 (hl:ts.length=b+1) (h:ts[b]? =some t):∃r,ts.reverse=t::r:=by
 have e:=List.take_append_drop b ts;rw[qFD hl h] at e;exact⟨(ts.take b).reverse,(congrArg List.reverse e.symm).trans (by simp)⟩
theorem rev_2 {y:Typ} (hl:ts.length=b+2) (h:ts[b]? =some y) (h':ts[b+1]? =some t):∃r,ts.reverse=t::y::r:=by
 have e:=List.take_append_drop b ts;rw[qJl hl h h'] at e;exact⟨(ts.take b).reverse,(congrArg List.reverse e.symm).trans (by simp)⟩
end Go.Proofs.YtelceoecekfamaaGreat
