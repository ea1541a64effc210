/-
Rrw
-/
import Derived.Test.YtconajaecpgjgaaGreatT16
import Derived.Test.YtconajaecpgjgaaGreatT29
import Derived.OwnWalk
import Derived.Deep.RegionHeld3
import Derived.Deep.DeepCutAuto
set_option linter.unusedSimpArgs false
set_option linter.unusedVariables false
namespace Go.Proofs.YtconajaecpgjgaaGreat
open Go.RowKit
def Ruled (r:Option (List Typ×List Typ)) (w:World) (e:Ending) (w':World):Prop:=
 Below w.heap.size w w'∧((r=none∧e= .returned (.tuple #[.slice none 0 0,.slice none 0 0,.bool false]))∨∃ins outs A n c B m d,r=some (ins,outs)∧e= .returned (.tuple #[.slice A n c,.slice B m d,.bool true])∧tysL.R (·<w'.heap.size) w' [.slice A n c] ins∧tysL.R (·<w'.heap.size) w' [.slice B m d] outs)
theorem qGK {w V:World} {v:Value} {ts:List Typ} (h:tysL.R (·<w.heap.size) w [v] ts) (hb:Below w.heap.size w V):tysL.R (·<V.heap.size) V [v] ts:=tysL.wide (tysL.keep h fun b h1=>hb.block b h1) fun b h1=>qAg h1 hb.size
theorem qIg {w V:World} {a:Addr} {ts us:List Typ} {b n c:Nat} (h:Sq typL (·<w.heap.size) w (some a) ts) (hb:Below w.heap.size w V) (hd:ts.drop b=us) (hn:us.length=n) (hc:n≤c) (hm:c≤9223372036854775807):tysL.R (·<V.heap.size) V [.slice (some (a.add (b*2))) n c] us:=by
 subst hd hn
 exact⟨_,c,rfl,hc,by unfold maxLen;omega,((h.below hb (qAf _)).wide fun i h1=>qAg h1 hb.size).drop b⟩
theorem qEG {ts:List Typ} {b:Nat} {t:Typ} (hl:ts.length=b+1) (h:ts[b]? =some t):ts.drop b=[t]:=by
 obtain⟨hb,rfl⟩:=qAh.1 h
 rw[List.drop_eq_getElem_cons hb,List.drop_of_length_le (by omega)]
theorem qJI {ts:List Typ} {b:Nat} {y t:Typ} (hl:ts.length=b+2) (h:ts[b]? =some y) (h':ts[b+1]? =some t):ts.drop b=[y,t]:=by
 obtain⟨hb,rfl⟩:=qAh.1 h
 rw[List.drop_eq_getElem_cons hb,qEG (by omega) h']
theorem qIo {ts:List Typ} {b:Nat} {t:Typ} (hl:ts.length=b+1) (h:ts[b]? =some t):∃r,ts.reverse=t::r:=by
 have e:=List.take_append_drop b ts
 rw[qEG hl h] at e
 exact⟨(ts.take b).reverse,(congrArg List.reverse e.symm).trans (by simp)⟩
theorem rev_2 {ts:List Typ} {b:Nat} {y t:Typ} (hl:ts.length=b+2) (h:ts[b]? =some y) (h':ts[b+1]? =some t):∃r,ts.reverse=t::y::r:=by
 have e:=List.take_append_drop b ts
 rw[qJI hl h h'] at e
 exact⟨(ts.take b).reverse,(congrArg List.reverse e.symm).trans (by simp)⟩
theorem qBO {w:World} {g n:Nat} {cs:Array Value} {ts:List Typ} (h:Blk w g 58 cs) (hc:cs.toList=T2 ts) (ha:A64 ts) (hn:ts.length=n) (hm:n≤1000):tysL.R (·<w.heap.size) w [.slice (some ⟨g,0,none⟩) n n] ts:=qIy h h.lt hc ha hn hm
end Go.Proofs.YtconajaecpgjgaaGreat
