/-
Rru
-/
import Derived.Test.YtconajaecpgjgaaGreatT31
import Derived.Test.YtconajaecpgjgaaGreatT41
import Derived.Test.YtconajaecpgjgaaGreatT42
import Derived.Test.YtconajaecpgjgaaGreatT43
import Derived.Test.YtconajaecpgjgaaGreatT44
import Derived.Test.YtconajaecpgjgaaGreatT45
import Derived.Test.YtconajaecpgjgaaGreatT46
import Derived.Test.YtconajaecpgjgaaGreatT47
import Derived.Test.YtconajaecpgjgaaGreatT48
set_option linter.unusedSimpArgs false
set_option linter.unusedVariables false
namespace Go.Proofs.YtconajaecpgjgaaGreat
open Go.RowKit
theorem rrule_any:RuleAny:=by
 intro A0 A1 A2 A3 A4 P0 P1 P2 D n0 n1 n2 n3 n4 d0 d1 d2 d3 d4 ua ul uc c0 c1 c2 k g x f ts o ia ib w H hg hn hkg hg9
 obtain⟨o1,j,l,rfl,rfl,rfl,ho,hj,hl,-,-,-⟩:=qBF hg
 by_cases h3:o1=3
 · subst h3
   exact qCh A0 A1 A2 A3 A4 P0 P1 P2 D n0 n1 n2 n3 n4 d0 d1 d2 d3 d4 ua ul uc c0 c1 c2 k g x f ts 3 j l w H hj hl hkg hg9 (.inl (rfl))
 by_cases h4:o1=4
 · subst h4
   exact qCh A0 A1 A2 A3 A4 P0 P1 P2 D n0 n1 n2 n3 n4 d0 d1 d2 d3 d4 ua ul uc c0 c1 c2 k g x f ts 4 j l w H hj hl hkg hg9 (.inr (.inl (rfl)))
 by_cases h26:o1=26
 · subst h26
   exact qCh A0 A1 A2 A3 A4 P0 P1 P2 D n0 n1 n2 n3 n4 d0 d1 d2 d3 d4 ua ul uc c0 c1 c2 k g x f ts 26 j l w H hj hl hkg hg9 (.inr (.inr (.inl (rfl))))
 by_cases h25:o1=25
 · subst h25
   simp[namedB] at hn
   obtain⟨q,hq⟩:∃q,x.funcs[j]? =some q:=⟨x.funcs[j]'(by omega),qAa _⟩
   exact qCh A0 A1 A2 A3 A4 P0 P1 P2 D n0 n1 n2 n3 n4 d0 d1 d2 d3 d4 ua ul uc c0 c1 c2 k g x f ts 25 j l w H hj hl hkg hg9 (.inr (.inr (.inr (.inl (⟨rfl,q,hq⟩)))))
 by_cases h27:o1=27
 · subst h27
   simp[namedB] at hn
   obtain⟨q,hq⟩:∃q,x.imps[j]? =some q:=⟨x.imps[j]'(by omega),qAa _⟩
   exact qCh A0 A1 A2 A3 A4 P0 P1 P2 D n0 n1 n2 n3 n4 d0 d1 d2 d3 d4 ua ul uc c0 c1 c2 k g x f ts 27 j l w H hj hl hkg hg9 (.inr (.inr (.inr (.inr (⟨rfl,q,hq⟩)))))
 by_cases h28:o1=28
 · subst h28
   simp[namedB] at hn
   obtain⟨r,hr⟩:∃r,x.recs[j]? =some r:=⟨x.recs[j]'(by omega),qAa _⟩
   exact qCL A0 A1 A2 A3 A4 P0 P1 P2 D n0 n1 n2 n3 n4 d0 d1 d2 d3 d4 ua ul uc c0 c1 c2 k g x f ts 28 j l w H hj hl hkg hg9 (.inl (⟨rfl,r,hr⟩))
 by_cases h29:o1=29
 · subst h29
   simp[namedB] at hn
   cases hr:x.recs[j]? with
   |none=>rw[hr] at hn;simp at hn
   |some r=>
    rw[hr] at hn
    simp at hn
    obtain⟨t,ht⟩:∃t,r[l]? =some t:=⟨r[l]'(by omega),qAa _⟩
    exact qCL A0 A1 A2 A3 A4 P0 P1 P2 D n0 n1 n2 n3 n4 d0 d1 d2 d3 d4 ua ul uc c0 c1 c2 k g x f ts 29 j l w H hj hl hkg hg9 (.inr (.inl (⟨rfl,r,t,hr,ht⟩)))
 by_cases h30:o1=30
 · subst h30
   simp[namedB] at hn
   cases hr:x.recs[j]? with
   |none=>rw[hr] at hn;simp at hn
   |some r=>
    rw[hr] at hn
    simp at hn
    obtain⟨t,ht⟩:∃t,r[l]? =some t:=⟨r[l]'(by omega),qAa _⟩
    exact qCL A0 A1 A2 A3 A4 P0 P1 P2 D n0 n1 n2 n3 n4 d0 d1 d2 d3 d4 ua ul uc c0 c1 c2 k g x f ts 30 j l w H hj hl hkg hg9 (.inr (.inr (.inl (⟨rfl,r,t,hr,ht⟩))))
 by_cases h6:o1=6
 · subst h6
   by_cases hk:k=0
   · exact qCL A0 A1 A2 A3 A4 P0 P1 P2 D n0 n1 n2 n3 n4 d0 d1 d2 d3 d4 ua ul uc c0 c1 c2 k g x f ts 6 j l w H hj hl hkg hg9 (.inr (.inr (.inr (.inl (⟨rfl,hk⟩)))))
   · exact rule_6 A0 A1 A2 A3 A4 P0 P1 P2 D n0 n1 n2 n3 n4 d0 d1 d2 d3 d4 ua ul uc c0 c1 c2 k g x f ts j l w H hj hl (by omega) hkg hg9
 by_cases h7:o1=7
 · subst h7
   by_cases hk:k<2
   · exact qCL A0 A1 A2 A3 A4 P0 P1 P2 D n0 n1 n2 n3 n4 d0 d1 d2 d3 d4 ua ul uc c0 c1 c2 k g x f ts 7 j l w H hj hl hkg hg9 (.inr (.inr (.inr (.inr (.inl (⟨rfl,hk⟩))))))
   · exact rule_7 A0 A1 A2 A3 A4 P0 P1 P2 D n0 n1 n2 n3 n4 d0 d1 d2 d3 d4 ua ul uc c0 c1 c2 k g x f ts j l w H hj hl (by omega) hkg hg9
 by_cases h41:o1=41
 · subst h41
   by_cases hk:k=0
   · exact qCL A0 A1 A2 A3 A4 P0 P1 P2 D n0 n1 n2 n3 n4 d0 d1 d2 d3 d4 ua ul uc c0 c1 c2 k g x f ts 41 j l w H hj hl hkg hg9 (.inr (.inr (.inr (.inr (.inr (⟨rfl,hk⟩))))))
   · obtain⟨t,ht⟩:∃t,ts[k-1]? =some t:=⟨ts[k-1]'(by rw[H.hk];omega),qAa _⟩
     by_cases h5:t.1=5
     · exact qId A0 A1 A2 A3 A4 P0 P1 P2 D n0 n1 n2 n3 n4 d0 d1 d2 d3 d4 ua ul uc c0 c1 c2 k g x f ts j l w H hj hl (by omega) hkg hg9 fun t' ht'=>by
        rw[ht] at ht'
        injection ht' with e
        exact e▸h5
     · exact qIe A0 A1 A2 A3 A4 P0 P1 P2 D n0 n1 n2 n3 n4 d0 d1 d2 d3 d4 ua ul uc c0 c1 c2 k g x f ts j l w H hj hl (by omega) hkg hg9 fun t' ht'=>by
        rw[ht] at ht'
        injection ht' with e
        exact e▸h5
 by_cases ha:o1=0∨o1=1∨o1=2∨o1=5∨o1=22∨o1=23∨o1=24∨o1=31∨o1=32
 · exact qIc A0 A1 A2 A3 A4 P0 P1 P2 D n0 n1 n2 n3 n4 d0 d1 d2 d3 d4 ua ul uc c0 c1 c2 k g x f ts (o1:Int) j l w H hj hl (by omega)
 by_cases hb:o1=33∨o1=34∨o1=35∨o1=36∨o1=37
 · exact qIb A0 A1 A2 A3 A4 P0 P1 P2 D n0 n1 n2 n3 n4 d0 d1 d2 d3 d4 ua ul uc c0 c1 c2 k g x f ts (o1:Int) j l w H hj hl (by omega)
 · exact qIa A0 A1 A2 A3 A4 P0 P1 P2 D n0 n1 n2 n3 n4 d0 d1 d2 d3 d4 ua ul uc c0 c1 c2 k g x f ts (o1:Int) j l w H hj hl (by omega)
end Go.Proofs.YtconajaecpgjgaaGreat
