/-
Lis Loe Jf Ho Oct Oob Hn Ohn Gs Ogs
-/
import Derived.Test.YtconajaecpgjgaaGreatT01
import Derived.Test.YtconajaecpgjgaaGreatT02
import Derived.Test.YtconajaecpgjgaaGreatT06
import Derived.Test.YtconajaecpgjgaaGreatT07
import Derived.BigQuiet
import Derived.Maps.AppendAt
import Derived.Laws.OwnMore
set_option linter.unusedSimpArgs false
set_option linter.unusedVariables false
set_option maxRecDepth 100000
set_option maxHeartbeats 8000000
namespace Go.Proofs.YtconajaecpgjgaaGreat
open Go.RowKit
def Ub {α:Type} (g:α→Nat) (xs:List α) (k:Nat) (z:Int):Prop:=∀j p,j<k→xs[j]? =some p→(g p:Int)≤z
theorem Ub.zero {α:Type} (g:α→Nat) (xs:List α) (z:Int):Ub g xs 0 z:=fun j p h=>absurd h (by omega)
theorem Ub.mono {α:Type} {g:α→Nat} {xs:List α} {k:Nat} {z z':Int} (h:Ub g xs k z) (hz:z≤z'):Ub g xs k z':=fun j p h1 h2=>Int.le_trans (h j p h1 h2) hz
theorem Ub.step {α:Type} {g:α→Nat} {xs:List α} {k:Nat} {z z':Int} {p:α} (h:Ub g xs k z) (hp:xs[k]? =some p) (hz:z≤z') (hg:(g p:Int)≤z'):Ub g xs (k+1) z':=fun j q h1 h2=>by
 by_cases e:j=k
 · subst e
   rw[hp] at h2
   injection h2 with h2
   subst h2
   exact hg
 · exact Int.le_trans (h j q (by omega) h2) hz
theorem Ub.all {α:Type} {g:α→Nat} {xs:List α} {n:Nat} {z:Int} (h:Ub g xs n z) (hn:xs.length=n):∀p∈xs,(g p:Int)≤z:=fun p hp=>by
 obtain⟨j,hj⟩:=qA8.1 hp
 exact h j p (by rw[←hn];exact(qAh.1 hj).1) hj
theorem light_any (cs:List Value) (x:Mod) (w:World) (h:modL.R (·<w.heap.size) w cs x) (hz:Zm x):Calls Tryz.prog 6 #[vAgg cs] w fun e w'=>∃b:Bool,e= .returned (.bool b)∧Below w.heap.size w w'∧(b=true→Small x):=by
 have hR:reachBytes<140737488355328:=reachBytes_lt
 obtain⟨⟨r0,y0⟩,⟨r1,y1⟩,⟨r2,y2⟩,⟨r3,-⟩,r4,y4⟩:=hz
 have Z0:Hid (∀t∈x.recs,t.length<140737488355328):=fun t ht=>Nat.lt_of_le_of_lt (y0 t ht).1 hR
 have Z1:Hid (∀f∈x.funcs,f.args.length<140737488355328∧f.locs.length<140737488355328∧f.code.length<140737488355328):=fun f hf=>⟨Nat.lt_of_le_of_lt (y1 f hf).1.1 hR,Nat.lt_of_le_of_lt (y1 f hf).2.1.1 hR,Nat.lt_of_le_of_lt (y1 f hf).2.2.1 hR⟩
 have Z2:Hid (∀f∈x.imps,f.args.length<140737488355328):=fun f hf=>Nat.lt_of_le_of_lt (y2 f hf).1 hR
 have Z4:Hid (∀s∈x.texts,s.length<140737488355328):=fun s hs=>Nat.lt_of_le_of_lt (y4 s hs) hR
 replace r0:x.recs.length<140737488355328:=Nat.lt_of_le_of_lt r0 hR
 replace r1:x.funcs.length<140737488355328:=Nat.lt_of_le_of_lt r1 hR
 replace r2:x.imps.length<140737488355328:=Nat.lt_of_le_of_lt r2 hR
 replace r3:x.ints.length<140737488355328:=Nat.lt_of_le_of_lt r3 hR
 replace r4:x.texts.length<140737488355328:=Nat.lt_of_le_of_lt r4 hR
 clear hR y0 y1 y2 y4
 obtain⟨_,_,_,_,_,rfl,⟨A0,d0,e0,l0,m0,s0⟩,⟨A1,d1,e1,l1,m1,s1⟩,⟨A2,d2,e2,l2,m2,s2⟩,⟨A3,d3,e3,l3,m3,s3⟩,⟨A4,d4,e4,l4,m4,s4⟩⟩:=h
 simp only[List.cons.injEq,and_true] at e0 e1 e2 e3 e4
 subst e0 e1 e2 e3 e4
 unfold maxLen at m0 m1 m2 m3 m4
 show Calls Tryz.prog 6 #[.agg #[.slice A0 x.recs.length d0,.slice A1 x.funcs.length d1,.slice A2 x.imps.length d2,.slice A3 x.ints.length d3,.slice A4 x.texts.length d4]] w _
 obtain⟨n0,hn0⟩:∃n,x.recs.length=n:=⟨_,rfl⟩
 have HL0:=qAZ hn0
 have HS0:=qAZ s0
 obtain⟨n1,hn1⟩:∃n,x.funcs.length=n:=⟨_,rfl⟩
 have HL1:=qAZ hn1
 have HS1:=qAZ s1
 obtain⟨n2,hn2⟩:∃n,x.imps.length=n:=⟨_,rfl⟩
 have HL2:=qAZ hn2
 have HS2:=qAZ s2
 obtain⟨n3,hn3⟩:∃n,x.ints.length=n:=⟨_,rfl⟩
 have HL3:=qAZ hn3
 have HS3:=qAZ s3
 obtain⟨n4,hn4⟩:∃n,x.texts.length=n:=⟨_,rfl⟩
 have HL4:=qAZ hn4
 have HS4:=qAZ s4
 rw[hn0,hn1,hn2,hn3,hn4]
 rw[hn0] at l0 r0
 rw[hn1] at l1 r1
 rw[hn2] at l2 r2
 rw[hn3] at l3 r3
 rw[hn4] at l4 r4
 clear hn0 s0 hn1 s1 hn2 s2 hn3 s3 hn4 s4
 have hw0:(n0:Int)≤9223372036854775807:=by omega
 have hw1:(n1:Int)≤9223372036854775807:=by omega
 have hw2:(n2:Int)≤9223372036854775807:=by omega
 have hw4:(n4:Int)≤9223372036854775807:=by omega
 have HB0:Hid (Below w.heap.size w (w.alloc (.cells #[.slice A0 n0 d0,.slice A1 n1 d1,.slice A2 n2 d2,.slice A3 n3 d3,.slice A4 n4 d4] 28))):=(qAe _ _).alloc (qAf _) _
 go_enter Tryz.func6,Tryz.ntmps6
 go_wp2_with fail
 · go_ret
   exact⟨_,rfl,HB0.out,fun h=>by simp at h⟩
 have hsum:n0+n1+n2+n3+n4≤200:=by omega
 refine qAp fun W hW=> ?_
 have HBW:Hid (Below w.heap.size w W):=by show Below _ _ _;rw[hW];exact HB0.out
 have HCW:Hid (C5 w.heap.size (.slice A0 n0 d0) (.slice A1 n1 d1) (.slice A2 n2 d2) (.slice A3 n3 d3) (.slice A4 n4 d4) W):=by rw[hW];show C5 _ _ _ _ _ _ _;simp[C5,go_sem]
 have hWz:w.heap.size<W.heap.size:=by rw[hW];simp
 have HZ:Hid (∀wr,Below W.heap.size W wr→C5 w.heap.size (.slice A0 n0 d0) (.slice A1 n1 d1) (.slice A2 n2 d2) (.slice A3 n3 d3) (.slice A4 n4 d4) wr):=fun wr hb=>HCW.out.below hb hWz
 have HFin:Hid (∀wr,Below W.heap.size W wr→Below w.heap.size w wr):=fun wr hb=>HBW.out.trans (hb.mono HBW.out.size)
 clear hW HB0 HCW
 have HA0:=qAZ ((HS0.out.below HBW.out (qAf _)).wide (T:=(·<W.heap.size)) fun b hb=>qAg hb HBW.out.size)
 clear HS0
 have HA1:=qAZ ((HS1.out.below HBW.out (qAf _)).wide (T:=(·<W.heap.size)) fun b hb=>qAg hb HBW.out.size)
 clear HS1
 have HA2:=qAZ ((HS2.out.below HBW.out (qAf _)).wide (T:=(·<W.heap.size)) fun b hb=>qAg hb HBW.out.size)
 clear HS2
 have HA3:=qAZ ((HS3.out.below HBW.out (qAf _)).wide (T:=(·<W.heap.size)) fun b hb=>qAg hb HBW.out.size)
 clear HS3
 have HA4:=qAZ ((HS4.out.below HBW.out (qAf _)).wide (T:=(·<W.heap.size)) fun b hb=>qAg hb HBW.out.size)
 clear HS4
 go_loopw [3,4] (fun s i wr=>∃(z:Int) (k:Nat),s= .int .i64 z∧k≤n0∧i= .int .i64 (k:Nat)∧0≤z∧z≤200+(k:Int)*140737488355328∧Ub List.length x.recs k z∧Below W.heap.size W wr) (fun _ i _=>n0-(intOf i).toNat)
 case atStart=>exact⟨_,0,rfl,qAs _,rfl,by omega,by omega,Ub.zero _ _ _,qAe _ _⟩
 case round=>
  obtain⟨z,k,rfl,hk,rfl,hz0,hz1,g0,hbel⟩:=hrel
  have HU0:=qAZ g0
  clear g0
  have HB:=qAZ hbel
  have hs:=hbel.size
  clear hbel
  by_cases hlt:k<n0
  · obtain⟨p,hp⟩:∃p,x.recs[k]? =some p:=⟨x.recs[k]'(by rw[HL0.out];exact hlt),qAa _⟩
    have HP:=qAZ hp
    have hm:=qAk hp
    obtain⟨a,cs,ea,hab,hc,hR⟩:=HA0.out.at hp
    clear hp
    subst ea
    have hb9:=Z0.out p hm
    obtain⟨P0,c3,rfl,-,-,-⟩:=hR
    have ca0:=(HB.out.cell (p:=a.add k) qE).trans (qBC (K:=tysL.k) rfl (hc 0 _ rfl))
    obtain⟨v1,hv1⟩:∃v,p.length=v:=⟨_,rfl⟩
    rw[hv1] at ca0 hb9
    have HV1:=qAZ hv1
    clear hc hm hv1
    obtain⟨z0,z1,z2,z3,z4⟩:=HZ.out wr HB.out
    have k0':0≤(k:Int):=by omega
    have k1':(k:Int)<(n0:Int):=by omega
    go_wp2_with fail
    exact⟨⟨z+(v1:Int),k+1,rfl,by omega,by simp,by omega,by omega,HU0.out.step HP.out (by omega) (by simp only[HV1.out];omega),HB.out⟩,by simp[intOf];omega⟩
  · obtain rfl:k=n0:=by omega
    obtain⟨n0,hnn⟩:∃n,n=k:=⟨_,rfl⟩
    subst hnn
    obtain⟨z0,z1,z2,z3,z4⟩:=HZ.out wr HB.out
    go_wp2_with fail
    go_loopw [3,5] (fun s i wr=>∃(z:Int) (k:Nat),s= .int .i64 z∧k≤n1∧i= .int .i64 (k:Nat)∧0≤z∧z≤28147497671065800+(k:Int)*422212465065984∧Ub List.length x.recs n0 z∧Ub (fun f=>List.length (Fn.args f)) x.funcs k z∧Ub (fun f=>List.length (Fn.locs f)) x.funcs k z∧Ub (fun f=>List.length (Fn.code f)) x.funcs k z∧Below W.heap.size W wr) (fun _ i _=>n1-(intOf i).toNat)
    case atStart=>exact⟨_,0,rfl,qAs _,rfl,by omega,by omega,HU0.out,Ub.zero _ _ _,Ub.zero _ _ _,Ub.zero _ _ _,HB.out⟩
    case round=>
     obtain⟨z,k,rfl,hk,rfl,hz0,hz1,o0,g0,g1,g2,hbel⟩:=hrel
     clear HB
     clear HU0
     have HU0:=qAZ o0
     have HU1:=qAZ g0
     have HU2:=qAZ g1
     have HU3:=qAZ g2
     clear o0 g0 g1 g2
     have HB:=qAZ hbel
     have hs:=hbel.size
     clear hbel
     by_cases hlt:k<n1
     · obtain⟨p,hp⟩:∃p,x.funcs[k]? =some p:=⟨x.funcs[k]'(by rw[HL1.out];exact hlt),qAa _⟩
       have HP:=qAZ hp
       have hm:=qAk hp
       obtain⟨a,cs,ea,hab,hc,hR⟩:=HA1.out.at hp
       clear hp
       subst ea
       obtain⟨hb7,hb8,hb9⟩:=Z1.out p hm
       obtain⟨_,_,_,rfl,-,-,⟨P0,c3,e4,-⟩,⟨P2,c5,e6,-⟩,⟨P4,c7,e8,-⟩⟩:=hR
       simp only[List.cons.injEq,and_true] at e4 e6 e8
       subst e4 e6 e8
       have ca0:=(HB.out.cell (p:=a.add (k*5)) qE).trans (hc 0 _ rfl)
       have ca1:=(HB.out.cell (p:=a.add (k*5+1)) qE).trans (hc 1 _ rfl)
       rw[qAl a (k*5) 1 (by omega)] at ca1
       have ca2:=(HB.out.cell (p:=a.add (k*5+2)) qE).trans (hc 2 _ rfl)
       rw[qAl a (k*5) 2 (by omega)] at ca2
       have ca3:=(HB.out.cell (p:=a.add (k*5+3)) qE).trans (hc 3 _ rfl)
       rw[qAl a (k*5) 3 (by omega)] at ca3
       have ca4:=(HB.out.cell (p:=a.add (k*5+4)) qE).trans (hc 4 _ rfl)
       rw[qAl a (k*5) 4 (by omega)] at ca4
       obtain⟨v1,hv1⟩:∃v,p.args.length=v:=⟨_,rfl⟩
       obtain⟨v2,hv2⟩:∃v,p.locs.length=v:=⟨_,rfl⟩
       obtain⟨v3,hv3⟩:∃v,p.code.length=v:=⟨_,rfl⟩
       rw[hv1] at ca0 hb7
       rw[hv2] at ca3 hb8
       rw[hv3] at ca4 hb9
       have HV1:=qAZ hv1
       have HV2:=qAZ hv2
       have HV3:=qAZ hv3
       clear hc hm hv1 hv2 hv3
       obtain⟨z0,z1,z2,z3,z4⟩:=HZ.out wr HB.out
       have k0':0≤(k:Int):=by omega
       have k1':(k:Int)<(n1:Int):=by omega
       go_wp2_with fail
       go_quiet (fail)
       go_wp2_with fail
       exact⟨⟨z+(v1:Int)+(v2:Int)+(v3:Int),k+1,rfl,by omega,by simp,by omega,by omega,HU0.out.mono (by omega),HU1.out.step HP.out (by omega) (by simp only[HV1.out];omega),HU2.out.step HP.out (by omega) (by simp only[HV2.out];omega),HU3.out.step HP.out (by omega) (by simp only[HV3.out];omega),qCc HB.out _ hs⟩,by simp[intOf];omega⟩
     · obtain rfl:k=n1:=by omega
       obtain⟨n1,hnn⟩:∃n,n=k:=⟨_,rfl⟩
       subst hnn
       obtain⟨z0,z1,z2,z3,z4⟩:=HZ.out wr HB.out
       go_wp2_with fail
       go_loopw [3,6] (fun s i wr=>∃(z:Int) (k:Nat),s= .int .i64 z∧k≤n2∧i= .int .i64 (k:Nat)∧0≤z∧z≤112589990684262600+(k:Int)*140737488355328∧Ub List.length x.recs n0 z∧Ub (fun f=>List.length (Fn.args f)) x.funcs n1 z∧Ub (fun f=>List.length (Fn.locs f)) x.funcs n1 z∧Ub (fun f=>List.length (Fn.code f)) x.funcs n1 z∧Ub (fun f=>List.length (Imp.args f)) x.imps k z∧Below W.heap.size W wr) (fun _ i _=>n2-(intOf i).toNat)
       case atStart=>exact⟨_,0,rfl,qAs _,rfl,by omega,by omega,HU0.out,HU1.out,HU2.out,HU3.out,Ub.zero _ _ _,HB.out⟩
       case round=>
        obtain⟨z,k,rfl,hk,rfl,hz0,hz1,o0,o1,o2,o3,g0,hbel⟩:=hrel
        clear HB
        clear HU0 HU1 HU2 HU3
        have HU0:=qAZ o0
        have HU1:=qAZ o1
        have HU2:=qAZ o2
        have HU3:=qAZ o3
        have HU4:=qAZ g0
        clear o0 o1 o2 o3 g0
        have HB:=qAZ hbel
        have hs:=hbel.size
        clear hbel
        by_cases hlt:k<n2
        · obtain⟨p,hp⟩:∃p,x.imps[k]? =some p:=⟨x.imps[k]'(by rw[HL2.out];exact hlt),qAa _⟩
          have HP:=qAZ hp
          have hm:=qAk hp
          obtain⟨a,cs,ea,hab,hc,hR⟩:=HA2.out.at hp
          clear hp
          subst ea
          have hb9:=Z2.out p hm
          obtain⟨_,rfl,-,-,⟨P0,c3,e4,-⟩⟩:=hR
          simp only[List.cons.injEq,and_true] at e4
          subst e4
          have ca0:=(HB.out.cell (p:=a.add (k*3)) qE).trans (hc 0 _ rfl)
          have ca1:=(HB.out.cell (p:=a.add (k*3+1)) qE).trans (hc 1 _ rfl)
          rw[qAl a (k*3) 1 (by omega)] at ca1
          have ca2:=(HB.out.cell (p:=a.add (k*3+2)) qE).trans (hc 2 _ rfl)
          rw[qAl a (k*3) 2 (by omega)] at ca2
          obtain⟨v1,hv1⟩:∃v,p.args.length=v:=⟨_,rfl⟩
          rw[hv1] at ca0 hb9
          have HV1:=qAZ hv1
          clear hc hm hv1
          obtain⟨z0,z1,z2,z3,z4⟩:=HZ.out wr HB.out
          have k0':0≤(k:Int):=by omega
          have k1':(k:Int)<(n2:Int):=by omega
          go_wp2_with fail
          exact⟨⟨z+(v1:Int),k+1,rfl,by omega,by simp,by omega,by omega,HU0.out.mono (by omega),HU1.out.mono (by omega),HU2.out.mono (by omega),HU3.out.mono (by omega),HU4.out.step HP.out (by omega) (by simp only[HV1.out];omega),HB.out⟩,by simp[intOf];omega⟩
        · obtain rfl:k=n2:=by omega
          obtain⟨n2,hnn⟩:∃n,n=k:=⟨_,rfl⟩
          subst hnn
          obtain⟨z0,z1,z2,z3,z4⟩:=HZ.out wr HB.out
          go_wp2_with fail
          go_loopw [3,7] (fun s i wr=>∃(z:Int) (k:Nat),s= .int .i64 z∧k≤n4∧i= .int .i64 (k:Nat)∧0≤z∧z≤140737488355328200+(k:Int)*140737488355328∧Ub List.length x.recs n0 z∧Ub (fun f=>List.length (Fn.args f)) x.funcs n1 z∧Ub (fun f=>List.length (Fn.locs f)) x.funcs n1 z∧Ub (fun f=>List.length (Fn.code f)) x.funcs n1 z∧Ub (fun f=>List.length (Imp.args f)) x.imps n2 z∧Ub List.length x.texts k z∧Below W.heap.size W wr) (fun _ i _=>n4-(intOf i).toNat)
          case atStart=>exact⟨_,0,rfl,qAs _,rfl,by omega,by omega,HU0.out,HU1.out,HU2.out,HU3.out,HU4.out,Ub.zero _ _ _,HB.out⟩
          case round=>
           obtain⟨z,k,rfl,hk,rfl,hz0,hz1,o0,o1,o2,o3,o4,g0,hbel⟩:=hrel
           clear HB
           clear HU0 HU1 HU2 HU3 HU4
           have HU0:=qAZ o0
           have HU1:=qAZ o1
           have HU2:=qAZ o2
           have HU3:=qAZ o3
           have HU4:=qAZ o4
           have HU5:=qAZ g0
           clear o0 o1 o2 o3 o4 g0
           have HB:=qAZ hbel
           have hs:=hbel.size
           clear hbel
           by_cases hlt:k<n4
           · obtain⟨p,hp⟩:∃p,x.texts[k]? =some p:=⟨x.texts[k]'(by rw[HL4.out];exact hlt),qAa _⟩
             have HP:=qAZ hp
             have hm:=qAk hp
             obtain⟨a,cs,ea,hab,hc,hR⟩:=HA4.out.at hp
             clear hp
             subst ea
             have hb9:=Z4.out p hm
             obtain⟨st,rfl,hst⟩:=hR
             have ca0:=(HB.out.cell (p:=a.add k) qE).trans (qBC (K:=strL.k) rfl (hc 0 _ rfl))
             obtain⟨v1,hv1⟩:∃v,p.length=v:=⟨_,rfl⟩
             have hsz:st.size=v1:=by rw[←hv1,hst,qB4]
             rw[hv1] at hb9
             clear hst
             have HV1:=qAZ hv1
             clear hc hm hv1
             obtain⟨z0,z1,z2,z3,z4⟩:=HZ.out wr HB.out
             have k0':0≤(k:Int):=by omega
             have k1':(k:Int)<(n4:Int):=by omega
             go_wp2_with fail
             exact⟨⟨z+(v1:Int),k+1,rfl,by omega,by simp,by omega,by omega,HU0.out.mono (by omega),HU1.out.mono (by omega),HU2.out.mono (by omega),HU3.out.mono (by omega),HU4.out.mono (by omega),HU5.out.step HP.out (by omega) (by simp only[HV1.out];omega),HB.out⟩,by simp[intOf];omega⟩
           · obtain rfl:k=n4:=by omega
             obtain⟨n4,hnn⟩:∃n,n=k:=⟨_,rfl⟩
             subst hnn
             obtain⟨z0,z1,z2,z3,z4⟩:=HZ.out wr HB.out
             go_wp2_with fail
             go_ret
             refine⟨_,rfl,HFin.out _ HB.out,fun hb=> ?_⟩
             have hz3:z<3000:=by simpa using hb
             refine⟨fun t ht=> ?_,fun f hf=>⟨?_,?_,?_⟩,fun i hi=> ?_,fun s hs=> ?_⟩
             · have:=HU0.out.all HL0.out t ht;omega
             · have:=HU1.out.all HL1.out f hf;omega
             · have:=HU2.out.all HL1.out f hf;omega
             · have:=HU3.out.all HL1.out f hf;omega
             · have:=HU4.out.all HL2.out i hi;omega
             · have:=HU5.out.all HL4.out s hs;omega
theorem Owns.below {α:Type} {L:Lay α} {ty base:Nat} {w w':World} {v:Value} {xs:List α} (h:Owns L ty base w v xs) (hb:Below w.heap.size w w'):Owns L ty base w' v xs:=by
 obtain⟨css,hl,hown,hR⟩:=h
 exact⟨css,hl,qEW hown hb (qAf _),fun j x cs h1 h2=>L.wide (L.keep (hR j x cs h1 h2) fun b hb2=>hb.block b hb2.2.1) fun b hb2=>⟨hb2.1,qAg hb2.2.1 hb.size,hb2.2.2⟩⟩
theorem qJE {css:List (List Value)} {k:Nat} (hk:∀cs∈css,cs.length=k):css.flatten.length=css.length*k:=by
 induction css with
 |nil=>simp
 |cons c css ih=>
  rw[List.flatten_cons,List.length_append,hk c (by simp),ih fun x hx=>hk x (by simp[hx]),List.length_cons,Nat.add_mul]
  omega
theorem sq_css {α:Type} {La:Lay α} {S:Nat→Prop} {w:World} {a:Addr} {xs:List α} (hk:0<La.k) (h:Sq La S w (some a) xs):
 ∃css:List (List Value),css.length=xs.length∧(∀(j:Nat) (x:α) (cs:List Value),xs[j]? =some x→css[j]? =some cs→La.R S w cs x)∧(∀(j:Nat) (u:Value),css.flatten[j]? =some u→w.cell? (a.add j)=some u)∧(∀u∈css.flatten,u.oneCell'=true)∧css.flatten.length=xs.length*La.k:=by
 have hex:∀j:Fin xs.length,∃cs:List Value,(∀i u,cs[i]? =some u→w.cell? (a.add (j.1*La.k+i))=some u)∧La.R S w cs xs[j.1]:=fun j=>by
  obtain⟨a',cs,e,hs,hc,hr⟩:=h.at (qAa j.2)
  injection e with e
  subst e
  exact⟨cs,hc,hr⟩
 obtain⟨css,hl,hget⟩:∃css:List (List Value),css.length=xs.length∧∀(j:Nat) (x:α) (cs:List Value),xs[j]? =some x→css[j]? =some cs→(∀i u,cs[i]? =some u→w.cell? (a.add (j*La.k+i))=some u)∧La.R S w cs x:=by
  refine⟨List.ofFn fun j=>Classical.choose (hex j),by simp,fun j x cs h1 h2=> ?_⟩
  obtain⟨hj,e1⟩:=qAh.1 h1
  obtain⟨hj2,e2⟩:=qAh.1 h2
  rw[List.getElem_ofFn] at e2
  subst e1 e2
  exact Classical.choose_spec (hex ⟨j,hj⟩)
 have hlen:∀cs∈css,cs.length=La.k:=fun cs hcs=>by
  obtain⟨j,hj⟩:=qA8.1 hcs
  have hjl:j<xs.length:=by rw[←hl];exact(qAh.1 hj).1
  exact La.len (hget j _ cs (qAa hjl) hj).2
 have hfl:css.flatten.length=xs.length*La.k:=by rw[qJE hlen,hl]
 refine⟨css,hl,fun j x cs h1 h2=>(hget j x cs h1 h2).2,fun j u hu=> ?_,fun u hu=> ?_,hfl⟩
 · have hj:=(qAh.1 hu).1
   rw[hfl] at hj
   have hq:j / La.k<xs.length:=(Nat.div_lt_iff_lt_mul hk).2 hj
   have hr:j % La.k<La.k:=Nat.mod_lt _ hk
   have hcs:css[j / La.k]? =some (css[j / La.k]'(by omega)):=qAa _
   have e:j / La.k*La.k+j % La.k=j:=by rw[Nat.mul_comm];exact Nat.div_add_mod j La.k
   have hf:=qCD hlen hcs (j % La.k) hr
   rw[e] at hf
   rw[hf] at hu
   have:=(hget _ _ _ (qAa hq) hcs).1 _ u hu
   rwa [e] at this
 · obtain⟨cs,hcs,hu⟩:=List.mem_flatten.1 hu
   obtain⟨j,hj⟩:=qA8.1 hcs
   have hjl:j<xs.length:=by rw[←hl];exact(qAh.1 hj).1
   exact La.one (hget j _ cs (qAa hjl) hj).2 u hu
theorem qBr {α:Type} (La:Lay α) (w:World) {ops:Array Oper} {rest:List Oper} {o:Oper} {a:Act} {Q:Exit→Act→World→Prop} (hgd:o.guard=none) (s x:Operand) (T E:TypeId)
 (ho:o.op= .call {callee:= .builtin .append,args:= #[s,x],argTypes:= #[T,T]})
 (z:Value) (B:Nat) (hT:Tryz.prog.underlying T=some (.slice E)) (hI:(Tryz.prog.info? E).map (fun i=>(i.zero,i.size,i.bytes))=some (some z,La.k,B)) (hz:z.cells.size=La.k) (hk:0<La.k) (hB:B≤100)
 (base:Nat) (v:Value) (hs:a.eval s=v) (hO:w.ownsRow base E La.k v 0 []) (ad:Addr) (m d:Nat) (xs:List α) (hx:a.eval x= .slice (some ad) m d) (hl:xs.length=m) (S:Nat→Prop) (hS:Sq La S w (some ad) xs) (hbig:m≤1000000) (hbase:base≤w.heap.size)
 (h:∀(v':Value) (w':World) (css:List (List Value)),css.length=m→w'.ownsRow base E La.k v' m css.flatten→(∀(j:Nat) (x:α) (cs:List Value),xs[j]? =some x→css[j]? =some cs→La.R S w cs x)→w.grownBy w' v.ownBlock→wpList Tryz.prog ops Q rest (a.put o.dst v') w'):wpList Tryz.prog ops Q (o::rest) a w:=by
 refine wpList_plain hgd fun _ hK=> ?_
 obtain⟨i0,hi0,hz0,hz1,hz2⟩:=info_parts hI
 obtain⟨css,hcl,hR,hc,hone,hfl⟩:=sq_css hk hS
 have hBx:(0+m)*B≤140737488355328:=by
  have:=Nat.mul_le_mul (show 0+m≤1000000 by omega) hB
  omega
 obtain⟨v',w',hrun,h2,h3,_,h5⟩:=run_append_own_at (P:=Tryz.prog) w base T o.type E i0 z La.k B hT hi0 hz0 hz1 hz2 hz hk v 0 [] hO ad m d css.flatten (by rw[hfl,hl]) hc hone
  (by simp only[maxLen];omega) hBx hbase
 unfold Oper.wp execOp
 simp only[ho,resolve,invoke,builtin,Sem.run_bind,Sem.run_pure,Result.andThen_ok,List.map_toArray,List.map_cons,List.map_nil,hs,hx,hrun]
 rw[Nat.zero_add,List.nil_append] at h2
 exact hK _ _ (h v' w' css (hcl.trans hl) h2 hR h3)
theorem qCP {css:List (List Value)} {K:Nat} (hk:∀cs∈css,cs.length=K) {j:Nat} {cs:List Value} (hj:css[j]? =some cs) {i:Nat} (hi:i<K) (u:Value):css.flatten.set (j*K+i) u=(css.set j (cs.set i u)).flatten:=by
 induction css generalizing j with
 |nil=>simp at hj
 |cons c css ih=>
  have hc:=hk c (by simp)
  cases j with
  |zero=>
   simp at hj
   subst hj
   rw[List.flatten_cons,Nat.zero_mul,Nat.zero_add,List.set_append_left _ _ (by omega),List.set_cons_zero,List.flatten_cons]
  |succ j=>
   rw[List.flatten_cons,List.set_append_right _ _ (by rw[hc,Nat.succ_mul];omega),hc,show(j+1)*K+i-K=j*K+i by rw[Nat.succ_mul];omega,ih (fun x hx=>hk x (by simp[hx])) (by simpa using hj),List.set_cons_succ,List.flatten_cons]
theorem qBd {w w':World} {base ty k n:Nat} {v:Value} {xs:List Value} (h:w.ownsRow base ty k v n xs) (hk:∀b,v.ownBlock=some b→w'.heap[b]? =w.heap[b]?):w'.ownsRow base ty k v n xs:=by
 refine⟨h.1,?_⟩
 rcases h.2 with h0|⟨g',cap,cur,e,q1,q2,q3⟩
 · exact .inl h0
 · refine .inr ⟨g',cap,cur,e,q1,?_,q3⟩
   rw[hk g' (by rw[e];rfl)]
   exact q2
theorem qCM {w:World} {base ty k n:Nat} {v:Value} {xs:List Value} (h:w.ownsRow base ty k v n xs) (hn:0<n):∃g c,v= .slice (some ⟨g,0,none⟩) n c∧base≤g∧g<w.heap.size:=by
 rcases h.2 with⟨_,h0⟩|⟨g,cap,cur,rfl,hb,hg,_⟩
 · omega
 · exact⟨g,cap,rfl,hb,(Array.getElem?_eq_some_iff.1 hg).1⟩
theorem qCY (w:World) (ty k:Nat):(w.alloc (.cells #[] ty)).ownsRow w.heap.size ty k (.slice (some ⟨w.heap.size,0,none⟩) 0 0) 0 []:=
 World.ownsRow_made w #[] 0 (qAf _) (by simp[maxLen]) (by simp)
structure Ob where
 kind:Int
 n:Int
 words:List Nat
 bytes:List Nat
theorem Ob.eq_of {a b:Ob} (h1:a.kind=b.kind) (h2:a.n=b.n) (h3:a.words=b.words) (h4:a.bytes=b.bytes):a=b:=by
 cases a;cases b;simp_all
instance:DecidableEq Ob:=fun a b=>decidable_of_iff (a.kind=b.kind∧a.n=b.n∧a.words=b.words∧a.bytes=b.bytes) ⟨fun h=>Ob.eq_of h.1 h.2.1 h.2.2.1 h.2.2.2,fun h=>by subst h;exact⟨rfl,rfl,rfl,rfl⟩⟩
instance:Inhabited Ob:=⟨⟨0,0,[],[]⟩⟩
def ob0:Ob:=⟨0,0,[],[]⟩
def Ob.cost (o:Ob):Int:=16+8*(o.words.length:Int)+(o.bytes.length:Int)
def Ob.small (o:Ob):Prop:=o.words.length≤100000∧o.bytes.length≤100000
def Ns (xs:List Nat):List Value:=xs.map fun x:Nat=>Value.int .u64 (x:Int)
theorem qEr (xs:List Nat):(Ns xs).length=xs.length:=by simp[Ns]
theorem Ns_at {xs:List Nat} {j x:Nat} (h:xs[j]? =some x):(Ns xs)[j]? =some (.int .u64 (x:Int)):=by simp[Ns,h]
abbrev wrdL:Lay (List Nat):=slL numL
def bytL:Lay (List Nat) where
 k:=1
 R S w cs xs:=∃A c,cs=[.slice A xs.length c]∧xs.length≤c∧c≤maxLen∧Byt S w A xs∧∀x∈xs,x<256
 len:=by rintro S w cs x ⟨A,c,rfl,_⟩;rfl
 keep:=by rintro S w w' cs x ⟨A,c,rfl,h1,h2,h3,h4⟩ hk;exact⟨A,c,rfl,h1,h2,h3.keep hk,h4⟩
 wide:=by rintro S T w cs x ⟨A,c,rfl,h1,h2,h3,h4⟩ hk;exact⟨A,c,rfl,h1,h2,h3.wide hk,h4⟩
 one:=by rintro S w cs x ⟨A,c,rfl,_⟩ u hu;simp at hu;subst hu;rfl
def obL:Lay Ob where
 k:=4
 R S w cs o:=∃v0 v1,cs=[.int .i64 o.kind,.int .i64 o.n,v0,v1]∧I64 o.kind∧I64 o.n∧wrdL.R S w [v0] o.words∧bytL.R S w [v1] o.bytes
 len:=by rintro S w cs x ⟨v0,v1,rfl,_⟩;rfl
 keep:=by rintro S w w' cs x ⟨v0,v1,rfl,h1,h2,h3,h4⟩ hk;exact⟨v0,v1,rfl,h1,h2,wrdL.keep h3 hk,bytL.keep h4 hk⟩
 wide:=by rintro S T w cs x ⟨v0,v1,rfl,h1,h2,h3,h4⟩ hk;exact⟨v0,v1,rfl,h1,h2,wrdL.wide h3 hk,bytL.wide h4 hk⟩
 one:=by
  rintro S w cs x ⟨v0,v1,rfl,h1,h2,h3,h4⟩ u hu
  simp at hu
  rcases hu with rfl|rfl|rfl|rfl
  · rfl
  · rfl
  · exact wrdL.one h3 _ (by simp)
  · exact bytL.one h4 _ (by simp)
theorem qCB {S:Nat→Prop} {w:World} {cs:List Value} {o:Ob} (h:obL.R S w cs o):
 ∃A c B d,cs=[.int .i64 o.kind,.int .i64 o.n,.slice A o.words.length c,.slice B o.bytes.length d]∧o.words.length≤c∧c≤maxLen∧o.bytes.length≤d∧d≤maxLen∧Sq numL S w A o.words∧Byt S w B o.bytes∧(∀x∈o.bytes,x<256)∧I64 o.kind∧I64 o.n:=by
 obtain⟨v0,v1,rfl,h1,h2,⟨A,c,e0,a1,a2,a3⟩,⟨B,d,e1,b1,b2,b3,b4⟩⟩:=h
 simp only[List.cons.injEq,and_true] at e0 e1
 subst e0 e1
 exact⟨A,c,B,d,rfl,a1,a2,b1,b2,a3,b3,b4,h1,h2⟩
theorem add_off (g i j:Nat):(⟨g,i,none⟩:Addr).add j=⟨g,i+j,none⟩:=by unfold Addr.add;split<;>simp_all
theorem add_zero (g j:Nat):(⟨g,0,none⟩:Addr).add j=⟨g,j,none⟩:=by rw[add_off,Nat.zero_add]
theorem num_at {S:Nat→Prop} {w:World} {A:Option Addr} {xs:List Nat} (h:Sq numL S w A xs) {k x:Nat} (hk:xs[k]? =some x):∃a,A=some a∧S a.block∧w.cell? (a.add k)=some (.int .u64 (x:Int))∧x<B64:=by
 obtain⟨a,cs,e,hs,hc,rfl,hb⟩:=h.at hk
 exact⟨a,e,hs,qBC rfl (hc 0 _ rfl),hb⟩
theorem qGd {S:Nat→Prop} {w:World} {A:Option Addr} {xs:List Nat} (h:Sq numL S w A xs):∀x∈xs,x<B64:=fun x hx=>by
 obtain⟨j,hj⟩:=qA8.1 hx
 obtain⟨a,e,hs,hc,hb⟩:=num_at h hj
 exact hb
def Part (P:Nat→Prop) (w:World) (ty:TypeId) (v:Value) (cs:List Value):Prop:=
 ∃A c,v= .slice A cs.length c∧cs.length≤c∧c≤maxLen∧(0<cs.length→∃(g:Nat) (cur:Array Value),A=some ⟨g,0,none⟩∧P g∧Blk w g ty cur∧∀(i:Nat) (u:Value),cs[i]? =some u→cur[i]? =some u)
theorem Part.nil (P:Nat→Prop) (w:World) (ty:TypeId):Part P w ty (.slice none 0 0) []:=⟨none,0,rfl,qAf _,by simp[maxLen],fun h=>absurd h (by simp)⟩
theorem Part.keep {P:Nat→Prop} {w w':World} {ty:TypeId} {v:Value} {cs:List Value} (h:Part P w ty v cs) (hk:∀b,P b→w'.heap[b]? =w.heap[b]?):Part P w' ty v cs:=by
 obtain⟨A,c,e,h1,h2,h3⟩:=h
 refine⟨A,c,e,h1,h2,fun hp=> ?_⟩
 obtain⟨g,cur,e1,hP,hb,hc⟩:=h3 hp
 exact⟨g,cur,e1,hP,(hk g hP).trans hb,hc⟩
theorem Part.wide {P Q:Nat→Prop} {w:World} {ty:TypeId} {v:Value} {cs:List Value} (h:Part P w ty v cs) (hk:∀b,b<w.heap.size→P b→Q b):Part Q w ty v cs:=by
 obtain⟨A,c,e,h1,h2,h3⟩:=h
 refine⟨A,c,e,h1,h2,fun hp=> ?_⟩
 obtain⟨g,cur,e1,hP,hb,hc⟩:=h3 hp
 exact⟨g,cur,e1,hk g hb.lt hP,hb,hc⟩
theorem Part.shape {P:Nat→Prop} {w:World} {ty:TypeId} {v:Value} {cs:List Value} (h:Part P w ty v cs):∃A c,v= .slice A cs.length c∧cs.length≤c∧c≤maxLen:=by
 obtain⟨A,c,e,h1,h2,-⟩:=h
 exact⟨A,c,e,h1,h2⟩
theorem Part.head {P:Nat→Prop} {w:World} {ty:TypeId} {A:Option Addr} {n c:Nat} {cs:List Value} (h:Part P w ty (.slice A n c) cs) (hn:0<n):
 ∃(g:Nat) (cur:Array Value),A=some ⟨g,0,none⟩∧P g∧Blk w g ty cur∧∀(i:Nat) (u:Value),cs[i]? =some u→cur[i]? =some u:=by
 obtain⟨A',c',e,h1,h2,h3⟩:=h
 simp only[Value.slice.injEq] at e
 obtain⟨rfl,e2,rfl⟩:=e
 exact h3 (by omega)
theorem Part.set {P:Nat→Prop} {w:World} {ty:TypeId} {g n c i:Nat} {cs:List Value} (h:Part P w ty (.slice (some ⟨g,0,none⟩) n c) cs) (hn:0<n) (u:Value):Part P (w.setCell ⟨g,i,none⟩ u) ty (.slice (some ⟨g,0,none⟩) n c) (cs.set i u):=by
 obtain⟨g',cur,e,hP,hb,hc⟩:=h.head hn
 simp only[Option.some.injEq,Addr.mk.injEq,and_true] at e
 subst e
 obtain⟨A',c',e,h1,h2,h3⟩:=h
 simp only[Value.slice.injEq] at e
 obtain⟨rfl,e2,rfl⟩:=e
 refine⟨some ⟨g,0,none⟩,c,by rw[List.length_set,e2],by rw[List.length_set];exact h1,h2,fun _=>⟨g,_,rfl,hP,hb.set i u,fun j x hx=> ?_⟩⟩
 rw[List.getElem?_set] at hx
 rw[Array.getElem?_setIfInBounds]
 split at hx
 · subst i
   have hj:j<cur.size:=by
    split at hx
    · have:=hc j cs[j] (qAa (by assumption))
      exact(Array.getElem?_eq_some_iff.1 this).1
    · cases hx
   rw[if_pos rfl,if_pos hj]
   split at hx
   · exact hx
   · cases hx
 · rw[if_neg (by assumption)]
   exact hc j x hx
theorem Part.words {P:Nat→Prop} {w:World} {v:Value} {xs:List Nat} (h:Part P w 34 v (Ns xs)) (hb:∀x∈xs,x<B64):wrdL.R P w [v] xs:=by
 obtain⟨A,c,rfl,h1,h2,h3⟩:=h
 rw[qEr] at h1 h3⊢
 refine⟨A,c,rfl,h1,h2,fun hp=> ?_⟩
 obtain⟨g,cur,rfl,hP,hg,hc⟩:=h3 hp
 refine⟨_,rfl,hP,fun j x hx=>⟨[.int .u64 (x:Int)],fun i u hu=> ?_,rfl,hb x (qAk hx)⟩⟩
 match i,hu with
 |0,hu=>
  simp at hu
  subst hu
  rw[add_zero,show j*numL.k+0=j by show j*1+0=j;omega,hg.cell]
  exact hc j _ (Ns_at hx)
 |i+1,hu=>simp at hu
theorem Part.bytes {P:Nat→Prop} {w:World} {v:Value} {xs:List Nat} (h:Part P w 5 v (Bs xs)) (hb:∀x∈xs,x<256):bytL.R P w [v] xs:=by
 obtain⟨A,c,rfl,h1,h2,h3⟩:=h
 rw[qCT] at h1 h3⊢
 refine⟨A,c,rfl,h1,h2,fun hp=> ?_,hb⟩
 obtain⟨g,cur,rfl,hP,hg,hc⟩:=h3 hp
 refine⟨_,rfl,hP,fun j hj=> ?_⟩
 rw[add_zero,hg.cell]
 exact hc j _ (qFM xs j hj)
def Obj1 (P0 P1:Nat→Prop) (w:World) (cs:List Value) (o:Ob):Prop:=
 ∃v0 v1,cs=[.int .i64 o.kind,.int .i64 o.n,v0,v1]∧I64 o.kind∧I64 o.n∧(∀x∈o.words,x<B64)∧(∀x∈o.bytes,x<256)∧Part P0 w 34 v0 (Ns o.words)∧Part P1 w 5 v1 (Bs o.bytes)
theorem Obj1.keep {P0 P1:Nat→Prop} {w w':World} {cs:List Value} {o:Ob} (h:Obj1 P0 P1 w cs o) (h0:∀b,P0 b→w'.heap[b]? =w.heap[b]?) (h1:∀b,P1 b→w'.heap[b]? =w.heap[b]?):Obj1 P0 P1 w' cs o:=by
 obtain⟨v0,v1,e,a,b,c,d,e0,e1⟩:=h
 exact⟨v0,v1,e,a,b,c,d,e0.keep h0,e1.keep h1⟩
theorem Obj1.wide {P0 P1 Q0 Q1:Nat→Prop} {w:World} {cs:List Value} {o:Ob} (h:Obj1 P0 P1 w cs o) (h0:∀b,b<w.heap.size→P0 b→Q0 b) (h1:∀b,b<w.heap.size→P1 b→Q1 b):Obj1 Q0 Q1 w cs o:=by
 obtain⟨v0,v1,e,a,b,c,d,e0,e1⟩:=h
 exact⟨v0,v1,e,a,b,c,d,e0.wide h0,e1.wide h1⟩
theorem Obj1.len {P0 P1:Nat→Prop} {w:World} {cs:List Value} {o:Ob} (h:Obj1 P0 P1 w cs o):cs.length=4:=by
 obtain⟨v0,v1,rfl,-⟩:=h
 rfl
theorem Obj1.one {P0 P1:Nat→Prop} {w:World} {cs:List Value} {o:Ob} (h:Obj1 P0 P1 w cs o):∀u∈cs,u.oneCell'=true:=by
 obtain⟨v0,v1,rfl,-,-,-,-,e0,e1⟩:=h
 obtain⟨A,c,rfl,-⟩:=e0
 obtain⟨B,d,rfl,-⟩:=e1
 intro u hu
 simp at hu
 rcases hu with rfl|rfl|rfl|rfl<;>rfl
theorem Obj1.ob {P0 P1 S:Nat→Prop} {w:World} {cs:List Value} {o:Ob} (h:Obj1 P0 P1 w cs o) (h0:∀b,P0 b→S b) (h1:∀b,P1 b→S b):obL.R S w cs o:=by
 obtain⟨v0,v1,rfl,a,b,c,d,e0,e1⟩:=h
 exact⟨v0,v1,rfl,a,b,wrdL.wide (e0.words c) h0,bytL.wide (e1.bytes d) h1⟩
theorem Obj1.parts {P0 P1:Nat→Prop} {w:World} {cs:List Value} {o:Ob} (h:Obj1 P0 P1 w cs o):
 ∃A c B d,cs=[.int .i64 o.kind,.int .i64 o.n,.slice A o.words.length c,.slice B o.bytes.length d]∧Part P0 w 34 (.slice A o.words.length c) (Ns o.words)∧Part P1 w 5 (.slice B o.bytes.length d) (Bs o.bytes):=by
 obtain⟨v0,v1,rfl,a,b,x,y,e0,e1⟩:=h
 obtain⟨A,c,rfl,q⟩:=id e0
 obtain⟨B,d,rfl,q'⟩:=id e1
 rw[qEr] at e0⊢
 rw[qCT] at e1⊢
 exact⟨A,c,B,d,rfl,e0,e1⟩
def Row (S:Nat→Prop) (tag:Nat→Nat) (w:World) (v:Value) (css:List (List Value)) (O:List Ob):Prop:=
 css.length=O.length∧w.ownsRow 0 54 4 v O.length css.flatten∧(∀b,v.ownBlock=some b→S b∧tag b=1)∧
  ∀(j:Nat) (o:Ob) (cs:List Value),O[j]? =some o→css[j]? =some cs→Obj1 (fun b=>S b∧tag b=2*j+2) (fun b=>S b∧tag b=2*j+3) w cs o
theorem Row.len4 {S:Nat→Prop} {tag:Nat→Nat} {w:World} {v:Value} {css:List (List Value)} {O:List Ob} (h:Row S tag w v css O):∀cs∈css,cs.length=4:=fun cs hcs=>by
 obtain⟨j,hj⟩:=qA8.1 hcs
 have hjl:j<O.length:=by rw[←h.1];exact(qAh.1 hj).1
 exact(h.2.2.2 j _ cs (qAa hjl) hj).len
theorem Row.keep {S:Nat→Prop} {tag:Nat→Nat} {w w':World} {v:Value} {css:List (List Value)} {O:List Ob} (h:Row S tag w v css O) (hk:∀b,S b→0<tag b→w'.heap[b]? =w.heap[b]?):Row S tag w' v css O:=
 ⟨h.1,qBd h.2.1 fun b e=>hk b (h.2.2.1 b e).1 (by have:=(h.2.2.1 b e).2;omega),h.2.2.1,fun j o cs h1 h2=>(h.2.2.2 j o cs h1 h2).keep (fun b hb=>hk b hb.1 (by omega)) fun b hb=>hk b hb.1 (by omega)⟩
theorem Row.wide {S T:Nat→Prop} {tag:Nat→Nat} {w:World} {v:Value} {css:List (List Value)} {O:List Ob} (h:Row S tag w v css O) (hk:∀b,S b→T b):Row T tag w v css O:=
 ⟨h.1,h.2.1,fun b e=>⟨hk b (h.2.2.1 b e).1,(h.2.2.1 b e).2⟩,fun j o cs h1 h2=>(h.2.2.2 j o cs h1 h2).wide (fun b _ hb=>⟨hk b hb.1,hb.2⟩) fun b _ hb=>⟨hk b hb.1,hb.2⟩⟩
theorem Row.nil (S:Nat→Prop) (tag:Nat→Nat) (w:World):Row S tag w (.slice none 0 0) [] []:=
 ⟨rfl,World.ownsRow_nil _ _ _ _,fun b e=>by simp[Value.ownBlock] at e,fun j o cs h=>by simp at h⟩
theorem Row.sl {S:Nat→Prop} {tag:Nat→Nat} {w:World} {v:Value} {css:List (List Value)} {O:List Ob} (h:Row S tag w v css O):(slL obL).R S w [v] O:=by
 obtain⟨hl,hown,hb,hR⟩:=h
 have hR':∀(j:Nat) (o:Ob) (cs:List Value),O[j]? =some o→css[j]? =some cs→obL.R S w cs o:=fun j o cs h1 h2=>(hR j o cs h1 h2).ob (fun b hb=>hb.1) fun b hb=>hb.1
 have hk:∀cs∈css,cs.length=obL.k:=fun cs hcs=>by
  obtain⟨j,hj⟩:=qA8.1 hcs
  have hjl:j<O.length:=by rw[←hl];exact(qAh.1 hj).1
  exact obL.len (hR' j _ cs (qAa hjl) hj)
 rcases hown.2 with⟨rfl,h0⟩|⟨g,cap,cur,rfl,hb',hg,hnc,hcm,_,_⟩
 · exact ji
 · refine⟨some ⟨g,0,none⟩,cap,rfl,hnc,hcm,fun _=>⟨⟨g,0,none⟩,rfl,(hb g rfl).1,fun j x hx=> ?_⟩⟩
   have hjl:j<css.length:=by rw[hl];exact(qAh.1 hx).1
   have hcs:=qAa hjl
   have hr:=hR' j x _ hx hcs
   refine⟨_,fun i u hu=> ?_,hr⟩
   have hi:i<obL.k:=by rw[←obL.len hr];exact(qAh.1 hu).1
   exact hown.cells rfl (j*obL.k+i) u (by rw[qCD hk hcs i hi];exact hu)
theorem Row.shape {S:Nat→Prop} {tag:Nat→Nat} {w:World} {v:Value} {css:List (List Value)} {O:List Ob} (h:Row S tag w v css O):∃A c,v= .slice A O.length c∧O.length≤c∧c≤maxLen:=by
 obtain⟨A,c,e,h1,h2,-⟩:=h.sl
 simp only[List.cons.injEq,and_true] at e
 exact⟨A,c,e,h1,h2⟩
theorem Row.cells {S:Nat→Prop} {tag:Nat→Nat} {w:World} {A:Option Addr} {n c:Nat} {css:List (List Value)} {O:List Ob} (h:Row S tag w (.slice A n c) css O) {j:Nat} {o:Ob} (hj:O[j]? =some o):
 ∃g cs,A=some ⟨g,0,none⟩∧S g∧tag g=1∧g<w.heap.size∧css[j]? =some cs∧(∀i u,cs[i]? =some u→w.cell? ⟨g,j*4+i,none⟩=some u)∧(∀i,w.frozen? ⟨g,i,none⟩=false)∧
  Obj1 (fun b=>S b∧tag b=2*j+2) (fun b=>S b∧tag b=2*j+3) w cs o:=by
 have hk:=h.len4
 obtain⟨hl,hown,hb,hR⟩:=h
 have hjl:j<css.length:=by rw[hl];exact(qAh.1 hj).1
 have hcs:=qAa hjl
 have hr:=hR j o _ hj hcs
 obtain⟨g,c',e,-,hg⟩:=qCM hown (by omega)
 simp only[Value.slice.injEq] at e
 obtain⟨rfl,rfl,rfl⟩:=e
 refine⟨g,_,rfl,(hb g rfl).1,(hb g rfl).2,hg,hcs,fun i u hu=> ?_,fun i=>hown.frozenAt i,hr⟩
 have hi:i<4:=by rw[←hr.len];exact(qAh.1 hu).1
 have:=hown.cells rfl (j*4+i) u (by rw[qCD hk hcs i hi];exact hu)
 rwa [add_zero] at this
def octL:Lay Nat where
 k:=1
 R _ _ cs n:=cs=[.int .u8 (n:Int)]∧n<256
 len:=by rintro S w cs x ⟨rfl,_⟩;rfl
 keep:=by rintro S w w' cs x h _;exact h
 wide:=by rintro S T w cs x h _;exact h
 one:=by rintro S w cs x ⟨rfl,_⟩ u hu;simp at hu;subst hu;rfl
theorem qGu {S:Nat→Prop} {w:World} {cs:List Value} {xs:List Nat} (h:(slL octL).R S w cs xs):bytL.R S w cs xs:=by
 obtain⟨A,c,rfl,h1,h2,h3⟩:=h
 refine⟨A,c,rfl,h1,h2,fun hp=> ?_,fun x hx=> ?_⟩
 · obtain⟨a,rfl,hs,hc⟩:=h3 hp
   refine⟨a,rfl,hs,fun j hj=> ?_⟩
   obtain⟨cs,q1,rfl,q2⟩:=hc j _ (qAa hj)
   have:=qBC (K:=octL.k) rfl (q1 0 _ rfl)
   simpa[hj] using this
 · obtain⟨j,hj⟩:=qA8.1 hx
   obtain⟨a,cs,-,-,-,-,q⟩:=h3.at hj
   exact q
theorem qD6 {S:Nat→Prop} {w:World} {A:Option Addr} {xs:List Nat} (h:Byt S w A xs) (hb:∀x∈xs,x<256):Sq octL S w A xs:=fun hp=>by
 obtain⟨a,rfl,hs,hc⟩:=h hp
 refine⟨a,rfl,hs,fun j x hx=>⟨[.int .u8 (x:Int)],fun i u hu=> ?_,rfl,hb x (qAk hx)⟩⟩
 match i,hu with
 |0,hu=>
  simp at hu
  subst hu
  obtain⟨hj,e⟩:=qAh.1 hx
  have:=hc j hj
  rw[show j*octL.k+0=j by show j*1+0=j;omega]
  simpa[hj,e] using this
 |i+1,hu=>simp at hu
open Go.ChangeShapes Go.WideShapes Go.ChangeAt Go.RowKit
theorem qHS:Opens 5 octL:=by
 intro H enc W cs x fuel hf
 obtain⟨z,rfl,_,hw⟩:=DataW.trod_int Tryz.underlying5 hf
 have hb:=bounds_u8 hw
 exact⟨z.toNat,by show[Value.int .u8 z]=_;rw[Int.toNat_of_nonneg hb.1],by omega⟩
abbrev Zn:List Nat→Prop:=fun xs=>xs.length≤reachBytes
theorem qGb:OpensZ 52 bytL Zn:=fun hf hw=>by
 obtain⟨xs,hx,hz⟩:=qBL (L:=octL) (by decide) Tryz.underlying52 qV jV (OpensZ.of qHS) hf hw
 exact⟨xs,qGu hx,hz.1⟩
theorem qC8:OpensZ 25 wrdL Zn:=fun hf hw=>by
 obtain⟨xs,hx,hz⟩:=qBL (L:=numL) (by decide) Tryz.underlying25 qV jV (OpensZ.of qEX) hf hw
 exact⟨xs,hx,hz.1⟩
def Zo (o:Ob):Prop:=o.words.length≤reachBytes∧o.bytes.length≤reachBytes
theorem qHW:OpensZ 54 obL Zo:=by
 intro H enc W cs x fuel hf hwt
 obtain⟨xs,k,hk,hxy,hl,hxl,hfl⟩:=DataW.trod_struct Tryz.underlying54 hf
 rw[hxy] at hwt
 have hw:=fun i f d=>qBV (i:=i) (f:=f) (d:=d) Tryz.underlying54 hwt
 rw[show Tryz.prog.cellsOf 54=4 by kernel_rfl] at hl
 match xs,hxl,cs,hl with
 |[y0,y1,y2,y3],_,[v0,v1,v2,v3],_=>
  have g0:=hfl 0 _ rfl
  have g1:=hfl 1 _ rfl
  have g2:=hfl 2 _ rfl
  have g3:=hfl 3 _ rfl
  have w2:=hw 2 _ _ rfl rfl
  have w3:=hw 3 _ _ rfl rfl
  simp[show Tryz.prog.cellsOf 3=1 by kernel_rfl,show Tryz.prog.cellsOf 25=1 by kernel_rfl,show Tryz.prog.cellsOf 52=1 by kernel_rfl] at g0 g1 g2 g3
  obtain⟨z0,e0,_,b0⟩:=DataW.trod_int Tryz.underlying3 g0
  obtain⟨z1,e1,_,b1⟩:=DataW.trod_int Tryz.underlying3 g1
  simp at e0 e1
  subst e0 e1
  obtain⟨xs,hx,zx⟩:=qC8 g2 w2
  obtain⟨ys,hy,zy⟩:=qGb g3 w3
  exact⟨⟨z0,z1,xs,ys⟩,⟨v2,v3,rfl,qB0 b0,qB0 b1,hx,hy⟩,zx,zy⟩
theorem qGV:OpensZ 32 (slL obL) (Zl Zo):=qBL (L:=obL) (by decide) Tryz.underlying32 qV jV qHW
structure Hnd where
 kind:Int
 desc:Nat
 opn:Bool
theorem Hnd.eq_of {a b:Hnd} (h1:a.kind=b.kind) (h2:a.desc=b.desc) (h3:a.opn=b.opn):a=b:=by
 cases a;cases b;simp_all
instance:DecidableEq Hnd:=fun a b=>decidable_of_iff (a.kind=b.kind∧a.desc=b.desc∧a.opn=b.opn) ⟨fun h=>Hnd.eq_of h.1 h.2.1 h.2.2,fun h=>by subst h;exact⟨rfl,rfl,rfl⟩⟩
instance:Inhabited Hnd:=⟨⟨0,0,false⟩⟩
def hdC (h:Hnd):List Value:=[.int .i64 h.kind,.int .u64 (h.desc:Int),.bool h.opn]
theorem hdC_one (h:Hnd):∀u∈hdC h,u.oneCell'=true:=by
 intro u hu
 simp only[hdC,List.mem_cons,List.not_mem_nil,or_false] at hu
 rcases hu with rfl|rfl|rfl<;>rfl
def hdL:Lay Hnd where
 k:=3
 R _ _ cs h:=cs=hdC h∧I64 h.kind∧h.desc<B64
 len:=by rintro S w cs x ⟨rfl,_⟩;rfl
 keep:=by rintro S w w' cs x h _;exact h
 wide:=by rintro S T w cs x h _;exact h
 one:=by rintro S w cs x ⟨rfl,_⟩ u hu;exact hdC_one x u hu
def HOk (H:List Hnd):Prop:=∀h∈H,I64 h.kind∧h.desc<B64
theorem HOk.nil:HOk []:=fun h hh=>by simp at hh
theorem HOk.app {H K:List Hnd} (h:HOk H) (k:HOk K):HOk (H++K):=fun x hx=>(List.mem_append.1 hx).elim (h x) (k x)
theorem HOk.set {H:List Hnd} (h:HOk H) (j:Nat) {x:Hnd} (hx:I64 x.kind∧x.desc<B64):HOk (H.set j x):=fun y hy=>by
 rcases List.mem_or_eq_of_mem_set hy with q|q
 · exact h y q
 · rw[q];exact hx
def Hcs (H:List Hnd):List Value:=(H.map hdC).flatten
theorem Hcs_k (H:List Hnd):∀cs∈H.map hdC,cs.length=3:=fun cs hc=>by
 obtain⟨h,-,rfl⟩:=List.mem_map.1 hc
 rfl
theorem Hcs_at {H:List Hnd} {j:Nat} {h:Hnd} (hj:H[j]? =some h) (i:Nat) (hi:i<3):(Hcs H)[j*3+i]? =(hdC h)[i]? :=qCD (Hcs_k H) (by simp[hj]) i hi
theorem qFu {S:Nat→Prop} {w:World}:∀{css:List (List Value)} {H:List Hnd},css.length=H.length→(∀(j:Nat) (x:Hnd) (cs:List Value),H[j]? =some x→css[j]? =some cs→hdL.R S w cs x)→css.flatten=Hcs H
 |[],[],_,_=>rfl
 |[],_::_,h,_=>by simp at h
 |_::_,[],h,_=>by simp at h
 |c::css,x::xs,h,hR=>by
  have h0:=hR 0 x c rfl rfl
  have ih:=qFu (css:=css) (H:=xs) (by simpa using h) fun j y cs h1 h2=>hR (j+1) y cs (by simpa using h1) (by simpa using h2)
  rw[List.flatten_cons,ih,h0.1]
  rfl
theorem sq_ok {S:Nat→Prop} {w:World} {A:Option Addr} {H:List Hnd} (h:Sq hdL S w A H):HOk H:=fun x hx=>by
 obtain⟨j,hj⟩:=qA8.1 hx
 obtain⟨a,cs,-,-,-,-,q⟩:=h.at hj
 exact q
theorem hds_sl {w:World} {base:Nat} {v:Value} {H:List Hnd} (h:w.ownsRow base 51 3 v H.length (Hcs H)) (ok:HOk H):
 ∃A c,v= .slice A H.length c∧H.length≤c∧c≤maxLen∧Sq hdL (fun b=>v.ownBlock=some b∧base≤b∧b<w.heap.size) w A H:=by
 have hn:(slL hdL).R (fun b=>v.ownBlock=some b∧base≤b∧b<w.heap.size) w [v] H:=by
  rcases h.2 with⟨rfl,h0⟩|⟨g,cap,cur,rfl,hb,hg,hnc,hcm,_,_⟩
  · exact ji
  · refine⟨some ⟨g,0,none⟩,cap,rfl,hnc,hcm,fun _=>⟨_,rfl,⟨rfl,hb,(Array.getElem?_eq_some_iff.1 hg).1⟩,fun j x hx=>⟨hdC x,fun i u hu=> ?_,rfl,ok x (qAk hx)⟩⟩⟩
    have hi:i<3:=(qAh.1 hu).1
    exact h.cells rfl (j*3+i) u (by rw[Hcs_at hx i hi];exact hu)
 obtain⟨A,c,e,h1,h2,h3⟩:=hn
 simp only[List.cons.injEq,and_true] at e
 exact⟨A,c,e,h1,h2,h3⟩
theorem hd_info:(Tryz.prog.info? 51).map (fun i=>(i.zero,i.size,i.bytes))=some (some (.agg #[.int .i64 0,.int .u64 0,.bool false]),3,24):=by kernel_rfl
open Go.ChangeShapes Go.WideShapes Go.ChangeAt Go.RowKit
theorem qHU:Opens 51 hdL:=by
 intro H enc W cs x fuel hf
 obtain⟨xs,k,hk,hxy,hl,hxl,hfl⟩:=DataW.trod_struct Tryz.underlying51 hf
 rw[show Tryz.prog.cellsOf 51=3 by kernel_rfl] at hl
 match xs,hxl,cs,hl with
 |[y0,y1,y2],_,[v0,v1,v2],_=>
  have g0:=hfl 0 _ rfl
  have g1:=hfl 1 _ rfl
  have g2:=hfl 2 _ rfl
  simp[show Tryz.prog.cellsOf 3=1 by kernel_rfl,show Tryz.prog.cellsOf 34=1 by kernel_rfl,show Tryz.prog.cellsOf 4=1 by kernel_rfl] at g0 g1 g2
  obtain⟨z0,e0,_,b0⟩:=DataW.trod_int Tryz.underlying3 g0
  obtain⟨z1,e1,_,b1⟩:=DataW.trod_int Tryz.underlying34 g1
  obtain⟨b,e2,_⟩:=DataW.trod_bool Tryz.underlying4 g2
  simp at e0 e1 e2
  subst e0 e1 e2
  have c1:=bounds_u64 b1
  refine⟨⟨z0,z1.toNat,b⟩,?_,qB0 b0,?_⟩
  · show[Value.int .i64 z0,Value.int .u64 z1,Value.bool b]=[Value.int .i64 z0,Value.int .u64 (z1.toNat:Int),Value.bool b]
    rw[Int.toNat_of_nonneg c1.1]
  · show z1.toNat<B64
    unfold B64
    omega
structure Frm where
 fn:Int
 pc:Int
 locs:List Nat
 stk:List Nat
theorem Frm.eq_of {a b:Frm} (h1:a.fn=b.fn) (h2:a.pc=b.pc) (h3:a.locs=b.locs) (h4:a.stk=b.stk):a=b:=by
 cases a;cases b;simp_all
instance:DecidableEq Frm:=fun a b=>decidable_of_iff (a.fn=b.fn∧a.pc=b.pc∧a.locs=b.locs∧a.stk=b.stk) ⟨fun h=>Frm.eq_of h.1 h.2.1 h.2.2.1 h.2.2.2,fun h=>by subst h;exact⟨rfl,rfl,rfl,rfl⟩⟩
instance:Inhabited Frm:=⟨⟨0,0,[],[]⟩⟩
structure Stt where
 fr:List Frm
 hp:List Ob
 hn:List Hnd
 quota:Int
 used:Int
 fin:Int
 val:Nat
theorem Stt.eq_of {a b:Stt} (h1:a.fr=b.fr) (h2:a.hp=b.hp) (h3:a.hn=b.hn) (h4:a.quota=b.quota) (h5:a.used=b.used) (h6:a.fin=b.fin) (h7:a.val=b.val):a=b:=by
 cases a;cases b;simp_all
instance:DecidableEq Stt:=fun a b=>decidable_of_iff (a.fr=b.fr∧a.hp=b.hp∧a.hn=b.hn∧a.quota=b.quota∧a.used=b.used∧a.fin=b.fin∧a.val=b.val) ⟨fun h=>Stt.eq_of h.1 h.2.1 h.2.2.1 h.2.2.2.1 h.2.2.2.2.1 h.2.2.2.2.2.1 h.2.2.2.2.2.2,fun h=>by subst h;exact⟨rfl,rfl,rfl,rfl,rfl,rfl,rfl⟩⟩
instance:Inhabited Stt:=⟨⟨[],[],[],0,0,0,0⟩⟩
def Frm.small (f:Frm):Prop:=f.locs.length≤100000∧f.stk.length≤100000
def frL:Lay Frm where
 k:=4
 R S w cs o:=∃v0 v1,cs=[.int .i64 o.fn,.int .i64 o.pc,v0,v1]∧I64 o.fn∧I64 o.pc∧wrdL.R S w [v0] o.locs∧wrdL.R S w [v1] o.stk
 len:=by rintro S w cs x ⟨v0,v1,rfl,_⟩;rfl
 keep:=by rintro S w w' cs x ⟨v0,v1,rfl,h1,h2,h3,h4⟩ hk;exact⟨v0,v1,rfl,h1,h2,wrdL.keep h3 hk,wrdL.keep h4 hk⟩
 wide:=by rintro S T w cs x ⟨v0,v1,rfl,h1,h2,h3,h4⟩ hk;exact⟨v0,v1,rfl,h1,h2,wrdL.wide h3 hk,wrdL.wide h4 hk⟩
 one:=by
  rintro S w cs x ⟨v0,v1,rfl,h1,h2,h3,h4⟩ u hu
  simp at hu
  rcases hu with rfl|rfl|rfl|rfl
  · rfl
  · rfl
  · exact wrdL.one h3 _ (by simp)
  · exact wrdL.one h4 _ (by simp)
theorem qBq {S:Nat→Prop} {w:World} {cs:List Value} {o:Frm} (h:frL.R S w cs o):
 ∃A c B d,cs=[.int .i64 o.fn,.int .i64 o.pc,.slice A o.locs.length c,.slice B o.stk.length d]∧o.locs.length≤c∧c≤maxLen∧o.stk.length≤d∧d≤maxLen∧Sq numL S w A o.locs∧Sq numL S w B o.stk∧I64 o.fn∧I64 o.pc:=by
 obtain⟨v0,v1,rfl,h1,h2,⟨A,c,e0,a1,a2,a3⟩,⟨B,d,e1,b1,b2,b3⟩⟩:=h
 simp only[List.cons.injEq,and_true] at e0 e1
 subst e0 e1
 exact⟨A,c,B,d,rfl,a1,a2,b1,b2,a3,b3,h1,h2⟩
abbrev frsL:Lay (List Frm):=slL frL
abbrev obsL:Lay (List Ob):=slL obL
abbrev hnsL:Lay (List Hnd):=slL hdL
def stL:Lay Stt where
 k:=7
 R S w cs s:=∃v0 v1 v2,cs=[v0,v1,v2,.int .i64 s.quota,.int .i64 s.used,.int .i64 s.fin,.int .u64 (s.val:Int)]∧frsL.R S w [v0] s.fr∧obsL.R S w [v1] s.hp∧hnsL.R S w [v2] s.hn∧I64 s.quota∧I64 s.used∧I64 s.fin∧s.val<B64
 len:=by rintro S w cs x ⟨v0,v1,v2,rfl,_⟩;rfl
 keep:=by rintro S w w' cs x ⟨v0,v1,v2,rfl,h0,h1,h2,h3⟩ hk;exact⟨v0,v1,v2,rfl,frsL.keep h0 hk,obsL.keep h1 hk,hnsL.keep h2 hk,h3⟩
 wide:=by rintro S T w cs x ⟨v0,v1,v2,rfl,h0,h1,h2,h3⟩ hk;exact⟨v0,v1,v2,rfl,frsL.wide h0 hk,obsL.wide h1 hk,hnsL.wide h2 hk,h3⟩
 one:=by
  rintro S w cs x ⟨v0,v1,v2,rfl,h0,h1,h2,h3⟩ u hu
  simp at hu
  rcases hu with rfl|rfl|rfl|rfl|rfl|rfl|rfl
  · exact frsL.one h0 _ (by simp)
  · exact obsL.one h1 _ (by simp)
  · exact hnsL.one h2 _ (by simp)
  all_goals rfl
theorem qBh {S:Nat→Prop} {w:World} {cs:List Value} {s:Stt} (h:stL.R S w cs s):
 ∃A0 c0 A1 c1 A2 c2,cs=[.slice A0 s.fr.length c0,.slice A1 s.hp.length c1,.slice A2 s.hn.length c2,.int .i64 s.quota,.int .i64 s.used,.int .i64 s.fin,.int .u64 (s.val:Int)]∧
  s.fr.length≤c0∧c0≤maxLen∧s.hp.length≤c1∧c1≤maxLen∧s.hn.length≤c2∧c2≤maxLen∧Sq frL S w A0 s.fr∧Sq obL S w A1 s.hp∧Sq hdL S w A2 s.hn∧I64 s.quota∧I64 s.used∧I64 s.fin∧s.val<B64:=by
 obtain⟨v0,v1,v2,rfl,⟨A0,c0,e0,a1,a2,a3⟩,⟨A1,c1,e1,b1,b2,b3⟩,⟨A2,c2,e2,d1,d2,d3⟩,h4,h5,h6,h7⟩:=h
 simp only[List.cons.injEq,and_true] at e0 e1 e2
 subst e0 e1 e2
 exact⟨A0,c0,A1,c1,A2,c2,rfl,a1,a2,b1,b2,d1,d2,a3,b3,d3,h4,h5,h6,h7⟩
def Stt.low (s:Stt):Prop:=s.fr.length≤1000∧s.hp.length≤1000∧s.hn.length≤1000∧(∀f∈s.fr,f.small)∧∀o∈s.hp,o.small
open Go.ChangeShapes Go.WideShapes Go.ChangeAt Go.RowKit
def Zfr (o:Frm):Prop:=o.locs.length≤reachBytes∧o.stk.length≤reachBytes
theorem qHX:OpensZ 67 frL Zfr:=by
 intro H enc W cs x fuel hf hwt
 obtain⟨xs,k,hk,hxy,hl,hxl,hfl⟩:=DataW.trod_struct Tryz.underlying67 hf
 rw[hxy] at hwt
 have hw:=fun i f d=>qBV (i:=i) (f:=f) (d:=d) Tryz.underlying67 hwt
 rw[show Tryz.prog.cellsOf 67=4 by kernel_rfl] at hl
 match xs,hxl,cs,hl with
 |[y0,y1,y2,y3],_,[v0,v1,v2,v3],_=>
  have g0:=hfl 0 _ rfl
  have g1:=hfl 1 _ rfl
  have g2:=hfl 2 _ rfl
  have g3:=hfl 3 _ rfl
  have w2:=hw 2 _ _ rfl rfl
  have w3:=hw 3 _ _ rfl rfl
  simp[show Tryz.prog.cellsOf 3=1 by kernel_rfl,show Tryz.prog.cellsOf 25=1 by kernel_rfl] at g0 g1 g2 g3
  obtain⟨z0,e0,_,b0⟩:=DataW.trod_int Tryz.underlying3 g0
  obtain⟨z1,e1,_,b1⟩:=DataW.trod_int Tryz.underlying3 g1
  simp at e0 e1
  subst e0 e1
  obtain⟨xs,hx,zx⟩:=qC8 g2 w2
  obtain⟨ys,hy,zy⟩:=qC8 g3 w3
  exact⟨⟨z0,z1,xs,ys⟩,⟨v2,v3,rfl,qB0 b0,qB0 b1,hx,hy⟩,zx,zy⟩
theorem qGZ:OpensZ 31 frsL (Zl Zfr):=qBL (L:=frL) (by decide) Tryz.underlying31 qV jV qHX
theorem qGY:OpensZ 33 hnsL (Zl fun _=>True):=qBL (L:=hdL) (by decide) Tryz.underlying33 qV jV (OpensZ.of qHU)
def Zs (s:Stt):Prop:=Zl Zfr s.fr∧Zl Zo s.hp∧Zl (fun _=>True) s.hn
theorem qHV:OpensZ 36 stL Zs:=by
 intro H enc W cs x fuel hf hwt
 obtain⟨xs,k,hk,hxy,hl,hxl,hfl⟩:=DataW.trod_struct Tryz.underlying36 hf
 rw[hxy] at hwt
 have hw:=fun i f d=>qBV (i:=i) (f:=f) (d:=d) Tryz.underlying36 hwt
 rw[show Tryz.prog.cellsOf 36=7 by kernel_rfl] at hl
 match xs,hxl,cs,hl with
 |[y0,y1,y2,y3,y4,y5,y6],_,[v0,v1,v2,v3,v4,v5,v6],_=>
  have g0:=hfl 0 _ rfl
  have g1:=hfl 1 _ rfl
  have g2:=hfl 2 _ rfl
  have g3:=hfl 3 _ rfl
  have g4:=hfl 4 _ rfl
  have g5:=hfl 5 _ rfl
  have g6:=hfl 6 _ rfl
  have w0:=hw 0 _ _ rfl rfl
  have w1:=hw 1 _ _ rfl rfl
  have w2:=hw 2 _ _ rfl rfl
  simp[show Tryz.prog.cellsOf 31=1 by kernel_rfl,show Tryz.prog.cellsOf 32=1 by kernel_rfl,show Tryz.prog.cellsOf 33=1 by kernel_rfl,show Tryz.prog.cellsOf 3=1 by kernel_rfl,show Tryz.prog.cellsOf 34=1 by kernel_rfl] at g0 g1 g2 g3 g4 g5 g6
  obtain⟨F,hF,zF⟩:=qGZ g0 w0
  obtain⟨O,hO,zO⟩:=qGV g1 w1
  obtain⟨N,hN,zN⟩:=qGY g2 w2
  obtain⟨z3,e3,_,b3⟩:=DataW.trod_int Tryz.underlying3 g3
  obtain⟨z4,e4,_,b4⟩:=DataW.trod_int Tryz.underlying3 g4
  obtain⟨z5,e5,_,b5⟩:=DataW.trod_int Tryz.underlying3 g5
  obtain⟨z6,e6,_,b6⟩:=DataW.trod_int Tryz.underlying34 g6
  simp at e3 e4 e5 e6
  subst e3 e4 e5 e6
  have c6:=bounds_u64 b6
  refine⟨⟨F,O,N,z3,z4,z5,z6.toNat⟩,⟨v0,v1,v2,?_,hF,hO,hN,qB0 b3,qB0 b4,qB0 b5,?_⟩,zF,zO,zN⟩
  · show[v0,v1,v2,Value.int .i64 z3,Value.int .i64 z4,Value.int .i64 z5,Value.int .u64 z6]=[v0,v1,v2,Value.int .i64 z3,Value.int .i64 z4,Value.int .i64 z5,Value.int .u64 (z6.toNat:Int)]
    rw[Int.toNat_of_nonneg c6.1]
  · show z6.toNat<B64
    unfold B64
    omega
theorem open_stZ {H:Type} {enc:TypeId×Value→H} {W:World} {v:Value} {d:DataW H} {p:List MemPlace} (h:DataW.Trod enc Tryz.prog W 0 (fun _=>true) true 36 v d p) (hw:∀n∈d.weights Tryz.prog 36,n≤reachBytes):
 ∃cs s,v=vAgg cs∧stL.R (·<W.heap.size) W cs s∧Zs s:=by
 obtain⟨fuel,hf⟩:=h
 obtain⟨s,hs,hz⟩:=qHV hf hw
 have hl:=stL.len hs
 have hv:v= .agg v.cells:=by
  cases v<;>first|rfl|exact absurd hl (by simp[Value.cells,stL])
 refine⟨v.cells.toList,s,?_,hs,hz⟩
 rw[vAgg,Array.toArray_toList]
 exact hv
end Go.Proofs.YtconajaecpgjgaaGreat
