/-
Lis Bk0 Raw Loe Jf Ho Hn Gs Gh0
-/
import Derived.Test.YtconajaecpgjgaaGreatQ01
import Derived.Test.YtconajaecpgjgaaGreatQ02
import Derived.Test.YtconajaecpgjgaaGreatQ06
import Derived.BigQuiet
import Derived.Deep.RegionLaw
import Derived.Maps.AppendAt
import Derived.Laws.OwnMore
set_option linter.unusedSimpArgs false
set_option linter.unusedVariables false
set_option maxRecDepth 100000
set_option maxHeartbeats 8000000
namespace Go.Proofs.YtconajaecpgjgaaGreat
open Go.RowKit
def Ub {α:Type} (g:α→Nat) (xs:List α) (k:Nat) (z:Int):Prop:=∀j p,j<k→xs[j]? =some p→(g p:Int)≤z
theorem Ub.zero {α:Type} (g:α→Nat) (xs:List α) (z:Int):Ub g xs 0 z:=fun j p h=>absurd h (by omega)
theorem Ub.mono {α:Type} {g:α→Nat} {xs:List α} {k:Nat} {z z':Int} (h:Ub g xs k z) (hz:z≤z'):Ub g xs k z':=fun j p h1 h2=>Int.le_trans (h j p h1 h2) hz
theorem Ub.step {α:Type} {g:α→Nat} {xs:List α} {k:Nat} {z z':Int} {p:α} (h:Ub g xs k z) (hp:xs[k]? =some p) (hz:z≤z') (hg:(g p:Int)≤z'):Ub g xs (k+1) z':=fun j q h1 h2=>by
 by_cases e:j=k
 · subst e
   rw[hp] at h2
   injection h2 with h2
   subst h2
   exact hg
 · exact Int.le_trans (h j q (by omega) h2) hz
theorem Ub.all {α:Type} {g:α→Nat} {xs:List α} {n:Nat} {z:Int} (h:Ub g xs n z) (hn:xs.length=n):∀p∈xs,(g p:Int)≤z:=fun p hp=>by
 obtain⟨j,hj⟩:=qA6.1 hp
 exact h j p (by rw[←hn];exact(qAc.1 hj).1) hj
theorem qEq (cs:List Value) (x:Mod) (w:World) (h:modL.R (·<w.heap.size) w cs x) (hz:Zm x):Calls Tryz.prog 6 #[vAgg cs] w fun e w'=>∃b:Bool,e= .returned (.bool b)∧Below w.heap.size w w'∧(b=true→Small x):=by
 have hR:reachBytes<140737488355328:=reachBytes_lt
 obtain⟨⟨r0,y0⟩,⟨r1,y1⟩,⟨r2,y2⟩,⟨r3,-⟩,r4,y4⟩:=hz
 have Z0:Hid (∀t∈x.recs,t.length<140737488355328):=fun t ht=>Nat.lt_of_le_of_lt (y0 t ht).1 hR
 have Z1:Hid (∀f∈x.funcs,f.args.length<140737488355328∧f.locs.length<140737488355328∧f.code.length<140737488355328):=fun f hf=>⟨Nat.lt_of_le_of_lt (y1 f hf).1.1 hR,Nat.lt_of_le_of_lt (y1 f hf).2.1.1 hR,Nat.lt_of_le_of_lt (y1 f hf).2.2.1 hR⟩
 have Z2:Hid (∀f∈x.imps,f.args.length<140737488355328):=fun f hf=>Nat.lt_of_le_of_lt (y2 f hf).1 hR
 have Z4:Hid (∀s∈x.texts,s.length<140737488355328):=fun s hs=>Nat.lt_of_le_of_lt (y4 s hs) hR
 replace r0:x.recs.length<140737488355328:=Nat.lt_of_le_of_lt r0 hR
 replace r1:x.funcs.length<140737488355328:=Nat.lt_of_le_of_lt r1 hR
 replace r2:x.imps.length<140737488355328:=Nat.lt_of_le_of_lt r2 hR
 replace r3:x.ints.length<140737488355328:=Nat.lt_of_le_of_lt r3 hR
 replace r4:x.texts.length<140737488355328:=Nat.lt_of_le_of_lt r4 hR
 clear hR y0 y1 y2 y4
 obtain⟨_,_,_,_,_,rfl,⟨A0,d0,e0,l0,m0,s0⟩,⟨A1,d1,e1,l1,m1,s1⟩,⟨A2,d2,e2,l2,m2,s2⟩,⟨A3,d3,e3,l3,m3,s3⟩,⟨A4,d4,e4,l4,m4,s4⟩⟩:=h
 simp only[List.cons.injEq,and_true] at e0 e1 e2 e3 e4
 subst e0 e1 e2 e3 e4
 unfold maxLen at m0 m1 m2 m3 m4
 show Calls Tryz.prog 6 #[.agg #[.slice A0 x.recs.length d0,.slice A1 x.funcs.length d1,.slice A2 x.imps.length d2,.slice A3 x.ints.length d3,.slice A4 x.texts.length d4]] w _
 obtain⟨n0,hn0⟩:∃n,x.recs.length=n:=⟨_,rfl⟩
 have HL0:=qAU hn0
 have HS0:=qAU s0
 obtain⟨n1,hn1⟩:∃n,x.funcs.length=n:=⟨_,rfl⟩
 have HL1:=qAU hn1
 have HS1:=qAU s1
 obtain⟨n2,hn2⟩:∃n,x.imps.length=n:=⟨_,rfl⟩
 have HL2:=qAU hn2
 have HS2:=qAU s2
 obtain⟨n3,hn3⟩:∃n,x.ints.length=n:=⟨_,rfl⟩
 have HL3:=qAU hn3
 have HS3:=qAU s3
 obtain⟨n4,hn4⟩:∃n,x.texts.length=n:=⟨_,rfl⟩
 have HL4:=qAU hn4
 have HS4:=qAU s4
 rw[hn0,hn1,hn2,hn3,hn4]
 rw[hn0] at l0 r0
 rw[hn1] at l1 r1
 rw[hn2] at l2 r2
 rw[hn3] at l3 r3
 rw[hn4] at l4 r4
 clear hn0 s0 hn1 s1 hn2 s2 hn3 s3 hn4 s4
 have hw0:(n0:Int)≤9223372036854775807:=by omega
 have hw1:(n1:Int)≤9223372036854775807:=by omega
 have hw2:(n2:Int)≤9223372036854775807:=by omega
 have hw4:(n4:Int)≤9223372036854775807:=by omega
 have HB0:Hid (Below w.heap.size w (w.alloc (.cells #[.slice A0 n0 d0,.slice A1 n1 d1,.slice A2 n2 d2,.slice A3 n3 d3,.slice A4 n4 d4] 28))):=(qAb _ _).alloc (qAZ _) _
 go_enter Tryz.func6,Tryz.ntmps6
 go_wp2_with fail
 · go_ret
   exact⟨_,rfl,HB0.out,fun h=>by simp at h⟩
 have hsum:n0+n1+n2+n3+n4≤200:=by omega
 refine qAj fun W hW=> ?_
 have HBW:Hid (Below w.heap.size w W):=by show Below _ _ _;rw[hW];exact HB0.out
 have HCW:Hid (C5 w.heap.size (.slice A0 n0 d0) (.slice A1 n1 d1) (.slice A2 n2 d2) (.slice A3 n3 d3) (.slice A4 n4 d4) W):=by rw[hW];show C5 _ _ _ _ _ _ _;simp[C5,go_sem]
 have hWz:w.heap.size<W.heap.size:=by rw[hW];simp
 have HZ:Hid (∀wr,Below W.heap.size W wr→C5 w.heap.size (.slice A0 n0 d0) (.slice A1 n1 d1) (.slice A2 n2 d2) (.slice A3 n3 d3) (.slice A4 n4 d4) wr):=fun wr hb=>HCW.out.below hb hWz
 have HFin:Hid (∀wr,Below W.heap.size W wr→Below w.heap.size w wr):=fun wr hb=>HBW.out.trans (hb.mono HBW.out.size)
 clear hW HB0 HCW
 have HA0:=qAU ((HS0.out.below HBW.out (qAZ _)).wide (T:=(·<W.heap.size)) fun b hb=>qAa hb HBW.out.size)
 clear HS0
 have HA1:=qAU ((HS1.out.below HBW.out (qAZ _)).wide (T:=(·<W.heap.size)) fun b hb=>qAa hb HBW.out.size)
 clear HS1
 have HA2:=qAU ((HS2.out.below HBW.out (qAZ _)).wide (T:=(·<W.heap.size)) fun b hb=>qAa hb HBW.out.size)
 clear HS2
 have HA3:=qAU ((HS3.out.below HBW.out (qAZ _)).wide (T:=(·<W.heap.size)) fun b hb=>qAa hb HBW.out.size)
 clear HS3
 have HA4:=qAU ((HS4.out.below HBW.out (qAZ _)).wide (T:=(·<W.heap.size)) fun b hb=>qAa hb HBW.out.size)
 clear HS4
 go_loopw [3,4] (fun s i wr=>∃(z:Int) (k:Nat),s= .int .i64 z∧k≤n0∧i= .int .i64 (k:Nat)∧0≤z∧z≤200+(k:Int)*140737488355328∧Ub List.length x.recs k z∧Below W.heap.size W wr) (fun _ i _=>n0-(intOf i).toNat)
 case atStart=>exact⟨_,0,rfl,qAn _,rfl,by omega,by omega,Ub.zero _ _ _,qAb _ _⟩
 case round=>
  obtain⟨z,k,rfl,hk,rfl,hz0,hz1,g0,hbel⟩:=hrel
  have HU0:=qAU g0
  clear g0
  have HB:=qAU hbel
  have hs:=hbel.size
  clear hbel
  by_cases hlt:k<n0
  · obtain⟨p,hp⟩:∃p,x.recs[k]? =some p:=⟨x.recs[k]'(by rw[HL0.out];exact hlt),qAY _⟩
    have HP:=qAU hp
    have hm:=qAf hp
    obtain⟨a,cs,ea,hab,hc,hR⟩:=HA0.out.at hp
    clear hp
    subst ea
    have hb9:=Z0.out p hm
    obtain⟨P0,c3,rfl,-,-,-⟩:=hR
    have ca0:=(HB.out.cell (p:=a.add k) qG).trans (qA9 (K:=tysL.k) rfl (hc 0 _ rfl))
    obtain⟨v1,hv1⟩:∃v,p.length=v:=⟨_,rfl⟩
    rw[hv1] at ca0 hb9
    have HV1:=qAU hv1
    clear hc hm hv1
    obtain⟨z0,z1,z2,z3,z4⟩:=HZ.out wr HB.out
    have k0':0≤(k:Int):=by omega
    have k1':(k:Int)<(n0:Int):=by omega
    go_wp2_with fail
    exact⟨⟨z+(v1:Int),k+1,rfl,by omega,by simp,by omega,by omega,HU0.out.step HP.out (by omega) (by simp only[HV1.out];omega),HB.out⟩,by simp[intOf];omega⟩
  · obtain rfl:k=n0:=by omega
    obtain⟨n0,hnn⟩:∃n,n=k:=⟨_,rfl⟩
    subst hnn
    obtain⟨z0,z1,z2,z3,z4⟩:=HZ.out wr HB.out
    go_wp2_with fail
    go_loopw [3,5] (fun s i wr=>∃(z:Int) (k:Nat),s= .int .i64 z∧k≤n1∧i= .int .i64 (k:Nat)∧0≤z∧z≤28147497671065800+(k:Int)*422212465065984∧Ub List.length x.recs n0 z∧Ub (fun f=>List.length (Fn.args f)) x.funcs k z∧Ub (fun f=>List.length (Fn.locs f)) x.funcs k z∧Ub (fun f=>List.length (Fn.code f)) x.funcs k z∧Below W.heap.size W wr) (fun _ i _=>n1-(intOf i).toNat)
    case atStart=>exact⟨_,0,rfl,qAn _,rfl,by omega,by omega,HU0.out,Ub.zero _ _ _,Ub.zero _ _ _,Ub.zero _ _ _,HB.out⟩
    case round=>
     obtain⟨z,k,rfl,hk,rfl,hz0,hz1,o0,g0,g1,g2,hbel⟩:=hrel
     clear HB
     clear HU0
     have HU0:=qAU o0
     have HU1:=qAU g0
     have HU2:=qAU g1
     have HU3:=qAU g2
     clear o0 g0 g1 g2
     have HB:=qAU hbel
     have hs:=hbel.size
     clear hbel
     by_cases hlt:k<n1
     · obtain⟨p,hp⟩:∃p,x.funcs[k]? =some p:=⟨x.funcs[k]'(by rw[HL1.out];exact hlt),qAY _⟩
       have HP:=qAU hp
       have hm:=qAf hp
       obtain⟨a,cs,ea,hab,hc,hR⟩:=HA1.out.at hp
       clear hp
       subst ea
       obtain⟨hb7,hb8,hb9⟩:=Z1.out p hm
       obtain⟨_,_,_,rfl,-,-,⟨P0,c3,e4,-⟩,⟨P2,c5,e6,-⟩,⟨P4,c7,e8,-⟩⟩:=hR
       simp only[List.cons.injEq,and_true] at e4 e6 e8
       subst e4 e6 e8
       have ca0:=(HB.out.cell (p:=a.add (k*5)) qG).trans (hc 0 _ rfl)
       have ca1:=(HB.out.cell (p:=a.add (k*5+1)) qG).trans (hc 1 _ rfl)
       rw[qAg a (k*5) 1 (by omega)] at ca1
       have ca2:=(HB.out.cell (p:=a.add (k*5+2)) qG).trans (hc 2 _ rfl)
       rw[qAg a (k*5) 2 (by omega)] at ca2
       have ca3:=(HB.out.cell (p:=a.add (k*5+3)) qG).trans (hc 3 _ rfl)
       rw[qAg a (k*5) 3 (by omega)] at ca3
       have ca4:=(HB.out.cell (p:=a.add (k*5+4)) qG).trans (hc 4 _ rfl)
       rw[qAg a (k*5) 4 (by omega)] at ca4
       obtain⟨v1,hv1⟩:∃v,p.args.length=v:=⟨_,rfl⟩
       obtain⟨v2,hv2⟩:∃v,p.locs.length=v:=⟨_,rfl⟩
       obtain⟨v3,hv3⟩:∃v,p.code.length=v:=⟨_,rfl⟩
       rw[hv1] at ca0 hb7
       rw[hv2] at ca3 hb8
       rw[hv3] at ca4 hb9
       have HV1:=qAU hv1
       have HV2:=qAU hv2
       have HV3:=qAU hv3
       clear hc hm hv1 hv2 hv3
       obtain⟨z0,z1,z2,z3,z4⟩:=HZ.out wr HB.out
       have k0':0≤(k:Int):=by omega
       have k1':(k:Int)<(n1:Int):=by omega
       go_wp2_with fail
       go_quiet (fail)
       go_wp2_with fail
       exact⟨⟨z+(v1:Int)+(v2:Int)+(v3:Int),k+1,rfl,by omega,by simp,by omega,by omega,HU0.out.mono (by omega),HU1.out.step HP.out (by omega) (by simp only[HV1.out];omega),HU2.out.step HP.out (by omega) (by simp only[HV2.out];omega),HU3.out.step HP.out (by omega) (by simp only[HV3.out];omega),qCe HB.out _ hs⟩,by simp[intOf];omega⟩
     · obtain rfl:k=n1:=by omega
       obtain⟨n1,hnn⟩:∃n,n=k:=⟨_,rfl⟩
       subst hnn
       obtain⟨z0,z1,z2,z3,z4⟩:=HZ.out wr HB.out
       go_wp2_with fail
       go_loopw [3,6] (fun s i wr=>∃(z:Int) (k:Nat),s= .int .i64 z∧k≤n2∧i= .int .i64 (k:Nat)∧0≤z∧z≤112589990684262600+(k:Int)*140737488355328∧Ub List.length x.recs n0 z∧Ub (fun f=>List.length (Fn.args f)) x.funcs n1 z∧Ub (fun f=>List.length (Fn.locs f)) x.funcs n1 z∧Ub (fun f=>List.length (Fn.code f)) x.funcs n1 z∧Ub (fun f=>List.length (Imp.args f)) x.imps k z∧Below W.heap.size W wr) (fun _ i _=>n2-(intOf i).toNat)
       case atStart=>exact⟨_,0,rfl,qAn _,rfl,by omega,by omega,HU0.out,HU1.out,HU2.out,HU3.out,Ub.zero _ _ _,HB.out⟩
       case round=>
        obtain⟨z,k,rfl,hk,rfl,hz0,hz1,o0,o1,o2,o3,g0,hbel⟩:=hrel
        clear HB
        clear HU0 HU1 HU2 HU3
        have HU0:=qAU o0
        have HU1:=qAU o1
        have HU2:=qAU o2
        have HU3:=qAU o3
        have HU4:=qAU g0
        clear o0 o1 o2 o3 g0
        have HB:=qAU hbel
        have hs:=hbel.size
        clear hbel
        by_cases hlt:k<n2
        · obtain⟨p,hp⟩:∃p,x.imps[k]? =some p:=⟨x.imps[k]'(by rw[HL2.out];exact hlt),qAY _⟩
          have HP:=qAU hp
          have hm:=qAf hp
          obtain⟨a,cs,ea,hab,hc,hR⟩:=HA2.out.at hp
          clear hp
          subst ea
          have hb9:=Z2.out p hm
          obtain⟨_,rfl,-,-,⟨P0,c3,e4,-⟩⟩:=hR
          simp only[List.cons.injEq,and_true] at e4
          subst e4
          have ca0:=(HB.out.cell (p:=a.add (k*3)) qG).trans (hc 0 _ rfl)
          have ca1:=(HB.out.cell (p:=a.add (k*3+1)) qG).trans (hc 1 _ rfl)
          rw[qAg a (k*3) 1 (by omega)] at ca1
          have ca2:=(HB.out.cell (p:=a.add (k*3+2)) qG).trans (hc 2 _ rfl)
          rw[qAg a (k*3) 2 (by omega)] at ca2
          obtain⟨v1,hv1⟩:∃v,p.args.length=v:=⟨_,rfl⟩
          rw[hv1] at ca0 hb9
          have HV1:=qAU hv1
          clear hc hm hv1
          obtain⟨z0,z1,z2,z3,z4⟩:=HZ.out wr HB.out
          have k0':0≤(k:Int):=by omega
          have k1':(k:Int)<(n2:Int):=by omega
          go_wp2_with fail
          exact⟨⟨z+(v1:Int),k+1,rfl,by omega,by simp,by omega,by omega,HU0.out.mono (by omega),HU1.out.mono (by omega),HU2.out.mono (by omega),HU3.out.mono (by omega),HU4.out.step HP.out (by omega) (by simp only[HV1.out];omega),HB.out⟩,by simp[intOf];omega⟩
        · obtain rfl:k=n2:=by omega
          obtain⟨n2,hnn⟩:∃n,n=k:=⟨_,rfl⟩
          subst hnn
          obtain⟨z0,z1,z2,z3,z4⟩:=HZ.out wr HB.out
          go_wp2_with fail
          go_loopw [3,7] (fun s i wr=>∃(z:Int) (k:Nat),s= .int .i64 z∧k≤n4∧i= .int .i64 (k:Nat)∧0≤z∧z≤140737488355328200+(k:Int)*140737488355328∧Ub List.length x.recs n0 z∧Ub (fun f=>List.length (Fn.args f)) x.funcs n1 z∧Ub (fun f=>List.length (Fn.locs f)) x.funcs n1 z∧Ub (fun f=>List.length (Fn.code f)) x.funcs n1 z∧Ub (fun f=>List.length (Imp.args f)) x.imps n2 z∧Ub List.length x.texts k z∧Below W.heap.size W wr) (fun _ i _=>n4-(intOf i).toNat)
          case atStart=>exact⟨_,0,rfl,qAn _,rfl,by omega,by omega,HU0.out,HU1.out,HU2.out,HU3.out,HU4.out,Ub.zero _ _ _,HB.out⟩
          case round=>
           obtain⟨z,k,rfl,hk,rfl,hz0,hz1,o0,o1,o2,o3,o4,g0,hbel⟩:=hrel
           clear HB
           clear HU0 HU1 HU2 HU3 HU4
           have HU0:=qAU o0
           have HU1:=qAU o1
           have HU2:=qAU o2
           have HU3:=qAU o3
           have HU4:=qAU o4
           have HU5:=qAU g0
           clear o0 o1 o2 o3 o4 g0
           have HB:=qAU hbel
           have hs:=hbel.size
           clear hbel
           by_cases hlt:k<n4
           · obtain⟨p,hp⟩:∃p,x.texts[k]? =some p:=⟨x.texts[k]'(by rw[HL4.out];exact hlt),qAY _⟩
             have HP:=qAU hp
             have hm:=qAf hp
             obtain⟨a,cs,ea,hab,hc,hR⟩:=HA4.out.at hp
             clear hp
             subst ea
             have hb9:=Z4.out p hm
             obtain⟨st,rfl,hst⟩:=hR
             have ca0:=(HB.out.cell (p:=a.add k) qG).trans (qA9 (K:=strL.k) rfl (hc 0 _ rfl))
             obtain⟨v1,hv1⟩:∃v,p.length=v:=⟨_,rfl⟩
             have hsz:st.size=v1:=by rw[←hv1,hst,qB1]
             rw[hv1] at hb9
             clear hst
             have HV1:=qAU hv1
             clear hc hm hv1
             obtain⟨z0,z1,z2,z3,z4⟩:=HZ.out wr HB.out
             have k0':0≤(k:Int):=by omega
             have k1':(k:Int)<(n4:Int):=by omega
             go_wp2_with fail
             exact⟨⟨z+(v1:Int),k+1,rfl,by omega,by simp,by omega,by omega,HU0.out.mono (by omega),HU1.out.mono (by omega),HU2.out.mono (by omega),HU3.out.mono (by omega),HU4.out.mono (by omega),HU5.out.step HP.out (by omega) (by simp only[HV1.out];omega),HB.out⟩,by simp[intOf];omega⟩
           · obtain rfl:k=n4:=by omega
             obtain⟨n4,hnn⟩:∃n,n=k:=⟨_,rfl⟩
             subst hnn
             obtain⟨z0,z1,z2,z3,z4⟩:=HZ.out wr HB.out
             go_wp2_with fail
             go_ret
             refine⟨_,rfl,HFin.out _ HB.out,fun hb=> ?_⟩
             have hz3:z<3000:=by simpa using hb
             refine⟨fun t ht=> ?_,fun f hf=>⟨?_,?_,?_⟩,fun i hi=> ?_,fun s hs=> ?_⟩
             · have:=HU0.out.all HL0.out t ht;omega
             · have:=HU1.out.all HL1.out f hf;omega
             · have:=HU2.out.all HL1.out f hf;omega
             · have:=HU3.out.all HL1.out f hf;omega
             · have:=HU4.out.all HL2.out i hi;omega
             · have:=HU5.out.all HL4.out s hs;omega
theorem qAV {v:World} {o:Obj} {b t:Nat} {c:Array Value} (h:Blk v b t c):Blk (v.alloc o) b t c:=(qA8 v o b h.lt).trans h
theorem qAh {v:World} {b t:Nat} {c:Array Value} (h:v.heap.size=b):Blk (v.alloc (.cells c t)) b t c:=by rw[←h];exact qAt v t c
theorem qAX {v w:World} {B b t:Nat} {c:Array Value} (h:Blk v b t c) (hb:Below B v w) (hB:b<B):Blk w b t c:=(hb.block b hB).trans h
theorem qAm {v:World} {b t g i:Nat} {c:Array Value} {u:Value} (h:Blk v b t c) (hne:b≠g):Blk (v.setCell ⟨g,i,none⟩ u) b t c:=(qAd v ⟨g,i,none⟩ u b hne).trans h
theorem qIx {w:World} {g ty:Nat} {cs:Array Value} (h:Blk w g ty cs) (j:Nat) (u:Value) (hu:cs.toList[j]? =some u):w.cell? ((⟨g,0,none⟩:Addr).add j)=some u:=by
 have e:(⟨g,0,none⟩:Addr).add j=⟨g,j,none⟩:=by unfold Addr.add;split<;>simp_all
 rw[e]
 have:=h.cell j
 rw[this]
 simpa using hu
theorem qFG {α:Type} {L:Lay α} {S:Nat→Prop} {w:World} {g ty:Nat} {cs:Array Value} {x:α} (h:Blk w g ty cs) (hg:S g) (hR:L.R S w cs.toList x):(slL L).R S w [.slice (some ⟨g,0,none⟩) 1 1] [x]:=by
 refine⟨some ⟨g,0,none⟩,1,rfl,qAZ _,by simp[maxLen],fun _=>⟨_,rfl,hg,fun j y hy=> ?_⟩⟩
 have hj:j=0:=by
  rcases Nat.eq_zero_or_pos j with h|h
  · exact h
  · rw[List.getElem?_eq_none qg] at hy
    cases hy
 subst hj
 simp at hy
 subst hy
 refine⟨_,fun i u hu=> ?_,hR⟩
 have e:(⟨g,0,none⟩:Addr).add (0*L.k+i)=⟨g,i,none⟩:=by unfold Addr.add;split<;>simp_all
 rw[e,h.cell i]
 simpa using hu
theorem qBN {α:Type} (L:Lay α) (S:Nat→Prop) (w:World):(slL L).R S w [.slice none 0 0] []:=⟨none,0,rfl,qAZ _,by simp[maxLen],Sq.nil _ _ _ _⟩
theorem qDT {w w':World} {base B ty k:Nat} {v:Value} {n:Nat} {xs:List Value} (h:w.ownsRow base ty k v n xs) (hb:Below B w w') (hB:w.heap.size≤B):w'.ownsRow base ty k v n xs:=
 h.kept (w':=w') (row:=none) ⟨hb.os,hb.tape,hb.output,hb.size,fun k hk _=>hb.block k (by omega)⟩ (by cases v.ownBlock<;>simp)
theorem Owns.push {α:Type} {L:Lay α} {ty base:Nat} {w w':World} {v v':Value} {xs:List α} {css:List (List Value)} {cs:List Value} {x:α} (hl:css.length=xs.length)
 (hR:∀(j:Nat) (x:α) (cs:List Value),xs[j]? =some x→css[j]? =some cs→L.R (fun b=>base≤b∧b<w.heap.size∧v.ownBlock≠some b) w cs x)
 (hx:L.R (fun b=>base≤b∧b<w.heap.size∧v.ownBlock≠some b) w cs x) (hown:w'.ownsRow base ty L.k v' (xs.length+1) (css.flatten++cs)) (hg:w.grownBy w' v.ownBlock)
 (hv:v'.ownBlock=v.ownBlock∨v'.ownBlock=some w.heap.size):Owns L ty base w' v' (xs++[x]):=by
 have hk:∀{cs:List Value} {x:α},L.R (fun b=>base≤b∧b<w.heap.size∧v.ownBlock≠some b) w cs x→L.R (fun b=>base≤b∧b<w'.heap.size∧v'.ownBlock≠some b) w' cs x:=fun h=>
  L.wide (L.keep h fun b hb=>hg.block b hb.2.1 (fun e=>hb.2.2 e.symm)) fun b hb=>⟨hb.1,qAa hb.2.1 hg.size,by
   rcases hv with e|e
   · rw[e];exact hb.2.2
   · rw[e];intro e2;injection e2 with e2;omega⟩
 refine⟨css++[cs],by simp[hl],by simpa using hown,fun j y ds h1 h2=> ?_⟩
 rcases Nat.lt_or_ge j xs.length with hj|hj
 · rw[List.getElem?_append_left hj] at h1
   rw[List.getElem?_append_left (by omega)] at h2
   exact hk (hR j y ds h1 h2)
 · rw[List.getElem?_append_right hj] at h1
   rw[List.getElem?_append_right (by omega),hl] at h2
   have e0:j-xs.length=0:=by
    rcases Nat.eq_zero_or_pos (j-xs.length) with h|h
    · exact h
    · rw[List.getElem?_eq_none qg] at h1
      cases h1
   rw[e0] at h1 h2
   simp at h1 h2
   subst h1 h2
   exact hk hx
theorem qD4 {α:Type} (L:Lay α) (w:World) {ops:Array Oper} {rest:List Oper} {o:Oper} {a:Act} {Q:Exit→Act→World→Prop} (hgd:o.guard=none) (s x:Operand) (T E:TypeId)
 (ho:o.op= .call {callee:= .builtin .append,args:= #[s,x],argTypes:= #[T,T]})
 (z:Value) (B:Nat) (hT:Tryz.prog.underlying T=some (.slice E)) (hI:(Tryz.prog.info? E).map (fun i=>(i.zero,i.size,i.bytes))=some (some z,L.k,B)) (hz:z.cells.size=L.k) (hk:0<L.k) (hB:B≤100)
 (base:Nat) (v:Value) (xs:List α) (hs:a.eval s=v) (hO:Owns L E base w v xs) (ad:Addr) (d:Nat) (hx:a.eval x= .slice (some ad) 1 d) (cs:List Value) (y:α)
 (hc:∀j u,cs[j]? =some u→w.cell? (ad.add j)=some u) (hR:L.R (fun b=>base≤b∧b<w.heap.size∧v.ownBlock≠some b) w cs y) (hbig:xs.length≤1000000) (hbase:base≤w.heap.size)
 (h:∀v' w',Owns L E base w' v' (xs++[y])→w.grownBy w' v.ownBlock→wpList Tryz.prog ops Q rest (a.put o.dst v') w'):wpList Tryz.prog ops Q (o::rest) a w:=by
 refine wpList_plain hgd fun _ hK=> ?_
 obtain⟨i0,hi0,hz0,hz1,hz2⟩:=info_parts hI
 obtain⟨css,hl,hown,hRs⟩:=hO
 have hBx:(xs.length+1)*B≤140737488355328:=by
  have:=Nat.mul_le_mul (show xs.length+1≤1000001 by omega) hB
  omega
 obtain⟨v',w',hrun,h2,h3,_,h5⟩:=run_append_own_at (P:=Tryz.prog) w base T o.type E i0 z L.k B hT hi0 hz0 hz1 hz2 hz hk v xs.length css.flatten hown ad 1 d cs (by rw[L.len hR,Nat.one_mul]) hc (L.one hR)
  j7 hBx hbase
 unfold Oper.wp execOp
 simp only[ho,resolve,invoke,builtin,Sem.run_bind,Sem.run_pure,Result.andThen_ok,List.map_toArray,List.map_cons,List.map_nil,hs,hx,hrun]
 exact hK _ _ (h v' w' (Owns.push hl hRs hR h2 h3 h5) h3)
theorem Owns.below {α:Type} {L:Lay α} {ty base:Nat} {w w':World} {v:Value} {xs:List α} (h:Owns L ty base w v xs) (hb:Below w.heap.size w w'):Owns L ty base w' v xs:=by
 obtain⟨css,hl,hown,hR⟩:=h
 exact⟨css,hl,qDT hown hb (qAZ _),fun j x cs h1 h2=>L.wide (L.keep (hR j x cs h1 h2) fun b hb2=>hb.block b hb2.2.1) fun b hb2=>⟨hb2.1,qAa hb2.2.1 hb.size,hb2.2.2⟩⟩
theorem qKE {css:List (List Value)} {k:Nat} (hk:∀cs∈css,cs.length=k):css.flatten.length=css.length*k:=by
 induction css with
 |nil=>simp
 |cons c css ih=>
  rw[List.flatten_cons,List.length_append,hk c (by simp),ih fun x hx=>hk x (by simp[hx]),List.length_cons,Nat.add_mul]
  omega
theorem sq_css {α:Type} {La:Lay α} {S:Nat→Prop} {w:World} {a:Addr} {xs:List α} (hk:0<La.k) (h:Sq La S w (some a) xs):
 ∃css:List (List Value),css.length=xs.length∧(∀(j:Nat) (x:α) (cs:List Value),xs[j]? =some x→css[j]? =some cs→La.R S w cs x)∧(∀(j:Nat) (u:Value),css.flatten[j]? =some u→w.cell? (a.add j)=some u)∧(∀u∈css.flatten,u.oneCell'=true)∧css.flatten.length=xs.length*La.k:=by
 have hex:∀j:Fin xs.length,∃cs:List Value,(∀i u,cs[i]? =some u→w.cell? (a.add (j.1*La.k+i))=some u)∧La.R S w cs xs[j.1]:=fun j=>by
  obtain⟨a',cs,e,hs,hc,hr⟩:=h.at (qAY j.2)
  injection e with e
  subst e
  exact⟨cs,hc,hr⟩
 obtain⟨css,hl,hget⟩:∃css:List (List Value),css.length=xs.length∧∀(j:Nat) (x:α) (cs:List Value),xs[j]? =some x→css[j]? =some cs→(∀i u,cs[i]? =some u→w.cell? (a.add (j*La.k+i))=some u)∧La.R S w cs x:=by
  refine⟨List.ofFn fun j=>Classical.choose (hex j),by simp,fun j x cs h1 h2=> ?_⟩
  obtain⟨hj,e1⟩:=qAc.1 h1
  obtain⟨hj2,e2⟩:=qAc.1 h2
  rw[List.getElem_ofFn] at e2
  subst e1 e2
  exact Classical.choose_spec (hex ⟨j,hj⟩)
 have hlen:∀cs∈css,cs.length=La.k:=fun cs hcs=>by
  obtain⟨j,hj⟩:=qA6.1 hcs
  have hjl:j<xs.length:=by rw[←hl];exact(qAc.1 hj).1
  exact La.len (hget j _ cs (qAY hjl) hj).2
 have hfl:css.flatten.length=xs.length*La.k:=by rw[qKE hlen,hl]
 refine⟨css,hl,fun j x cs h1 h2=>(hget j x cs h1 h2).2,fun j u hu=> ?_,fun u hu=> ?_,hfl⟩
 · have hj:=(qAc.1 hu).1
   rw[hfl] at hj
   have hq:j / La.k<xs.length:=(Nat.div_lt_iff_lt_mul hk).2 hj
   have hr:j % La.k<La.k:=Nat.mod_lt _ hk
   have hcs:css[j / La.k]? =some (css[j / La.k]'(by omega)):=qAY _
   have e:j / La.k*La.k+j % La.k=j:=by rw[Nat.mul_comm];exact Nat.div_add_mod j La.k
   have hf:=qCD hlen hcs (j % La.k) hr
   rw[e] at hf
   rw[hf] at hu
   have:=(hget _ _ _ (qAY hq) hcs).1 _ u hu
   rwa [e] at this
 · obtain⟨cs,hcs,hu⟩:=List.mem_flatten.1 hu
   obtain⟨j,hj⟩:=qA6.1 hcs
   have hjl:j<xs.length:=by rw[←hl];exact(qAc.1 hj).1
   exact La.one (hget j _ cs (qAY hjl) hj).2 u hu
theorem qBn {α:Type} (La:Lay α) (w:World) {ops:Array Oper} {rest:List Oper} {o:Oper} {a:Act} {Q:Exit→Act→World→Prop} (hgd:o.guard=none) (s x:Operand) (T E:TypeId)
 (ho:o.op= .call {callee:= .builtin .append,args:= #[s,x],argTypes:= #[T,T]})
 (z:Value) (B:Nat) (hT:Tryz.prog.underlying T=some (.slice E)) (hI:(Tryz.prog.info? E).map (fun i=>(i.zero,i.size,i.bytes))=some (some z,La.k,B)) (hz:z.cells.size=La.k) (hk:0<La.k) (hB:B≤100)
 (base:Nat) (v:Value) (hs:a.eval s=v) (hO:w.ownsRow base E La.k v 0 []) (ad:Addr) (m d:Nat) (xs:List α) (hx:a.eval x= .slice (some ad) m d) (hl:xs.length=m) (S:Nat→Prop) (hS:Sq La S w (some ad) xs) (hbig:m≤1000000) (hbase:base≤w.heap.size)
 (h:∀(v':Value) (w':World) (css:List (List Value)),css.length=m→w'.ownsRow base E La.k v' m css.flatten→(∀(j:Nat) (x:α) (cs:List Value),xs[j]? =some x→css[j]? =some cs→La.R S w cs x)→w.grownBy w' v.ownBlock→wpList Tryz.prog ops Q rest (a.put o.dst v') w'):wpList Tryz.prog ops Q (o::rest) a w:=by
 refine wpList_plain hgd fun _ hK=> ?_
 obtain⟨i0,hi0,hz0,hz1,hz2⟩:=info_parts hI
 obtain⟨css,hcl,hR,hc,hone,hfl⟩:=sq_css hk hS
 have hBx:(0+m)*B≤140737488355328:=by
  have:=Nat.mul_le_mul (show 0+m≤1000000 by omega) hB
  omega
 obtain⟨v',w',hrun,h2,h3,_,h5⟩:=run_append_own_at (P:=Tryz.prog) w base T o.type E i0 z La.k B hT hi0 hz0 hz1 hz2 hz hk v 0 [] hO ad m d css.flatten (by rw[hfl,hl]) hc hone
  j7 hBx hbase
 unfold Oper.wp execOp
 simp only[ho,resolve,invoke,builtin,Sem.run_bind,Sem.run_pure,Result.andThen_ok,List.map_toArray,List.map_cons,List.map_nil,hs,hx,hrun]
 rw[Nat.zero_add,List.nil_append] at h2
 exact hK _ _ (h v' w' css (hcl.trans hl) h2 hR h3)
theorem qCS {css:List (List Value)} {K:Nat} (hk:∀cs∈css,cs.length=K) {j:Nat} {cs:List Value} (hj:css[j]? =some cs) {i:Nat} (hi:i<K) (u:Value):css.flatten.set (j*K+i) u=(css.set j (cs.set i u)).flatten:=by
 induction css generalizing j with
 |nil=>simp at hj
 |cons c css ih=>
  have hc:=hk c (by simp)
  cases j with
  |zero=>
   simp at hj
   subst hj
   rw[List.flatten_cons,Nat.zero_mul,Nat.zero_add,List.set_append_left _ _ (by omega),List.set_cons_zero,List.flatten_cons]
  |succ j=>
   rw[List.flatten_cons,List.set_append_right _ _ (by rw[hc,Nat.succ_mul];omega),hc,show(j+1)*K+i-K=j*K+i by rw[Nat.succ_mul];omega,ih (fun x hx=>hk x (by simp[hx])) (by simpa using hj),List.set_cons_succ,List.flatten_cons]
theorem qBa {w w':World} {base ty k n:Nat} {v:Value} {xs:List Value} (h:w.ownsRow base ty k v n xs) (hk:∀b,v.ownBlock=some b→w'.heap[b]? =w.heap[b]?):w'.ownsRow base ty k v n xs:=by
 refine⟨h.1,?_⟩
 rcases h.2 with h0|⟨g',cap,cur,e,q1,q2,q3⟩
 · exact .inl h0
 · refine .inr ⟨g',cap,cur,e,q1,?_,q3⟩
   rw[hk g' (by rw[e];rfl)]
   exact q2
theorem qCP {w:World} {base ty k n:Nat} {v:Value} {xs:List Value} (h:w.ownsRow base ty k v n xs) (hn:0<n):∃g c,v= .slice (some ⟨g,0,none⟩) n c∧base≤g∧g<w.heap.size:=by
 rcases h.2 with⟨_,h0⟩|⟨g,cap,cur,rfl,hb,hg,_⟩
 · omega
 · exact⟨g,cap,rfl,hb,(Array.getElem?_eq_some_iff.1 hg).1⟩
theorem qCa (w:World) (ty k:Nat):(w.alloc (.cells #[] ty)).ownsRow w.heap.size ty k (.slice (some ⟨w.heap.size,0,none⟩) 0 0) 0 []:=
 World.ownsRow_made w #[] 0 (qAZ _) (by simp[maxLen]) (by simp)
structure Ob where
 kind:Int
 n:Int
 words:List Nat
 bytes:List Nat
theorem Ob.eq_of {a b:Ob} (h1:a.kind=b.kind) (h2:a.n=b.n) (h3:a.words=b.words) (h4:a.bytes=b.bytes):a=b:=by
 cases a;cases b;simp_all
instance:DecidableEq Ob:=fun a b=>decidable_of_iff (a.kind=b.kind∧a.n=b.n∧a.words=b.words∧a.bytes=b.bytes) ⟨fun h=>Ob.eq_of h.1 h.2.1 h.2.2.1 h.2.2.2,fun h=>by subst h;exact⟨rfl,rfl,rfl,rfl⟩⟩
instance:Inhabited Ob:=⟨⟨0,0,[],[]⟩⟩
def ob0:Ob:=⟨0,0,[],[]⟩
def Ob.cost (o:Ob):Int:=16+8*(o.words.length:Int)+(o.bytes.length:Int)
def Ob.small (o:Ob):Prop:=o.words.length≤100000∧o.bytes.length≤100000
def Ns (xs:List Nat):List Value:=xs.map fun x:Nat=>Value.int .u64 (x:Int)
theorem qE3 (xs:List Nat):(Ns xs).length=xs.length:=by simp[Ns]
theorem Ns_at {xs:List Nat} {j x:Nat} (h:xs[j]? =some x):(Ns xs)[j]? =some (.int .u64 (x:Int)):=by simp[Ns,h]
abbrev wrdL:Lay (List Nat):=slL numL
def bytL:Lay (List Nat) where
 k:=1
 R S w cs xs:=∃A c,cs=[.slice A xs.length c]∧xs.length≤c∧c≤maxLen∧Byt S w A xs∧∀x∈xs,x<256
 len:=by rintro S w cs x ⟨A,c,rfl,_⟩;rfl
 keep:=by rintro S w w' cs x ⟨A,c,rfl,h1,h2,h3,h4⟩ hk;exact⟨A,c,rfl,h1,h2,h3.keep hk,h4⟩
 wide:=by rintro S T w cs x ⟨A,c,rfl,h1,h2,h3,h4⟩ hk;exact⟨A,c,rfl,h1,h2,h3.wide hk,h4⟩
 one:=by rintro S w cs x ⟨A,c,rfl,_⟩ u hu;simp at hu;subst hu;rfl
def obL:Lay Ob where
 k:=4
 R S w cs o:=∃v0 v1,cs=[.int .i64 o.kind,.int .i64 o.n,v0,v1]∧I64 o.kind∧I64 o.n∧wrdL.R S w [v0] o.words∧bytL.R S w [v1] o.bytes
 len:=by rintro S w cs x ⟨v0,v1,rfl,_⟩;rfl
 keep:=by rintro S w w' cs x ⟨v0,v1,rfl,h1,h2,h3,h4⟩ hk;exact⟨v0,v1,rfl,h1,h2,wrdL.keep h3 hk,bytL.keep h4 hk⟩
 wide:=by rintro S T w cs x ⟨v0,v1,rfl,h1,h2,h3,h4⟩ hk;exact⟨v0,v1,rfl,h1,h2,wrdL.wide h3 hk,bytL.wide h4 hk⟩
 one:=by
  rintro S w cs x ⟨v0,v1,rfl,h1,h2,h3,h4⟩ u hu
  simp at hu
  rcases hu with rfl|rfl|rfl|rfl
  · rfl
  · rfl
  · exact wrdL.one h3 _ (by simp)
  · exact bytL.one h4 _ (by simp)
theorem qCB {S:Nat→Prop} {w:World} {cs:List Value} {o:Ob} (h:obL.R S w cs o):
 ∃A c B d,cs=[.int .i64 o.kind,.int .i64 o.n,.slice A o.words.length c,.slice B o.bytes.length d]∧o.words.length≤c∧c≤maxLen∧o.bytes.length≤d∧d≤maxLen∧Sq numL S w A o.words∧Byt S w B o.bytes∧(∀x∈o.bytes,x<256)∧I64 o.kind∧I64 o.n:=by
 obtain⟨v0,v1,rfl,h1,h2,⟨A,c,e0,a1,a2,a3⟩,⟨B,d,e1,b1,b2,b3,b4⟩⟩:=h
 simp only[List.cons.injEq,and_true] at e0 e1
 subst e0 e1
 exact⟨A,c,B,d,rfl,a1,a2,b1,b2,a3,b3,b4,h1,h2⟩
theorem ob_make {S:Nat→Prop} {w:World} {o:Ob} {A B:Option Addr} {c d:Nat} (h1:o.words.length≤c) (h2:c≤maxLen) (h3:o.bytes.length≤d) (h4:d≤maxLen) (h5:Sq numL S w A o.words) (h6:Byt S w B o.bytes) (h7:∀x∈o.bytes,x<256) (h8:I64 o.kind) (h9:I64 o.n):
 obL.R S w [.int .i64 o.kind,.int .i64 o.n,.slice A o.words.length c,.slice B o.bytes.length d] o:=
 ⟨_,_,rfl,h8,h9,⟨A,c,rfl,h1,h2,h5⟩,⟨B,d,rfl,h3,h4,h6,h7⟩⟩
theorem add_off (g i j:Nat):(⟨g,i,none⟩:Addr).add j=⟨g,i+j,none⟩:=by unfold Addr.add;split<;>simp_all
theorem add_zero (g j:Nat):(⟨g,0,none⟩:Addr).add j=⟨g,j,none⟩:=by rw[add_off,Nat.zero_add]
theorem num_at {S:Nat→Prop} {w:World} {A:Option Addr} {xs:List Nat} (h:Sq numL S w A xs) {k x:Nat} (hk:xs[k]? =some x):∃a,A=some a∧S a.block∧w.cell? (a.add k)=some (.int .u64 (x:Int))∧x<B64:=by
 obtain⟨a,cs,e,hs,hc,rfl,hb⟩:=h.at hk
 exact⟨a,e,hs,qA9 rfl (hc 0 _ rfl),hb⟩
theorem qGz {S:Nat→Prop} {w:World} {A:Option Addr} {xs:List Nat} (h:Sq numL S w A xs):∀x∈xs,x<B64:=fun x hx=>by
 obtain⟨j,hj⟩:=qA6.1 hx
 obtain⟨a,e,hs,hc,hb⟩:=num_at h hj
 exact hb
def Part (P:Nat→Prop) (w:World) (ty:TypeId) (v:Value) (cs:List Value):Prop:=
 ∃A c,v= .slice A cs.length c∧cs.length≤c∧c≤maxLen∧(0<cs.length→∃(g:Nat) (cur:Array Value),A=some ⟨g,0,none⟩∧P g∧Blk w g ty cur∧∀(i:Nat) (u:Value),cs[i]? =some u→cur[i]? =some u)
theorem Part.nil (P:Nat→Prop) (w:World) (ty:TypeId):Part P w ty (.slice none 0 0) []:=⟨none,0,rfl,qAZ _,by simp[maxLen],fun h=>absurd h (by simp)⟩
theorem Part.keep {P:Nat→Prop} {w w':World} {ty:TypeId} {v:Value} {cs:List Value} (h:Part P w ty v cs) (hk:∀b,P b→w'.heap[b]? =w.heap[b]?):Part P w' ty v cs:=by
 obtain⟨A,c,e,h1,h2,h3⟩:=h
 refine⟨A,c,e,h1,h2,fun hp=> ?_⟩
 obtain⟨g,cur,e1,hP,hb,hc⟩:=h3 hp
 exact⟨g,cur,e1,hP,(hk g hP).trans hb,hc⟩
theorem Part.wide {P Q:Nat→Prop} {w:World} {ty:TypeId} {v:Value} {cs:List Value} (h:Part P w ty v cs) (hk:∀b,b<w.heap.size→P b→Q b):Part Q w ty v cs:=by
 obtain⟨A,c,e,h1,h2,h3⟩:=h
 refine⟨A,c,e,h1,h2,fun hp=> ?_⟩
 obtain⟨g,cur,e1,hP,hb,hc⟩:=h3 hp
 exact⟨g,cur,e1,hk g hb.lt hP,hb,hc⟩
theorem Part.shape {P:Nat→Prop} {w:World} {ty:TypeId} {v:Value} {cs:List Value} (h:Part P w ty v cs):∃A c,v= .slice A cs.length c∧cs.length≤c∧c≤maxLen:=by
 obtain⟨A,c,e,h1,h2,-⟩:=h
 exact⟨A,c,e,h1,h2⟩
theorem Part.head {P:Nat→Prop} {w:World} {ty:TypeId} {A:Option Addr} {n c:Nat} {cs:List Value} (h:Part P w ty (.slice A n c) cs) (hn:0<n):
 ∃(g:Nat) (cur:Array Value),A=some ⟨g,0,none⟩∧P g∧Blk w g ty cur∧∀(i:Nat) (u:Value),cs[i]? =some u→cur[i]? =some u:=by
 obtain⟨A',c',e,h1,h2,h3⟩:=h
 simp only[Value.slice.injEq] at e
 obtain⟨rfl,e2,rfl⟩:=e
 exact h3 (by omega)
theorem Part.set {P:Nat→Prop} {w:World} {ty:TypeId} {g n c i:Nat} {cs:List Value} (h:Part P w ty (.slice (some ⟨g,0,none⟩) n c) cs) (hn:0<n) (u:Value):Part P (w.setCell ⟨g,i,none⟩ u) ty (.slice (some ⟨g,0,none⟩) n c) (cs.set i u):=by
 obtain⟨g',cur,e,hP,hb,hc⟩:=h.head hn
 simp only[Option.some.injEq,Addr.mk.injEq,and_true] at e
 subst e
 obtain⟨A',c',e,h1,h2,h3⟩:=h
 simp only[Value.slice.injEq] at e
 obtain⟨rfl,e2,rfl⟩:=e
 refine⟨some ⟨g,0,none⟩,c,by rw[List.length_set,e2],by rw[List.length_set];exact h1,h2,fun _=>⟨g,_,rfl,hP,hb.set i u,fun j x hx=> ?_⟩⟩
 rw[List.getElem?_set] at hx
 rw[Array.getElem?_setIfInBounds]
 split at hx
 · subst i
   have hj:j<cur.size:=by
    split at hx
    · have:=hc j cs[j] (qAY zq)
      exact(Array.getElem?_eq_some_iff.1 this).1
    · cases hx
   rw[if_pos rfl,if_pos hj]
   split at hx
   · exact hx
   · cases hx
 · rw[if_neg zq]
   exact hc j x hx
theorem Part.words {P:Nat→Prop} {w:World} {v:Value} {xs:List Nat} (h:Part P w 34 v (Ns xs)) (hb:∀x∈xs,x<B64):wrdL.R P w [v] xs:=by
 obtain⟨A,c,rfl,h1,h2,h3⟩:=h
 rw[qE3] at h1 h3⊢
 refine⟨A,c,rfl,h1,h2,fun hp=> ?_⟩
 obtain⟨g,cur,rfl,hP,hg,hc⟩:=h3 hp
 refine⟨_,rfl,hP,fun j x hx=>⟨[.int .u64 (x:Int)],fun i u hu=> ?_,rfl,hb x (qAf hx)⟩⟩
 match i,hu with
 |0,hu=>
  simp at hu
  subst hu
  rw[add_zero,show j*numL.k+0=j by show j*1+0=j;omega,hg.cell]
  exact hc j _ (Ns_at hx)
 |i+1,hu=>simp at hu
theorem Part.bytes {P:Nat→Prop} {w:World} {v:Value} {xs:List Nat} (h:Part P w 5 v (Bs xs)) (hb:∀x∈xs,x<256):bytL.R P w [v] xs:=by
 obtain⟨A,c,rfl,h1,h2,h3⟩:=h
 rw[qCW] at h1 h3⊢
 refine⟨A,c,rfl,h1,h2,fun hp=> ?_,hb⟩
 obtain⟨g,cur,rfl,hP,hg,hc⟩:=h3 hp
 refine⟨_,rfl,hP,fun j hj=> ?_⟩
 rw[add_zero,hg.cell]
 exact hc j _ (qFY xs j hj)
def Obj1 (P0 P1:Nat→Prop) (w:World) (cs:List Value) (o:Ob):Prop:=
 ∃v0 v1,cs=[.int .i64 o.kind,.int .i64 o.n,v0,v1]∧I64 o.kind∧I64 o.n∧(∀x∈o.words,x<B64)∧(∀x∈o.bytes,x<256)∧Part P0 w 34 v0 (Ns o.words)∧Part P1 w 5 v1 (Bs o.bytes)
theorem Obj1.keep {P0 P1:Nat→Prop} {w w':World} {cs:List Value} {o:Ob} (h:Obj1 P0 P1 w cs o) (h0:∀b,P0 b→w'.heap[b]? =w.heap[b]?) (h1:∀b,P1 b→w'.heap[b]? =w.heap[b]?):Obj1 P0 P1 w' cs o:=by
 obtain⟨v0,v1,e,a,b,c,d,e0,e1⟩:=h
 exact⟨v0,v1,e,a,b,c,d,e0.keep h0,e1.keep h1⟩
theorem Obj1.wide {P0 P1 Q0 Q1:Nat→Prop} {w:World} {cs:List Value} {o:Ob} (h:Obj1 P0 P1 w cs o) (h0:∀b,b<w.heap.size→P0 b→Q0 b) (h1:∀b,b<w.heap.size→P1 b→Q1 b):Obj1 Q0 Q1 w cs o:=by
 obtain⟨v0,v1,e,a,b,c,d,e0,e1⟩:=h
 exact⟨v0,v1,e,a,b,c,d,e0.wide h0,e1.wide h1⟩
theorem Obj1.len {P0 P1:Nat→Prop} {w:World} {cs:List Value} {o:Ob} (h:Obj1 P0 P1 w cs o):cs.length=4:=by
 obtain⟨v0,v1,rfl,-⟩:=h
 rfl
theorem Obj1.one {P0 P1:Nat→Prop} {w:World} {cs:List Value} {o:Ob} (h:Obj1 P0 P1 w cs o):∀u∈cs,u.oneCell'=true:=by
 obtain⟨v0,v1,rfl,-,-,-,-,e0,e1⟩:=h
 obtain⟨A,c,rfl,-⟩:=e0
 obtain⟨B,d,rfl,-⟩:=e1
 intro u hu
 simp at hu
 rcases hu with rfl|rfl|rfl|rfl<;>rfl
theorem Obj1.ob {P0 P1 S:Nat→Prop} {w:World} {cs:List Value} {o:Ob} (h:Obj1 P0 P1 w cs o) (h0:∀b,P0 b→S b) (h1:∀b,P1 b→S b):obL.R S w cs o:=by
 obtain⟨v0,v1,rfl,a,b,c,d,e0,e1⟩:=h
 exact⟨v0,v1,rfl,a,b,wrdL.wide (e0.words c) h0,bytL.wide (e1.bytes d) h1⟩
theorem Obj1.parts {P0 P1:Nat→Prop} {w:World} {cs:List Value} {o:Ob} (h:Obj1 P0 P1 w cs o):
 ∃A c B d,cs=[.int .i64 o.kind,.int .i64 o.n,.slice A o.words.length c,.slice B o.bytes.length d]∧Part P0 w 34 (.slice A o.words.length c) (Ns o.words)∧Part P1 w 5 (.slice B o.bytes.length d) (Bs o.bytes):=by
 obtain⟨v0,v1,rfl,a,b,x,y,e0,e1⟩:=h
 obtain⟨A,c,rfl,q⟩:=id e0
 obtain⟨B,d,rfl,q'⟩:=id e1
 rw[qE3] at e0⊢
 rw[qCW] at e1⊢
 exact⟨A,c,B,d,rfl,e0,e1⟩
def Row (S:Nat→Prop) (tag:Nat→Nat) (w:World) (v:Value) (css:List (List Value)) (O:List Ob):Prop:=
 css.length=O.length∧w.ownsRow 0 54 4 v O.length css.flatten∧(∀b,v.ownBlock=some b→S b∧tag b=1)∧
  ∀(j:Nat) (o:Ob) (cs:List Value),O[j]? =some o→css[j]? =some cs→Obj1 (fun b=>S b∧tag b=2*j+2) (fun b=>S b∧tag b=2*j+3) w cs o
theorem Row.len4 {S:Nat→Prop} {tag:Nat→Nat} {w:World} {v:Value} {css:List (List Value)} {O:List Ob} (h:Row S tag w v css O):∀cs∈css,cs.length=4:=fun cs hcs=>by
 obtain⟨j,hj⟩:=qA6.1 hcs
 have hjl:j<O.length:=by rw[←h.1];exact(qAc.1 hj).1
 exact(h.2.2.2 j _ cs (qAY hjl) hj).len
theorem Row.keep {S:Nat→Prop} {tag:Nat→Nat} {w w':World} {v:Value} {css:List (List Value)} {O:List Ob} (h:Row S tag w v css O) (hk:∀b,S b→0<tag b→w'.heap[b]? =w.heap[b]?):Row S tag w' v css O:=
 ⟨h.1,qBa h.2.1 fun b e=>hk b (h.2.2.1 b e).1 (by have:=(h.2.2.1 b e).2;omega),h.2.2.1,fun j o cs h1 h2=>(h.2.2.2 j o cs h1 h2).keep (fun b hb=>hk b hb.1 (by omega)) fun b hb=>hk b hb.1 (by omega)⟩
theorem Row.wide {S T:Nat→Prop} {tag:Nat→Nat} {w:World} {v:Value} {css:List (List Value)} {O:List Ob} (h:Row S tag w v css O) (hk:∀b,S b→T b):Row T tag w v css O:=
 ⟨h.1,h.2.1,fun b e=>⟨hk b (h.2.2.1 b e).1,(h.2.2.1 b e).2⟩,fun j o cs h1 h2=>(h.2.2.2 j o cs h1 h2).wide (fun b _ hb=>⟨hk b hb.1,hb.2⟩) fun b _ hb=>⟨hk b hb.1,hb.2⟩⟩
theorem Row.nil (S:Nat→Prop) (tag:Nat→Nat) (w:World):Row S tag w (.slice none 0 0) [] []:=
 ⟨rfl,World.ownsRow_nil _ _ _ _,fun b e=>by simp[Value.ownBlock] at e,fun j o cs h=>by simp at h⟩
theorem Row.sl {S:Nat→Prop} {tag:Nat→Nat} {w:World} {v:Value} {css:List (List Value)} {O:List Ob} (h:Row S tag w v css O):(slL obL).R S w [v] O:=by
 obtain⟨hl,hown,hb,hR⟩:=h
 have hR':∀(j:Nat) (o:Ob) (cs:List Value),O[j]? =some o→css[j]? =some cs→obL.R S w cs o:=fun j o cs h1 h2=>(hR j o cs h1 h2).ob (fun b hb=>hb.1) fun b hb=>hb.1
 have hk:∀cs∈css,cs.length=obL.k:=fun cs hcs=>by
  obtain⟨j,hj⟩:=qA6.1 hcs
  have hjl:j<O.length:=by rw[←hl];exact(qAc.1 hj).1
  exact obL.len (hR' j _ cs (qAY hjl) hj)
 rcases hown.2 with⟨rfl,h0⟩|⟨g,cap,cur,rfl,hb',hg,hnc,hcm,_,_⟩
 · exact jf
 · refine⟨some ⟨g,0,none⟩,cap,rfl,hnc,hcm,fun _=>⟨⟨g,0,none⟩,rfl,(hb g rfl).1,fun j x hx=> ?_⟩⟩
   have hjl:j<css.length:=by rw[hl];exact(qAc.1 hx).1
   have hcs:=qAY hjl
   have hr:=hR' j x _ hx hcs
   refine⟨_,fun i u hu=> ?_,hr⟩
   have hi:i<obL.k:=by rw[←obL.len hr];exact(qAc.1 hu).1
   exact hown.cells rfl (j*obL.k+i) u (by rw[qCD hk hcs i hi];exact hu)
theorem Row.shape {S:Nat→Prop} {tag:Nat→Nat} {w:World} {v:Value} {css:List (List Value)} {O:List Ob} (h:Row S tag w v css O):∃A c,v= .slice A O.length c∧O.length≤c∧c≤maxLen:=by
 obtain⟨A,c,e,h1,h2,-⟩:=h.sl
 simp only[List.cons.injEq,and_true] at e
 exact⟨A,c,e,h1,h2⟩
theorem Row.cells {S:Nat→Prop} {tag:Nat→Nat} {w:World} {A:Option Addr} {n c:Nat} {css:List (List Value)} {O:List Ob} (h:Row S tag w (.slice A n c) css O) {j:Nat} {o:Ob} (hj:O[j]? =some o):
 ∃g cs,A=some ⟨g,0,none⟩∧S g∧tag g=1∧g<w.heap.size∧css[j]? =some cs∧(∀i u,cs[i]? =some u→w.cell? ⟨g,j*4+i,none⟩=some u)∧(∀i,w.frozen? ⟨g,i,none⟩=false)∧
  Obj1 (fun b=>S b∧tag b=2*j+2) (fun b=>S b∧tag b=2*j+3) w cs o:=by
 have hk:=h.len4
 obtain⟨hl,hown,hb,hR⟩:=h
 have hjl:j<css.length:=by rw[hl];exact(qAc.1 hj).1
 have hcs:=qAY hjl
 have hr:=hR j o _ hj hcs
 obtain⟨g,c',e,-,hg⟩:=qCP hown (by omega)
 simp only[Value.slice.injEq] at e
 obtain⟨rfl,rfl,rfl⟩:=e
 refine⟨g,_,rfl,(hb g rfl).1,(hb g rfl).2,hg,hcs,fun i u hu=> ?_,fun i=>hown.frozenAt i,hr⟩
 have hi:i<4:=by rw[←hr.len];exact(qAc.1 hu).1
 have:=hown.cells rfl (j*4+i) u (by rw[qCD hk hcs i hi];exact hu)
 rwa [add_zero] at this
structure Hnd where
 kind:Int
 desc:Nat
 opn:Bool
theorem Hnd.eq_of {a b:Hnd} (h1:a.kind=b.kind) (h2:a.desc=b.desc) (h3:a.opn=b.opn):a=b:=by
 cases a;cases b;simp_all
instance:DecidableEq Hnd:=fun a b=>decidable_of_iff (a.kind=b.kind∧a.desc=b.desc∧a.opn=b.opn) ⟨fun h=>Hnd.eq_of h.1 h.2.1 h.2.2,fun h=>by subst h;exact⟨rfl,rfl,rfl⟩⟩
instance:Inhabited Hnd:=⟨⟨0,0,false⟩⟩
def hdC (h:Hnd):List Value:=[.int .i64 h.kind,.int .u64 (h.desc:Int),.bool h.opn]
theorem hdC_one (h:Hnd):∀u∈hdC h,u.oneCell'=true:=by
 intro u hu
 simp only[hdC,List.mem_cons,List.not_mem_nil,or_false] at hu
 rcases hu with rfl|rfl|rfl<;>rfl
def hdL:Lay Hnd where
 k:=3
 R _ _ cs h:=cs=hdC h∧I64 h.kind∧h.desc<B64
 len:=by rintro S w cs x ⟨rfl,_⟩;rfl
 keep:=by rintro S w w' cs x h _;exact h
 wide:=by rintro S T w cs x h _;exact h
 one:=by rintro S w cs x ⟨rfl,_⟩ u hu;exact hdC_one x u hu
def HOk (H:List Hnd):Prop:=∀h∈H,I64 h.kind∧h.desc<B64
theorem HOk.nil:HOk []:=fun h hh=>by simp at hh
theorem HOk.app {H K:List Hnd} (h:HOk H) (k:HOk K):HOk (H++K):=fun x hx=>(List.mem_append.1 hx).elim (h x) (k x)
theorem HOk.set {H:List Hnd} (h:HOk H) (j:Nat) {x:Hnd} (hx:I64 x.kind∧x.desc<B64):HOk (H.set j x):=fun y hy=>by
 rcases List.mem_or_eq_of_mem_set hy with q|q
 · exact h y q
 · rw[q];exact hx
def Hcs (H:List Hnd):List Value:=(H.map hdC).flatten
theorem Hcs_k (H:List Hnd):∀cs∈H.map hdC,cs.length=3:=fun cs hc=>by
 obtain⟨h,-,rfl⟩:=List.mem_map.1 hc
 rfl
theorem Hcs_at {H:List Hnd} {j:Nat} {h:Hnd} (hj:H[j]? =some h) (i:Nat) (hi:i<3):(Hcs H)[j*3+i]? =(hdC h)[i]? :=qCD (Hcs_k H) (by simp[hj]) i hi
theorem qGC {S:Nat→Prop} {w:World}:∀{css:List (List Value)} {H:List Hnd},css.length=H.length→(∀(j:Nat) (x:Hnd) (cs:List Value),H[j]? =some x→css[j]? =some cs→hdL.R S w cs x)→css.flatten=Hcs H
 |[],[],_,_=>rfl
 |[],_::_,h,_=>by simp at h
 |_::_,[],h,_=>by simp at h
 |c::css,x::xs,h,hR=>by
  have h0:=hR 0 x c rfl rfl
  have ih:=qGC (css:=css) (H:=xs) jL fun j y cs h1 h2=>hR (j+1) y cs (by simpa using h1) (by simpa using h2)
  rw[List.flatten_cons,ih,h0.1]
  rfl
theorem sq_ok {S:Nat→Prop} {w:World} {A:Option Addr} {H:List Hnd} (h:Sq hdL S w A H):HOk H:=fun x hx=>by
 obtain⟨j,hj⟩:=qA6.1 hx
 obtain⟨a,cs,-,-,-,-,q⟩:=h.at hj
 exact q
theorem hds_sl {w:World} {base:Nat} {v:Value} {H:List Hnd} (h:w.ownsRow base 51 3 v H.length (Hcs H)) (ok:HOk H):
 ∃A c,v= .slice A H.length c∧H.length≤c∧c≤maxLen∧Sq hdL (fun b=>v.ownBlock=some b∧base≤b∧b<w.heap.size) w A H:=by
 have hn:(slL hdL).R (fun b=>v.ownBlock=some b∧base≤b∧b<w.heap.size) w [v] H:=by
  rcases h.2 with⟨rfl,h0⟩|⟨g,cap,cur,rfl,hb,hg,hnc,hcm,_,_⟩
  · exact jf
  · refine⟨some ⟨g,0,none⟩,cap,rfl,hnc,hcm,fun _=>⟨_,rfl,⟨rfl,hb,(Array.getElem?_eq_some_iff.1 hg).1⟩,fun j x hx=>⟨hdC x,fun i u hu=> ?_,rfl,ok x (qAf hx)⟩⟩⟩
    have hi:i<3:=(qAc.1 hu).1
    exact h.cells rfl (j*3+i) u (by rw[Hcs_at hx i hi];exact hu)
 obtain⟨A,c,e,h1,h2,h3⟩:=hn
 simp only[List.cons.injEq,and_true] at e
 exact⟨A,c,e,h1,h2,h3⟩
theorem hd_info:(Tryz.prog.info? 51).map (fun i=>(i.zero,i.size,i.bytes))=some (some (.agg #[.int .i64 0,.int .u64 0,.bool false]),3,24):=by kernel_rfl
structure Frm where
 fn:Int
 pc:Int
 locs:List Nat
 stk:List Nat
theorem Frm.eq_of {a b:Frm} (h1:a.fn=b.fn) (h2:a.pc=b.pc) (h3:a.locs=b.locs) (h4:a.stk=b.stk):a=b:=by
 cases a;cases b;simp_all
instance:DecidableEq Frm:=fun a b=>decidable_of_iff (a.fn=b.fn∧a.pc=b.pc∧a.locs=b.locs∧a.stk=b.stk) ⟨fun h=>Frm.eq_of h.1 h.2.1 h.2.2.1 h.2.2.2,fun h=>by subst h;exact⟨rfl,rfl,rfl,rfl⟩⟩
instance:Inhabited Frm:=⟨⟨0,0,[],[]⟩⟩
structure Stt where
 fr:List Frm
 hp:List Ob
 hn:List Hnd
 quota:Int
 used:Int
 fin:Int
 val:Nat
theorem Stt.eq_of {a b:Stt} (h1:a.fr=b.fr) (h2:a.hp=b.hp) (h3:a.hn=b.hn) (h4:a.quota=b.quota) (h5:a.used=b.used) (h6:a.fin=b.fin) (h7:a.val=b.val):a=b:=by
 cases a;cases b;simp_all
instance:DecidableEq Stt:=fun a b=>decidable_of_iff (a.fr=b.fr∧a.hp=b.hp∧a.hn=b.hn∧a.quota=b.quota∧a.used=b.used∧a.fin=b.fin∧a.val=b.val) ⟨fun h=>Stt.eq_of h.1 h.2.1 h.2.2.1 h.2.2.2.1 h.2.2.2.2.1 h.2.2.2.2.2.1 h.2.2.2.2.2.2,fun h=>by subst h;exact⟨rfl,rfl,rfl,rfl,rfl,rfl,rfl⟩⟩
instance:Inhabited Stt:=⟨⟨[],[],[],0,0,0,0⟩⟩
def Frm.small (f:Frm):Prop:=f.locs.length≤100000∧f.stk.length≤100000
def frL:Lay Frm where
 k:=4
 R S w cs o:=∃v0 v1,cs=[.int .i64 o.fn,.int .i64 o.pc,v0,v1]∧I64 o.fn∧I64 o.pc∧wrdL.R S w [v0] o.locs∧wrdL.R S w [v1] o.stk
 len:=by rintro S w cs x ⟨v0,v1,rfl,_⟩;rfl
 keep:=by rintro S w w' cs x ⟨v0,v1,rfl,h1,h2,h3,h4⟩ hk;exact⟨v0,v1,rfl,h1,h2,wrdL.keep h3 hk,wrdL.keep h4 hk⟩
 wide:=by rintro S T w cs x ⟨v0,v1,rfl,h1,h2,h3,h4⟩ hk;exact⟨v0,v1,rfl,h1,h2,wrdL.wide h3 hk,wrdL.wide h4 hk⟩
 one:=by
  rintro S w cs x ⟨v0,v1,rfl,h1,h2,h3,h4⟩ u hu
  simp at hu
  rcases hu with rfl|rfl|rfl|rfl
  · rfl
  · rfl
  · exact wrdL.one h3 _ (by simp)
  · exact wrdL.one h4 _ (by simp)
theorem qBt {S:Nat→Prop} {w:World} {cs:List Value} {o:Frm} (h:frL.R S w cs o):
 ∃A c B d,cs=[.int .i64 o.fn,.int .i64 o.pc,.slice A o.locs.length c,.slice B o.stk.length d]∧o.locs.length≤c∧c≤maxLen∧o.stk.length≤d∧d≤maxLen∧Sq numL S w A o.locs∧Sq numL S w B o.stk∧I64 o.fn∧I64 o.pc:=by
 obtain⟨v0,v1,rfl,h1,h2,⟨A,c,e0,a1,a2,a3⟩,⟨B,d,e1,b1,b2,b3⟩⟩:=h
 simp only[List.cons.injEq,and_true] at e0 e1
 subst e0 e1
 exact⟨A,c,B,d,rfl,a1,a2,b1,b2,a3,b3,h1,h2⟩
abbrev frsL:Lay (List Frm):=slL frL
abbrev obsL:Lay (List Ob):=slL obL
abbrev hnsL:Lay (List Hnd):=slL hdL
def stL:Lay Stt where
 k:=7
 R S w cs s:=∃v0 v1 v2,cs=[v0,v1,v2,.int .i64 s.quota,.int .i64 s.used,.int .i64 s.fin,.int .u64 (s.val:Int)]∧frsL.R S w [v0] s.fr∧obsL.R S w [v1] s.hp∧hnsL.R S w [v2] s.hn∧I64 s.quota∧I64 s.used∧I64 s.fin∧s.val<B64
 len:=by rintro S w cs x ⟨v0,v1,v2,rfl,_⟩;rfl
 keep:=by rintro S w w' cs x ⟨v0,v1,v2,rfl,h0,h1,h2,h3⟩ hk;exact⟨v0,v1,v2,rfl,frsL.keep h0 hk,obsL.keep h1 hk,hnsL.keep h2 hk,h3⟩
 wide:=by rintro S T w cs x ⟨v0,v1,v2,rfl,h0,h1,h2,h3⟩ hk;exact⟨v0,v1,v2,rfl,frsL.wide h0 hk,obsL.wide h1 hk,hnsL.wide h2 hk,h3⟩
 one:=by
  rintro S w cs x ⟨v0,v1,v2,rfl,h0,h1,h2,h3⟩ u hu
  simp at hu
  rcases hu with rfl|rfl|rfl|rfl|rfl|rfl|rfl
  · exact frsL.one h0 _ (by simp)
  · exact obsL.one h1 _ (by simp)
  · exact hnsL.one h2 _ (by simp)
  all_goals rfl
theorem qBT {S:Nat→Prop} {w:World} {cs:List Value} {s:Stt} (h:stL.R S w cs s):
 ∃A0 c0 A1 c1 A2 c2,cs=[.slice A0 s.fr.length c0,.slice A1 s.hp.length c1,.slice A2 s.hn.length c2,.int .i64 s.quota,.int .i64 s.used,.int .i64 s.fin,.int .u64 (s.val:Int)]∧
  s.fr.length≤c0∧c0≤maxLen∧s.hp.length≤c1∧c1≤maxLen∧s.hn.length≤c2∧c2≤maxLen∧Sq frL S w A0 s.fr∧Sq obL S w A1 s.hp∧Sq hdL S w A2 s.hn∧I64 s.quota∧I64 s.used∧I64 s.fin∧s.val<B64:=by
 obtain⟨v0,v1,v2,rfl,⟨A0,c0,e0,a1,a2,a3⟩,⟨A1,c1,e1,b1,b2,b3⟩,⟨A2,c2,e2,d1,d2,d3⟩,h4,h5,h6,h7⟩:=h
 simp only[List.cons.injEq,and_true] at e0 e1 e2
 subst e0 e1 e2
 exact⟨A0,c0,A1,c1,A2,c2,rfl,a1,a2,b1,b2,d1,d2,a3,b3,d3,h4,h5,h6,h7⟩
theorem qHQ {S:Nat→Prop} {w:World} {s:Stt} {A0 A1 A2:Option Addr} {c0 c1 c2:Nat} (h0:s.fr.length≤c0∧c0≤maxLen) (h1:s.hp.length≤c1∧c1≤maxLen) (h2:s.hn.length≤c2∧c2≤maxLen)
 (q0:Sq frL S w A0 s.fr) (q1:Sq obL S w A1 s.hp) (q2:Sq hdL S w A2 s.hn) (h3:I64 s.quota∧I64 s.used∧I64 s.fin∧s.val<B64):
 stL.R S w [.slice A0 s.fr.length c0,.slice A1 s.hp.length c1,.slice A2 s.hn.length c2,.int .i64 s.quota,.int .i64 s.used,.int .i64 s.fin,.int .u64 (s.val:Int)] s:=
 ⟨_,_,_,rfl,⟨A0,c0,rfl,h0.1,h0.2,q0⟩,⟨A1,c1,rfl,h1.1,h1.2,q1⟩,⟨A2,c2,rfl,h2.1,h2.2,q2⟩,h3⟩
def Stt.low (s:Stt):Prop:=s.fr.length≤1000∧s.hp.length≤1000∧s.hn.length≤1000∧(∀f∈s.fr,f.small)∧∀o∈s.hp,o.small
def C4 (b:Nat) (v0 v1 v2 v3:Value) (w:World):Prop:=w.cell? ⟨b,0,none⟩=some v0∧w.cell? ⟨b,1,none⟩=some v1∧w.cell? ⟨b,2,none⟩=some v2∧w.cell? ⟨b,3,none⟩=some v3
theorem C4.below {b B:Nat} {v0 v1 v2 v3:Value} {w w':World} (h:C4 b v0 v1 v2 v3 w) (hb:Below B w w') (hB:b<B):C4 b v0 v1 v2 v3 w':=by
 have e:∀i u,w.cell? ⟨b,i,none⟩=some u→w'.cell? ⟨b,i,none⟩=some u:=fun i u hu=>(hb.cell (p:=⟨b,i,none⟩) hB).trans hu
 exact⟨e _ _ h.1,e _ _ h.2.1,e _ _ h.2.2.1,e _ _ h.2.2.2⟩
def C7 (b:Nat) (v0 v1 v2 v3 v4 v5 v6:Value) (w:World):Prop:=w.cell? ⟨b,0,none⟩=some v0∧w.cell? ⟨b,1,none⟩=some v1∧w.cell? ⟨b,2,none⟩=some v2∧w.cell? ⟨b,3,none⟩=some v3∧w.cell? ⟨b,4,none⟩=some v4∧w.cell? ⟨b,5,none⟩=some v5∧w.cell? ⟨b,6,none⟩=some v6
theorem C7.below {b B:Nat} {v0 v1 v2 v3 v4 v5 v6:Value} {w w':World} (h:C7 b v0 v1 v2 v3 v4 v5 v6 w) (hb:Below B w w') (hB:b<B):C7 b v0 v1 v2 v3 v4 v5 v6 w':=by
 have e:∀i u,w.cell? ⟨b,i,none⟩=some u→w'.cell? ⟨b,i,none⟩=some u:=fun i u hu=>(hb.cell (p:=⟨b,i,none⟩) hB).trans hu
 exact⟨e _ _ h.1,e _ _ h.2.1,e _ _ h.2.2.1,e _ _ h.2.2.2.1,e _ _ h.2.2.2.2.1,e _ _ h.2.2.2.2.2.1,e _ _ h.2.2.2.2.2.2⟩
end Go.Proofs.YtconajaecpgjgaaGreat
